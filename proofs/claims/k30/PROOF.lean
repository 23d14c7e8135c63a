import PyProof.Rows.All
import Wide.All
import OpenK.AllK
import Wide.FinOn
import Lean
import PyProof.EqAt
import PyProof.EqKinds
import PyProof.TupleCall
import PyProof.Rows.Range3
import PyProof.ZipIter
import PyProof.Draws
import PyProof.EnumMake
import PyProof.Rows.FactsTup
import PyProof.LayNew
import PyProof.Rows.SeqMore2
import PyProof.Rows.RuleIs
import PySem.Challenge.RW_tellsum_k30_small_rings_by_all
set_option Elab.async false
set_option linter.all false
set_option compiler.extract_closed false
set_option bootstrap.genMatcherCode false
set_option maxRecDepth 100000
noncomputable section
namespace L2
open PyProof.Rows PySem PySem.Spec
variable {xs vs : List V} {us its : List Value} {x qual : Str} {u cd : Value} {H : Hp} {a b it dx : Addr} {o : HO} {w : World} {h base : Heap} {g' : Array GenState} {t' i j n : Nat} {d' : Drawn} {ch fp : List Addr} {e c tg : Expr} {pins' pins : List (Addr × Obj)} {N ps : List Str} {A : Around} {E : Value -> Shared -> Prop} {v : V} {Q : Unit -> Shared -> Prop} {X : Cx} {t te : TE} {s s' : Shared} {ta : TA} {tb : TS} {σ : St} {pos pos' : Pos} {op op' : CmpOp} {K : W.Frag} {f : Value -> Value -> Sem Value} {tc : TT} {es : List Expr} {g : Int -> Int -> Int} {body : List Stmt} {p : Addr × Obj} {r : V -> Hp -> VK -> Prop} {C : Int -> Int -> Prop} {mA mg : Str -> Option Value} {fd : FuncData} {kindOf : Str -> Option NameKind} {sc scope : Scope} {CX : CXT} {outer : List Env} {params : Arguments}
abbrev Key := Sum Int Str
def znT : Key -> Value -> Bool
 | .inl k, v => Value.isInt k v
 | .inr x, v => Value.isStrOf x v
def keyH (w : World) : Key -> Int
 | .inl k => hashInt k
 | .inr x => hashStr w x
theorem zbr : ∀ {k : Key} {v : Value}, znT k v = true -> (∃ i t, k = Sum.inl i /\ v = Value.int i t) \/ (∃ x t, k = Sum.inr x /\ v = Value.str x t)
 | .inl i, v, h => by
  obtain ⟨t, e⟩ := Value.isInt_shape (k := i) (v := v) h
  exact .inl ⟨i, t, rfl, e⟩
 | .inr x, v, h => by
  obtain ⟨t, e⟩ := Value.isStrOf_shape (x := x) (v := v) h
  exact .inr ⟨x, t, rfl, e⟩
theorem zpt (i : Int) (t : Tok) : znT (.inl i) (.int i t) = true := by simp [znT, Value.isInt]
theorem zpD (x : Str) (t : Tok) : znT (.inr x) (.str x t) = true := by simp [znT, Value.isStrOf]
theorem key_ll (a b : Int) : decide ((Sum.inl a : Key) = Sum.inl b) = (a == b) := by
 by_cases e : a = b
 ·subst e; simp
 ·have h : ¬ (Sum.inl a : Key) = Sum.inl b := fun q => e (Sum.inl.inj q)
  rw [decide_eq_false h]
  exact (beq_eq_false_iff_ne.mpr e).symm
theorem key_rr (a b : Str) : decide ((Sum.inr a : Key) = Sum.inr b) = decide (a = b) := by
 by_cases e : a = b
 ·subst e; simp
 ·have h : ¬ (Sum.inr a : Key) = Sum.inr b := fun q => e (Sum.inr.inj q)
  rw [decide_eq_false h, decide_eq_false e]
theorem key_lr (a : Int) (b : Str) : decide ((Sum.inl a : Key) = Sum.inr b) = false := decide_eq_false (fun q => nomatch q)
theorem key_rl (a : Str) (b : Int) : decide ((Sum.inr a : Key) = Sum.inl b) = false := decide_eq_false (fun q => nomatch q)
def zbw (prog : Program) (w : World) : PySem.KeyKind prog w Key where
 is := znT
 hash := keyH w
 inj := fun v a b ha hb => by
  rcases zbr ha with ⟨i, t, rfl, rfl⟩ | ⟨x, t, rfl, rfl⟩
  ·rcases zbr hb with ⟨j, u, rfl, e⟩ | ⟨y, u, rfl, e⟩
   ·injection e with e1 _; rw [e1]
   ·exact nomatch e
  ·rcases zbr hb with ⟨j, u, rfl, e⟩ | ⟨y, u, rfl, e⟩
   ·exact nomatch e
   ·injection e with e1 _; rw [e1]
 byValue := fun k v h => by
  rcases zbr h with ⟨i, t, rfl, rfl⟩ | ⟨x, t, rfl, rfl⟩ <;> rfl
 pyHash := fun hv h => by
  rcases zbr hv with ⟨i, t, rfl, rfl⟩ | ⟨x, t, rfl, rfl⟩
  ·exact wpAny_pyHash_int h
  ·exact wpAny_pyHash_str h
 eqBool := fun hu hv h => by
  rcases zbr hu with ⟨i, t, rfl, rfl⟩ | ⟨x, t, rfl, rfl⟩
  ·rcases zbr hv with ⟨j, u, rfl, rfl⟩ | ⟨y, u, rfl, rfl⟩
   ·rw [key_ll] at h; exact wpAny_eqBool_int h
   ·rw [key_lr] at h; exact SeqAt.EqAt.int_str i t y u _ _ _ _ h
  ·rcases zbr hv with ⟨j, u, rfl, rfl⟩ | ⟨y, u, rfl, rfl⟩
   ·rw [key_rl] at h; exact SeqAt.EqAt.str_int x t j u _ _ _ _ h
   ·rw [key_rr] at h; exact wpAny_eqBool_str h
 «strs» := fun k x t v h => by
  rcases zbr h with ⟨i, u, rfl, e⟩ | ⟨y, u, rfl, e⟩
  ·exact nomatch e
  ·injection e with e1 _
   subst e1
   cases v <;> rfl
theorem zlX (prog : Program) (w : World) (i : Int) (t : Tok) : (zbw prog w).is (.inl i) (.int i t) = true := zpt i t
theorem zmi (prog : Program) (w : World) (x : Str) (t : Tok) : (zbw prog w).is (.inr x) (.str x t) = true := zpD x t
inductive V where
 | non | bl (b : Bool) | int (i : Int) | str (x : Str) | byt (b : Array UInt8) | flt (b : UInt64) | ref (a : Addr) | ty (n : String)
 deriving DecidableEq
def RelV : V -> Value -> Prop
 | .non, u => u = Value.none
 | .bl b, u => u = Value.bool b
 | .int i, u => ∃ t, u = Value.int i t
 | .str x, u => ∃ t, u = Value.str x t
 | .byt b, u => ∃ t, u = Value.bytes b t
 | .flt b, u => ∃ t, u = Value.float b t
 | .ref a, u => u = Value.ref a
 | .ty n, u => u = Value.type n
abbrev Vals : List V -> List Value -> Prop := Paired RelV
theorem Vals.length (r : Vals xs us) : xs.length = us.length := Paired.length r
theorem Vals.get : ∀ {xs : List V} {us : List Value} {i : Nat} {x : V}, Vals xs us -> xs[i]? = some x -> ∃ u, us[i]? = some u /\ RelV x u
 | _, _, _, _, .nil, e => by simp at e
 | _, _, 0, _, .cons r _, e => by simp at e; subst e; exact ⟨_, rfl, r⟩
 | _, _, i + 1, x, .cons _ t, e => by
  obtain ⟨u, h1, h2⟩ := Vals.get (i := i) (x := x) t (by simpa using e)
  exact ⟨u, by simpa using h1, h2⟩
theorem Vals.set {x : V} (r : RelV x u) : ∀ {xs : List V} {us : List Value} (i : Nat), Vals xs us -> Vals (xs.set i x) (us.set i u)
 | _, _, _, .nil => .nil
 | _, _, 0, .cons _ t => .cons r t
 | _, _, i + 1, .cons q t => .cons q (Vals.set r i t)
theorem Vals.append : ∀ {xs ys : List V} {us ws : List Value}, Vals xs us -> Vals ys ws -> Vals (xs ++ ys) (us ++ ws)
 | _, _, _, _, .nil, s => s
 | _, _, _, _, .cons r t, s => .cons r (Vals.append t s)
theorem Vals.take : ∀ {xs : List V} {us : List Value} (n : Nat), Vals xs us -> Vals (xs.take n) (us.take n)
 | _, _, 0, _ => .nil
 | _, _, _ + 1, .nil => .nil
 | _, _, n + 1, .cons r t => .cons r (Vals.take n t)
theorem Vals.drop : ∀ {xs : List V} {us : List Value} (n : Nat), Vals xs us -> Vals (xs.drop n) (us.drop n)
 | _, _, 0, r => r
 | _, _, _ + 1, .nil => .nil
 | _, _, n + 1, .cons _ t => Vals.drop n t
def RelO : Option V -> Option Value -> Prop
 | some v, some u => RelV v u
 | none, none => True
 | _, _ => False
def KV {κ : Type} : List (κ × V) -> List (κ × Value) -> Prop := Paired fun (p : κ × V) (q : κ × Value) => p.1 = q.1 /\ RelV p.2 q.2
def kV : Key -> V
 | .inl i => .int i
 | .inr x => .str x
inductive HO where
 /-- a list -/
 | lst (xs : List V)
 /-- a tuple (never changes) -/
 | tup (xs : List V)
 /-- a dict whose keys are ints and texts; one whose keys are tuples of ints and texts (the empty one is both) -/
 | dK (kvs : List (Key × V)) | dT (kvs : List (List Key × V))
 /-- a set of ints: its members, its size -/
 | set (S : Int -> Bool) (n : Nat)
 /-- an instance of the class at C, its dict at dx, its attributes -/
 | ins (C dx : Addr) (fs : List (Str × V))
 /-- the dict of the instance at x -/
 | own (x : Addr)
 /-- the dict of an exception -/
 | xd (fs : List (Str × V))
 /-- a bound method, f of x -/
 | met (f x : Addr)
 /-- a range object lo, lo + 1, .. zbS hi -/
 | rng (lo hi : Int)
 /-- a thing that is known to the object (the script; a dict while a loop walks it): read, never written while it is so -/
 | frz (o : Obj) (u : HO)
 /-- a code object's table -/
 | tbl (ps : Array Value)
 /-- any other thing, by what is true of its one object (a def of one's own: SetO a S n := HO.ext fun h => ..) -/
 | ext (φ : Heap -> Prop)
abbrev Hp := Addr -> Option HO
def upd (H : Hp) (a : Addr) (o : HO) : Hp := fun b => if b = a then some o else H b
theorem zaI : upd H a o a = some o := by unfold upd; rw [if_pos rfl]
theorem zaw (h : b ≠ a) : upd H a o b = H b := by unfold upd; rw [if_neg h]
theorem upd_upd {o u : HO} : upd (upd H a o) a u = upd H a u := by
 funext b; unfold upd; split <;> rfl
theorem ne_of {o u : HO} (h : H a = some o) (h' : H b = some u) (d : o ≠ u) : a ≠ b := by
 intro e; subst e; rw [h] at h'; exact d (Option.some.inj h')
theorem zaP (h : H a = some o) (h' : H b = none) : a ≠ b := by
 intro e; subst e; rw [h] at h'; cases h'
section
variable (P : Program) (w : World)
def ObjOk (H : Hp) (h : Heap) (a : Addr) : HO -> Prop
 | .lst xs => xs.length <= sizeLine /\ ∃ (its : List Value) (n : Nat), Vals xs its /\ h.get? a = some { cls := .type "list", data := .seq its.toArray n }
 | .tup xs => xs.length <= sizeLine /\ ∃ its : List Value, Vals xs its /\ IsTup h a its.toArray
 | .dK kvs => kvs.length <= sizeLine /\ (a == sysModules) = false /\ ∃ vs, KV kvs vs /\ h.DictOf (zbw P w) a vs
 | .dT kvs => kvs.length <= sizeLine /\ (a == sysModules) = false /\ ∃ xs : List (List Key × Addr × Value),
   Paired (fun (p : List Key × V) (q : List Key × Addr × Value) => p.1 = q.1 /\ H q.2.1 = some (.tup (p.1.map kV)) /\ RelV p.2 q.2.2) kvs xs /\
   ∃ o es ep, h.get? a = some o /\ o.ExactDict /\ o.data = .dict es ep /\ es.toList = xs.map (entryOfKey (tupleKind (zbw P w))) /\ (xs.map (·.1)).Nodup
 | .set S n => h.SetOf (intKind P w) a S n
 | .ins C dx fs => H dx = some (.own a) /\ fs.length <= 1000 /\ dx ≠ a /\ h.get? a = some (W.instObj C dx) /\
   ∃ mA, h.Ns1 dx mA /\ (∀ f, RelO (fs.lookup f) (mA f)) /\ PySem.Within mA (fs.map (·.1))
 | .own _ => ∃ o, h.get? a = some o
 | .xd fs => ∃ mA, h.Ns1 a mA /\ ∀ f, RelO (fs.lookup f) (mA f)
 | .rng lo hi => ∃ t u v, h.get? a = some { cls := .type "range", data := .fields #[.int lo t, .int hi u, .int 1 v] }
 | .frz o u => h.get? a = some o /\ ObjOk H h a u
 | .tbl ps => h.get? a = some { cls := .none, data := .fields ps }
 | .met f x => h.get? a = some (W.methodObj (.ref f) (.ref x))
 | .ext φ => φ h /\ (∃ o, h.get? a = some o) /\ ∀ h1 h2 : Heap, φ h1 -> (∀ o, h1.get? a = some o -> h2.get? a = some o) -> φ h2
def HOk (H : Hp) (h : Heap) : Prop := ∀ a o, H a = some o -> ObjOk P w H h a o
end
section
variable {P : Program} {w : World} {H H' : Hp} {h h' : Heap} {a : Addr} {o : HO}
theorem ObjOk.lt (x : ObjOk P w H h a o) : a < h.objs.size := by
 cases o with
 | lst xs => obtain ⟨_, _, _, _, e⟩ := x; exact Heap.lt_size e
 | tup xs => obtain ⟨_, _, _, p⟩ := x; exact p.lt
 | dK kvs => obtain ⟨_, _, _, _, o, _, _, e, _⟩ := x; exact Heap.lt_size e
 | dT kvs => obtain ⟨_, _, _, _, o, _, _, e, _⟩ := x; exact Heap.lt_size e
 | set S n => obtain ⟨o, _, _, _, e, _⟩ := x; exact Heap.lt_size e
 | ins C dx fs => obtain ⟨_, _, _, e, _⟩ := x; exact Heap.lt_size e
 | own y => obtain ⟨_, e⟩ := x; exact Heap.lt_size e
 | xd fs => obtain ⟨_, ⟨_, _, _, e, _⟩, _⟩ := x; exact Heap.lt_size e
 | rng lo hi => obtain ⟨_, _, _, e⟩ := x; exact Heap.lt_size e
 | frz ob u => obtain ⟨e, _⟩ := x; exact Heap.lt_size e
 | tbl ps => exact Heap.lt_size (show h.get? a = some _ from x)
 | met f y => exact Heap.lt_size (show h.get? a = some _ from x)
 | ext φ => obtain ⟨_, ⟨_, e⟩, _⟩ := x; exact Heap.lt_size e
theorem Paired.mapP {α β : Type} {F G : α -> β -> Prop} : ∀ {l₁ : List α} {l₂ : List β}, Paired F l₁ l₂ -> (∀ a b, F a b -> G a b) -> Paired G l₁ l₂
 | _, _, .nil, _ => .nil
 | _, _, .cons r t, f => .cons (f _ _ r) (Paired.mapP t f)
theorem ObjOk.stay (x : ObjOk P w H h a o) (k : ∀ b u, (b = a \/ H b = some (.own a)) -> h.get? b = some u -> h'.get? b = some u)
  (ho : ∀ b, H b = some (.own a) -> H' b = some (.own a)) (ht : ∀ b xs, H b = some (.tup xs) -> H' b = some (.tup xs)) : ObjOk P w H' h' a o := by
 induction o with
 | lst xs => obtain ⟨z, its, n, r, e⟩ := x; exact ⟨z, its, n, r, k _ _ (.inl rfl) e⟩
 | tup xs => obtain ⟨z, its, r, ob, e, c⟩ := x; exact ⟨z, its, r, ob, k _ _ (.inl rfl) e, c⟩
 | dK kvs => obtain ⟨z, y, vs, r, ob, es, ep, e, c⟩ := x; exact ⟨z, y, vs, r, ob, es, ep, k _ _ (.inl rfl) e, c⟩
 | dT kvs =>
  obtain ⟨z, y, xs, r, ob, es, ep, e, c⟩ := x
  exact ⟨z, y, xs, Paired.mapP r fun p q z => ⟨z.1, ht _ _ z.2.1, z.2.2⟩, ob, es, ep, k _ _ (.inl rfl) e, c⟩
 | set S n => obtain ⟨ob, es, ep, t, e, c⟩ := x; exact ⟨ob, es, ep, t, k _ _ (.inl rfl) e, c⟩
 | ins C dx fs =>
  obtain ⟨d, z, ne, e, mA, ⟨od, es, ep, e2, c⟩, r⟩ := x
  exact ⟨ho _ d, z, ne, k _ _ (.inl rfl) e, mA, ⟨od, es, ep, k _ _ (.inr d) e2, c⟩, r⟩
 | own y => obtain ⟨ob, e⟩ := x; exact ⟨ob, k _ _ (.inl rfl) e⟩
 | xd fs => obtain ⟨mA, ⟨od, es, ep, e, c⟩, r⟩ := x; exact ⟨mA, ⟨od, es, ep, k _ _ (.inl rfl) e, c⟩, r⟩
 | rng lo hi => obtain ⟨t, u, v, e⟩ := x; exact ⟨t, u, v, k _ _ (.inl rfl) e⟩
 | frz ob u ih => obtain ⟨e, q⟩ := x; exact ⟨k _ _ (.inl rfl) e, ih q⟩
 | tbl ps =>
  have e : h.get? a = some { cls := .none, data := .fields ps } := x
  show h'.get? a = some { cls := .none, data := .fields ps }
  exact k a _ (.inl rfl) e
 | met f y =>
  have e : h.get? a = some (W.methodObj (.ref f) (.ref y)) := x
  show h'.get? a = some (W.methodObj (.ref f) (.ref y))
  exact k a _ (.inl rfl) e
 | ext φ => obtain ⟨p, ⟨o, e⟩, st⟩ := x; exact ⟨st _ _ p fun o q => k _ _ (.inl rfl) q, ⟨o, k _ _ (.inl rfl) e⟩, st⟩
theorem HOk.lt (x : HOk P w H h) (e : H a = some o) : a < h.objs.size := (x a o e).lt
theorem HOk.fresh (x : HOk P w H h) (e : h.objs.size <= a) : H a = none := by
 cases q : H a with
 | none => rfl
 | some u => exact absurd (Nat.lt_of_lt_of_le (x.lt q) e) (Nat.lt_irrefl _)
theorem HOk.kept (x : HOk P w H h) (k : ∀ b u, h.get? b = some u -> h'.get? b = some u) : HOk P w H h' := fun a o e =>
 (x a o e).stay (fun b u _ q => k b u q) (fun _ q => q) fun _ _ q => q
theorem HOk.laid (x : HOk P w H h) (k : ∀ b u, h.get? b = some u -> h'.get? b = some u) (hp : h.objs.size <= a) (new : ObjOk P w (upd H a o) h' a o) : HOk P w (upd H a o) h' := fun b u e => by
 have hn := x.fresh hp
 by_cases hb : b = a
 ·subst hb; rw [zaI] at e; cases e; exact new
 ·rw [zaw hb] at e
  exact (x b u e).stay (fun c v _ q => k c v q) (fun c q => by rw [zaw (zaP q hn)]; exact q) fun c xs q => by rw [zaw (zaP q hn)]; exact q
end
def Rd (H : Hp) (a : Addr) (u : HO) : Prop := H a = some u \/ ∃ o, H a = some (.frz o u)
theorem Rd.ok {P : Program} {u : HO} (r : Rd H a u) (x : HOk P w H h) : ObjOk P w H h a u := by
 rcases r with r | ⟨o, r⟩
 ·exact x a u r
 ·obtain ⟨_, q⟩ := x a _ r
  exact q
def Mut : Option HO -> Prop
 | some (.lst _) => True
 | some (.dK _) => True
 | some (.dT _) => True
 | some (.set _ _) => True
 | some (.ins _ _ _) => True
 | some (.ext _) => True
 | _ => False
section
variable {P : Program} {w : World} {H : Hp} {h h' : Heap} {x e : Addr} {o' : HO}
theorem HOk.write (ok : HOk P w H h) (mu : Mut (H x)) (he : e = x \/ H e = some (.own x)) (k : ∀ b u, b ≠ e -> h.get? b = some u -> h'.get? b = some u) (heo : ∃ u, h'.get? e = some u)
  (new : ObjOk P w (upd H x o') h' x o') : HOk P w (upd H x o') h' := fun b u q => by
 have nown : ∀ c y, H c = some (.own y) -> c ≠ x := fun c y r z => by subst z; rw [r] at mu; exact mu
 have ntup : ∀ c xs, H c = some (.tup xs) -> c ≠ x := fun c xs r z => by subst z; rw [r] at mu; exact mu
 by_cases hb : b = x
 ·subst hb; rw [zaI] at q; cases q; exact new
 ·rw [zaw hb] at q
  by_cases hbe : b = e
  ·have q' : H b = some (.own x) := by
    rcases he with z | z
    ·exact absurd (hbe.trans z) hb
    ·rw [hbe]; exact z
   rw [q] at q'; cases q'
   obtain ⟨v, hv⟩ := heo
   exact ⟨v, by rw [hbe]; exact hv⟩
  ·refine (ok b u q).stay (fun c v hc r => k c v ?_ r) (fun c r => by rw [zaw (nown c b r)]; exact r) fun c xs r => by rw [zaw (ntup c xs r)]; exact r
   rcases hc with rfl | hc
   ·exact hbe
   ·rintro rfl
    rcases he with z | z
    ·exact nown c b hc z
    ·rw [hc] at z; cases z; exact hb rfl
end
structure Un (fs ex : List Addr) (H H' : Hp) (h h' : Heap) : Prop where
 keep : ∀ b o, h.get? b = some o -> H b = none -> b ∉ fs -> b ∉ ex -> h'.get? b = some o
 slot : ∀ b o, h.get? b = some o -> H b = none -> b ∈ fs -> b ∉ ex -> ∃ sl, h'.get? b = some { o with slots := sl }
 free : ∀ b o, h.get? b = some o -> H b = none -> b ∉ ex -> H' b = none
 there : ∀ b o, h.get? b = some o -> b ∉ ex -> ∃ o', h'.get? b = some o'
 tups : ∀ b xs, H b = some (.tup xs) -> H' b = some (.tup xs)
 frzs : ∀ b o u, H b = some (.frz o u) -> H' b = some (.frz o u)
 tbls : ∀ b ps, H b = some (.tbl ps) -> ∃ more, H' b = some (.tbl (ps ++ more))
section
variable {fs fs' ex ex' : List Addr} {H H1 H2 : Hp} {h h1 h2 h' : Heap} {a x e : Addr} {o : HO}
theorem Un.any (u : Un fs ex H H1 h h1) {ob : Obj} (q : h.get? b = some ob) (n : H b = none) (hx : b ∉ ex) : ∃ sl, h1.get? b = some { ob with slots := sl } := by
 by_cases hb : b ∈ fs
 ·exact u.slot b ob q n hb hx
 ·exact ⟨ob.slots, u.keep b ob q n hb hx⟩
theorem Un.kept (k : ∀ b u, h.get? b = some u -> h'.get? b = some u) : Un fs ex H H h h' :=
 ⟨fun b ob q _ _ _ => k b ob q, fun b ob q _ _ _ => ⟨ob.slots, k b ob q⟩, fun _ _ _ n _ => n, fun b ob q _ => ⟨ob, k b ob q⟩, fun _ _ q => q, fun _ _ _ q => q, fun _ ps q => ⟨#[], by rw [q]; simp⟩⟩
theorem Un.refl : Un fs ex H H h h := Un.kept fun _ _ q => q
theorem Un.laid (k : ∀ b u, h.get? b = some u -> h'.get? b = some u) (hp : h.objs.size <= a) (hn : H a = none) : Un fs ex H (upd H a o) h h' where
 keep := fun b u q _ _ _ => k b u q
 slot := fun b u q _ _ _ => ⟨u.slots, k b u q⟩
 free := fun b u q n _ => by rw [zaw (Nat.ne_of_lt (Nat.lt_of_lt_of_le (Heap.lt_size q) hp))]; exact n
 there := fun b u q _ => ⟨u, k b u q⟩
 tups := fun b xs q => by rw [zaw (zaP q hn)]; exact q
 frzs := fun b u xs q => by rw [zaw (zaP q hn)]; exact q
 tbls := fun b ps q => ⟨#[], by rw [zaw (zaP q hn), q]; simp⟩
theorem Un.write (mu : Mut (H x)) (he : e = x \/ H e = some (.own x)) (k : ∀ b u, b ≠ e -> h.get? b = some u -> h'.get? b = some u) (heo : ∃ u, h'.get? e = some u) : Un fs ex H (upd H x o) h h' := by
 have hx : ∀ b, H b = none -> b ≠ x := fun b n z => by subst z; rw [n] at mu; exact mu
 have hb : ∀ b, H b = none -> b ≠ e := fun b n z => by
  subst z
  rcases he with r | r
  ·exact hx b n r
  ·rw [n] at r; cases r
 have hm : ∀ b u, H b = some u -> ¬ Mut (some u) -> b ≠ x := fun b u q nm z => by subst z; rw [q] at mu; exact nm mu
 refine ⟨fun b u q n _ _ => k b u (hb b n) q, fun b u q n _ _ => ⟨u.slots, k b u (hb b n) q⟩, fun b u q n _ => by rw [zaw (hx b n)]; exact n, fun b u q _ => ?_,
  fun b xs q => by rw [zaw (hm b _ q fun z => z)]; exact q, fun b u xs q => by rw [zaw (hm b _ q fun z => z)]; exact q, fun b ps q => ⟨#[], by rw [zaw (hm b _ q fun z => z), q]; simp⟩⟩
 by_cases hbe : b = e
 ·subst hbe; exact heo
 ·exact ⟨u, k b u hbe q⟩
end
def trk (h : Heap) (H : Hp) : List Addr := (List.range h.objs.size).filter fun a => (H a).isSome
def hidT (h : Heap) (H : Hp) : Heap := W.hideAll h (trk h H)
theorem zoD (h : Heap) (H : Hp) : (hidT h H).objs.size = h.objs.size := W.hideAll_size _ _
theorem hidT_get {o : Obj} (e : h.get? b = some o) (n : H b = none) : (hidT h H).get? b = some o :=
 W.hideAll_get _ e fun hm => by
  have q : (H b).isSome = true := (List.mem_filter.mp hm).2
  rw [n] at q; simp at q
theorem of_hidT {o : Obj} (e : (hidT h H).get? b = some o) : h.get? b = some o /\ H b = none := by
 have e' : h.get? b = some o := W.of_hideAll (trk h H) e
 refine ⟨e', ?_⟩
 cases q : H b with
 | none => rfl
 | some x =>
  have hm : b ∈ trk h H := List.mem_filter.mpr ⟨List.mem_range.mpr (Heap.lt_size e'), by simp [q]⟩
  have z : (hidT h H).get? b = none := W.hideAll_none (trk h H) hm
  rw [z] at e; cases e
def allNews (g h : Heap) (L : Addr) : List (Addr × Obj) := (List.range h.objs.size).filterMap fun a => if a = L \/ (g.get? a).isSome = true then none else (h.get? a).map fun o => (a, o)
def rest (g h : Heap) (L d : Addr) : List (Addr × Obj) := (allNews g h L).filter fun p => decide (p.1 ≠ d)
structure Mod (K : W.Frag) (mg : Str -> Option Value) (base : Heap) : Prop where
 kin : K.In base
 glob : base.Ns mainGlobals mg
 blt : ∃ mb, base.Ns builtinsNs mb /\ ∀ x : Str, x ≠ "__name__" -> mb x = bootBuiltins x
 nolimit : base.NoLimit
structure Cx where
 prog : Program
 w : World
 K : W.Frag
 mg : Str -> Option Value
 base : Heap
 A : Around
 N : List Str
 s₀ : Shared
 H₀ : Hp
 env : Env
 outer : List Env
 stack : List Env
 ex : List Addr
 fn : Str -> Bool
 calm : Bool
 pn : List (Addr × Obj)
 xe : Value -> Shared -> Prop
def frs (l : List Env) : List Addr := l.filterMap (·.frame)
abbrev Cx.fs (X : Cx) : List Addr := frs X.outer
def Vis (sc : Scope) (x : Str) : Prop := sc.names.lookup x = some .local \/ sc.names.lookup x = some .cell \/ sc.names.lookup x = some .free
def Loc (sc : Scope) (x : Str) : Prop := sc.names.lookup x = some .local \/ sc.names.lookup x = some .cell
def Look (env : Env) (h : Heap) (m : Str -> Option Value) (x : Str) (u : Value) : Prop :=
 (env.kindOf x = some .local /\ m x = some u) \/ ((env.kindOf x = some .cell \/ env.kindOf x = some .free) /\ ∃ c, env.cells.lookup x = some c /\ h.IsCell c (some u))
structure Cx.Ok (X : Cx) : Prop where
 mod : Mod X.K X.mg X.base
 kind : X.env.scope.kind = .function
 glob : X.env.globals = mainGlobals
 blt : X.env.builtins = builtinsNs
 above : X.s₀.heap.objs.size <= X.env.locals
 inj : ∀ x y c, X.env.cells.lookup x = some c -> X.env.cells.lookup y = some c -> x = y
 has : ∀ x, (X.env.kindOf x = some .cell \/ X.env.kindOf x = some .free) -> ∃ c, X.env.cells.lookup x = some c
 cab : ∀ x c, X.fn x = true -> X.env.cells.lookup x = some c -> X.s₀.heap.objs.size <= c
 hd : X.calm = true -> X.A.handled = none
 frames : X.A.frames = some X.stack
 stk : X.stack = X.outer \/ (X.stack = X.env :: X.outer /\ X.env.frame = some X.env.locals)
 exf : ∀ b ∈ X.ex, b ≠ X.env.locals /\ ∀ x c, X.env.cells.lookup x = some c -> c ≠ b
 bs : ∀ b o, X.base.get? b = some o -> X.s₀.heap.get? b = some o /\ X.H₀ b = none
 bsz : X.base.objs.size <= X.s₀.heap.objs.size
 noex : ∀ b o, X.base.get? b = some o -> b ∉ X.ex
 exfs : ∀ b ∈ X.ex, b ∉ X.fs
 funs : X.s₀.heap.FunFrames X.base X.outer
 frf : ∀ b ∈ X.fs, X.H₀ b = none
structure Inv (X : Cx) (pins : List (Addr × Obj)) (σ : List (Option V)) (H : Hp) (s : Shared) : Prop where
 ok : X.Ok
 os : s.os = X.s₀.os
 bare : AllBare s.gens
 base : Un X.fs X.ex X.H₀ H X.s₀.heap s.heap
 loc : ∃ m, s.heap.Ns X.env.locals m /\ ∀ (i : Nat) (x : Str) (v : V), X.N[i]? = some x -> σ[i]? = some (some v) -> Vis X.env.scope x -> ∃ u, RelV v u /\ Look X.env s.heap m x u
 cell : ∀ x c, X.env.cells.lookup x = some c -> ∃ v, s.heap.IsCell c v
 free : H X.env.locals = none
 freeC : ∀ x c, X.env.cells.lookup x = some c -> H c = none
 pin : ∀ p ∈ X.pn ++ pins, s.heap.get? p.1 = some p.2 /\ H p.1 = none /\ p.1 ≠ X.env.locals /\ p.1 ∉ X.fs /\ ∀ v, p.2.data ≠ .cell v
 hok : HOk X.prog X.w H s.heap
 len : σ.length = X.N.length
section
variable {X : Cx} {pins : List (Addr × Obj)} {σ : List (Option V)} {H H' : Hp} {s : Shared} {h' : Heap}
theorem Cx.Ok.nofr (ok : X.Ok) {o : Obj} (e : X.base.get? b = some o) : b ∉ X.fs := fun hb => by
 have := (ok.funs.mem hb).1
 rw [e] at this; cases this
theorem Inv.bs (I : Inv X pins σ H s) : ∀ b o, X.base.get? b = some o -> s.heap.get? b = some o /\ H b = none := fun b o e =>
 ⟨I.base.keep b o (I.ok.bs b o e).1 (I.ok.bs b o e).2 (I.ok.nofr e) (I.ok.noex b o e), I.base.free b o (I.ok.bs b o e).1 (I.ok.bs b o e).2 (I.ok.noex b o e)⟩
theorem Inv.bk (I : Inv X pins σ H s) : ∀ b o, X.base.get? b = some o -> s.heap.get? b = some o := fun b o e => (I.bs b o e).1
theorem Inv.mod (I : Inv X pins σ H s) : Mod X.K X.mg X.base := I.ok.mod
theorem Inv.kIn (I : Inv X pins σ H s) : X.K.In s.heap := I.ok.mod.kin.keeps I.bk
theorem Inv.lt (I : Inv X pins σ H s) : X.env.locals < s.heap.objs.size := let ⟨_, hn, _⟩ := I.loc; hn.lt
theorem Inv.sz (I : Inv X pins σ H s) : X.s₀.heap.objs.size <= s.heap.objs.size := Nat.le_trans I.ok.above (Nat.le_of_lt I.lt)
theorem Inv.nofs (I : Inv X pins σ H s) (h : s.heap.objs.size <= a) : a ∉ X.fs := fun hb => by
 obtain ⟨_, o, ho, _⟩ := I.ok.funs.mem hb
 exact absurd (Nat.lt_of_lt_of_le (Heap.lt_size ho) (Nat.le_trans I.sz h)) (Nat.lt_irrefl _)
theorem Inv.cne (I : Inv X pins σ H s) : ∀ x c, X.env.cells.lookup x = some c -> c ≠ X.env.locals := fun x c e z => by
 obtain ⟨v, o, ho, hd⟩ := I.cell x c e
 obtain ⟨m, ⟨o', es, ep, ho', hd', _⟩, _⟩ := I.loc
 rw [z, ho'] at ho; cases ho; rw [hd'] at hd; cases hd
theorem Inv.funs (I : Inv X pins σ H s) : s.heap.FunFrames X.base X.outer := by
 have all : ∀ (l : List Env), (∀ b ∈ frs l, b ∈ X.fs) -> X.s₀.heap.FunFrames X.base l -> s.heap.FunFrames X.base l := by
  intro l
  induction l with
  | nil => intro _ _; trivial
  | cons env r ih =>
   intro hs hl
   obtain ⟨hk, ⟨L, o, hf, hn, ho, hd⟩, hr⟩ := hl
   have hL : L ∈ X.fs := hs L (by unfold frs; rw [List.filterMap_cons, hf]; exact List.mem_cons_self)
   obtain ⟨sl, e⟩ := I.base.slot L o ho (I.ok.frf L hL) hL fun z => I.ok.exfs L z hL
   exact ⟨hk, ⟨L, _, hf, hn, e, hd⟩, ih (fun b hb => hs b (by unfold frs; rw [List.filterMap_cons, hf]; exact List.mem_cons_of_mem _ hb)) hr⟩
 exact all X.outer (fun _ hb => hb) I.ok.funs
theorem Inv.stack (I : Inv X pins σ H s) : s.heap.FunFrames X.base X.stack := by
 rcases I.ok.stk with e | ⟨e, hf⟩
 ·rw [e]; exact I.funs
 ·rw [e]
  obtain ⟨m, hn, _⟩ := I.loc
  refine .cons (by rw [I.ok.kind]; decide) hf hn ?_ I.funs
  exact Heap.get?_none_of_le (Nat.le_trans I.ok.bsz I.ok.above)
theorem Inv.stkSub (I : Inv X pins σ H s) : ∀ b ∈ frs X.stack, b ∈ X.env.locals :: X.fs := fun b hb => by
 rcases I.ok.stk with e | ⟨e, hf⟩
 ·rw [e] at hb; exact List.mem_cons_of_mem _ hb
 ·rw [e] at hb
  unfold frs at hb
  rw [List.filterMap_cons, hf] at hb
  exact hb
theorem Inv.stkFree (I : Inv X pins σ H s) : ∀ b ∈ frs X.stack, H b = none := fun b hb => by
 rcases List.mem_cons.mp (I.stkSub b hb) with e | hb
 ·rw [e]; exact I.free
 ·obtain ⟨_, o, ho, _⟩ := I.ok.funs.mem hb
  exact I.base.free b o ho (I.ok.frf b hb) fun z => I.ok.exfs b z hb
theorem Inv.step (I : Inv X pins σ H s)
  (hch : ∀ b ∈ ch, (b ∈ X.ex \/ X.s₀.heap.objs.size <= b) /\ b ≠ X.env.locals /\ (∀ x c, X.env.cells.lookup x = some c -> c ≠ b) /\ ∀ p ∈ X.pn ++ pins, p.1 ≠ b)
  (keep : ∀ b o, b ≠ X.env.locals -> b ∉ X.fs -> b ∉ ch -> s.heap.get? b = some o -> H b = none -> h'.get? b = some o)
  (slot : ∀ b o, b ≠ X.env.locals -> b ∈ X.fs -> b ∉ ch -> s.heap.get? b = some o -> H b = none -> ∃ sl, h'.get? b = some { o with slots := sl }) (free : ∀ b o, b ∉ ch -> s.heap.get? b = some o -> H b = none -> H' b = none)
  (there : ∀ b o, b ∉ ch -> s.heap.get? b = some o -> ∃ o', h'.get? b = some o')
  (tups : ∀ b xs, H b = some (.tup xs) -> H' b = some (.tup xs)) (frzs : ∀ b o u, H b = some (.frz o u) -> H' b = some (.frz o u)) (tbls : ∀ b ps, H b = some (.tbl ps) -> ∃ more, H' b = some (.tbl (ps ++ more)))
  (ns : ∀ m, s.heap.Ns X.env.locals m -> h'.Ns X.env.locals m) (hok : HOk X.prog X.w H' h') (hg : AllBare g') :
  Inv X pins σ H' { s with heap := h', gens := g', drawn := d', toks := t' } := by
 have neL : ∀ b o, X.s₀.heap.get? b = some o -> b ≠ X.env.locals := fun b o e => Nat.ne_of_lt (Nat.lt_of_lt_of_le (Heap.lt_size e) I.ok.above)
 have neC : ∀ b o, X.s₀.heap.get? b = some o -> b ∉ X.ex -> b ∉ ch := fun b o e hx hb => by
  rcases (hch b hb).1 with z | z
  ·exact hx z
  ·exact absurd (Nat.lt_of_lt_of_le (Heap.lt_size e) z) (Nat.lt_irrefl _)
 have cellK : ∀ x c, X.env.cells.lookup x = some c -> ∀ v, s.heap.IsCell c v -> h'.IsCell c v := fun x c e v ⟨o, ho, hd⟩ => by
  have nch : c ∉ ch := fun z => (hch c z).2.2.1 x c e rfl
  by_cases hc : c ∈ X.fs
  ·obtain ⟨sl, q⟩ := slot c o (I.cne x c e) hc nch ho (I.freeC x c e)
   exact ⟨_, q, hd⟩
  ·exact ⟨o, keep c o (I.cne x c e) hc nch ho (I.freeC x c e), hd⟩
 refine ⟨I.ok, I.os, hg, ⟨fun b o e n hb hx => ?_, fun b o e n hb hx => ?_, fun b o e n hx => ?_, fun b o e hx => ?_, fun b xs e => tups b xs (I.base.tups b xs e), fun b o xs e => frzs b o xs (I.base.frzs b o xs e), fun b ps e => ?_⟩, ?_, fun x c e => ?_, ?_, fun x c e => ?_, fun p hp => ?_, hok, I.len⟩
 ·exact keep b o (neL b o e) hb (neC b o e hx) (I.base.keep b o e n hb hx) (I.base.free b o e n hx)
 ·obtain ⟨sl, e1⟩ := I.base.slot b o e n hb hx
  obtain ⟨sl', e2⟩ := slot b _ (neL b o e) hb (neC b o e hx) e1 (I.base.free b o e n hx)
  exact ⟨sl', e2⟩
 ·obtain ⟨o', e1⟩ := I.base.there b o e hx
  exact free b o' (neC b o e hx) e1 (I.base.free b o e n hx)
 ·obtain ⟨o', e1⟩ := I.base.there b o e hx
  exact there b o' (neC b o e hx) e1
 ·obtain ⟨m1, e1⟩ := I.base.tbls b ps e
  obtain ⟨m2, e2⟩ := tbls b _ e1
  exact ⟨m1 ++ m2, by rw [e2, Array.append_assoc]⟩
 ·obtain ⟨m, hn, hl⟩ := I.loc
  refine ⟨m, ns m hn, fun i x v e1 e2 e3 => ?_⟩
  obtain ⟨u, r, l⟩ := hl i x v e1 e2 e3
  refine ⟨u, r, ?_⟩
  rcases l with l | ⟨k, c, e, z⟩
  ·exact .inl l
  ·exact .inr ⟨k, c, e, cellK x c e _ z⟩
 ·obtain ⟨v, z⟩ := I.cell x c e
  exact ⟨v, cellK x c e v z⟩
 ·obtain ⟨m, ⟨o, _, _, ho, _⟩, _⟩ := I.loc
  exact free _ o (fun z => (hch _ z).2.1 rfl) ho I.free
 ·obtain ⟨v, o, ho, hd⟩ := I.cell x c e
  exact free c o (fun z => (hch c z).2.2.1 x c e rfl) ho (I.freeC x c e)
 ·obtain ⟨e, n, ne, nf, d⟩ := I.pin p hp
  have nch : p.1 ∉ ch := fun z => (hch p.1 z).2.2.2 p hp rfl
  exact ⟨keep p.1 p.2 ne nf nch e n, free p.1 p.2 nch e n, ne, nf, d⟩
theorem Inv.un (I : Inv X pins σ H s) (u : Un X.fs [] H H' s.heap h') (hok : HOk X.prog X.w H' h') : Inv X pins σ H' { s with heap := h', toks := t' } := by
  obtain ⟨m, ⟨o, es, ep, ho, r⟩, _⟩ := id I.loc
  obtain ⟨sl, hL⟩ := u.any ho I.free (by simp)
  exact I.step (g' := s.gens) (d' := s.drawn) (ch := []) (fun _ z => nomatch z) (fun b o _ hb _ e n => u.keep b o e n hb (by simp)) (fun b o _ hb _ e n => u.slot b o e n hb (by simp)) (fun b o _ e n => u.free b o e n (by simp)) (fun b o _ e => u.there b o e (by simp)) u.tups u.frzs u.tbls (fun m' hm => by
    obtain ⟨o', es', ep', ho', r'⟩ := hm
    rw [ho] at ho'; cases ho'
    exact ⟨_, es', ep', hL, r'⟩) hok I.bare
theorem Inv.call {ch : List Addr} (I : Inv X pins σ H s) (u : Un (frs X.stack) ch H H' s.heap h') (hok : HOk X.prog X.w H' h') (hg : AllBare g')
  (hch : ∀ b ∈ ch, (b ∈ X.ex \/ X.s₀.heap.objs.size <= b) /\ b ≠ X.env.locals /\ (∀ x c, X.env.cells.lookup x = some c -> c ≠ b) /\ ∀ p ∈ X.pn ++ pins, p.1 ≠ b) :
  Inv X pins σ H' { s with heap := h', gens := g', drawn := d', toks := t' } := by
 obtain ⟨m, ⟨o, es, ep, ho, r⟩, _⟩ := id I.loc
 obtain ⟨sl, hL⟩ := u.any ho I.free fun z => (hch _ z).2.1 rfl
 exact I.step (ch := ch) hch (fun b o hL hb hc e n => u.keep b o e n (fun z => (List.mem_cons.mp (I.stkSub b z)).elim hL hb) hc) (fun b o _ _ hc e n => u.any e n hc) (fun b o hc e n => u.free b o e n hc) (fun b o hc e => u.there b o e hc) u.tups u.frzs u.tbls (fun m' hm => by
  obtain ⟨o', es', ep', ho', r'⟩ := hm
  rw [ho] at ho'; cases ho'
  exact ⟨_, es', ep', hL, r'⟩) hok hg
theorem Inv.turned (I : Inv X pins σ H s) (k : ∀ b o, b ≠ it -> s.heap.get? b = some o -> h'.get? b = some o) (hn : H it = none) (hL : it ≠ X.env.locals)
  (h1 : it ∈ X.ex \/ X.s₀.heap.objs.size <= it) (h2 : ∀ x c, X.env.cells.lookup x = some c -> c ≠ it) (h3 : ∀ p ∈ X.pn ++ pins, p.1 ≠ it) : Inv X pins σ H { s with heap := h', toks := t' } := by
 have nit : ∀ b u, H b = some u -> b ≠ it := fun b u e z => by rw [z, hn] at e; cases e
 refine I.step (g' := s.gens) (d' := s.drawn) (ch := [it]) (fun b hb => ?_) (fun b o _ _ hc e _ => k b o (fun z => hc (by simp [z])) e) (fun b o _ _ hc e _ => ⟨o.slots, k b o (fun z => hc (by simp [z])) e⟩) (fun _ _ _ _ n => n)
  (fun b o hc e => ⟨o, k b o (fun z => hc (by simp [z])) e⟩) (fun _ _ e => e) (fun _ _ _ e => e) (fun b ps e => ⟨#[], by rw [e]; simp⟩) (fun m hm => ?_) (fun b u e => ?_) I.bare
 ·have e : b = it := by simpa using hb
  subst e
  exact ⟨h1, hL, h2, h3⟩
 ·obtain ⟨o, es, ep, ho, r⟩ := hm
  exact ⟨o, es, ep, k _ o (Ne.symm hL) ho, r⟩
 ·refine (I.hok b u e).stay (fun c v hc q => k c v ?_ q) (fun _ q => q) fun _ _ q => q
  rcases hc with z | z
  ·rw [z]; exact nit b u e
  ·exact nit c _ z
theorem Inv.tok (I : Inv X pins σ H s) (t : Nat) : Inv X pins σ H { s with toks := t } := I.un (h' := s.heap) (t' := t) Un.refl I.hok
theorem Inv.kept (I : Inv X pins σ H s) (k : ∀ b u, s.heap.get? b = some u -> h'.get? b = some u) : Inv X pins σ H { s with heap := h', toks := t' } := I.un (Un.kept k) (I.hok.kept k)
theorem Inv.laid (I : Inv X pins σ H s) (k : ∀ b u, s.heap.get? b = some u -> h'.get? b = some u) (hp : s.heap.objs.size <= a) (new : ObjOk X.prog X.w (upd H a o) h' a o) :
  Inv X pins σ (upd H a o) { s with heap := h', toks := t' } := I.un (Un.laid k hp (I.hok.fresh hp)) (I.hok.laid k hp new)
theorem Inv.write {x e : Addr} (I : Inv X pins σ H s) (mu : Mut (H x)) (he : e = x \/ H e = some (.own x)) (k : ∀ b u, b ≠ e -> s.heap.get? b = some u -> h'.get? b = some u) (heo : ∃ u, h'.get? e = some u)
  (new : ObjOk X.prog X.w (upd H x o) h' x o) : Inv X pins σ (upd H x o) { s with heap := h', toks := t' } := I.un (Un.write mu he k heo) (I.hok.write mu he k heo new)
theorem Inv.pins_of (I : Inv X pins σ H s) (h : ∀ p ∈ pins', s.heap.get? p.1 = some p.2 /\ H p.1 = none /\ p.1 ≠ X.env.locals /\ p.1 ∉ X.fs /\ ∀ v, p.2.data ≠ .cell v) : Inv X pins' σ H s :=
 ⟨I.ok, I.os, I.bare, I.base, I.loc, I.cell, I.free, I.freeC, fun p hp => (List.mem_append.mp hp).elim (fun z => I.pin p (List.mem_append_left _ z)) (h p), I.hok, I.len⟩
theorem zmz (hN : N.Nodup) (a : N[i]? = some x) (b : N[j]? = some x) : i = j := by
 obtain ⟨h1, e1⟩ := List.getElem?_eq_some_iff.mp a
 obtain ⟨h2, e2⟩ := List.getElem?_eq_some_iff.mp b
 exact (List.getElem_inj hN).mp (e1.trans e2.symm)
theorem zpL {M : Model} (I : Inv X pins σ H s) (hN : X.N.Nodup) (hi : X.N[i]? = some x) (hx : Loc X.env.scope x) (r : RelV v u)
    (h : ∀ s', Inv X pins (σ.set i (some v)) H s' -> (∃ a, Heap.SameBut a s.heap s'.heap /\ (a = X.env.locals \/ X.env.cells.lookup x = some a)) -> Q () s') (hf : X.fn x = true \/ X.env.scope.names.lookup x = some .local := by first | exact .inl rfl | exact .inr rfl | assumption) : wpAny M A (storeName X.env x u) Q E s := by
  obtain ⟨m, hn, hl⟩ := id I.loc
  have hcls : (X.env.scope.kind == .class || (X.env.scope.kind == .module && X.env.locals != X.env.globals)) = false := by rw [I.ok.kind]; rfl
  have hiσ : i < σ.length := by rw [I.len]; exact (List.getElem?_eq_some_iff.mp hi).1
  have cne := I.cne
  have tracked : ∀ {a : Addr} {h' : Heap}, (∃ o, s.heap.get? a = some o /\ H a = none) -> Heap.SameBut a s.heap h' -> HOk X.prog X.w H h' := fun {a h'} ha hs b ob e => by
    obtain ⟨_, _, hfree⟩ := ha
    refine (I.hok b ob e).stay (fun c w' hc q => (hs.2 c ?_).trans q) (fun _ q => q) fun _ _ q => q
    rintro rfl
    rcases hc with rfl | hc
    . rw [hfree] at e; cases e
    . rw [hfree] at hc; cases hc
  rcases hx with hk | hk
  . refine wpAny_storeName_local hk hn (fun h' hn' hs => ?_) hcls
    obtain ⟨oL, _, _, hoL, _⟩ := id hn
    refine h _ ⟨I.ok, I.os, I.bare, ⟨fun b o e n hb hx => ?_, fun b o e n hb hx => ?_, I.base.free, fun b o e hx => ?_, I.base.tups, I.base.frzs, I.base.tbls⟩, ⟨_, hn', fun j y v' e1 e2 e3 => ?_⟩, fun y c e => ?_, I.free, I.freeC, fun p hp => ?_, tracked ⟨oL, hoL, I.free⟩ hs, by simpa using I.len⟩ ⟨_, hs, .inl rfl⟩
    . exact (hs.2 b (Nat.ne_of_lt (Nat.lt_of_lt_of_le (Heap.lt_size e) I.ok.above))).trans (I.base.keep b o e n hb hx)
    . obtain ⟨sl, e1⟩ := I.base.slot b o e n hb hx
      exact ⟨sl, (hs.2 b (Nat.ne_of_lt (Nat.lt_of_lt_of_le (Heap.lt_size e) I.ok.above))).trans e1⟩
    . obtain ⟨o', e1⟩ := I.base.there b o e hx
      exact ⟨o', (hs.2 b (Nat.ne_of_lt (Nat.lt_of_lt_of_le (Heap.lt_size e) I.ok.above))).trans e1⟩
    . by_cases hj : j = i
      . subst hj
        rw [hi] at e1; cases e1
        rw [List.getElem?_set_self hiσ] at e2
        cases e2
        exact ⟨u, r, .inl ⟨hk, by simp⟩⟩
      . rw [List.getElem?_set_ne (Ne.symm hj)] at e2
        obtain ⟨u', r', q⟩ := hl j y v' e1 e2 e3
        refine ⟨u', r', ?_⟩
        rcases q with ⟨k, e⟩ | ⟨k, c, e, z⟩
        . refine .inl ⟨k, ?_⟩
          have : y ≠ x := fun e => hj (zmz hN e1 (e ▸ hi))
          simp [this, e]
        . exact .inr ⟨k, c, e, z.sameBut hs (cne y c e)⟩
    . obtain ⟨w', z⟩ := I.cell y c e
      exact ⟨w', z.sameBut hs (cne y c e)⟩
    . obtain ⟨e, n, ne, nf, d⟩ := I.pin p hp
      exact ⟨(hs.2 p.1 ne).trans e, n, ne, nf, d⟩
  . have hfn : X.fn x = true := by
      rcases hf with z | z
      . exact z
      . rw [z] at hk; cases hk
    obtain ⟨c, hc⟩ := I.ok.has x (.inl hk)
    obtain ⟨w', z⟩ := I.cell x c hc
    refine wpAny_storeName_cell I.ok.kind hk hc z (fun h' hc' hs => ?_)
    obtain ⟨oc, hoc, hocd⟩ := id z
    refine h { s with heap := h' } ⟨I.ok, I.os, I.bare, ⟨fun b o e n hb hx => ?_, fun b o e n hb hx => ?_, I.base.free, fun b o e hx => ?_, I.base.tups, I.base.frzs, I.base.tbls⟩, ⟨m, hn.sameBut hs (Ne.symm (cne x c hc)), fun j y v' e1 e2 e3 => ?_⟩, fun y c' e => ?_, I.free, I.freeC, fun p hp => ?_, tracked ⟨oc, hoc, I.freeC x c hc⟩ hs, by simpa using I.len⟩ ⟨c, hs, .inr hc⟩
    . exact (hs.2 b (Nat.ne_of_lt (Nat.lt_of_lt_of_le (Heap.lt_size e) (I.ok.cab x c hfn hc)))).trans (I.base.keep b o e n hb hx)
    . obtain ⟨sl, e1⟩ := I.base.slot b o e n hb hx
      exact ⟨sl, (hs.2 b (Nat.ne_of_lt (Nat.lt_of_lt_of_le (Heap.lt_size e) (I.ok.cab x c hfn hc)))).trans e1⟩
    . obtain ⟨o', e1⟩ := I.base.there b o e hx
      exact ⟨o', (hs.2 b (Nat.ne_of_lt (Nat.lt_of_lt_of_le (Heap.lt_size e) (I.ok.cab x c hfn hc)))).trans e1⟩
    . by_cases hj : j = i
      . subst hj
        rw [hi] at e1; cases e1
        rw [List.getElem?_set_self hiσ] at e2
        cases e2
        exact ⟨u, r, .inr ⟨.inl hk, c, hc, hc'⟩⟩
      . rw [List.getElem?_set_ne (Ne.symm hj)] at e2
        obtain ⟨u', r', q⟩ := hl j y v' e1 e2 e3
        refine ⟨u', r', ?_⟩
        rcases q with q | ⟨k, c', e, z'⟩
        . exact .inl q
        . refine .inr ⟨k, c', e, z'.sameBut hs ?_⟩
          rintro rfl
          exact hj (zmz hN e1 (I.ok.inj _ _ _ e hc ▸ hi))
    . by_cases hcc : c' = c
      . subst hcc; exact ⟨_, hc'⟩
      . obtain ⟨w2, z2⟩ := I.cell y c' e
        exact ⟨w2, z2.sameBut hs hcc⟩
    . obtain ⟨e, n, ne, nf, d⟩ := I.pin p hp
      refine ⟨(hs.2 p.1 ?_).trans e, n, ne, nf, d⟩
      intro q
      rw [q, hoc] at e
      have q' : oc = p.2 := Option.some.inj e
      exact d w' (by rw [<- q']; exact hocd)
theorem zhJ {M : Model} (I : Inv X pins σ H s) (hN : X.N.Nodup) (hi : X.N[i]? = some x) (hx : Loc X.env.scope x) (r : RelV v u)
  (h : ∀ s', Inv X pins (σ.set i (some v)) H s' -> Q () s') (hf : X.fn x = true \/ X.env.scope.names.lookup x = some .local := by first | exact .inl rfl | exact .inr rfl | assumption) : wpAny M A (storeName X.env x u) Q E s :=
 zpL I hN hi hx r (fun s' I' _ => h s' I') hf
end
abbrev XK := Value -> Option Addr -> Hp -> Prop
abbrev St := List (Option V)
abbrev VK := V -> Hp -> Prop
abbrev TE := St -> Hp -> VK -> Prop
abbrev TT := St -> Hp -> (Bool -> Hp -> Prop) -> Prop
abbrev TA := St -> Hp -> (List V -> Hp -> Prop) -> Prop
structure Ends where
 nx : St -> Hp -> Prop
 rt : VK
 bk : St -> Hp -> Prop := fun _ _ => False
 ct : St -> Hp -> Prop := fun _ _ => False
abbrev TS := Ends -> St -> Hp -> Prop
def EP (X : Cx) (pins : List (Addr × Obj)) (σ : St) (Q : VK) (u : Value) (s' : Shared) : Prop := ∃ v H', Inv X pins σ H' s' /\ RelV v u /\ Q v H'
def TP (X : Cx) (pins : List (Addr × Obj)) (σ : St) (Q : Bool -> Hp -> Prop) (b : Bool) (s' : Shared) : Prop := ∃ H', Inv X pins σ H' s' /\ Q b H'
def AP (X : Cx) (pins : List (Addr × Obj)) (σ : St) (Q : List V -> Hp -> Prop) (us : List Value) (s' : Shared) : Prop := ∃ vs H', Inv X pins σ H' s' /\ Vals vs us /\ Q vs H'
def SP (X : Cx) (pins : List (Addr × Obj)) (D : Ends) (f : Flow) (s' : Shared) : Prop :=
 match f with
 | .next => ∃ σ' H', Inv X pins σ' H' s' /\ D.nx σ' H'
 | .brk => ∃ σ' H', Inv X pins σ' H' s' /\ D.bk σ' H'
 | .cont => ∃ σ' H', Inv X pins σ' H' s' /\ D.ct σ' H'
 | .ret u => ∃ v σ' H', Inv X pins σ' H' s' /\ RelV v u /\ D.rt v H'
def PE (X : Cx) (e : Expr) (t : TE) : Prop :=
 ∀ (pins : List (Addr × Obj)) (s : Shared) (σ : St) (H : Hp) (Q : VK), Inv X pins σ H s -> t σ H Q -> wpAny (model X.prog X.w) X.A (eval e X.env) (EP X pins σ Q) X.xe s
def PT (X : Cx) (e : Expr) (t : TT) : Prop :=
 ∀ (pins : List (Addr × Obj)) (s : Shared) (σ : St) (H : Hp) (Q : Bool -> Hp -> Prop), Inv X pins σ H s -> t σ H Q -> wpAny (model X.prog X.w) X.A (isTrue e X.env (eval e X.env)) (TP X pins σ Q) X.xe s
def PW (X : Cx) (e : Expr) (t : TT) : Prop :=
 ∀ (whole : Sem Value) (pins : List (Addr × Obj)) (s : Shared) (σ : St) (H : Hp) (Q : Bool -> Hp -> Prop), Inv X pins σ H s -> t σ H Q -> wpAny (model X.prog X.w) X.A (isTrue e X.env whole) (TP X pins σ Q) X.xe s
theorem PW.pt {t : TT} (h : PW X e t) : PT X e t := h _
def PA (X : Cx) (es : List Expr) (t : TA) : Prop :=
 ∀ (pos : Pos) (pins : List (Addr × Obj)) (s : Shared) (σ : St) (H : Hp) (Q : List V -> Hp -> Prop), Inv X pins σ H s -> t σ H Q -> wpAny (model X.prog X.w) X.A (spliced (backTo pos (starEach es X.env))) (AP X pins σ Q) X.xe s
def PS (X : Cx) (st : Stmt) (t : TS) : Prop :=
 ∀ (pins : List (Addr × Obj)) (s : Shared) (σ : St) (H : Hp) (D : Ends), Inv X pins σ H s -> t D σ H -> wpAny (model X.prog X.w) X.A (exec st X.env) (SP X pins D) X.xe s
def PSs (X : Cx) (st : List Stmt) (t : TS) : Prop :=
 ∀ (pins : List (Addr × Obj)) (s : Shared) (σ : St) (H : Hp) (D : Ends), Inv X pins σ H s -> t D σ H -> wpAny (model X.prog X.w) X.A (execs st X.env) (SP X pins D) X.xe s
theorem thn {α : Type} {t : Sem α} {Q Q' : α -> Shared -> Prop} {M : Model} (h : wpAny M A t Q E s) (hQ : ∀ a s, Q a s -> Q' a s) : wpAny M A t Q' E s := wpAny_mono h hQ fun _ _ x => x
section
variable {X : Cx}
theorem bin {a b : Expr} {ta tb : TE} (ha : PE X a ta) (hb : PE X b tb) {R : V -> V -> Hp -> Prop} (I : Inv X pins σ H s) (h : ta σ H fun x H1 => tb σ H1 fun y H2 => R x y H2)
  {α : Type} {Q : α -> Shared -> Prop} {f : Value -> Value -> Sem α}
  (hf : ∀ v u s2 x y H2, Inv X pins σ H2 s2 -> RelV x v -> RelV y u -> R x y H2 -> wpAny (model X.prog X.w) X.A (f v u) Q X.xe s2) :
  wpAny (model X.prog X.w) X.A (eval a X.env) (fun v s₁ => wpAny (model X.prog X.w) X.A (eval b X.env) (fun u s₂ => wpAny (model X.prog X.w) X.A (f v u) Q X.xe s₂) X.xe s₁) X.xe s := by
 refine thn (ha pins s σ H _ I h) fun v s1 ⟨x, H1, I1, r1, q1⟩ => ?_
 refine thn (hb pins s1 σ H1 _ I1 q1) fun u s2 ⟨y, H2, I2, r2, q2⟩ => ?_
 exact hf v u s2 x y H2 I2 r1 r2 q2
def tVar (i : Nat) : TE := fun σ H Q => ∃ v, σ[i]? = some (some v) /\ Q v H
def tC (v : V) : TE := fun _ H Q => Q v H
theorem zfB (hN : X.N[i]? = some x) (hv : Vis X.env.scope x) (hd : (x == ("__debug__" : Str)) = false := by decide) (hcd : (x == ("__classdict__" : Str)) = false := by decide) : PE X (.Name x pos) (tVar i) := by
 intro pins s σ H Q I h
 obtain ⟨v, e, h⟩ := h
 obtain ⟨m, hn, hl⟩ := I.loc
 obtain ⟨u, r, l⟩ := hl i x v hN e hv
 have fin : EP X pins σ Q u s := ⟨v, H, I, r, h⟩
 rcases l with ⟨hk, hm⟩ | ⟨hk, c, hc, hcell⟩
 ·exact wpAny_Name (wpAny_loadName_local I.ok.kind hk hn hm fin) hd
 ·rcases hk with hk | hk
  ·exact wpAny_Name (wpAny_loadName_cell I.ok.kind hk hc hcell fin) hd
  ·exact wpAny_Name (wpAny_loadName_free I.ok.kind hk hc hcell fin hcd) hd
theorem zlE {i j pos} : PE X (.Constant (.int i) j pos) (tC (.int i)) := fun _ _ _ H _ I h => wpAny_Constant_int ⟨.int i, H, I.tok _, ⟨_, rfl⟩, h⟩
theorem pe_bl {b j pos} : PE X (.Constant (.bool b) j pos) (tC (.bl b)) := fun _ _ _ H _ I h => Constant_bool ⟨.bl b, H, I, rfl, h⟩
theorem pe_non {j pos} : PE X (.Constant .none j pos) (tC .non) := fun _ _ _ H _ I h => Constant_none ⟨.non, H, I, rfl, h⟩
theorem znc {x j pos} : PE X (.Constant (.str x) j pos) (tC (.str x)) := fun _ _ _ H _ I h => Calls.Constant_str ⟨.str x, H, I.tok _, ⟨_, rfl⟩, h⟩
def Gl (X : Cx) (x : Str) : Prop := X.env.kindOf x = some .globalImplicit
theorem ld_glob {Q : Value -> Shared -> Prop} (I : Inv X pins σ H s) (hg : Gl X x) (hm : X.mg x = some u) (h : Q u s)
  (hd : (x == ("__debug__" : Str)) = false := by decide) : wpAny (model X.prog X.w) X.A (eval (.Name x pos) X.env) Q E s :=
 Calls.Name_function_global I.ok.kind hg (Calls.loadGlobal_global (by rw [I.ok.glob]; exact I.mod.glob.keeps I.bk) hm h) hd
theorem zgX {Q : Value -> Shared -> Prop} (I : Inv X pins σ H s) (hg : Gl X x) (hm : X.mg x = none) (hv : bootBuiltins x = some u) (h : Q u s)
  (hn : x ≠ "__name__" := by decide) (hd : (x == ("__debug__" : Str)) = false := by decide) : wpAny (model X.prog X.w) X.A (eval (.Name x pos) X.env) Q E s := by
 obtain ⟨mb, h1, h2⟩ := I.mod.blt
 exact Calls.Name_function_global I.ok.kind hg (Calls.loadGlobal_builtin (by rw [I.ok.glob]; exact I.mod.glob.keeps I.bk) hm (by rw [I.ok.blt]; exact h1.keeps I.bk) ((h2 x hn).trans hv) h) hd
theorem pe_bltn (hg : Gl X x) (hm : X.mg x = none) (hv : bootBuiltins x = some u) (r : RelV v u) (hn : x ≠ "__name__" := by decide) (hd : (x == ("__debug__" : Str)) = false := by decide) : PE X (.Name x pos) (tC v) :=
 fun _ _ _ H _ I h => zgX I hg hm hv ⟨v, H, I, r, h⟩ hn hd
variable {a b : Expr} {ta tb : TE} {pos : Pos}
def PC (X : Cx) (op : CmpOp) (a b : Expr) (t : TE) : Prop :=
 ∀ (pins : List (Addr × Obj)) (s : Shared) (σ : St) (H : Hp) (Q : VK), Inv X pins σ H s -> t σ H Q ->
  wpAny (model X.prog X.w) X.A (eval a X.env) (fun v s₁ => wpAny (model X.prog X.w) X.A (eval b X.env) (fun u s₂ => wpAny (model X.prog X.w) X.A (compareOp op v u) (EP X pins σ Q) X.xe s₂) X.xe s₁) X.xe s
theorem nobehind (b : Expr) (h : op ≠ .In) (h2 : op ≠ .NotIn) : behindInMarks op b = false := by
 have e1 : (op == CmpOp.In) = false := by cases op <;> first | rfl | exact absurd rfl h
 have e2 : (op == CmpOp.NotIn) = false := by cases op <;> first | rfl | exact absurd rfl h2
 cases b <;> simp [behindInMarks, e1, e2]
def tB (t : TE) : TT := fun σ H Q => t σ H fun x H1 => ∃ c, x = .bl c /\ Q c H1
theorem pt_cmp (h : PC X op a b t) (h1 : behindInMarks op b = false := by first | exact nobehind _ (by decide) (by decide) | rfl) : PT X (.Compare a [op] [b] pos) (tB t) := by
  intro pins s σ H Q I hw
  refine wpAny_isTrue_Compare1 (thn (h pins s σ H _ I hw) fun v s1 h1 => thn h1 fun u s2 h2 => thn h2 fun c s3 ⟨x, H1, I1, r1, q1⟩ => ?_) h1
  obtain ⟨d, rfl, q⟩ := q1
  cases r1
  exact wpAny_truthy_bool ⟨H1, I1, q⟩
variable {tA tB' : TT} {rest : List Expr}
def tAnd (t u : TT) : TT := fun σ H Q => t σ H fun c H1 => if c = true then u σ H1 Q else Q false H1
def tOr (t u : TT) : TT := fun σ H Q => t σ H fun c H1 => if c = true then Q true H1 else u σ H1 Q
def tNot (t : TT) : TT := fun σ H Q => t σ H fun c H1 => Q (!c) H1
theorem pw_and1 (ha : PT X a tA) : PW X (.BoolOp .And [a] pos) tA := by
 intro wh pins s σ H Q I h
 refine isTrue_and (thn (ha pins s σ H Q I h) fun c s1 e => ?_)
 cases c with
 | true => exact isTrue_and_nil e
 | false => exact e
theorem pw_or1 (ha : PT X a tA) : PW X (.BoolOp .Or [a] pos) tA := by
 intro wh pins s σ H Q I h
 refine isTrue_or (thn (ha pins s σ H Q I h) fun c s1 e => ?_)
 cases c with
 | false => exact isTrue_or_nil e
 | true => exact e
theorem pw_and (ha : PT X a tA) (hb : PW X (.BoolOp .And (b :: rest) pos) tB') : PW X (.BoolOp .And (a :: b :: rest) pos) (tAnd tA tB') := by
 intro wh pins s σ H Q I h
 refine isTrue_and (thn (ha pins s σ H _ I h) fun c s1 ⟨H1, I1, q1⟩ => ?_)
 cases c with
 | true => exact hb wh pins s1 σ H1 Q I1 q1
 | false => exact ⟨H1, I1, q1⟩
theorem pw_or (ha : PT X a tA) (hb : PW X (.BoolOp .Or (b :: rest) pos) tB') : PW X (.BoolOp .Or (a :: b :: rest) pos) (tOr tA tB') := by
 intro wh pins s σ H Q I h
 refine isTrue_or (thn (ha pins s σ H _ I h) fun c s1 ⟨H1, I1, q1⟩ => ?_)
 cases c with
 | true => exact ⟨H1, I1, q1⟩
 | false => exact hb wh pins s1 σ H1 Q I1 q1
theorem pt_not (ha : PT X a tA) : PT X (.UnaryOp .Not a pos) (tNot tA) := by
 intro pins s σ H Q I h
 exact isTrue_not (ha pins s σ H (fun c H1 => Q (!c) H1) I h)
def tAndV (ta tb : TE) : TE := fun σ H Q => ta σ H fun x H1 => ∃ c, x = .bl c /\ if c = true then tb σ H1 Q else Q (.bl false) H1
def tNotV (ta : TE) : TE := fun σ H Q => ta σ H fun x H1 => ∃ c, x = .bl c /\ Q (.bl (!c)) H1
theorem pe_one {op} (h : PE X a t) : PE X (.BoolOp op [a] pos) t := fun pins s σ H Q I hw => BoolOp_one (h pins s σ H Q I hw)
theorem pe_and (ha : PE X a ta) (hb : PE X (.BoolOp .And (b :: rest) pos) tb) : PE X (.BoolOp .And (a :: b :: rest) pos) (tAndV ta tb) := by
 intro pins s σ H Q I h
 refine BoolOp_and (thn (ha pins s σ H _ I h) fun v s1 ⟨x, H1, I1, r1, q1⟩ => ?_)
 obtain ⟨c, rfl, q1⟩ := q1
 cases r1
 refine wpAny_truthy_bool ?_
 cases c with
 | true => exact hb pins s1 σ H1 Q I1 q1
 | false => exact ⟨.bl false, H1, I1, rfl, q1⟩
theorem pe_not (ha : PE X a ta) : PE X (.UnaryOp .Not a pos) (tNotV ta) := by
 intro pins s σ H Q I h
 refine UnaryOp_ (thn (ha pins s σ H _ I h) fun v s1 ⟨x, H1, I1, r1, q1⟩ => ?_)
 obtain ⟨c, rfl, q1⟩ := q1
 cases r1
 exact not_of (wpAny_truthy_bool ⟨.bl (!c), H1, I1, rfl, q1⟩)
def tIf (t : TT) (ta tb : TE) : TE := fun σ H Q => t σ H fun c H1 => if c = true then ta σ H1 Q else tb σ H1 Q
theorem pe_ifExp (hc : PT X c tA) (ha : PE X a ta) (hb : PE X b tb) : PE X (.IfExp c a b pos) (tIf tA ta tb) := by
 intro pins s σ H Q I h
 refine wpAny_IfExp (thn (hc pins s σ H _ I h) fun d s1 ⟨H1, I1, q1⟩ => ?_)
 cases d with
 | true => exact ha pins s1 σ H1 Q I1 q1
 | false => exact hb pins s1 σ H1 Q I1 q1
end
def SqL (K : W.Frag) (H : Hp) (a : Addr) (xs : List V) : Prop :=
 Rd H a (.lst xs) \/
  ∃ (o : Obj) (its : Array Value) (n : Nat), K.lookup a = some o /\ o.cls = .type "list" /\ o.dict = none /\ o.data = .seq its n /\ its.size <= sizeLine /\ Vals xs its.toList
def SqT (K : W.Frag) (H : Hp) (a : Addr) (xs : List V) : Prop :=
 Rd H a (.tup xs) \/
  ∃ (o : Obj) (its : Array Value) (n : Nat), K.lookup a = some o /\ o.cls = .type "tuple" /\ o.data = .seq its n /\ its.size <= sizeLine /\ Vals xs its.toList
noncomputable def absV : Value -> Option V
 | .none => some .non
 | .bool b => some (.bl b)
 | .int i _ => some (.int i)
 | .str x _ => some (.str x)
 | .bytes b _ => some (.byt b)
 | .float b _ => some (.flt b)
 | .ref a => some (.ref a)
 | .type n => some (.ty n)
 | _ => none
theorem RelV.abs {x : V} (r : RelV x u) : absV u = some x := by
 cases x with
 | non => cases r; rfl
 | bl _ => cases r; rfl
 | int _ => obtain ⟨t, rfl⟩ := r; rfl
 | str _ => obtain ⟨t, rfl⟩ := r; rfl
 | byt _ => obtain ⟨t, rfl⟩ := r; rfl
 | flt _ => obtain ⟨t, rfl⟩ := r; rfl
 | ref _ => cases r; rfl
 | ty _ => cases r; rfl
theorem RelV.inj {x y : V} (r : RelV x u) (q : RelV y u) : x = y := Option.some.inj (r.abs.symm.trans q.abs)
theorem Vals.inj : ∀ {xs ys : List V} {us : List Value}, Vals xs us -> Vals ys us -> xs = ys
 | _, _, _, .nil, .nil => rfl
 | _, _, _, .cons r t, .cons r' t' => by rw [r.inj r', Vals.inj t t']
section
variable {X : Cx} {pins : List (Addr × Obj)} {σ : St} {H : Hp} {s : Shared} {a : Addr} {xs ys : List V}
theorem SqL.of (h : H a = some (.lst xs)) : SqL K H a xs := .inl (.inl h)
theorem SqT.of (h : H a = some (.tup xs)) : SqT K H a xs := .inl (.inl h)
theorem Inv.list (I : Inv X pins σ H s) (h : SqL X.K H a xs) : ∃ its : List Value, Vals xs its /\ PlainL s.heap a its.toArray /\ xs.length <= sizeLine := by
 rcases h with h | ⟨o, its, n, hk, hc, hd, hs, hz, r⟩
 ·obtain ⟨z, its, n, r, e⟩ := h.ok I.hok
  exact ⟨its, r, ⟨_, n, e, rfl, rfl, rfl⟩, z⟩
 ·refine ⟨its.toList, r, ⟨o, n, I.kIn a o hk, hc, hd, by simpa using hs⟩, ?_⟩
  have e := r.length
  simp only [Array.length_toList] at e
  omega
theorem Inv.tuple (I : Inv X pins σ H s) (h : SqT X.K H a xs) : ∃ its : List Value, Vals xs its /\ IsTup s.heap a its.toArray /\ xs.length <= sizeLine := by
 rcases h with h | ⟨o, its, n, hk, hc, hs, hz, r⟩
 ·obtain ⟨z, its, r, p⟩ := h.ok I.hok
  exact ⟨its, r, p, z⟩
 ·refine ⟨its.toList, r, ⟨o, I.kIn a o hk, hc, n, by simpa using hs⟩, ?_⟩
  have e := r.length
  simp only [Array.length_toList] at e
  omega
theorem Inv.list_inj (I : Inv X pins σ H s) (h : SqL X.K H a xs) (h' : SqL X.K H a ys) : xs = ys := by
 obtain ⟨its, r, ⟨o, n, e, _, _, d⟩, _⟩ := I.list h
 obtain ⟨its', r', ⟨o', n', e', _, _, d'⟩, _⟩ := I.list h'
 rw [e] at e'; cases e'
 rw [d] at d'
 injection d' with d1 _
 have : its = its' := by simpa using congrArg Array.toList d1
 subst this
 exact r.inj r'
theorem Inv.tuple_inj (I : Inv X pins σ H s) (h : SqT X.K H a xs) (h' : SqT X.K H a ys) : xs = ys := by
 obtain ⟨its, r, ⟨o, e, _, n, d⟩, _⟩ := I.tuple h
 obtain ⟨its', r', ⟨o', e', _, n', d'⟩, _⟩ := I.tuple h'
 rw [e] at e'; cases e'
 rw [d] at d'
 injection d' with d1 _
 have : its = its' := by simpa using congrArg Array.toList d1
 subst this
 exact r.inj r'
end
abbrev Cx.wish (X : Cx) (E : Value -> Shared -> Prop) : Cx := { X with xe := E }
abbrev Cx.nox (X : Cx) : Cx := X.wish fun _ _ => False
theorem Cx.Ok.wish (ok : X.Ok) (E : Value -> Shared -> Prop) : (X.wish E).Ok :=
 ⟨ok.mod, ok.kind, ok.glob, ok.blt, ok.above, ok.inj, ok.has, ok.cab, ok.hd, ok.frames, ok.stk, ok.exf, ok.bs, ok.bsz, ok.noex, ok.exfs, ok.funs, ok.frf⟩
theorem Cx.Ok.unwish (ok : (X.wish E).Ok) : X.Ok :=
 ⟨ok.mod, ok.kind, ok.glob, ok.blt, ok.above, ok.inj, ok.has, ok.cab, ok.hd, ok.frames, ok.stk, ok.exf, ok.bs, ok.bsz, ok.noex, ok.exfs, ok.funs, ok.frf⟩
section
variable {X : Cx} {pins : List (Addr × Obj)} {σ : St} {H : Hp} {s : Shared} {E : Value -> Shared -> Prop}
theorem Inv.wish (I : Inv X pins σ H s) (E : Value -> Shared -> Prop) : Inv (X.wish E) pins σ H s := ⟨I.ok.wish E, I.os, I.bare, I.base, I.loc, I.cell, I.free, I.freeC, I.pin, I.hok, I.len⟩
theorem Inv.unwish (I : Inv (X.wish E) pins σ H s) : Inv X pins σ H s := ⟨I.ok.unwish, I.os, I.bare, I.base, I.loc, I.cell, I.free, I.freeC, I.pin, I.hok, I.len⟩
theorem SP.unwish {D : Ends} {f : Flow} (h : SP (X.wish E) pins D f s') : SP X pins D f s' := by
 cases f with
 | next => obtain ⟨σ', H', I, q⟩ := h; exact ⟨σ', H', I.unwish, q⟩
 | brk => obtain ⟨σ', H', I, q⟩ := h; exact ⟨σ', H', I.unwish, q⟩
 | cont => obtain ⟨σ', H', I, q⟩ := h; exact ⟨σ', H', I.unwish, q⟩
 | ret u => obtain ⟨v, σ', H', I, r, q⟩ := h; exact ⟨v, σ', H', I.unwish, r, q⟩
theorem PSs.nox {st : List Stmt} {t : TS} (h : PSs X.nox st t) : PSs X st t := fun pins s σ H D I hw =>
 wpAny_mono (h pins s σ H D (I.wish _) hw) (fun _ _ q => q.unwish) fun _ _ z => False.elim z
end
section
variable {X : Cx} {st : Stmt} {rest : List Stmt} {t u : TS} {e : Expr} {te : TE} {pos : Pos}
def tNext : TS := fun D σ H => D.nx σ H
def tSeq (t u : TS) : TS := fun D σ H => t { D with nx := u D } σ H
theorem pss_nil : PSs X [] tNext := fun _ _ σ H _ I h => wpAny_execs_nil ⟨σ, H, I, h⟩
theorem pss_cons (h1 : PS X st t) (h2 : PSs X rest u) : PSs X (st :: rest) (tSeq t u) := by
 intro pins s σ H D I h
 refine wpAny_execs_cons (thn (h1 pins s σ H { D with nx := u D } I h) fun f s1 q => ?_)
 cases f with
 | next =>
  obtain ⟨σ', H', I', q⟩ := q
  exact h2 pins s1 σ' H' D I' q
 | ret v => exact q
 | brk => exact q
 | cont => exact q
theorem pss_one (h1 : PS X st t) : PSs X [st] t := by
 intro pins s σ H D I h
 refine wpAny_execs_cons (thn (h1 pins s σ H D I h) fun f s1 q => ?_)
 cases f with
 | next => exact wpAny_execs_nil q
 | ret v => exact q
 | brk => exact q
 | cont => exact q
theorem Inv.quiet (I : Inv X pins σ H s) : interactive X.env = false := by simp [interactive, I.ok.kind]
def tDrop (te : TE) : TS := fun D σ H => te σ H fun _ H1 => D.nx σ H1
theorem zpW (he : PE X e te) (hs : swapsWith e none pos.line X.env = pure false := by rfl) : PS X (.Expr e pos) (tDrop te) := by
 intro pins s σ H D I h
 exact wpAny_Expr_any (thn (he pins s σ H _ I h) fun v s1 ⟨x, H1, I1, r1, q1⟩ => ⟨σ, H1, I1, q1⟩) I.quiet hs
def tRet (te : TE) : TS := fun D σ H => te σ H D.rt
theorem zo9 (he : PE X e te) : PS X (.Return (some e) pos) (tRet te) := by
 intro pins s σ H D I h
 exact wpAny_Return_some (thn (he pins s σ H _ I h) fun v s1 ⟨x, H1, I1, r1, q1⟩ => ⟨x, σ, H1, I1, r1, q1⟩)
def tIfS (c : TT) (t u : TS) : TS := fun D σ H => c σ H fun b H1 => if b = true then t D σ H1 else u D σ H1
theorem ps_if {a b : List Stmt} (hc : PT X c tc) (ha : PSs X a t) (hb : PSs X b u) : PS X (.If c a b pos) (tIfS tc t u) := by
 intro pins s σ H D I h
 refine wpAny_If (thn (hc pins s σ H _ I h) fun d s1 ⟨H1, I1, q1⟩ => ?_)
 cases d with
 | true => exact ha pins s1 σ H1 D I1 q1
 | false => exact hb pins s1 σ H1 D I1 q1
def tNever : TS := fun _ _ _ => False
theorem ps_never : PS X st tNever := fun _ _ _ _ _ _ h => h.elim
end
abbrev TG := V -> St -> Hp -> (St -> Hp -> Prop) -> Prop
abbrev TGs := List V -> St -> Hp -> (St -> Hp -> Prop) -> Prop
def PG (X : Cx) (target : Expr) (t : TG) : Prop :=
 ∀ (pins : List (Addr × Obj)) (s : Shared) (σ : St) (H : Hp) (v : V) (u : Value) (Q : St -> Hp -> Prop), Inv X pins σ H s -> RelV v u -> t v σ H Q ->
  wpAny (model X.prog X.w) X.A (assign target X.env u) (fun _ s' => ∃ σ' H', Inv X pins σ' H' s' /\ Q σ' H') X.xe s
def PGs (X : Cx) (ts : List Expr) (t : TGs) : Prop :=
 ∀ (pins : List (Addr × Obj)) (s : Shared) (σ : St) (H : Hp) (vs : List V) (us : List Value) (Q : St -> Hp -> Prop), Inv X pins σ H s -> Vals vs us -> t vs σ H Q ->
  wpAny (model X.prog X.w) X.A (assignInOrder ((assignEach ts X.env).map (·.2)) us) (fun _ s' => ∃ σ' H', Inv X pins σ' H' s' /\ Q σ' H') X.xe s
abbrev TSet := V -> V -> V -> Hp -> (Hp -> Prop) -> Prop
def PSet (X : Cx) (t : TSet) : Prop :=
 ∀ (pins : List (Addr × Obj)) (s : Shared) (σ : St) (H : Hp) (o i v : V) (ov iv u : Value) (Q : Hp -> Prop), Inv X pins σ H s -> RelV o ov -> RelV i iv -> RelV v u -> t o i v H Q ->
  wpAny (model X.prog X.w) X.A (setItem ov iv u) (fun _ s' => ∃ H', Inv X pins σ H' s' /\ Q H') X.xe s
abbrev TIp := V -> V -> Hp -> VK -> Prop
def PIp (X : Cx) (op : Operator) (t : TIp) : Prop :=
 ∀ (pins : List (Addr × Obj)) (s : Shared) (σ : St) (H : Hp) (x y : V) (v u : Value) (Q : VK), Inv X pins σ H s -> RelV x v -> RelV y u -> t x y H Q ->
  wpAny (model X.prog X.w) X.A (inplaceOp op v u) (EP X pins σ Q) X.xe s
section
variable {X : Cx} {pos : Pos}
def gName (i : Nat) : TG := fun v σ H Q => Q (σ.set i (some v)) H
theorem zok (hN : X.N.Nodup) (hi : X.N[i]? = some x) (hx : Loc X.env.scope x) (hf : X.fn x = true \/ X.env.scope.names.lookup x = some .local := by first | exact .inl rfl | exact .inr rfl | assumption) : PG X (.Name x pos) (gName i) := by
  intro pins s σ H v u Q I r h
  exact wpAny_assign_Name (zhJ I hN hi hx r (fun s' I' => ⟨_, H, I', h⟩) hf)
def gNil : TGs := fun vs σ H Q => vs = [] /\ Q σ H
def gCons (t : TG) (u : TGs) : TGs := fun vs σ H Q => ∃ v r, vs = v :: r /\ t v σ H fun σ' H' => u r σ' H' Q
theorem pgs_nil : PGs X [] gNil := by
 intro pins s σ H vs us Q I r h
 obtain ⟨e, h⟩ := h
 subst e
 cases r
 exact assignInOrder_nil ⟨σ, H, I, h⟩
theorem pgs_cons {t : TG} {u : TGs} (h1 : PG X e t) (h2 : PGs X es u)
  (hs : (assignEach (e :: es) X.env).map (·.2) = assign e X.env :: (assignEach es X.env).map (·.2) := by rfl) : PGs X (e :: es) (gCons t u) := by
 intro pins s σ H vs us Q I r h
 obtain ⟨v, vr, e1, h⟩ := h
 subst e1
 cases r with
 | cons r rr =>
  rw [hs]
  refine assignInOrder_cons (thn (h1 pins s σ H _ _ _ I r h) fun _ s1 ⟨σ1, H1, I1, q1⟩ => ?_)
  exact h2 pins s1 σ1 H1 _ _ Q I1 rr q1
def gTup (K : W.Frag) (n : Nat) (t : TGs) : TG := fun v σ H Q => ∃ a xs, v = .ref a /\ SqT K H a xs /\ xs.length = n /\ t xs σ H Q
theorem pg_tup {k : Nat} {t : TGs} (hc : X.calm = true) (h : PGs X es t)
  (hn : (assignEach es X.env).length = n := by rfl) (hst : (assignEach es X.env).findIdx? (·.1) = none := by rfl) : PG X (.Tuple es k pos) (gTup X.K n t) := by
 intro pins s σ H v u Q I r hw
 obtain ⟨a, xs, e1, hq, hl, hw⟩ := hw
 subst e1
 cases r
 obtain ⟨its, rv, ht, hz⟩ := I.tuple hq
 refine assign_Tuple_tuple (I.ok.hd hc) ht (by simp [hn, <- hl, rv.length]) hst fun h' hx => ?_
 have I1 : Inv X pins σ H { s with heap := h' } := I.kept (t' := s.toks) fun b o e => hx b o (Nat.ne_of_lt (Heap.lt_size e)) e
 exact h pins _ σ H xs _ Q I1 (by simpa using rv) hw
def gSub (to ti : TE) (t : TSet) : TG := fun v σ H Q => to σ H fun o H1 => ti σ H1 fun i H2 => t o i v H2 fun H3 => Q σ H3
theorem pg_sub {o i : Expr} {to ti : TE} {t : TSet} (ho : PE X o to) (hi : PE X i ti) (hs : PSet X t)
    (ha : ∀ v, assign (.Subscript o i pos) X.env v = (do
      let ov <- holding [v] (eval o X.env)
      let iv <- holding [v, ov] (eval i X.env)
      standAt pos
      holding [v, ov, iv] (setItem ov iv v)
      release [v, ov, iv] []) := by intro _; rfl) : PG X (.Subscript o i pos) (gSub to ti t) := by
  intro pins s σ H v u Q I r h
  rw [ha]
  refine wpAny_bind (wpAny_holding (thn (ho pins s σ H _ I h) fun ov s1 ⟨x, H1, I1, r1, q1⟩ => ?_))
  refine wpAny_bind (wpAny_holding (thn (hi pins s1 σ H1 _ I1 q1) fun iv s2 ⟨y, H2, I2, r2, q2⟩ => ?_))
  refine wpAny_bind (wpAny_standAt (wpAny_bind (wpAny_holding (thn (hs pins s2 σ H2 x y v ov iv u _ I2 r1 r2 r q2) fun _ s3 ⟨H3, I3, q3⟩ => ?_))))
  exact wpAny_release ⟨σ, H3, I3, q3⟩
def tAsg (te : TE) (g : TG) : TS := fun D σ H => te σ H fun x H1 => g x σ H1 D.nx
theorem ps_asg {g : TG} (he : PE X e te) (hg : PG X tg g) (hs : swapsWithSole [tg] e pos.line X.env = pure false := by rfl) (hw : swappedStores [tg] e X.env = pure none := by rfl)
  (h1 : (assignEach [tg] X.env).map (·.2) = [assign tg X.env] := by rfl) : PS X (.Assign [tg] e pos) (tAsg te g) := by
 intro pins s σ H D I h
 refine wpAny_Assign_stores (thn (he pins s σ H _ I h) fun v s1 ⟨x, H1, I1, r1, q1⟩ => ?_) hs hw
 rw [h1]
 exact thn (hg pins s1 σ H1 x v _ I1 r1 q1) fun _ s2 q => q
theorem zpc (hN : X.N.Nodup) (hi : X.N[i]? = some x) (hx : Loc X.env.scope x) (he : PE X e te) (hs : swapsWith e (some (.Name x pos')) pos.line X.env = pure false := by rfl) (hf : X.fn x = true \/ X.env.scope.names.lookup x = some .local := by first | exact .inl rfl | exact .inr rfl | assumption) :
  PS X (.Assign [.Name x pos'] e pos) (tAsg te (gName i)) := by
 intro pins s σ H D I h
 refine wpAny_Assign_Name (thn (he pins s σ H _ I h) fun v s1 ⟨y, H1, I1, r1, q1⟩ => ?_) hs
 exact zhJ I1 hN hi hx r1 (fun s2 I2 => ⟨_, H1, I2, q1⟩) hf
def tPar (i j : Nat) (ta : TA) : TS := fun D σ H => ta σ H fun vs H1 => ∃ v w, vs = [v, w] /\ D.nx ((σ.set i (some v)).set j (some w)) H1
theorem ps_par {x y : Str} {a b : Expr} {px py pt : Pos} {kt k2 pt2} (hc : X.calm = true) (hN : X.N.Nodup) (hi : X.N[i]? = some x) (hj : X.N[j]? = some y) (hij : i ≠ j)
  (hx : X.env.scope.names.lookup x = some .local) (hy : X.env.scope.names.lookup y = some .local) (ha : PA X [a, b] ta)
  (hw : swappedStores [.Tuple [.Name x px, .Name y py] kt pt] (.Tuple [a, b] k2 pt2) X.env = pure (some [x, y]))
  (hs : swapsWithSole [.Tuple [.Name x px, .Name y py] kt pt] (.Tuple [a, b] k2 pt2) pos.line X.env = pure false := by rfl) :
  PS X (.Assign [.Tuple [.Name x px, .Name y py] kt pt] (.Tuple [a, b] k2 pt2) pos) (tPar i j ta) := by
 intro pins s σ H D I h
 rw [exec_Assign_arm]
 refine wpAny_bind (wpAny_standAt ?_)
 rw [hs]
 refine wpAny_bind (wpAny_pure ?_)
 rw [if_neg (by decide)]
 refine wpAny_bind (Tuple_ (thn (ha _ pins s σ H _ I h) fun us s1 ⟨vs, H1, I1, r1, q1⟩ => ?_))
 obtain ⟨v, w, e1, q1⟩ := q1
 subst e1
 obtain ⟨u1, u2, rfl, rv, rw'⟩ : ∃ u1 u2, us = [u1, u2] /\ RelV v u1 /\ RelV w u2 := by
  cases r1 with
  | cons p q =>
   cases q with
   | cons p' q' =>
    cases q'
    exact ⟨_, _, rfl, p, p'⟩
 refine wpAny_newObj_type ?_ (by show 2 <= sizeLine; decide)
 have I2 : Inv X pins σ H1 { s1 with heap := s1.heap.push { cls := .type "tuple", data := .seq [u1, u2].toArray } } := I1.kept (t' := s1.toks) fun b o e => Heap.get?_push_of_some _ e
 rw [hw]
 refine wpAny_bind (wpAny_pure ?_)
 show wpAny (model X.prog X.w) X.A (do rule "assign.swapped-stores"; let items <- unpackItems (.ref s1.heap.objs.size) 2 none; assignInOrder [fun v => bindName X.env y v, fun v => bindName X.env x v] items.reverse; pure Flow.next) _ _ _
 refine wpAny_bind (wpAny_rule (wpAny_bind (unpackItems_tuple (items := #[u1, u2]) (I.ok.hd hc) (IsTup.new s1.heap _) fun h' hx' => ?_)))
 have I3 := I2.kept (h' := h') (t' := s1.toks) fun b o e => hx' b o (Nat.ne_of_lt (Heap.lt_size e)) e
 show wpAny _ _ (assignInOrder [fun v => bindName X.env y v, fun v => bindName X.env x v] [u2, u1] >>= fun _ => pure Flow.next) _ _ _
 refine wpAny_bind (assignInOrder_cons (wpAny_bindName (zhJ I3 hN hj (.inl hy) rw' (fun s2 I4 => ?_) (.inr hy))))
 refine assignInOrder_cons (wpAny_bindName (zhJ I4 hN hi (.inl hx) rv (fun s3 I5 => assignInOrder_nil (wpAny_pure ?_)) (.inr hx)))
 rw [List.set_comm _ _ (Ne.symm hij)] at I5
 exact ⟨_, H1, I5, q1⟩
def tAug (i : Nat) (te : TE) (ti : TIp) : TS := fun D σ H => ∃ x, σ[i]? = some (some x) /\ te σ H fun y H1 => ti x y H1 fun z H2 => D.nx (σ.set i (some z)) H2
theorem ps_aug {op : Operator} {ti : TIp} (hN : X.N.Nodup) (hi : X.N[i]? = some x) (hx : Loc X.env.scope x) (he : PE X e te) (ho : PIp X op ti) (hf : X.fn x = true \/ X.env.scope.names.lookup x = some .local := by first | exact .inl rfl | exact .inr rfl | assumption) :
  PS X (.AugAssign (.Name x pos') op e pos) (tAug i te ti) := by
 intro pins s σ H D I h
 obtain ⟨v, e1, h⟩ := h
 obtain ⟨m, hn, hl⟩ := I.loc
 have vis : Vis X.env.scope x := by rcases hx with k | k; exact .inl k; exact .inr (.inl k)
 obtain ⟨u, r, l⟩ := hl i x v hi e1 vis
 refine wpAny_AugAssign_Name ?_
 have go : wpAny (model X.prog X.w) X.A (eval e X.env) (fun w s₂ => wpAny (model X.prog X.w) X.A (inplaceOp op u w) (fun r s₃ => wpAny (model X.prog X.w) X.A (storeName X.env x r) (fun _ => SP X pins D .next) X.xe s₃) X.xe s₂) X.xe s := by
  refine thn (he pins s σ H _ I h) fun w s1 ⟨y, H1, I1, r1, q1⟩ => ?_
  refine thn (ho pins s1 σ H1 v y u w _ I1 r r1 q1) fun z s2 ⟨zv, H2, I2, r2, q2⟩ => ?_
  exact zhJ I2 hN hi hx r2 (fun s3 I3 => ⟨_, H2, I3, q2⟩) hf
 rcases l with ⟨hk, hm⟩ | ⟨hk, c, hc, hcell⟩
 ·exact wpAny_loadName_local I.ok.kind hk hn hm go
 ·rcases hk with hk | hk
  ·exact wpAny_loadName_cell I.ok.kind hk hc hcell go
  ·rcases hx with k | k
   ·have : X.env.scope.names.lookup x = some .free := hk
    rw [k] at this; cases this
   ·have : X.env.scope.names.lookup x = some .free := hk
    rw [k] at this; cases this
def ipI (f : Int -> Int -> Int) : TIp := fun x y H Q => ∃ i j, x = .int i /\ y = .int j /\ Q (.int (f i j)) H
theorem ip_add : PIp X .Add (ipI fun i j => i + j) := by
 intro pins s σ H x y v u Q I r1 r2 h
 obtain ⟨i, j, e1, e2, q⟩ := h
 subst e1; subst e2
 obtain ⟨t, rfl⟩ := r1
 obtain ⟨t', rfl⟩ := r2
 exact iadd_int ⟨.int _, H, I.tok _, ⟨_, rfl⟩, q⟩
theorem ip_sub : PIp X .Sub (ipI fun i j => i - j) := by
 intro pins s σ H x y v u Q I r1 r2 h
 obtain ⟨i, j, e1, e2, q⟩ := h
 subst e1; subst e2
 obtain ⟨t, rfl⟩ := r1
 obtain ⟨t', rfl⟩ := r2
 exact isub_int ⟨.int _, H, I.tok _, ⟨_, rfl⟩, q⟩
end
section
variable {X : Cx} {pos : Pos}
def tWhile (c : TT) (tb : TS) : TS := fun D σ H => ∃ W : Nat -> St -> Hp -> Prop, (∃ m, W m σ H) /\ ∀ m σ H, W m σ H ->
 c σ H fun b H1 => if b = true then ∃ N : St -> Hp -> Prop, (∀ σ' H', N σ' H' -> ∃ m', m' < m /\ W m' σ' H') /\ tb { D with nx := N, ct := N, bk := D.nx } σ H1 else D.nx σ H1
theorem ps_while (hp : PassesOwn (model X.prog X.w) X.A X.env X.xe) (hc : PT X c tc) (hb : PSs X body tb) : PS X (.While c body [] pos) (tWhile tc tb) := by
 intro pins s σ H D I h
 obtain ⟨W, ⟨m0, w0⟩, turn⟩ := h
 refine wpAny_While (codeAny_whileLoop (fun n s' => ∃ σ' H', Inv X pins σ' H' s' /\ W n σ' H') ?_ m0 ⟨σ, H, I, w0⟩)
 rintro n s1 ⟨σ1, H1, I1, w1⟩
 refine wpAny_passesOwn hp (thn (hc pins s1 σ1 H1 _ I1 (turn n σ1 H1 w1)) fun b s2 ⟨H2, I2, q2⟩ => ?_)
 cases b with
 | true =>
  obtain ⟨N, hN, q2⟩ := q2
  rw [if_pos rfl]
  refine wpAny_passesOwn hp (thn (hb pins s2 σ1 H2 _ I2 q2) fun f s3 q3 => ?_)
  cases f with
  | next =>
   obtain ⟨σ3, H3, I3, n3⟩ := q3
   obtain ⟨m', hm, w3⟩ := hN σ3 H3 n3
   exact ⟨m', hm, σ3, H3, I3, w3⟩
  | cont =>
   obtain ⟨σ3, H3, I3, n3⟩ := q3
   obtain ⟨m', hm, w3⟩ := hN σ3 H3 n3
   exact ⟨m', hm, σ3, H3, I3, w3⟩
  | brk => exact q3
  | ret v => exact q3
 | false =>
  rw [if_neg Bool.false_ne_true]
  exact wpAny_execs_nil ⟨σ1, H2, I2, q2⟩
end
structure It where
 go : Nat -> Hp -> Prop
 yld : Nat -> Hp -> V -> Hp -> Prop
 stop : Nat -> Hp -> Prop
def FpOk (X : Cx) (pins : List (Addr × Obj)) (H : Hp) (b : Addr) : Prop :=
 H b = none /\ b ≠ X.env.locals /\ b ∉ X.fs /\ (b ∈ X.ex \/ X.s₀.heap.objs.size <= b) /\ (∀ x c, X.env.cells.lookup x = some c -> c ≠ b) /\ ∀ p ∈ X.pn ++ pins, p.1 ≠ b
theorem Inv.fpOk {H H' : Hp} (I : Inv X pins σ H s) (hb : s.heap.objs.size <= b) (hn : H' b = none) : FpOk X pins H' b := by
 refine ⟨hn, Nat.ne_of_gt (Nat.lt_of_lt_of_le I.lt hb), I.nofs hb, .inr (Nat.le_trans I.sz hb), fun x c e z => ?_, fun p hp z => ?_⟩
 ·obtain ⟨v, q⟩ := I.cell x c e
  exact absurd (Nat.lt_of_lt_of_le q.lt (by rw [z]; exact hb)) (Nat.lt_irrefl _)
 ·exact absurd (Nat.lt_of_lt_of_le (Heap.lt_size (I.pin p hp).1) (by rw [z]; exact hb)) (Nat.lt_irrefl _)
structure Turn (P : Program) (w : World) (K : W.Frag) (tg : Expr) (J : It) (fp : List Addr) (it : Addr) (tn : Nat -> Heap -> Prop) : Prop where
 mem : it ∈ fp
 obj : ∀ i h, tn i h -> ∀ b ∈ fp, ∃ o, h.get? b = some o /\ ∀ v, o.data ≠ .cell v
 keep : ∀ i h h', tn i h -> (∀ b ∈ fp, ∀ o, h.get? b = some o -> h'.get? b = some o) -> tn i h'
 item : ∀ (X : Cx), X.prog = P -> X.w = w -> X.K = K -> X.calm = true -> ∀ (i : Nat) (pins : List (Addr × Obj)) (s : Shared) (σ : St) (H : Hp) (E : Value -> Shared -> Prop), Inv X pins σ H s -> (∀ b ∈ fp, FpOk X pins H b) -> tn i s.heap -> J.go i H ->
  wpAny (model P w) X.A (pyNext (.ref it)) (fun r s1 => ∃ u, r = some u /\
   wpAny (model P w) X.A (letOwnedTupleGo tg (.ref it) u) (fun _ s2 => ∃ x H', Inv X pins σ H' s2 /\ RelV x u /\ J.yld i H x H' /\ tn (i + 1) s2.heap /\ ∀ b ∈ fp, H' b = none) E s1) E s
 done : ∀ (X : Cx), X.prog = P -> X.w = w -> X.K = K -> X.calm = true -> ∀ (i : Nat) (pins : List (Addr × Obj)) (s : Shared) (σ : St) (H : Hp) (E : Value -> Shared -> Prop), Inv X pins σ H s -> (∀ b ∈ fp, FpOk X pins H b) -> tn i s.heap -> J.stop i H ->
  wpAny (model P w) X.A (pyNext (.ref it)) (fun r s1 => r = none /\ Inv X pins σ H s1) E s
 self : ∀ (A : Around) (i : Nat) (s : Shared) (Q : Value -> Shared -> Prop) (E : Value -> Shared -> Prop), tn i s.heap -> Q (.ref it) s -> wpAny (model P w) A (pyIter (.ref it)) Q E s
abbrev TI := St -> Hp -> (It -> Hp -> Prop) -> Prop
def PIE (X : Cx) (pins : List (Addr × Obj)) (σ : St) (tg : Expr) (R : It -> Hp -> Prop) (itv : Value) (s2 : Shared) : Prop :=
 ∃ (it : Addr) (fp : List Addr) (tn : Nat -> Heap -> Prop) (J : It) (H' : Hp), itv = .ref it /\ Inv X pins σ H' s2 /\ Turn X.prog X.w X.K tg J fp it tn /\ tn 0 s2.heap /\ (∀ b ∈ fp, FpOk X pins H' b) /\ R J H'
def PI (X : Cx) (tg iter : Expr) (wi : TI) : Prop :=
 ∀ (pins : List (Addr × Obj)) (s : Shared) (σ : St) (H : Hp) (R : It -> Hp -> Prop), Inv X pins σ H s -> wi σ H R ->
  wpAny (model X.prog X.w) X.A (eval iter X.env) (fun v s1 => wpAny (model X.prog X.w) X.A (pyIter v) (PIE X pins σ tg R) X.xe s1) X.xe s
theorem zoG {M : Model} {o : Obj} {n : String} {vs : Array Value} (ho : s.heap.get? it = some o) (hc : o.cls = .type n) (hd : o.data = .fields vs)
    (hn : ["enumerate", "zip", "dict_itemiterator", "dict_reverseitemiterator", "odict_iterator", "itertools.zip_longest", "itertools.pairwise"].contains n = false) (hQ : Q () s) : wpAny M A (letOwnedTupleGo tg (.ref it) u) Q E s := by
  unfold letOwnedTupleGo
  cases tg <;> first
    | exact wpAny_pure hQ
    | (cases u <;> first
        | exact wpAny_pure hQ
        | (refine wpAny_bind (wpAny_load ho ?_)
           rw [hc, hd]
           show wpAny M A (if (["enumerate", "zip", "dict_itemiterator", "dict_reverseitemiterator", "odict_iterator", "itertools.zip_longest", "itertools.pairwise"].contains n && vs[0]? == some (rawInt _)) = true then _ else _) Q E s
           rw [if_neg (by intro h; rw [hn, Bool.false_and] at h; cases h)]
           exact wpAny_pure hQ))
def Itl (K : W.Frag) (a : Addr) : It :=
 ⟨fun i H => ∃ xs x, SqL K H a xs /\ xs[i]? = some x, fun i H x H' => H' = H /\ ∀ xs, SqL K H a xs -> xs[i]? = some x, fun i H => ∃ xs, SqL K H a xs /\ xs.length <= i⟩
def Itt (K : W.Frag) (a : Addr) : It :=
 ⟨fun i H => ∃ xs x, SqT K H a xs /\ xs[i]? = some x, fun i H x H' => H' = H /\ ∀ xs, SqT K H a xs -> xs[i]? = some x, fun i H => ∃ xs, SqT K H a xs /\ xs.length <= i⟩
def Itr (lo : Int) (n : Nat) : It := ⟨fun i _ => i < n, fun i H x H' => H' = H /\ x = .int (lo + i), fun i _ => n <= i⟩
theorem zpo {P : Program} (a it : Addr) : Turn P w K tg (Itl K a) [it] it (fun i h => h.IsListIter it a i) where
 mem := by simp
 obj := fun i h st b hb => by
  have e : b = it := by simpa using hb
  subst e
  obtain ⟨o, e, c, d⟩ := st
  exact ⟨o, e, fun v z => by rw [d] at z; cases z⟩
 keep := fun i h h' st k => st.at fun o e => k it (by simp) o e
 item := by
  intro X hP hw hK hc i pins s σ H E I hf st hg
  subst hP hw hK
  obtain ⟨xs, x, hq, hx⟩ := hg
  obtain ⟨its, rv, p, hz⟩ := I.list hq
  obtain ⟨u, hu, ru⟩ := rv.get hx
  obtain ⟨f0, f1, f2, f3, f4, f5⟩ := hf it (by simp)
  refine wpAny_pyNext_list_item st p.isList (x := u) (by simpa using hu) fun h' st' sb => ?_
  have I1 : Inv X pins σ H { s with heap := h' } := I.turned (t' := s.toks) (fun b o hb e => (sb.2 b hb).trans e) f0 f1 f3 f4 f5
  obtain ⟨o, e, c, d⟩ := id st'
  exact ⟨u, rfl, zoG (s := { s with heap := h' }) e c d (by decide) ⟨x, H, I1, ru, ⟨rfl, fun ys hy => by rw [I.list_inj hy hq]; exact hx⟩, st', fun b hb => (hf b hb).1⟩⟩
 done := by
  intro X hP hw hK hc i pins s σ H E I hf st hg
  subst hP hw hK
  obtain ⟨xs, hq, hx⟩ := hg
  obtain ⟨its, rv, p, hz⟩ := I.list hq
  obtain ⟨f0, f1, f2, f3, f4, f5⟩ := hf it (by simp)
  have hl := rv.length
  exact wpAny_pyNext_list_end (I.ok.hd hc) st p.isList (by simp; omega) fun h' eb => ⟨rfl, I.turned (t' := s.toks) (fun b o hb e => eb b o hb e) f0 f1 f3 f4 f5⟩
 self := fun _ _ _ _ _ st h => wpAny_pyIter_listiter st h
theorem znS {P : Program} (a it : Addr) : Turn P w K tg (Itt K a) [it] it (fun i h => h.IsTupleIter it a i) where
 mem := by simp
 obj := fun i h st b hb => by
  have e : b = it := by simpa using hb
  subst e
  obtain ⟨o, e, c, d⟩ := st
  exact ⟨o, e, fun v z => by rw [d] at z; cases z⟩
 keep := fun i h h' st k => st.at fun o e => k it (by simp) o e
 item := by
  intro X hP hw hK hc i pins s σ H E I hf st hg
  subst hP hw hK
  obtain ⟨xs, x, hq, hx⟩ := hg
  obtain ⟨its, rv, p, hz⟩ := I.tuple hq
  obtain ⟨u, hu, ru⟩ := rv.get hx
  obtain ⟨f0, f1, f2, f3, f4, f5⟩ := hf it (by simp)
  refine wpAny_pyNext_tuple_item st (show s.heap.IsTuple a its.toArray from p) (x := u) (by simpa using hu) fun h' st' sb => ?_
  have I1 : Inv X pins σ H { s with heap := h' } := I.turned (t' := s.toks) (fun b o hb e => (sb.2 b hb).trans e) f0 f1 f3 f4 f5
  obtain ⟨o, e, c, d⟩ := id st'
  exact ⟨u, rfl, zoG (s := { s with heap := h' }) e c d (by decide) ⟨x, H, I1, ru, ⟨rfl, fun ys hy => by rw [I.tuple_inj hy hq]; exact hx⟩, st', fun b hb => (hf b hb).1⟩⟩
 done := by
  intro X hP hw hK hc i pins s σ H E I hf st hg
  subst hP hw hK
  obtain ⟨xs, hq, hx⟩ := hg
  obtain ⟨its, rv, p, hz⟩ := I.tuple hq
  obtain ⟨f0, f1, f2, f3, f4, f5⟩ := hf it (by simp)
  have hl := rv.length
  exact wpAny_pyNext_tuple_end (I.ok.hd hc) st (show s.heap.IsTuple a its.toArray from p) (by simp; omega) fun h' eb => ⟨rfl, I.turned (t' := s.toks) (fun b o hb e => eb b o hb e) f0 f1 f3 f4 f5⟩
 self := fun _ _ _ _ _ st h => wpAny_pyIter_tupleiter st h
theorem zjG {P : Program} {w : World} (it : Addr) (lo : Int) (n : Nat) : Turn P w K tg (Itr lo n) [it] it (fun i h => IsRangeIter h it (lo + (i : Nat) * 1) ((n : Int) - (i : Nat)) 1) where
 mem := by simp
 obj := fun i h st b hb => by
  have e : b = it := by simpa using hb
  subst e
  exact ⟨_, st, fun v z => by
   have z' : Data.fields _ = Data.cell v := z
   cases z'⟩
 keep := fun i h h' st k => k it (by simp) _ st
 item := by
  intro X hP hw hK hc i pins s σ H E I hf st hg
  subst hP hw hK
  obtain ⟨f0, f1, f2, f3, f4, f5⟩ := hf it (by simp)
  have W := Walks.range (prog := X.prog) (w := X.w) (I.ok.hd hc) it lo 1 n
  refine W.item i s _ _ hg st fun v h' tk hv st' kk => ?_
  obtain ⟨t, rfl⟩ := hv
  have I1 : Inv X pins σ H { s with heap := h', toks := tk } := I.turned (fun b o hb e => kk b o (by simpa using hb) e) f0 f1 f3 f4 f5
  refine ⟨_, rfl, zoG (s := { s with heap := h', toks := tk }) (n := "range_iterator") st' rfl rfl (by decide) ⟨.int (lo + i), H, I1, ⟨t, ?_⟩, ⟨rfl, rfl⟩, st', fun b hb => (hf b hb).1⟩⟩
  rw [Int.mul_one]
 done := by
  intro X hP hw hK hc i pins s σ H E I hf st hg
  subst hP hw hK
  obtain ⟨f0, f1, f2, f3, f4, f5⟩ := hf it (by simp)
  exact wpAny_pyNext_range_end (I.ok.hd hc) st (by have : n <= i := hg; omega) fun h' eb => ⟨rfl, I.turned (t' := s.toks) (fun b o hb e => eb b o hb e) f0 f1 f3 f4 f5⟩
 self := fun _ _ _ _ _ st h => wpAny_pyIter_rangeiter st h
section
variable {X : Cx} {tg : Expr}
theorem zmD {R : It -> Hp -> Prop} {lo hi : Int} {t u v : Tok} {tk : Nat} (I : Inv X pins σ H s) (h1 : -(2 ^ 62) <= lo) (h2 : lo < 2 ^ 62) (h3 : -(2 ^ 62) <= hi) (h4 : hi < 2 ^ 62)
  (q : R (Itr lo (hi - lo).toNat) H) : wpAny (model X.prog X.w) X.A (pyIter (.ref s.heap.objs.size)) (PIE X pins σ tg R) E { s with heap := s.heap.push { cls := .type "range", data := .fields #[.int lo t, .int hi u, .int 1 v] }, toks := tk } := by
 refine wpAny_pyIter_range (IsRange.new ..) (small_one h1 h2 h3 h4) ?_
 have I1 : Inv X pins σ H { s with heap := s.heap.push { cls := .type "range", data := .fields #[.int lo t, .int hi u, .int 1 v] }, toks := tk } := I.kept fun b o e => Heap.get?_push_of_some _ e
 refine ⟨(s.heap.push { cls := .type "range", data := .fields #[.int lo t, .int hi u, .int 1 v] }).objs.size, [(s.heap.push { cls := .type "range", data := .fields #[.int lo t, .int hi u, .int 1 v] }).objs.size], _, _, H, rfl,
  I1.kept (t' := tk) fun b o e => Heap.get?_push_of_some _ e, zjG _ lo (hi - lo).toNat, ?_, fun b hb => ?_, q⟩
 ·have e1 : lo + ((0 : Nat) : Int) * 1 = lo := by simp
  have e2 : (((hi - lo).toNat : Nat) : Int) - ((0 : Nat) : Int) = Builtin.Range.rangeSize lo hi 1 := by rw [rangeSize_one]; split <;> omega
  show IsRangeIter _ _ (lo + ((0 : Nat) : Int) * 1) ((((hi - lo).toNat : Nat) : Int) - ((0 : Nat) : Int)) 1
  rw [e1, e2]
  exact Heap.get?_push_size _ rfl
 ·have e : b = (s.heap.push { cls := .type "range", data := .fields #[.int lo t, .int hi u, .int 1 v] }).objs.size := by simpa using hb
  subst e
  exact I1.fpOk (Nat.le_refl _) (I1.hok.fresh (Nat.le_refl _))
def iRng1 (ta : TA) : TI := fun σ H R => ta σ H fun vs H1 => ∃ j : Int, vs = [.int j] /\ -(2 ^ 62) <= j /\ j < 2 ^ 62 /\ R (Itr 0 j.toNat) H1
def iRng2 (ta : TA) : TI := fun σ H R => ta σ H fun vs H1 => ∃ i j : Int, vs = [.int i, .int j] /\ (-(2 ^ 62) <= i /\ i < 2 ^ 62 /\ -(2 ^ 62) <= j /\ j < 2 ^ 62) /\ R (Itr i (j - i).toNat) H1
theorem zoo {a : Expr} {p pos : Pos} (hg : Gl X "range") (hm : X.mg "range" = none) (ha : PA X [a] ta) (hs : starEach [a] X.env = [(false, eval a X.env)] := by rfl) : PI X tg (.Call (.Name "range" p) [a] [] pos) (iRng1 ta) := by
 intro pins s σ H R I h
 refine Call_ (zgX I hg hm boot_range (PyProof.Rows.callWith_type1 (thn (ha pos pins s σ H _ I h) fun us s1 ⟨vs, H1, I1, r1, q1⟩ => ?_) hs rfl))
 obtain ⟨j, e, q1, q2, q⟩ := q1
 subst e
 cases r1 with
 | cons r rr =>
  cases rr
  obtain ⟨t, rfl⟩ := r
  exact call_range_1 (zmD I1 (by omega) (by omega) q1 q2 (by simpa using q))
theorem zn6 {a b : Expr} {p pos : Pos} (hg : Gl X "range") (hm : X.mg "range" = none) (ha : PA X [a, b] ta) (hs : starEach [a, b] X.env = [(false, eval a X.env), (false, eval b X.env)] := by rfl) (hs2 : starEach [b] X.env = [(false, eval b X.env)] := by rfl) :
  PI X tg (.Call (.Name "range" p) [a, b] [] pos) (iRng2 ta) := by
 intro pins s σ H R I h
 refine Call_ (zgX I hg hm boot_range (PyProof.Rows.callWith_type1 (thn (ha pos pins s σ H _ I h) fun us s1 ⟨vs, H1, I1, r1, q1⟩ => ?_) (by rw [hs, hs2]) (by rw [hs2]; rfl)))
 obtain ⟨i, j, e, ⟨q1, q2, q3, q4⟩, q⟩ := q1
 subst e
 cases r1 with
 | cons r rr =>
  cases rr with
  | cons r' rr =>
   cases rr
   obtain ⟨t, rfl⟩ := r
   obtain ⟨t', rfl⟩ := r'
   exact call_range_2 (zmD I1 q1 q2 q3 q4 q)
def tFor (wi : TI) (g : TG) (tb : TS) : TS := fun D σ H => wi σ H fun J H1 => ∃ W : Nat -> Nat -> St -> Hp -> Prop, (∃ m, W 0 m σ H1) /\ ∀ i m σ H, W i m σ H ->
 (J.stop i H /\ D.nx σ H) \/ (J.go i H /\ ∃ N : St -> Hp -> Prop, (∀ σ' H', N σ' H' -> ∃ m', m' < m /\ W (i + 1) m' σ' H') /\ ∀ x H', J.yld i H x H' -> g x σ H' fun σ2 H2 => tb { D with nx := N, ct := N, bk := D.nx } σ2 H2)
def zkZ (fp : List Addr) (h : Heap) : List (Addr × Obj) := fp.filterMap fun b => (h.get? b).map fun o => (b, o)
theorem zgA {o : Obj} (hb : b ∈ fp) (e : h.get? b = some o) : (b, o) ∈ zkZ fp h := List.mem_filterMap.mpr ⟨b, hb, by rw [e]; rfl⟩
theorem zor (hp : p ∈ zkZ fp h) : p.1 ∈ fp /\ h.get? p.1 = some p.2 := by
 obtain ⟨b, hb, e⟩ := List.mem_filterMap.mp hp
 cases q : h.get? b with
 | none => rw [q] at e; cases e
 | some o =>
  rw [q] at e
  have e' : (b, o) = p := Option.some.inj e
  subst e'
  exact ⟨hb, q⟩
theorem Inv.pinned (I : Inv X pins σ H s) (hf : ∀ b ∈ fp, FpOk X pins H b) (ho : ∀ b ∈ fp, ∃ o, s.heap.get? b = some o /\ ∀ v, o.data ≠ .cell v) : Inv X (pins ++ zkZ fp s.heap) σ H s :=
 I.pins_of fun p hp => (List.mem_append.mp hp).elim (fun z => I.pin p (List.mem_append_right _ z)) fun z => by
  obtain ⟨hb, e⟩ := zor z
  obtain ⟨f0, f1, f2, _⟩ := hf p.1 hb
  obtain ⟨o, e', d⟩ := ho p.1 hb
  rw [e] at e'; cases e'
  exact ⟨e, f0, f1, f2, d⟩
theorem Inv.unpinned {pins pl : List (Addr × Obj)} (I : Inv X (pins ++ pl) σ H s) : Inv X pins σ H s := I.pins_of fun p hp => I.pin p (List.mem_append_right _ (List.mem_append_left _ hp))
theorem ps_for {iter : Expr} {wi : TI} {g : TG} (hp : PassesOwn (model X.prog X.w) X.A X.env X.xe) (hc : X.calm = true) (hi : PI X tg iter wi) (hg : PG X tg g) (hb : PSs X body tb)
    (hs : ∀ x, foldedSetIterable iter X.env x = pure x := by intro _; rfl) : PS X (.For tg iter body [] pos) (tFor wi g tb) := by
  intro pins s σ H D I h
  refine wpAny_For (thn (hi pins s σ H _ I h) fun v s1 h1 => thn h1 fun itv s2 h2 => ?_) hs
  obtain ⟨it, fp, tn, J, H2, e, I2, T, st2, f2, W, ⟨m0, w0⟩, turn⟩ := h2
  subst e
  have stat : ∀ {H' : Hp}, (∀ b ∈ fp, H' b = none) -> ∀ b ∈ fp, FpOk X pins H' b := fun hn b hb => ⟨hn b hb, (f2 b hb).2⟩
  refine codeAny_forLoop_any (fun n s' => ∃ i σ' H', Inv X pins σ' H' s' /\ tn i s'.heap /\ (∀ b ∈ fp, H' b = none) /\ W i n σ' H') ?_ m0 ⟨0, σ, H2, I2, st2, fun b hb => (f2 b hb).1, w0⟩
  rintro n s3 ⟨i, σ3, H3, I3, st3, fr3, w3⟩
  rcases turn i n σ3 H3 w3 with ⟨stop, qn⟩ | ⟨go, N, hN, step⟩
  . refine wpAny_passesOwn hp (thn (T.done X rfl rfl rfl hc i pins s3 σ3 H3 X.xe I3 (stat fr3) st3 stop) fun r s4 ⟨hr, I4⟩ => ?_)
    subst hr
    exact wpAny_execs_nil ⟨σ3, H3, I4, qn⟩
  . refine wpAny_passesOwn hp (thn (T.item X rfl rfl rfl hc i pins s3 σ3 H3 X.xe I3 (stat fr3) st3 go) fun r s4 ⟨u, hr, h4⟩ => ?_)
    subst hr
    refine wpAny_passesOwn hp (thn h4 fun _ s5 ⟨x, H5, I5, r5, y5, st5, fr5⟩ => ?_)
    have I5' := I5.pinned (stat fr5) (T.obj _ _ st5)
    refine wpAny_passesOwn hp (thn (hg _ s5 σ3 H5 x u _ I5' r5 (step x H5 y5)) fun _ s6 ⟨σ6, H6, I6, q6⟩ => ?_)
    refine wpAny_passesOwn hp (thn (hb _ s6 σ6 H6 _ I6 q6) fun f s7 q7 => ?_)
    have again : ∀ {σ7 : St} {H7 : Hp}, Inv X (pins ++ zkZ fp s5.heap) σ7 H7 s7 -> N σ7 H7 -> ∃ m, m < n /\ ∃ i σ' H', Inv X pins σ' H' s7 /\ tn i s7.heap /\ (∀ b ∈ fp, H' b = none) /\ W i m σ' H' := fun {σ7 H7} I7 n7 => by
      obtain ⟨m', hm, w7⟩ := hN σ7 H7 n7
      refine ⟨m', hm, i + 1, σ7, H7, I7.unpinned, T.keep _ _ _ st5 fun b hb o e => (I7.pin (b, o) (List.mem_append_right _ (List.mem_append_right _ (zgA hb e)))).1, fun b hb => ?_, w7⟩
      obtain ⟨o, e, d⟩ := T.obj _ _ st5 b hb
      exact (I7.pin (b, o) (List.mem_append_right _ (List.mem_append_right _ (zgA hb e)))).2.1
    cases f with
    | next => obtain ⟨σ7, H7, I7, n7⟩ := q7; exact again I7 n7
    | cont => obtain ⟨σ7, H7, I7, n7⟩ := q7; exact again I7 n7
    | brk => obtain ⟨σ7, H7, I7, q7⟩ := q7; exact ⟨σ7, H7, I7.unpinned, q7⟩
    | ret v => obtain ⟨x7, σ7, H7, I7, r7, q7⟩ := q7; exact ⟨x7, σ7, H7, I7.unpinned, r7, q7⟩
end
abbrev R2 := V -> V -> Hp -> VK -> Prop
def OpR (X : Cx) (f : Value -> Value -> Sem Value) (r : R2) : Prop :=
 ∀ (pins : List (Addr × Obj)) (s : Shared) (σ : St) (H : Hp) (x y : V) (v u : Value) (Q : VK), Inv X pins σ H s -> RelV x v -> RelV y u -> r x y H Q ->
  wpAny (model X.prog X.w) X.A (f v u) (EP X pins σ Q) X.xe s
def UnR (X : Cx) (f : Value -> Sem Value) (r : V -> Hp -> VK -> Prop) : Prop :=
 ∀ (pins : List (Addr × Obj)) (s : Shared) (σ : St) (H : Hp) (x : V) (v : Value) (Q : VK), Inv X pins σ H s -> RelV x v -> r x H Q ->
  wpAny (model X.prog X.w) X.A (f v) (EP X pins σ Q) X.xe s
def zgq (X : Cx) (f : Value) (r : List V -> Hp -> VK -> Prop) : Prop :=
 ∀ (pins : List (Addr × Obj)) (s : Shared) (σ : St) (H : Hp) (xs : List V) (us : List Value) (Q : VK), Inv X pins σ H s -> Vals xs us -> r xs H Q ->
  wpAny (model X.prog X.w) X.A (call f us) (EP X pins σ Q) X.xe s
def TruR (X : Cx) (r : V -> Hp -> (Bool -> Hp -> Prop) -> Prop) : Prop :=
 ∀ (pins : List (Addr × Obj)) (s : Shared) (σ : St) (H : Hp) (x : V) (v : Value) (Q : Bool -> Hp -> Prop), Inv X pins σ H s -> RelV x v -> r x H Q ->
  wpAny (model X.prog X.w) X.A (truthy v) (TP X pins σ Q) X.xe s
def tOp (r : R2) (ta tb : TE) : TE := fun σ H Q => ta σ H fun x H1 => tb σ H1 fun y H2 => r x y H2 Q
def tUn (r : V -> Hp -> VK -> Prop) (ta : TE) : TE := fun σ H Q => ta σ H fun x H1 => r x H1 Q
def rI (C : Int -> Int -> Prop) (g : Int -> Int -> V) : R2 := fun x y H Q => ∃ i j, x = .int i /\ y = .int j /\ C i j /\ Q (g i j) H
def rI0 (g : Int -> Int -> V) : R2 := fun x y H Q => ∃ i j, x = .int i /\ y = .int j /\ Q (g i j) H
def rU (g : Int -> V) : V -> Hp -> VK -> Prop := fun x H Q => ∃ i, x = .int i /\ Q (g i) H
section
variable {X : Cx} {a b c : Expr} {ta tb tc : TE} {pos : Pos}
theorem binT (ha : PE X a ta) (hb : PE X b tb) {R : V -> V -> Hp -> Prop} (I : Inv X pins σ H s)
  (h : ta σ H fun x H1 => tb σ H1 fun y H2 => R x y H2) {Q : Value -> Shared -> Prop} {f : Value -> Value -> Sem Value}
  (hf : ∀ v u s2 x y H2, Inv X pins σ H2 s2 -> RelV x v -> RelV y u -> R x y H2 -> wpAny (model X.prog X.w) X.A (f v u) Q X.xe s2) :
  wpAny (model X.prog X.w) X.A (eval a X.env) (fun v s₁ => wpAny (model X.prog X.w) X.A (eval b X.env) (fun u s₂ => wpAny (model X.prog X.w) X.A (f v u) Q X.xe s₂) X.xe s₁) X.xe s := by
 refine thn (ha pins s σ H _ I h) fun v s1 ⟨x, H1, I1, r1, q1⟩ => ?_
 refine thn (hb pins s1 σ H1 _ I1 q1) fun u s2 ⟨y, H2, I2, r2, q2⟩ => ?_
 exact hf v u s2 x y H2 I2 r1 r2 q2
theorem pe_op {op : Operator} {r : R2} (ho : OpR X (binaryOp op) r) (ha : PE X a ta) (hb : PE X b tb) : PE X (.BinOp a op b pos) (tOp r ta tb) := by
 intro pins s σ H Q I h
 exact wpAny_BinOp (binT ha hb I h fun v u s2 x y H2 I2 rx ry q => ho pins s2 σ H2 x y v u Q I2 rx ry q)
theorem pe_un {op : UnaryOp} (ho : UnR X (unaryOp op) r) (ha : PE X a ta) : PE X (.UnaryOp op a pos) (tUn r ta) := by
 intro pins s σ H Q I h
 exact UnaryOp_ (thn (ha pins s σ H _ I h) fun v s1 ⟨x, H1, I1, r1, q1⟩ => ho pins s1 σ H1 x v Q I1 r1 q1)
theorem opI 
  (rule : ∀ (i j : Int) (t u : Tok) (s : Shared) (Q : Value -> Shared -> Prop) (E : Value -> Shared -> Prop), C i j -> Q (.int (g i j) s.toks) { s with toks := s.toks + 1 } -> wpAny (model X.prog X.w) X.A (f (.int i t) (.int j u)) Q E s) :
  OpR X f (rI C fun i j => .int (g i j)) := by
 intro pins s σ H x y v u Q I rx ry h
 obtain ⟨i, j, rfl, rfl, hc, q⟩ := h
 obtain ⟨t, rfl⟩ := rx
 obtain ⟨t', rfl⟩ := ry
 exact rule i j t t' s _ _ hc ⟨.int (g i j), H, I.tok _, ⟨_, rfl⟩, q⟩
theorem opI0 
  (rule : ∀ (i j : Int) (t u : Tok) (s : Shared) (Q : Value -> Shared -> Prop) (E : Value -> Shared -> Prop), Q (.int (g i j) s.toks) { s with toks := s.toks + 1 } -> wpAny (model X.prog X.w) X.A (f (.int i t) (.int j u)) Q E s) :
  OpR X f (rI0 fun i j => .int (g i j)) := by
 intro pins s σ H x y v u Q I rx ry h
 obtain ⟨i, j, rfl, rfl, q⟩ := h
 obtain ⟨t, rfl⟩ := rx
 obtain ⟨t', rfl⟩ := ry
 exact rule i j t t' s _ _ ⟨.int (g i j), H, I.tok _, ⟨_, rfl⟩, q⟩
theorem opB0 {g : Int -> Int -> Bool}
  (rule : ∀ (i j : Int) (t u : Tok) (s : Shared) (Q : Value -> Shared -> Prop) (E : Value -> Shared -> Prop), Q (.bool (g i j)) s -> wpAny (model X.prog X.w) X.A (f (.int i t) (.int j u)) Q E s) :
  OpR X f (rI0 fun i j => .bl (g i j)) := by
 intro pins s σ H x y v u Q I rx ry h
 obtain ⟨i, j, rfl, rfl, q⟩ := h
 obtain ⟨t, rfl⟩ := rx
 obtain ⟨t', rfl⟩ := ry
 exact rule i j t t' s _ _ ⟨.bl (g i j), H, I, rfl, q⟩
def CPow (i j : Int) : Prop := 0 <= j /\ j <= 1000000 /\ i.natAbs < 2 ^ 64
theorem op_add : OpR X (binaryOp .Add) (rI0 fun i j => .int (i + j)) := opI0 fun _ _ _ _ _ _ _ q => add_int q
theorem op_sub : OpR X (binaryOp .Sub) (rI0 fun i j => .int (i - j)) := opI0 fun _ _ _ _ _ _ _ q => sub_int q
theorem op_mod : OpR X (binaryOp .Mod) (rI (fun _ j => 0 < j) fun i j => .int (i % j)) := opI fun i j _ _ _ _ _ hc q => by
 have h1 : (0 : Int) < j := hc
 exact mod_int' (by omega) (by rw [Int.fmod_eq_emod_of_nonneg i (by omega)]; exact q)
theorem op_pow : OpR X (binaryOp .Pow) (rI CPow fun i j => .int (i ^ j.toNat)) := opI fun _ _ _ _ _ _ _ hc q => pow_int_small hc.1 hc.2.1 hc.2.2 q
theorem unI {f : Value -> Sem Value} {g : Int -> Int}
  (rule : ∀ (i : Int) (t : Tok) (s : Shared) (Q : Value -> Shared -> Prop) (E : Value -> Shared -> Prop), Q (.int (g i) s.toks) { s with toks := s.toks + 1 } -> wpAny (model X.prog X.w) X.A (f (.int i t)) Q E s) :
  UnR X f (rU fun i => .int (g i)) := by
 intro pins s σ H x v Q I rx h
 obtain ⟨i, rfl, q⟩ := h
 obtain ⟨t, rfl⟩ := rx
 exact rule i t s _ _ ⟨.int (g i), H, I.tok _, ⟨_, rfl⟩, q⟩
theorem un_neg : UnR X (unaryOp .USub) (rU fun i => .int (-i)) := unI fun _ _ _ _ _ q => neg_int q
end
section
variable {X : Cx} {a b c : Expr} {ta tb tc : TE} {pos : Pos}
theorem fin_bl {Q : VK} {k k' : Bool} (I : Inv X pins σ H s) (q : Q (.bl k) H) (e : k = k') : EP X pins σ Q (.bool k') s := by
 subst e
 exact ⟨.bl k, H, I, rfl, q⟩
theorem zlS : OpR X (compareOp .Lt) (rI0 fun i j => .bl (decide (i < j))) := opB0 fun _ _ _ _ _ _ _ q => lt_int q
theorem zjr : OpR X (compareOp .LtE) (rI0 fun i j => .bl (decide (i <= j))) := opB0 fun _ _ _ _ _ _ _ q => le_int q
theorem op_gt : OpR X (compareOp .Gt) (rI0 fun i j => .bl (decide (j < i))) := opB0 fun _ _ _ _ _ _ _ q => gt_int q
theorem op_ge : OpR X (compareOp .GtE) (rI0 fun i j => .bl (decide (j <= i))) := opB0 fun _ _ _ _ _ _ _ q => ge_int q
theorem op_isN : OpR X (compareOp .Is) (fun x y H Q => y = .non /\ Q (.bl (decide (x = .non))) H) := by
 intro pins s σ H x y v u Q I rx ry h
 obtain ⟨rfl, q⟩ := h
 cases ry
 refine is_none_gen (fin_bl I q ?_)
 cases x <;> first
  | (cases rx; rfl)
  | (obtain ⟨t, rfl⟩ := rx; rfl)
theorem op_notN : OpR X (compareOp .IsNot) (fun x y H Q => y = .non /\ Q (.bl (!decide (x = .non))) H) := by
 intro pins s σ H x y v u Q I rx ry h
 obtain ⟨rfl, q⟩ := h
 cases ry
 refine isnot_none_gen (fin_bl I q ?_)
 cases x <;> first
  | (cases rx; rfl)
  | (obtain ⟨t, rfl⟩ := rx; rfl)
theorem OpR.or {r r' : R2} (h : OpR X f r) (h' : OpR X f r') : OpR X f (fun x y H Q => r x y H Q \/ r' x y H Q) := by
 intro pins s σ H x y v u Q I rx ry q
 rcases q with q | q
 ·exact h pins s σ H x y v u Q I rx ry q
 ·exact h' pins s σ H x y v u Q I rx ry q
theorem zgI (b : Expr) (h : op ≠ .In := by decide) (h2 : op ≠ .NotIn := by decide) : behindInMarks op b = false := by
 have e1 : (op == CmpOp.In) = false := by cases op <;> first | rfl | exact absurd rfl h
 have e2 : (op == CmpOp.NotIn) = false := by cases op <;> first | rfl | exact absurd rfl h2
 cases b <;> simp [behindInMarks, e1, e2]
theorem pe_cmpR {r : R2} (ho : OpR X (compareOp op) r) (ha : PE X a ta) (hb : PE X b tb) (hm : behindInMarks op b = false) : PE X (.Compare a [op] [b] pos) (tOp r ta tb) := by
 intro pins s σ H Q I h
 exact wpAny_Compare1 (binT ha hb I h fun v u s2 x y H2 I2 rx ry q => ho pins s2 σ H2 x y v u Q I2 rx ry q) hm
def tTest (t : TE) : TT := fun σ H Q => t σ H fun x H' => ∃ k, x = .bl k /\ Q k H'
theorem pt_cmpR {r : R2} (ho : OpR X (compareOp op) r) (ha : PE X a ta) (hb : PE X b tb) (hm : behindInMarks op b = false) : PT X (.Compare a [op] [b] pos) (tTest (tOp r ta tb)) := by
 intro pins s σ H Q I h
 refine wpAny_isTrue_Compare1 (thn (ha pins s σ H _ I h) fun v s1 ⟨x, H1, I1, r1, q1⟩ => thn (hb pins s1 σ H1 _ I1 q1) fun u s2 ⟨y, H2, I2, r2, q2⟩ =>
  thn (ho pins s2 σ H2 x y v u _ I2 r1 r2 q2) fun c s3 ⟨z, H3, I3, r3, k, e, q3⟩ => ?_) hm
 subst e
 cases r3
 exact wpAny_truthy_bool ⟨H3, I3, q3⟩
def zox (r r' : R2) (ta tb tc : TE) : TE := fun σ H Q => ta σ H fun x H1 => tb σ H1 fun y H2 => r x y H2 fun z H3 => ∃ k, z = .bl k /\
 (if k = true then tc σ H3 fun w' H4 => r' y w' H4 Q else Q (.bl false) H3)
theorem pe_chain {r r' : R2} (ho : OpR X (compareOp op) r) (ho' : OpR X (compareOp op') r') (ha : PE X a ta) (hb : PE X b tb) (hc : PE X c tc)
  (hm : lastMarks [op, op'] [b, c] = false := by with_unfolding_all rfl) : PE X (.Compare a [op, op'] [b, c] pos) (zox r r' ta tb tc) := by
 intro pins s σ H Q I h
 refine Compare_chain (thn (ha pins s σ H _ I h) fun v s1 ⟨x, H1, I1, r1, q1⟩ => chain_link (thn (hb pins s1 σ H1 _ I1 q1) fun u s2 ⟨y, H2, I2, r2, q2⟩ =>
  thn (ho pins s2 σ H2 x y v u _ I2 r1 r2 q2) fun d s3 ⟨z, H3, I3, r3, k, e, q3⟩ => ?_)) hm
 subst e
 cases r3
 refine wpAny_truthy_bool ?_
 cases k with
 | false => exact ite_ff ⟨.bl false, H3, I3, rfl, q3⟩
 | true => exact ite_tt (chain_last (thn (hc pins s3 σ H3 _ I3 q3) fun w' s4 ⟨z', H4, I4, r4, q4⟩ => ho' pins s4 σ H4 y z' u w' Q I4 r2 r4 q4))
theorem pt_chain {r r' : R2} (ho : OpR X (compareOp op) r) (ho' : OpR X (compareOp op') r') (ha : PE X a ta) (hb : PE X b tb) (hc : PE X c tc)
  (hm : lastMarks [op, op'] [b, c] = false := by with_unfolding_all rfl) : PT X (.Compare a [op, op'] [b, c] pos) (tTest (zox r r' ta tb tc)) := by
 intro pins s σ H Q I h
 refine isTrue_chain (thn (ha pins s σ H _ I h) fun v s1 ⟨x, H1, I1, r1, q1⟩ => test_link (thn (hb pins s1 σ H1 _ I1 q1) fun u s2 ⟨y, H2, I2, r2, q2⟩ =>
  thn (ho pins s2 σ H2 x y v u _ I2 r1 r2 q2) fun d s3 ⟨z, H3, I3, r3, k, e, q3⟩ => ?_)) hm
 subst e
 cases r3
 refine wpAny_truthy_bool ?_
 cases k with
 | false =>
  obtain ⟨k', e', q'⟩ := q3
  cases e'
  exact ite_ff ⟨H3, I3, q'⟩
 | true =>
  refine ite_tt (test_last (thn (hc pins s3 σ H3 _ I3 q3) fun w' s4 ⟨z', H4, I4, r4, q4⟩ => thn (ho' pins s4 σ H4 y z' u w' _ I4 r2 r4 q4) fun d' s5 ⟨z2, H5, I5, r5, k2, e2, q5⟩ => ?_))
  subst e2
  cases r5
  exact wpAny_truthy_bool ⟨H5, I5, q5⟩
def TruV (K : W.Frag) (x : V) (H : Hp) (k : Bool) : Prop :=
 match x with
 | .non => k = false
 | .bl b => k = b
 | .int i => k = (i != 0)
 | .str y => y.length <= sizeLine /\ k = ((y.length : Int) != 0)
 | .byt y => y.size <= sizeLine /\ k = ((y.size : Int) != 0)
 | .ref p => (∃ xs, SqL K H p xs /\ k = !xs.isEmpty) \/ (∃ xs, SqT K H p xs /\ k = !xs.isEmpty) \/ ∃ kvs, H p = some (.dK kvs) /\ k = !kvs.isEmpty
 | _ => False
theorem znA {κ : Type} {kvs : List (κ × V)} {vs : List (κ × Value)} (r : KV kvs vs) : (!vs.isEmpty) = !kvs.isEmpty := by
 cases r <;> rfl
theorem zjF (r : Vals xs its) : (!its.toArray.isEmpty) = !xs.isEmpty := by
 cases r <;> simp
theorem zjS : (sizeLine : Nat) < 2 ^ 63 := by rw [sizeLine_eq]; decide
theorem tru_ok : TruR X (fun x H Q => ∃ k, TruV X.K x H k /\ Q k H) := by
 intro pins s σ H x v Q I rx h
 obtain ⟨k, e, q⟩ := h
 have hl := zjS
 have hs : sizeLine = 16777216 := sizeLine_eq
 cases x with
 | non =>
  cases rx
  have e' : k = false := e
  subst e'
  exact truthy_none ⟨H, I, q⟩
 | bl b =>
  cases rx
  have e' : k = b := e
  subst e'
  exact wpAny_truthy_bool ⟨H, I, q⟩
 | int i =>
  obtain ⟨t, rfl⟩ := rx
  have e' : k = (i != 0) := e
  subst e'
  exact PySem.P.truthy_int ⟨H, I, q⟩
 | str y =>
  obtain ⟨t, rfl⟩ := rx
  obtain ⟨hy, e'⟩ : y.length <= sizeLine /\ k = ((y.length : Int) != 0) := e
  subst e'
  exact PySem.P.truthy_str (by omega) ⟨H, I.tok _, q⟩
 | byt y =>
  obtain ⟨t, rfl⟩ := rx
  obtain ⟨hy, e'⟩ : y.size <= sizeLine /\ k = ((y.size : Int) != 0) := e
  subst e'
  exact W.truthy_bytes (by omega) ⟨H, I.tok _, q⟩
 | ref p =>
  cases rx
  have e' : (∃ xs, SqL X.K H p xs /\ k = !xs.isEmpty) \/ (∃ xs, SqT X.K H p xs /\ k = !xs.isEmpty) \/ ∃ kvs, H p = some (.dK kvs) /\ k = !kvs.isEmpty := e
  rcases e' with ⟨xs, hx, e'⟩ | ⟨xs, hx, e'⟩ | ⟨kvs, hx, e'⟩
  ·subst e'
   obtain ⟨its, r, pl, hz⟩ := I.list hx
   have hlen := r.length
   exact wpAny_truthy_list pl.isList (by simp only [List.size_toArray]; omega) ⟨H, I.tok _, by rw [zjF r]; exact q⟩
  ·subst e'
   obtain ⟨its, r, pl, hz⟩ := I.tuple hx
   have hlen := r.length
   exact truthy_tuple pl (by simp only [List.size_toArray]; omega) ⟨H, I.tok _, by rw [zjF r]; exact q⟩
  ·subst e'
   obtain ⟨hz, hS, vs, r, m⟩ : kvs.length <= sizeLine /\ (p == sysModules) = false /\ ∃ vs, KV kvs vs /\ s.heap.DictOf (zbw X.prog X.w) p vs := I.hok p _ hx
   have hlen : kvs.length = vs.length := Paired.length r
   exact wpAny_truthy_dict hS m (by omega) ⟨H, I.tok _, by rw [znA r]; exact q⟩
 | _ => exact (show False from e).elim
theorem pt_truth (ha : PE X a ta) (he : ∀ whole, isTrue a X.env whole = (do let v <- whole; standAt a.pos; holding [v] (truthy v))) :
  PT X a (fun σ H Q => ta σ H fun x H' => ∃ k, TruV X.K x H' k /\ Q k H') := by
 intro pins s σ H Q I h
 exact isTrue_plain (thn (ha pins s σ H _ I h) fun v s1 ⟨x, H1, I1, r1, q1⟩ => tru_ok pins s1 σ H1 x v Q I1 r1 q1) (he _)
theorem znO : OpR X (binaryOp .Add) (fun x y H Q => ∃ i j, x = .str i /\ y = .str j /\ i.length + j.length <= sizeLine /\ Q (.str (i ++ j)) H) := by
 intro pins s σ H x y v u Q I rx ry h
 obtain ⟨i, j, rfl, rfl, hz, q⟩ := h
 obtain ⟨t, rfl⟩ := rx
 obtain ⟨t', rfl⟩ := ry
 exact add_str (fun t' tk => ⟨.str (i ++ j), H, I.tok _, ⟨_, rfl⟩, q⟩) hz
theorem zjn {x : V} (r : Vals [x] us) : ∃ u, us = [u] /\ RelV x u := by
 cases r with
 | cons r1 r2 => cases r2; exact ⟨_, rfl, r1⟩
theorem vals2 {x y : V} (r : Vals [x, y] us) : ∃ u w', us = [u, w'] /\ RelV x u /\ RelV y w' := by
 cases r with
 | cons r1 r2 =>
  cases r2 with
  | cons r3 r4 => cases r4; exact ⟨_, _, rfl, r1, r3⟩
theorem zpS (hc : X.calm = true) : zgq X (.builtin "max") (fun xs H Q => ∃ i j, xs = [.int i, .int j] /\ Q (.int (if j > i then j else i)) H) := by
 intro pins s σ H xs us Q I r h
 obtain ⟨i, j, rfl, q⟩ := h
 obtain ⟨u, w', rfl, ⟨t, rfl⟩, ⟨t', rfl⟩⟩ := vals2 r
 refine max_two_ints (I.ok.hd hc) fun h' tk k => ⟨_, H, I.kept k, ?_, q⟩
 by_cases hj : j > i
 ·rw [if_pos hj, if_pos hj]; exact ⟨_, rfl⟩
 ·rw [if_neg hj, if_neg hj]; exact ⟨_, rfl⟩
theorem zo2 (hc : X.calm = true) : zgq X (.builtin "min") (fun xs H Q => ∃ i j, xs = [.int i, .int j] /\ Q (.int (if j < i then j else i)) H) := by
 intro pins s σ H xs us Q I r h
 obtain ⟨i, j, rfl, q⟩ := h
 obtain ⟨u, w', rfl, ⟨t, rfl⟩, ⟨t', rfl⟩⟩ := vals2 r
 refine min_two_ints (I.ok.hd hc) fun h' tk k => ⟨_, H, I.kept k, ?_, q⟩
 by_cases hj : j < i
 ·rw [if_pos hj, if_pos hj]; exact ⟨_, rfl⟩
 ·rw [if_neg hj, if_neg hj]; exact ⟨_, rfl⟩
end
structure ObjM (h : Heap) (x dx C : Addr) (mA : Str -> Option Value) : Prop where
 obj : h.get? x = some (W.instObj C dx)
 ns : h.Ns1 dx mA
 ne : dx ≠ x
theorem zpP (n : h.Ns1 dx mA) : ∃ od, h.get? dx = some od /\ ∀ name, W.lookIn name od = some (mA name) := by
 obtain ⟨o, es, ep, ho, hd, hk, _, hm⟩ := n
 refine ⟨o, ho, fun name => ?_⟩
 have e := hm name
 unfold nsFind findBy at e
 rw [<- Array.find?_toList] at e
 unfold W.lookIn
 rw [hd]
 dsimp only
 split
 ·rename_i y q
  rw [q] at e
  exact congrArg some e
 ·rename_i q
  rw [q] at e
  have a : es.toList.any (·.refKey) = false := by
   rw [List.any_eq_false]
   intro y hy
   obtain ⟨z, t, hkey⟩ := hk y (Array.mem_toList_iff.mp hy)
   simp [DictEntry.refKey, hkey]
  have a' : ¬ es.toList.any (·.refKey) = true := by rw [a]; exact Bool.false_ne_true
  rw [if_neg a']
  exact congrArg some e
theorem ObjM.look {x dx C : Addr} (I : ObjM h x dx C mA) : ∃ od, W.InstAt h x (W.instObj C dx) C (some od) /\ ∀ name, W.lookIn name od = some (mA name) :=
 let ⟨od, ho, hl⟩ := zpP I.ns
 ⟨od, ⟨I.obj, rfl, rfl, ho⟩, hl⟩
theorem RelO.some_of {o : Option Value} (r : RelO (some v) o) : ∃ u, o = some u /\ RelV v u := by
 cases o with
 | none => exact (show False from r).elim
 | some u => exact ⟨u, rfl, r⟩
section
variable {P : Program} {w : World} {H H' : Hp} {h h' : Heap} {a C dx : Addr} {fs fs' : List (Str × V)}
theorem ins_get (hok : HOk P w H h) (e : H a = some (.ins C dx fs)) : ∃ mA, ObjM h a dx C mA /\ (∀ f, RelO (fs.lookup f) (mA f)) /\ PySem.Within mA (fs.map (·.1)) /\ fs.length <= 1000 /\ H dx = some (.own a) := by
 obtain ⟨d, z, ne, ob, mA, n, r, q⟩ := (show ObjOk P w H h a (.ins C dx fs) from hok a _ e)
 exact ⟨mA, ⟨ob, n, ne⟩, r, q, z, d⟩
end
structure Cls (K : W.Frag) (C : Addr) : Prop where
 pg : W.plainGet K C Str.empty = true
 hd : W.hasDictIn K C = true
 po : W.plainOver K C = true
 sa : W.findIn K (.ref C) "__setattr__" = some (some (.builtin "object.__setattr__"))
theorem Cls.get {C : Addr} (c : Cls K C) (f : Str) : W.plainGet K C f = true := c.pg
section
variable {X : Cx} {pins : List (Addr × Obj)} {σ : St} {H : Hp} {s : Shared} {A : Around} {E : Value -> Shared -> Prop} {Q : Value -> Shared -> Prop} {c : Value} {b : Bool}
inductive TyOf (K : W.Frag) (H : Hp) : V -> Value -> Prop where
 | non : TyOf K H .non (.type "NoneType")
 | bl (x : Bool) : TyOf K H (.bl x) (.type "bool")
 | int (i : Int) : TyOf K H (.int i) (.type "int")
 | str (x : Str) : TyOf K H (.str x) (.type "str")
 | flt (x : UInt64) : TyOf K H (.flt x) (.type "float")
 | lst {a : Addr} {xs : List V} (e : H a = some (.lst xs)) : TyOf K H (.ref a) (.type "list")
 | frz {a : Addr} {o : Obj} {xs : List V} (e : H a = some (.frz o (.lst xs))) : TyOf K H (.ref a) (.type "list")
 | tup {a : Addr} {xs : List V} (e : H a = some (.tup xs)) : TyOf K H (.ref a) (.type "tuple")
 | dK {a : Addr} {kvs : List (Key × V)} (e : H a = some (.dK kvs)) : TyOf K H (.ref a) (.type "dict")
 | dT {a : Addr} {kvs : List (List Key × V)} (e : H a = some (.dT kvs)) : TyOf K H (.ref a) (.type "dict")
 | ins {a C dx : Addr} {fs : List (Str × V)} (e : H a = some (.ins C dx fs)) (cl : Cls K C) (ha : W.findIn K (.ref C) "__class__" = some (some (.builtin "object.__class__")))
   (hn : W.specialIn K (.builtin "object.__class__") "__get__" = some (some (.builtin "getset_descriptor.__get__"))) (htk : W.takesIn K (.builtin "object.__class__") = some true)
   (hm : W.mroIn K C (.type "object") = some true) : TyOf K H (.ref a) (.ref C)
theorem zoV {x : V} {u t : Value} (I : Inv X pins σ H s) (rx : RelV x u) (ty : TyOf X.K H x t) (e : W.kitOne X.K t c = some b) (h : ∀ tk, Q (.bool b) { s with toks := tk }) :
  wpAny (model X.prog X.w) A (call (.builtin "isinstance") [u, c]) Q E s := by
 cases ty with
 | non => cases (show u = Value.none from rx); exact W.kia_one W.kitx_none I.kIn True.intro e (fun z => nomatch z) h
 | bl y => cases (show u = Value.bool y from rx); exact W.kia_one W.kitx_bool I.kIn True.intro e (fun z => nomatch z) h
 | int i => obtain ⟨t, q⟩ := (show ∃ t, u = Value.int i t from rx); cases q; exact W.kia_one W.kitx_int I.kIn True.intro e (fun z => nomatch z) h
 | str y => obtain ⟨t, q⟩ := (show ∃ t, u = Value.str y t from rx); cases q; exact W.kia_one W.kitx_str I.kIn True.intro e (fun z => nomatch z) h
 | flt y => obtain ⟨t, q⟩ := (show ∃ t, u = Value.float y t from rx); cases q; exact W.kia_one W.kitx_float I.kIn True.intro e (fun z => nomatch z) h
 | @lst a xs ea =>
  cases (show u = Value.ref a from rx)
  obtain ⟨_, _, n, _, h1⟩ := (show ObjOk X.prog X.w H s.heap a (.lst xs) from I.hok a _ ea)
  exact W.kia_one W.kitx_list I.kIn ⟨_, h1, rfl⟩ e (fun z => nomatch z) h
 | @frz a ob xs ea =>
  cases (show u = Value.ref a from rx)
  obtain ⟨_, _, _, n, _, h1⟩ := (show ObjOk X.prog X.w H s.heap a (.frz ob (.lst xs)) from I.hok a _ ea)
  exact W.kia_one W.kitx_list I.kIn ⟨_, h1, rfl⟩ e (fun z => nomatch z) h
 | @tup a xs ea =>
  cases (show u = Value.ref a from rx)
  obtain ⟨_, _, _, p⟩ := (show ObjOk X.prog X.w H s.heap a (.tup xs) from I.hok a _ ea)
  obtain ⟨o, h1, h2, _⟩ := p
  exact W.kia_one W.kitx_tuple I.kIn ⟨o, h1, h2⟩ e (fun z => nomatch z) h
 | @dK a kvs ea =>
  cases (show u = Value.ref a from rx)
  obtain ⟨_, _, vs, _, p⟩ := (show ObjOk X.prog X.w H s.heap a (.dK kvs) from I.hok a _ ea)
  obtain ⟨o, es, ep, h1, h2, _⟩ := p
  exact W.kia_one W.kitx_dict I.kIn ⟨o, h1, h2.1⟩ e (fun z => nomatch z) h
 | @dT a kvs ea =>
  cases (show u = Value.ref a from rx)
  obtain ⟨_, _, xs, _, o, es, ep, h1, h2, _⟩ := (show ObjOk X.prog X.w H s.heap a (.dT kvs) from I.hok a _ ea)
  exact W.kia_one W.kitx_dict I.kIn ⟨o, h1, h2.1⟩ e (fun z => nomatch z) h
 | @ins a C dx fs ea cl ha hn htk hm =>
  cases (show u = Value.ref a from rx)
  obtain ⟨mA, O, _⟩ := ins_get I.hok ea
  obtain ⟨od, J, _⟩ := O.look
  exact W.kia_one (W.kitx_own (cl.get _) cl.hd ha hn htk hm) I.kIn J e (fun z => nomatch z) h
end
structure Room (k : Nat) (A : Around) : Prop where
 hd : A.handled = none
 dp : A.depth + 3 * k + 5 < recursionLimit
 un : A.units + 16 * k + 200 < cLine
 gd : A.guards = some []
theorem Room.mono {j k : Nat} (r : Room k A) (h : j <= k) : Room j A := ⟨r.hd, by have := r.dp; omega, by have := r.un; omega, r.gd⟩
theorem Room.deeper {k : Nat} (r : Room (k + 1) A) (env : Env) : Room k (A.deeper env) :=
 ⟨r.hd, by have := r.dp; show A.depth + 1 + 3 * k + 5 < _; omega, by have := r.un; show A.units + 3 + 16 * k + 200 < _; omega, r.gd⟩
theorem Room.depth {k : Nat} (r : Room k A) : A.depth < recursionLimit := by have := r.dp; omega
theorem Room.units {k : Nat} (r : Room k A) : A.units + 64 < cLine := by have := r.un; omega
def tNil : TA := fun _ H Q => Q [] H
def tCons (ta : TE) (tr : TA) : TA := fun σ H Q => ta σ H fun x H1 => tr σ H1 fun xs H2 => Q (x :: xs) H2
section
variable {X : Cx} {e : Expr} {es : List Expr} {te : TE} {t : TA} {pos : Pos}
theorem zjb : PA X [] tNil := fun _ _ _ _ H Q I h => Calls.spliced_nil ⟨[], H, I, .nil, h⟩
theorem zen (ha : PE X e te) (hr : PA X es t) (hs : starEach (e :: es) X.env = (false, eval e X.env) :: starEach es X.env := by rfl) : PA X (e :: es) (tCons te t) := by
 intro pos pins s σ H Q I h
 rw [hs]
 show wpAny _ _ (spliced ((false, eval e X.env) :: backTo pos (starEach es X.env))) _ _ s
 refine Calls.spliced_cons (thn (ha pins s σ H _ I h) fun u s1 ⟨x, H1, I1, r1, q1⟩ => ?_)
 exact thn (hr pos pins s1 σ H1 _ I1 q1) fun us s2 ⟨xs, H2, I2, r2, q2⟩ => ⟨x :: xs, H2, I2, .cons r1 r2, q2⟩
def tTup (t : TA) : TE := fun σ H Q => t σ H fun xs H1 => xs.length <= sizeLine /\ ∀ p, H1 p = none -> Q (.ref p) (upd H1 p (.tup xs))
def tLst (t : TA) : TE := fun σ H Q => t σ H fun xs H1 => xs.length <= sizeLine /\ ∀ p, H1 p = none -> Q (.ref p) (upd H1 p (.lst xs))
theorem pe_tup {x1} (h : PA X es t) : PE X (.Tuple es x1 pos) (tTup t) := by
 intro pins s σ H Q I hq
 refine wpAny_Tuple_spliced (thn (h pos pins s σ H _ I hq) fun us s1 ⟨xs, H1, I1, r, z, q⟩ => ⟨by rw [<- r.length]; exact z, ?_⟩)
 have hf : H1 s1.heap.objs.size = none := I1.hok.fresh (Nat.le_refl _)
 refine ⟨.ref s1.heap.objs.size, upd H1 s1.heap.objs.size (.tup xs), I1.laid (t' := s1.toks) (fun b u e => Heap.get?_push_of_some _ e) (Nat.le_refl _) ?_, rfl, q _ hf⟩
 exact ⟨z, us, r, ⟨_, Heap.get?_push_size _ rfl, rfl, _, rfl⟩⟩
theorem pe_lst (h : PA X es t) : PE X (.List es pos) (tLst t) := by
 intro pins s σ H Q I hq
 refine wpAny_List_spliced (thn (h pos pins s σ H _ I hq) fun us s1 ⟨xs, H1, I1, r, z, q⟩ => ⟨by rw [<- r.length]; exact z, ?_⟩)
 have hf : H1 s1.heap.objs.size = none := I1.hok.fresh (Nat.le_refl _)
 refine ⟨.ref s1.heap.objs.size, upd H1 s1.heap.objs.size (.lst xs), I1.laid (t' := s1.toks) (fun b u e => Heap.get?_push_of_some _ e) (Nat.le_refl _) ?_, rfl, q _ hf⟩
 exact ⟨z, us, 0, r, Heap.get?_push_size _ rfl⟩
end
abbrev Sp := List V -> Hp -> VK -> XK -> Prop
abbrev CXT := List Env -> Hp -> Shared -> XK -> Value -> Shared -> Prop
structure Env0 (P : Program) (w : World) (K : W.Frag) (mg : Str -> Option Value) (base : Heap) (A : Around) (outer : List Env) (s : Shared) (H : Hp) : Prop where
 frames : A.frames = some outer
 mod : Mod K mg base
 bs : ∀ b o, base.get? b = some o -> s.heap.get? b = some o /\ H b = none
 bsz : base.objs.size <= s.heap.objs.size
 funs : s.heap.FunFrames base outer
 frf : ∀ b ∈ frs outer, H b = none
 hok : HOk P w H s.heap
 bare : AllBare s.gens
def CE (outer : List Env) (P : Program) (w : World) (H : Hp) (s : Shared) (Q : VK) (u : Value) (s' : Shared) : Prop :=
 ∃ v H', s'.os = s.os /\ AllBare s'.gens /\ Un (frs outer) [] H H' s.heap s'.heap /\ HOk P w H' s'.heap /\ RelV v u /\ Q v H'
def CR (CX : CXT) (outer : List Env) (P : Program) (w : World) (H : Hp) (s : Shared) (Q : VK) (E : XK) (r : Result) (s' : Shared) : Prop :=
 match r with
 | .ok (.ret u) => CE outer P w H s Q u s'
 | .ok _ => False
 | .error e => CX outer H s E e s'
structure FnOk (P : Program) (w : World) (K : W.Frag) (mg : Str -> Option Value) (base : Heap) (CX : CXT) (k : Nat) (f : Addr) (fd : FuncData) (ps : List Str) (sp : Sp) : Prop where
 len : ∀ vs H Q E, sp vs H Q E -> vs.length = ps.length
 run : ∀ (A : Around) (outer : List Env) (s : Shared) (H : Hp) (args : Args) (us : List Value) (vs : List V) (Q : VK) (E : XK), Room k A -> Env0 P w K mg base A outer s H -> BindsTo s fd args (ps.zip us) -> Vals vs us -> sp vs H Q E ->
  codeAny (model P w) A (.call (.ref f) args) (CR CX outer P w H s Q E) s
section
variable {X : Cx} {pins : List (Addr × Obj)} {σ : St} {H : Hp} {s s' : Shared}
theorem Inv.env0 (I : Inv X pins σ H s) : Env0 X.prog X.w X.K X.mg X.base X.A X.stack s H :=
 ⟨I.ok.frames, I.ok.mod, I.bs, Nat.le_trans I.ok.bsz I.sz, I.stack, I.stkFree, I.hok, I.bare⟩
theorem Inv.after {Q : VK} (I : Inv X pins σ H s) (h : CE X.stack X.prog X.w H s Q u s') : EP X pins σ Q u s' := by
 obtain ⟨v, H', os, bare, un, hok, r, q⟩ := h
 obtain ⟨hh, g, d, t, os'⟩ := s'
 obtain rfl : os' = s.os := os
 exact ⟨v, H', I.call (h' := hh) (g' := g) (d' := d) (t' := t) (ch := []) un hok bare (fun b z => absurd z (by simp)), r, q⟩
end
def tCall (sp : Sp) (dvs : List V) (E : XK) (t : TA) : TE := fun σ H Q => t σ H fun vs H1 => sp (vs ++ dvs) H1 Q E
def Binds (K : W.Frag) (fd : FuncData) (ps : List Str) (ds : List Value) : Prop :=
 ∀ (s : Shared) (us : List Value), K.In s.heap -> (us ++ ds).length = ps.length -> BindsTo s fd ⟨us, []⟩ (ps.zip (us ++ ds))
theorem Binds.all (h : ∀ us : List Value, us.length = ps.length -> bindArgs fd ⟨us, []⟩ = pure (ps.zip us)) : Binds K fd ps [] := fun s us _ hl => by
 rw [List.append_nil] at hl ⊢
 exact .of_eq (h us hl)
def zpN (CX : CXT) (X : Cx) (E : XK) : Prop := ∀ (pins : List (Addr × Obj)) (σ : St) (H : Hp) (s : Shared) (e : Value) (s' : Shared), Inv X pins σ H s -> CX X.stack H s E e s' -> X.xe e s'
section
variable {X : Cx} {CX : CXT} {k : Nat} {f C : Addr} {fd : FuncData} {ps : List Str} {sp : Sp} {dvs : List V} {ds : List Value} {E : XK} {x m : Str} {p pos apos : Pos} {e o : Expr} {es : List Expr} {ta : TE} {t : TA}
theorem run_fn {Q : VK} (F : FnOk X.prog X.w X.K X.mg X.base CX k f fd ps sp) (hr : Room k X.A) (hb : Binds X.K fd ps ds) (hd : Vals dvs ds) (hx : zpN CX X E)
  (I : Inv X pins σ H s) (r : Vals vs us) (h : sp (vs ++ dvs) H Q E) : wpAny (model X.prog X.w) X.A (call (.ref f) us) (EP X pins σ Q) X.xe s := by
 have r2 : Vals (vs ++ dvs) (us ++ ds) := r.append hd
 have hl : (us ++ ds).length = ps.length := by rw [<- r2.length]; exact F.len _ _ _ _ h
 refine wpAny_call (codeAny_mono (F.run X.A X.stack s H ⟨us, []⟩ (us ++ ds) (vs ++ dvs) Q E hr I.env0 (hb s us I.kIn hl) r2 h) fun r s' hq => ?_)
 cases r with
 | error e => exact hx pins σ H s e s' I hq
 | ok fl =>
  cases fl with
  | ret u => exact I.after hq
  | next => exact False.elim hq
  | brk => exact False.elim hq
  | cont => exact False.elim hq
theorem zjT (F : FnOk X.prog X.w X.K X.mg X.base CX k f fd ps sp) (hr : Room k X.A) (hg : Gl X x) (hm : X.mg x = some (.ref f)) (hk : W.keepIn X.K (.ref f) = true) (hb : Binds X.K fd ps ds) (hd : Vals dvs ds) (hx : zpN CX X E)
  (ha : PA X (e :: es) t) (hdb : (x == ("__debug__" : Str)) = false := by decide) (he : starEach (e :: es) X.env = (false, eval e X.env) :: starEach es X.env := by rfl) (hpl : (backTo pos (starEach es X.env)).any (·.1) = false := by rfl) :
  PE X (.Call (.Name x p) (e :: es) [] pos) (tCall sp dvs E t) := by
 intro pins s σ H Q I h
 refine wpAny_Call_Name_kw (ld_glob I hg hm ?_ hdb)
 refine W.callWith_K (h₀ := X.base) I.ok.mod.kin hk (thn (ha pos pins s σ H _ I h) fun us s1 ⟨vs, H1, I1, r, q⟩ => ⟨I1.kIn, ?_⟩) he hpl
 exact run_fn F hr hb hd hx I1 r q
end
structure FnScope (N P : List Str) (sc : Scope) : Prop where
 kind : sc.kind = .function
 co : sc.isCoroutine = false
 gen : sc.isGenerator = false
 nd : N.Nodup
 pre : N.take P.length = P
 par : ∀ x ∈ P, sc.names.lookup x = some .local \/ sc.names.lookup x = some .cell
 nofree : ∀ y ∈ sc.names, y.2 ≠ .free
theorem zkR : ∀ {binds : List (Str × Value)} {m : Str -> Option Value}, (∀ v, (x, v) ∉ binds) -> bindL kindOf binds m x = m x
 | [], _, _ => rfl
 | (n, v) :: r, m, h => by
  unfold bindL
  rw [zkR fun w hw => h w (List.mem_cons_of_mem _ hw)]
  split
  ·have : x ≠ n := by rintro rfl; exact h v List.mem_cons_self
   simp [this]
  ·rfl
theorem zk5 : ∀ {binds : List (Str × Value)} {m : Str -> Option Value}, (∀ v, (x, v) ∉ binds) -> bindC kindOf binds m x = m x
 | [], _, _ => rfl
 | (n, v) :: r, m, h => by
  unfold bindC
  rw [zk5 fun w hw => h w (List.mem_cons_of_mem _ hw)]
  split
  ·rfl
  ·have : x ≠ n := by rintro rfl; exact h v List.mem_cons_self
   simp [this]
theorem zlN {v : Value} : ∀ {P : List Str} {vs : List Value} {i : Nat} {m : Str -> Option Value}, P.Nodup -> P[i]? = some x -> vs[i]? = some v -> kindOf x = some .local ->
  bindL kindOf (P.zip vs) m x = some v
 | [], _, _, _, _, h, _, _ => by simp at h
 | _ :: _, [], _, _, _, _, h, _ => by simp at h
 | p :: P, w :: vs, 0, m, nd, h1, h2, hk => by
  simp at h1 h2; subst h1; subst h2
  show bindL kindOf ((p, w) :: P.zip vs) m p = _
  unfold bindL
  rw [zkR fun v hv => (List.nodup_cons.mp nd).1 (List.of_mem_zip hv).1, if_pos hk]
  simp
 | p :: P, w :: vs, i + 1, m, nd, h1, h2, hk => by
  show bindL kindOf ((p, w) :: P.zip vs) m x = _
  unfold bindL
  exact zlN (i := i) (List.nodup_cons.mp nd).2 (by simpa using h1) (by simpa using h2) hk
theorem zlA {v : Value} : ∀ {P : List Str} {vs : List Value} {i : Nat} {m : Str -> Option Value}, P.Nodup -> P[i]? = some x -> vs[i]? = some v -> kindOf x ≠ some .local ->
  bindC kindOf (P.zip vs) m x = some v
 | [], _, _, _, _, h, _, _ => by simp at h
 | _ :: _, [], _, _, _, _, h, _ => by simp at h
 | p :: P, w :: vs, 0, m, nd, h1, h2, hk => by
  simp at h1 h2; subst h1; subst h2
  show bindC kindOf ((p, w) :: P.zip vs) m p = _
  unfold bindC
  rw [zk5 fun v hv => (List.nodup_cons.mp nd).1 (List.of_mem_zip hv).1, if_neg hk]
  simp
 | p :: P, w :: vs, i + 1, m, nd, h1, h2, hk => by
  show bindC kindOf ((p, w) :: P.zip vs) m x = _
  unfold bindC
  exact zlA (i := i) (List.nodup_cons.mp nd).2 (by simpa using h1) (by simpa using h2) hk
def start (N : List Str) (vs : List V) : St := vs.map some ++ List.replicate (N.length - vs.length) none
noncomputable def cxOf (CX : CXT) (P : Program) (w : World) (K : W.Frag) (mg : Str -> Option Value) (base : Heap) (N : List Str) (qual : Str) (scope : Scope) (f : Addr) (cd : Value) (A : Around) (outer : List Env) (s : Shared) (H : Hp) (E : XK) : Cx where
 prog := P
 w := w
 K := K
 mg := mg
 base := base
 A := A.deeper (envOfC qual scope s.heap.objs.size f cd)
 N := N
 s₀ := s
 H₀ := H
 env := envOfC qual scope s.heap.objs.size f cd
 outer := outer
 stack := envOfC qual scope s.heap.objs.size f cd :: outer
 ex := []
 calm := true
 fn := fun _ => true
 pn := []
 xe := fun e s' => wpAny (model P w) (A.deeper (envOfC qual scope s.heap.objs.size f cd)) (leaving (envOfC qual scope s.heap.objs.size f cd) e) (fun _ s'' => CX outer H s E e s'') (fun e' s'' => CX outer H s E e' s'') s'
theorem zmI (h : sc.names.lookup x = some .cell) : ∃ c, (cellsFrom n sc.names []).lookup x = some c := by
 have q := W.cellsFrom_some sc.names n [] (.inl h)
 exact Option.isSome_iff_exists.mp q
theorem zoR {P : Program} {f : Addr} {s s1 : Shared} {E : XK} 
  (S : FnScope N ps scope) (hd : A.handled = none) (e0 : Env0 P w K mg base A outer s H) (hl : vs.length = ps.length) (r : Vals vs us)
  (x : InCallC s s.heap.objs.size (bindL (envOfC qual scope s.heap.objs.size f cd).kindOf (ps.zip us) fun _ => none) (cellsFrom (s.heap.objs.size + 1) scope.names []) (bindC (envOfC qual scope s.heap.objs.size f cd).kindOf (ps.zip us) fun _ => none) s1) :
  Inv (cxOf CX P w K mg base N qual scope f cd A outer s H E) [] (start N vs) H s1 := by
 have hpl : ps.length <= N.length := by have := congrArg List.length S.pre; rw [List.length_take] at this; omega
 obtain ⟨h1, tk, rfl, hk⟩ := x.done
 have noA : ∀ b : Addr, b ∉ (cxOf CX P w K mg base N qual scope f cd A outer s H E).ex := fun b z => absurd (show b ∈ ([] : List Addr) from z) (by simp)
 refine ⟨⟨e0.mod, S.kind, rfl, rfl, Nat.le_refl _, fun y z c h1 h2 => ?_, fun y hy => ?_, fun y c _ h => ?_, fun _ => hd, Around.frames_deeper e0.frames, .inr ⟨rfl, rfl⟩, fun b z => absurd z (noA b), e0.bs, e0.bsz, fun b _ _ => noA b, fun b z => absurd z (noA b), e0.funs, e0.frf⟩,
  rfl, e0.bare, Un.kept hk, ⟨_, x.toInCall.ns, fun i y v h1 h2 h3 => ?_⟩, fun y c h => ⟨_, x.cell y c h⟩, e0.hok.fresh (Nat.le_refl _), fun y c h => ?_, fun p hp => absurd (show p ∈ ([] : List (Addr × Obj)) from hp) (by simp), e0.hok.kept hk, ?_⟩
 ·exact name_of_addr x.apart (PySem.mem_of_lookup h1) (PySem.mem_of_lookup h2)
 ·have hy : scope.names.lookup y = some .cell \/ scope.names.lookup y = some .free := hy
  rcases hy with hy | hy
  ·exact zmI hy
  ·exact absurd rfl (S.nofree _ (PySem.mem_of_lookup hy))
 ·exact Nat.le_of_lt (x.above y c (PySem.mem_of_lookup h))
 ·have hi : i < vs.length := by
   unfold start at h2
   by_cases hi : i < vs.length
   ·exact hi
   ·rw [List.getElem?_append_right (by simpa using hi)] at h2
    rw [List.getElem?_replicate] at h2
    split at h2 <;> cases h2
  have ha : vs[i]? = some v := by
   unfold start at h2
   rw [List.getElem?_append_left (by simpa using hi), List.getElem?_map] at h2
   cases e : vs[i]? with
   | none => rw [e] at h2; cases h2
   | some a => rw [e] at h2; cases h2; rfl
  obtain ⟨u, hu, rv⟩ := r.get ha
  have hp : ps[i]? = some y := by
   rw [<- S.pre, List.getElem?_take_of_lt (by omega)]; exact h1
  have ndP : ps.Nodup := by rw [<- S.pre]; exact S.nd.sublist (List.take_sublist _ _)
  refine ⟨u, rv, ?_⟩
  rcases S.par y (List.mem_of_getElem? hp) with k | k
  ·exact .inl ⟨k, zlN ndP hp hu k⟩
  ·obtain ⟨c, e⟩ := zmI (n := s.heap.objs.size + 1) k
   refine .inr ⟨.inl k, c, e, ?_⟩
   have q := x.cell y c e
   rw [zlA ndP hp hu (by show scope.names.lookup y ≠ _; rw [k]; decide)] at q
   exact q
 ·exact e0.hok.fresh (Nat.le_of_lt (x.above y c (PySem.mem_of_lookup h)))
 ·unfold start
  show _ = N.length
  rw [List.length_append, List.length_map, List.length_replicate]
  omega
theorem fn_of {P : Program} {k : Nat} {f : Addr} {name qual : Str} {dV kV doc pm cdv ct oc : Value} {an od : Option Addr}
  {osl : Array (Option Value)} {N ps : List Str} {sp : Sp} (lk : K.lookup f = some ⟨oc, od, .func (W.fnOf name qual params body scope dV kV doc pm an cdv ct), osl⟩) (hcd : W.codeIn K cdv qual = true) (S : FnScope N ps scope)
  (len : ∀ vs H Q E, sp vs H Q E -> vs.length = ps.length)
  (hbody : ∀ (A : Around) (outer : List Env) (s : Shared) (H : Hp) (vs : List V) (Q : VK) (E : XK), Room k (A.deeper (envOfC qual scope s.heap.objs.size f cdv)) -> sp vs H Q E ->
   ∃ t, PSs (cxOf CX P w K mg base N qual scope f cdv A outer s H E) body t /\ t { nx := fun _ H' => Q .non H', rt := Q } (start N vs) H) :
  FnOk P w K mg base CX (k + 1) f (W.fnOf name qual params body scope dV kV doc pm an cdv ct) ps sp := by
 refine ⟨len, fun A outer s H args us vs Q E hr e0 hb r hsp => ?_⟩
 have hl := len _ _ _ _ hsp
 have KX : K.In s.heap := e0.mod.kin.keeps fun b o e => (e0.bs b o e).1
 have lim : s.heap.NoLimit := e0.mod.nolimit.keeps fun b o e => (e0.bs b o e).1
 have hkind : ∀ y ∈ ps.zip us, scope.names.lookup y.1 = some .local \/ (scope.names.lookup y.1 = some .cell /\ ((cellsFrom (s.heap.objs.size + 1) scope.names []).lookup y.1).isSome = true) := fun ⟨n, v⟩ hy => by
  rcases S.par n (List.of_mem_zip hy).1 with q | q
  ·exact .inl q
  ·exact .inr ⟨q, W.cellsFrom_some _ _ _ (.inl q)⟩
 refine codeAny_call_function hr.depth (KX _ _ lk) rfl S.co S.gen rfl (W.codeRec_of KX hcd) (hb _ _ _ _ ?_)
 refine wpAny_newFunctionEnv_cells S.kind hkind fun env he s1 x => ?_
 subst he
 refine ⟨lim.keeps x.toInCall.keep, codeAny_func ?_⟩
 obtain ⟨t, ht, hq⟩ := hbody A outer s H vs Q E (hr.deeper _) hsp
 have I : Inv (cxOf CX P w K mg base N qual scope f cdv A outer s H E) [] (start N vs) H s1 := zoR S hr.hd e0 hl r x
 refine wpAny_mono (ht [] s1 (start N vs) H _ I hq) (fun fl s' hs => ?_) fun e s' hs => hs
 have fin : ∀ {σ' : St} {H' : Hp} {v : V} {u : Value}, Inv (cxOf CX P w K mg base N qual scope f cdv A outer s H E) [] σ' H' s' -> RelV v u -> Q v H' -> CE outer P w H s Q u s' :=
  fun {σ' H' v u} J rv q => ⟨v, H', J.os, J.bare, J.base, J.hok, rv, q⟩
 cases fl with
 | ret u =>
  obtain ⟨v, σ', H', J, rv, q⟩ := hs
  exact fin J rv q
 | next =>
  obtain ⟨σ', H', J, q⟩ := hs
  exact fin (v := V.non) (u := Value.none) J rfl q
 | brk =>
  obtain ⟨_, _, _, q⟩ := hs
  exact False.elim q
 | cont =>
  obtain ⟨_, _, _, q⟩ := hs
  exact False.elim q
section
variable {X : Cx} {x : Str} {p pos : Pos} {e : Expr} {es : List Expr} {t : TA} {id T : String} {r : List V -> Hp -> VK -> Prop}
def tCB (r : List V -> Hp -> VK -> Prop) (t : TA) : TE := fun σ H Q => t σ H fun vs H1 => r vs H1 Q
theorem zkm (hc : zgq X (.builtin id) r) (hg : Gl X x) (hm : X.mg x = none) (hv : bootBuiltins x = some (.builtin id)) (ha : PA X (e :: es) t) (hn : x ≠ "__name__" := by decide) (hdb : (x == ("__debug__" : Str)) = false := by decide)
  (he : starEach (e :: es) X.env = (false, eval e X.env) :: starEach es X.env := by rfl) (hpl : (backTo pos (starEach es X.env)).any (·.1) = false := by rfl) : PE X (.Call (.Name x p) (e :: es) [] pos) (tCB r t) := by
 intro pins s σ H Q I h
 refine wpAny_Call_Name_kw (zgX I hg hm hv ?_ hn hdb)
 exact PyProof.Rows.callWith_builtin1 (thn (ha pos pins s σ H _ I h) fun us s1 ⟨vs, H1, I1, r1, q1⟩ => hc pins s1 σ H1 vs us Q I1 r1 q1) he hpl
theorem zhb (hc : zgq X (.type T) r) (hg : Gl X x) (hm : X.mg x = none) (hv : bootBuiltins x = some (.type T)) (ha : PA X (e :: es) t) (hn : x ≠ "__name__" := by decide) (hdb : (x == ("__debug__" : Str)) = false := by decide)
  (he : starEach (e :: es) X.env = (false, eval e X.env) :: starEach es X.env := by rfl) (hpl : (backTo pos (starEach es X.env)).any (·.1) = false := by rfl) : PE X (.Call (.Name x p) (e :: es) [] pos) (tCB r t) := by
 intro pins s σ H Q I h
 refine wpAny_Call_Name_kw (zgX I hg hm hv ?_ hn hdb)
 exact PyProof.Rows.callWith_type1 (thn (ha pos pins s σ H _ I h) fun us s1 ⟨vs, H1, I1, r1, q1⟩ => hc pins s1 σ H1 vs us Q I1 r1 q1) he hpl
end
end L2
namespace HT
open PyProof.Rows PySem
section
variable {prog : Program} {w : World} {A : Around} {E : Value -> Shared -> Prop} {s : Shared}
theorem cat_tup {t b : Addr} {vs ws : List Value} {Q : Value -> Shared -> Prop} (ht : IsTup s.heap t vs.toArray) (hb : IsTup s.heap b ws.toArray) (hv : vs ≠ [])
  (h1 : ws = [] -> Q (.ref t) s) (h2 : ws ≠ [] -> Q (.ref s.heap.objs.size) { s with heap := s.heap.push { cls := .type "tuple", data := .seq (vs ++ ws).toArray } })
  (hsz : vs.length + ws.length <= sizeLine) : wpAny (model prog w) A (binaryOp .Add (.ref t) (.ref b)) Q E s := by
 obtain ⟨⟨cls, dd, data, sl⟩, ho, hc, n, hd⟩ := id ht
 obtain ⟨⟨cls2, dd2, data2, sl2⟩, ho2, hc2, n2, hd2⟩ := id hb
 simp only at hc hd hc2 hd2
 subst hc hd hc2 hd2
 have e : vs.toArray ++ ws.toArray = (vs ++ ws).toArray := by simp
 by_cases hw : ws = []
 ·exact concat_meets ⟨_, ho, rfl⟩ ⟨_, ho2, rfl⟩ noFill_tuple_add seq_tuple_add PySem.F.slot_tuple_add PySem.F.entry_tuple_add (PySem.F.args_tuple_add_2 _ _)
   (tuple_addW1 t b vs.toArray ws.toArray n n2 dd dd2 sl sl2 (by simpa using hv) (by simp [hw])) ⟨ho, ho2, h1 hw⟩
 ·refine concat_meets ⟨_, ho, rfl⟩ ⟨_, ho2, rfl⟩ noFill_tuple_add seq_tuple_add PySem.F.slot_tuple_add PySem.F.entry_tuple_add (PySem.F.args_tuple_add_2 _ _)
   (tuple_addW2 t b vs.toArray ws.toArray n n2 dd dd2 sl sl2 (by simpa using hv) (by simpa using hw) (by rw [List.size_toArray, List.size_toArray]; exact hsz)) ⟨ho, ho2, ?_⟩
  rw [e]
  exact h2 hw
def sIx (n d : Nat) : Option Int -> Nat
 | none => d
 | some v => if v < 0 then (v + (n : Int)).toNat else min v.toNat n
theorem zkt (n d : Nat) : sIx n d none = d := rfl
theorem zkG (n d k : Nat) : sIx n d (some (k : Int)) = min k n := by
 show (if (k : Int) < 0 then ((k : Int) + (n : Int)).toNat else min (k : Int).toNat n) = min k n
 rw [if_neg (by omega), Int.toNat_natCast]
theorem sIx_le (n d : Nat) (hd : d <= n) (o : Option Int) : sIx n d o <= n := by
 cases o with
 | none => exact hd
 | some v =>
  show (if v < 0 then (v + (n : Int)).toNat else min v.toNat n) <= n
  by_cases hv : v < 0
  ·rw [if_pos hv]; omega
  ·rw [if_neg hv]; exact Nat.min_le_right _ _
theorem zoN (v : Int) (n d : Nat) : (if v < 0 then max (v + (n : Int)) 0 else min v (n : Int)) = ((sIx n d (some v) : Nat) : Int) := by
 show (if v < 0 then max (v + (n : Int)) 0 else min v (n : Int)) = (((if v < 0 then (v + (n : Int)).toNat else min v.toNat n) : Nat) : Int)
 by_cases hv : v < 0
 ·simp only [if_pos hv]; omega
 ·simp only [if_neg hv]; omega
theorem znR (lo hi : Option Int) (n : Nat) : Builtin.Slice.sliceAdjust lo hi 1 (n : Int) = (((sIx n 0 lo : Nat) : Int), ((sIx n n hi : Nat) : Int)) := by
 have h1 : ¬ ((1 : Int) < 0) := by omega
 unfold Builtin.Slice.sliceAdjust
 simp only [h1, if_false]
 refine Prod.ext ?_ ?_
 ·cases lo with
  | none => rfl
  | some v => exact zoN v n 0
 ·cases hi with
  | none => rfl
  | some v => exact zoN v n n
theorem znz (i j : Nat) : Builtin.Slice.slicePlaces (i : Int) (j : Int) 1 = j - i := by
 unfold Builtin.Slice.slicePlaces
 have h1 : (1 : Int) > 0 := by omega
 simp only [h1, if_true, Int.ediv_one]
 split <;> omega
theorem zjB {v : Value} {o : Option Int} {Q : Option Int -> Shared -> Prop} (p : IsPart v o) (h : Q o s) : wpAny (model prog w) A (Builtin.Slice.slicePartIndex v) Q E s := by
 cases p with
 | none => exact slicePart_none h
 | int i t => exact slicePart_int h
theorem ze8 {sl : Addr} {vl vu : Value} {lo hi : Option Int} {n : Nat} {Q : Int × Int × Nat -> Shared -> Prop} (hs : s.heap.IsSliceOf sl vl vu .none) (pl : IsPart vl lo) (pu : IsPart vu hi)
  (h : Q (((sIx n 0 lo : Nat) : Int), 1, sIx n n hi - sIx n 0 lo) s) : wpAny (model prog w) A (Builtin.Slice.sliceApplied (.ref sl) (pure (n : Int))) Q E s := by
 obtain ⟨os, hos, hcs, hds⟩ := id hs
 unfold Builtin.Slice.sliceApplied Builtin.Slice.sliceFields
 refine wpAny_bind (wpAny_bind (wpAny_field hos hds (x := vl) rfl (wpAny_bind (wpAny_field hos hds (x := vu) rfl (wpAny_bind (wpAny_field hos hds (x := .none) rfl (wpAny_pure ?_)))))))
 refine wpAny_bind (slicePart_none ?_)
 show wpAny _ _ (if ((1 : Int) == 0) = true then _ else _) _ _ s
 rw [if_neg (by decide)]
 refine wpAny_bind (zjB pl (wpAny_bind (zjB pu (wpAny_bind (wpAny_pure ?_)))))
 show wpAny _ _ (match Builtin.Slice.sliceAdjust lo hi 1 (n : Int) with | (lo, hi) => pure (lo, (1 : Int), Builtin.Slice.slicePlaces lo hi 1)) _ _ s
 rw [znR lo hi n]
 show wpAny _ _ (pure (((sIx n 0 lo : Nat) : Int), (1 : Int), Builtin.Slice.slicePlaces ((sIx n 0 lo : Nat) : Int) ((sIx n n hi : Nat) : Int) 1)) _ _ s
 rw [znz]
 exact wpAny_pure h
theorem pick_gen (xs : Array Value) (i k : Nat) : ((List.range k).filterMap fun (m : Nat) => xs[((i : Int) + (m : Int) * 1).toNat]?).toArray = ((xs.toList.drop i).take k).toArray := by
 have e : (fun (m : Nat) => xs[((i : Int) + (m : Int) * 1).toNat]?) = fun m => xs[i + m]? := by
  funext m
  have : ((i : Int) + (m : Int) * 1).toNat = i + m := by omega
  rw [this]
 rw [e]
 have := pick_run xs i k
 rw [List.filterMap_map] at this
 have e2 : ((fun x => xs[x]?) ∘ fun x => i + x) = fun m => xs[i + m]? := rfl
 rw [e2] at this
 rw [this]
theorem zib {t sl : Addr} {items : Array Value} {vl vu : Value} {lo hi : Option Int} {Q : Value -> Shared -> Prop} (ht : IsTup s.heap t items) (hs : s.heap.IsSliceOf sl vl vu .none) (pl : IsPart vl lo) (pu : IsPart vu hi)
  (hw : ¬ (sIx items.size 0 lo = 0 /\ sIx items.size items.size hi = items.size))
  (h : Q (.ref s.heap.objs.size) { s with heap := s.heap.push { cls := .type "tuple", data := .seq ((items.toList.drop (sIx items.size 0 lo)).take (sIx items.size items.size hi - sIx items.size 0 lo)).toArray } })
  (hsz : items.size <= sizeLine) : wpAny (model prog w) A (getItem (.ref t) (.ref sl)) Q E s := by
 have htake : sizeOk (.seq ((items.toList.drop (sIx items.size 0 lo)).take (sIx items.size items.size hi - sIx items.size 0 lo)).toArray) := by
  show ((items.toList.drop (sIx items.size 0 lo)).take (sIx items.size items.size hi - sIx items.size 0 lo)).toArray.size <= sizeLine
  rw [List.size_toArray, List.length_take, List.length_drop, Array.length_toList]
  omega
 have hj : sIx items.size items.size hi <= items.size := sIx_le _ _ (Nat.le_refl _) hi
 obtain ⟨os, hos, hcs, hds⟩ := id hs
 have hTs : s.TypeIs (.ref sl) "slice" := ⟨os, hos, hcs⟩
 unfold getItem
 try with_reducible refine wpAny_holding ?_
 first | refine wpAny_bind (wpAny_pure ?_) | skip
 refine wpAny_bind (wpAny_sequenceKey ht.typeIs (by decide) ?_)
 refine wpAny_bind (wpAny_callSpecial?_slot (name := Str.ofString "__getitem__") ht.typeIs PyProof.Rows.slot_tuple_getitem
  (wpAny_call_entry PyProof.Rows.slot_tuple_getitem ht.typeIs entry_tuple_getitem ?_ (args_tuple_getitem _ _)))
 show wpAny _ _ (Builtin.Tuple.tupleItemsOf (.ref t) >>= _) _ _ s
 refine wpAny_bind (tupleItemsOf_ ht ?_)
 refine wpAny_bind (wpAny_typeOf hTs ?_)
 rw [if_pos (by decide)]
 refine wpAny_bind (ze8 hs pl pu ?_)
 have hno : ¬ ((((sIx items.size 0 lo : Nat) : Int) == 0 && (1 : Int) == 1 && (sIx items.size items.size hi - sIx items.size 0 lo) == items.size) = true) := by
  intro q
  rw [Bool.and_eq_true, Bool.and_eq_true] at q
  have q1 : ((sIx items.size 0 lo : Nat) : Int) = 0 := eq_of_beq q.1.1
  have q2 : sIx items.size items.size hi - sIx items.size 0 lo = items.size := eq_of_beq q.2
  exact hw ⟨by omega, by omega⟩
 show wpAny _ _ (if (((sIx items.size 0 lo : Nat) : Int) == 0 && (1 : Int) == 1 && (sIx items.size items.size hi - sIx items.size 0 lo) == items.size) = true then _ else _) _ _ s
 rw [if_neg hno, pick_gen]
 first
  | exact wpAny_bind (m := Builtin.Tuple.tupleExact _) (wpAny_newObj_type (wpAny_pure ⟨_, rfl, wpAny_pure h⟩) htake)
  | exact wpAny_bind (m := Builtin.Tuple.tupleExact _) (wpAny_newObj_type (wpAny_bind (wpAny_pure (wpAny_pure ⟨_, rfl, wpAny_pure h⟩))) htake)
  | exact wpAny_bind (wpAny_bind (m := Builtin.Tuple.tupleExact _) (wpAny_newObj_type (wpAny_pure (wpAny_pure ⟨_, rfl, wpAny_pure h⟩)) htake))
  | exact wpAny_bind (wpAny_bind (m := Builtin.Tuple.tupleExact _) (wpAny_newObj_type (wpAny_pure ⟨_, rfl, wpAny_pure h⟩) htake))
end
end HT
namespace L2
open PyProof.Rows PySem PySem.Spec
variable {ns : List Int} {r r' : V -> Option Int -> Option Int -> Hp -> VK -> Prop} {xs : List V} {us its its' : List Value} {n j t' : Nat} {i : Int} {pins : List (Addr × Obj)} {σ : St} {H : Hp} {s : Shared} {p : Addr} {f : Array Value -> Array Value} {A : Around} {y x : V} {u v : Value}
abbrev TO := St -> Hp -> (Option Int -> Hp -> Prop) -> Prop
def PO (X : Cx) (e : Option Expr) (t : TO) : Prop :=
 ∀ (pins : List (Addr × Obj)) (s : Shared) (σ : St) (H : Hp) (Q : Option Int -> Hp -> Prop), Inv X pins σ H s -> t σ H Q ->
  wpAny (model X.prog X.w) X.A (evalPart e X.env) (fun u s' => ∃ o H', Inv X pins σ H' s' /\ IsPart u o /\ Q o H') X.xe s
def tNoPart : TO := fun _ H Q => Q none H
def tPart (t : TE) : TO := fun σ H Q => t σ H fun x H1 => ∃ i, x = .int i /\ Q (some i) H1
theorem znN : ∀ {us : List Value}, Vals (ns.map V.int) us -> IntsAre us ns := by
 induction ns with
 | nil => intro us r; rw [List.map_nil] at r; cases r; exact .nil
 | cons n ns ih =>
  intro us r
  rw [List.map_cons] at r
  cases r with
  | cons r1 r2 =>
   obtain ⟨t, e⟩ := r1
   subst e
   exact .cons n t (ih r2)
section
variable {X : Cx} {e : Expr} {te : TE} {lo hi : Option Expr} {tl th : TO} {pos p2 : Pos}
theorem po_none : PO X none tNoPart := by
 intro pins s σ H Q I h
 rw [evalPart_none]
 exact wpAny_pure ⟨none, H, I, .none, h⟩
theorem po_some (h : PE X e te) : PO X (some e) (tPart te) := by
 intro pins s σ H Q I hw
 rw [evalPart_some]
 refine thn (h pins s σ H _ I hw) fun u s1 ⟨x, H1, I1, r1, q1⟩ => ?_
 obtain ⟨i, rfl, q⟩ := q1
 obtain ⟨t, rfl⟩ := r1
 exact ⟨some i, H1, I1, .int i t, q⟩
def SlR (X : Cx) (r : V -> Option Int -> Option Int -> Hp -> VK -> Prop) : Prop :=
 ∀ (pins : List (Addr × Obj)) (s : Shared) (σ : St) (H : Hp) (x : V) (v vl vu : Value) (lo hi : Option Int) (sl : Addr) (Q : VK), Inv X pins σ H s -> RelV x v -> s.heap.IsSliceOf sl vl vu .none -> IsPart vl lo -> IsPart vu hi -> r x lo hi H Q ->
  ∃ T id, typeLookup (.type T) "__getitem__" = pure (some (.builtin id)) /\ s.TypeIs v T /\ wpAny (model X.prog X.w) X.A (getItem v (.ref sl)) (EP X pins σ Q) X.xe s
theorem SlR.or (h : SlR X r) (h' : SlR X r') : SlR X (fun x lo hi H Q => r x lo hi H Q \/ r' x lo hi H Q) := by
 intro pins s σ H x v vl vu lo hi sl Q I rx hs pl pu q
 rcases q with q | q
 ·exact h pins s σ H x v vl vu lo hi sl Q I rx hs pl pu q
 ·exact h' pins s σ H x v vl vu lo hi sl Q I rx hs pl pu q
def tSl (r : V -> Option Int -> Option Int -> Hp -> VK -> Prop) (te : TE) (tl th : TO) : TE := fun σ H Q => te σ H fun x H1 => tl σ H1 fun l H2 => th σ H2 fun u H3 => r x l u H3 Q
theorem pe_slice (hr : SlR X r) (he : PE X e te) (hl : PO X lo tl) (hu : PO X hi th) : PE X (.Subscript e (.Slice lo hi none p2) pos) (tSl r te tl th) := by
 intro pins s σ H Q I h
 refine Subscript_ (thn (he pins s σ H _ I h) fun v s1 ⟨x, H1, I1, r1, q1⟩ => ?_)
 refine wpAny_Slice (thn (hl pins s1 σ H1 _ I1 q1) fun vl s2 ⟨l, H2, I2, pl, q2⟩ => thn (hu pins s2 σ H2 _ I2 q2) fun vu s3 ⟨u, H3, I3, pu, q3⟩ => ?_)
 rw [evalPart_none]
 refine wpAny_pure ?_
 have I4 : Inv X pins σ H3 { s3 with heap := s3.heap.push { cls := .type "slice", data := .fields #[vl, vu, .none] } } := I3.kept (t' := s3.toks) fun b ob q => Heap.get?_push_of_some _ q
 obtain ⟨T, id, hT, ht, hg⟩ := hr pins { s3 with heap := s3.heap.push { cls := .type "slice", data := .fields #[vl, vu, .none] } } σ H3 x v vl vu l u s3.heap.objs.size Q I4 r1 (Heap.IsSliceOf.new ..) pl pu q3
 show wpAny (model X.prog X.w) X.A (subscriptTail e (.Slice lo hi none p2) v (.ref s3.heap.objs.size)) (EP X pins σ Q) X.xe { s3 with heap := s3.heap.push { cls := .type "slice", data := .fields #[vl, vu, .none] } }
 exact tail_any (ops := [.ref s3.heap.objs.size, v]) ht hT hg (by with_unfolding_all rfl)
def cutV (xs : List V) (lo hi : Option Int) : List V := (xs.drop (HT.sIx xs.length 0 lo)).take (HT.sIx xs.length xs.length hi - HT.sIx xs.length 0 lo)
theorem ziQ (xs : List V) (lo hi : Option Int) : (cutV xs lo hi).length <= xs.length := by
 unfold cutV
 rw [List.length_take, List.length_drop]
 omega
def rSlT (K : W.Frag) : V -> Option Int -> Option Int -> Hp -> VK -> Prop := fun x lo hi H Q => ∃ a xs, x = .ref a /\ SqT K H a xs /\
 ¬ (HT.sIx xs.length 0 lo = 0 /\ HT.sIx xs.length xs.length hi = xs.length) /\ ∀ p, H p = none -> Q (.ref p) (upd H p (.tup (cutV xs lo hi)))
theorem sl_tup : SlR X (rSlT X.K) := by
 intro pins s σ H x v vl vu lo hi sl Q I rx hs pl pu h
 obtain ⟨a, xs, rfl, hx, hw, q⟩ := h
 cases rx
 obtain ⟨its, r, ht, hz⟩ := I.tuple hx
 have hlen : its.toArray.size = xs.length := by rw [List.size_toArray]; exact r.length.symm
 refine ⟨"tuple", _, PyProof.Rows.slot_tuple_getitem.lookup, ht.typeIs, ?_⟩
 refine HT.zib ht hs pl pu (by rw [hlen]; exact hw) ?_ (by rw [hlen]; exact hz)
 rw [hlen]
 refine ⟨.ref s.heap.objs.size, _, I.laid (t' := s.toks) (o := .tup (cutV xs lo hi)) (fun b ob q => Heap.get?_push_of_some _ q) (Nat.le_refl _) ?_, rfl, q _ (I.hok.fresh (Nat.le_refl _))⟩
 exact ⟨Nat.le_trans (ziQ xs lo hi) hz, _, (r.drop (HT.sIx xs.length 0 lo)).take (HT.sIx xs.length xs.length hi - HT.sIx xs.length 0 lo), IsTup.new _ _⟩
def rCatT (K : W.Frag) : R2 := fun x y H Q => ∃ a b xs ys, x = .ref a /\ y = .ref b /\ SqT K H a xs /\ SqT K H b ys /\ xs ≠ [] /\ xs.length + ys.length <= sizeLine /\
 (ys = [] -> Q (.ref a) H) /\ (ys ≠ [] -> ∀ p, H p = none -> Q (.ref p) (upd H p (.tup (xs ++ ys))))
theorem Vals.nil_iff (r : Vals xs us) : us = [] ↔ xs = [] := by
 cases r with
 | nil => simp
 | cons _ _ => simp
theorem op_catT : OpR X (binaryOp .Add) (rCatT X.K) := by
 intro pins s σ H x y v u Q I rx ry h
 obtain ⟨a, b, xs, ys, rfl, rfl, ha, hb, hx, hz, q1, q2⟩ := h
 cases rx
 cases ry
 obtain ⟨its, r1, p1, _⟩ := I.tuple ha
 obtain ⟨its2, r2, p2, _⟩ := I.tuple hb
 refine HT.cat_tup p1 p2 (fun z => hx (r1.nil_iff.mp z)) (fun z => ⟨.ref a, H, I, rfl, q1 (r2.nil_iff.mp z)⟩) (fun z => ?_) (by rw [<- r1.length, <- r2.length]; exact hz)
 refine ⟨.ref s.heap.objs.size, _, I.laid (t' := s.toks) (o := .tup (xs ++ ys)) (fun b ob q => Heap.get?_push_of_some _ q) (Nat.le_refl _) ?_, rfl, q2 (fun w => z (r2.nil_iff.mpr w)) _ (I.hok.fresh (Nat.le_refl _))⟩
 exact ⟨by rw [List.length_append]; exact hz, _, r1.append r2, IsTup.new _ _⟩
end
def ixN (n : Nat) (i : Int) : Option Nat := if 0 <= i then (if i < n then some i.toNat else none) else if -(n : Int) <= i then some (i + n).toNat else none
def atI {α : Type} (xs : List α) (i : Int) : Option α := (ixN xs.length i).bind fun j => xs[j]?
theorem zoU {n : Nat} (h : ixN n i = some j) : seqIndex? i n = some j /\ j < n /\ -(n : Int) <= i /\ i < n := by
 unfold ixN at h
 by_cases h0 : 0 <= i
 ·rw [if_pos h0] at h
  by_cases h1 : i < n
  ·rw [if_pos h1] at h
   have e : i.toNat = j := Option.some.inj h
   exact ⟨by rw [seqIndex_of h0 h1, e], by omega, by omega, h1⟩
  ·rw [if_neg h1] at h; cases h
 ·rw [if_neg h0] at h
  by_cases h1 : -(n : Int) <= i
  ·rw [if_pos h1] at h
   have e : (i + n).toNat = j := Option.some.inj h
   exact ⟨by rw [seqIndex_neg (by omega) h1, e], by omega, h1, by omega⟩
  ·rw [if_neg h1] at h; cases h
theorem zlY {α : Type} {xs : List α} {v : α} (h : atI xs i = some v) : ∃ j, seqIndex? i xs.length = some j /\ xs[j]? = some v /\ j < xs.length /\ -(xs.length : Int) <= i /\ i < xs.length := by
 unfold atI at h
 cases e : ixN xs.length i with
 | none => rw [e] at h; cases h
 | some j =>
  rw [e] at h
  obtain ⟨h1, h2, h3, h4⟩ := zoU e
  exact ⟨j, h1, h, h2, h3, h4⟩
theorem zmH {α : Type} (xs : List α) (v : α) : atI (xs ++ [v]) (-1) = some v := by
 have hl : (xs ++ [v]).length = xs.length + 1 := by simp
 have e : ixN (xs ++ [v]).length (-1) = some xs.length := by
  unfold ixN
  rw [hl, if_neg (by decide), if_pos (by omega)]
  congr 1
  omega
 unfold atI
 rw [e]
 show (xs ++ [v])[xs.length]? = some v
 simp
def zkw (b : Expr) : Prop := ∀ o i, subscripted b false o i = operate [o, i] (getItem o i)
def IxR (X : Cx) (r : R2) : Prop :=
 ∀ (value slice : Expr) (pins : List (Addr × Obj)) (s : Shared) (σ : St) (H : Hp) (x y : V) (v u : Value) (Q : VK), Inv X pins σ H s -> RelV x v -> RelV y u -> r x y H Q ->
  subscripted slice false v u = operate [v, u] (getItem v u) -> wpAny (model X.prog X.w) X.A (subscriptTail value slice v u) (EP X pins σ Q) X.xe s
def MtR (X : Cx) (id : String) (r : V -> List V -> Hp -> VK -> Prop) : Prop :=
 ∀ (pins : List (Addr × Obj)) (s : Shared) (σ : St) (H : Hp) (x : V) (xs : List V) (v : Value) (us : List Value) (Q : VK), Inv X pins σ H s -> RelV x v -> Vals xs us -> r x xs H Q ->
  wpAny (model X.prog X.w) X.A (call (.builtin id) (v :: us)) (EP X pins σ Q) X.xe s
section
variable {X : Cx} {a b : Expr} {ta tb : TE} {pos : Pos}
theorem IxR.or {r r' : R2} (h : IxR X r) (h' : IxR X r') : IxR X (fun x y H Q => r x y H Q \/ r' x y H Q) := by
 intro value slice pins s σ H x y v u Q I rx ry q hs
 rcases q with q | q
 ·exact h value slice pins s σ H x y v u Q I rx ry q hs
 ·exact h' value slice pins s σ H x y v u Q I rx ry q hs
theorem pe_ix {r : R2} (hr : IxR X r) (ha : PE X a ta) (hb : PE X b tb) (hs : zkw b) : PE X (.Subscript a b pos) (tOp r ta tb) := by
 intro pins s σ H Q I h
 exact Subscript_ (binT ha hb I h fun v u s2 x y H2 I2 rx ry q => hr a b pins s2 σ H2 x y v u Q I2 rx ry q (hs _ _))
def rIxL (K : W.Frag) : R2 := fun x y H Q => ∃ p xs i v, x = .ref p /\ y = .int i /\ SqL K H p xs /\ atI xs i = some v /\ Q v H
def rIxT (K : W.Frag) : R2 := fun x y H Q => ∃ p xs i v, x = .ref p /\ y = .int i /\ SqT K H p xs /\ atI xs i = some v /\ Q v H
def rIxS : R2 := fun x y H Q => ∃ z i c, x = .str z /\ y = .int i /\ z.length <= sizeLine /\ atI z.cps.toList i = some c /\ Q (.str ⟨#[c]⟩) H
theorem ix_list : IxR X (rIxL X.K) := by
 intro value slice pins s σ H x y v u Q I rx ry h hs
 obtain ⟨p, xs, i, z, rfl, rfl, hq, he, q⟩ := h
 cases rx
 obtain ⟨t, rfl⟩ := ry
 obtain ⟨its, r, pl, hz⟩ := I.list hq
 obtain ⟨j, h1, h2, h3, h4, h5⟩ := zlY he
 obtain ⟨w, ew, rw'⟩ := r.get h2
 have hl := r.length
 have hn := zjS
 have fin : EP X pins σ Q w s := ⟨z, H, I, rw', q⟩
 by_cases h0 : 0 <= i
 ·have hj : i.toNat = j := by
   rw [seqIndex_of h0 h5] at h1
   exact Option.some.inj h1
  exact item_listR pl.isList h0 (by omega) (by rw [hj]; simpa using ew) fin hs
 ·have hj : (i + (its.toArray.size : Int)).toNat = j := by
   rw [seqIndex_neg (by omega) h4] at h1
   rw [List.size_toArray, <- hl]
   exact Option.some.inj h1
  exact subscriptTail_builtinR (x := w) pl.isList.typeIs slot_list_getitem.lookup
   (wpAny_getItem_list_neg (Q := fun r s' => r = w /\ EP X pins σ Q r s') pl.isList (by omega) (by rw [List.size_toArray] <;> omega) (by omega) (by rw [hj]; simpa using ew) ⟨rfl, fin⟩) hs
theorem ix_tup : IxR X (rIxT X.K) := by
 intro value slice pins s σ H x y v u Q I rx ry h hs
 obtain ⟨p, xs, i, z, rfl, rfl, hq, he, q⟩ := h
 cases rx
 obtain ⟨t, rfl⟩ := ry
 obtain ⟨its, r, pl, hz⟩ := I.tuple hq
 obtain ⟨j, h1, h2, h3, h4, h5⟩ := zlY he
 obtain ⟨w, ew, rw'⟩ := r.get h2
 have hl := r.length
 have hn := zjS
 have fin : EP X pins σ Q w s := ⟨z, H, I, rw', q⟩
 exact subscriptTail_builtinR (x := w) pl.typeIs slot_tuple_getitem.lookup
  (getItem_tuple (j := j) (Q := fun r s' => r = w /\ EP X pins σ Q r s') pl (by omega) (by omega) (by rw [List.size_toArray, <- hl]; exact h1) (by simpa using ew) ⟨rfl, fin⟩) hs
theorem ix_str : IxR X rIxS := by
 intro value slice pins s σ H x y v u Q I rx ry h hs
 obtain ⟨z, i, c, rfl, rfl, hz, he, q⟩ := h
 obtain ⟨t, rfl⟩ := rx
 obtain ⟨t', rfl⟩ := ry
 obtain ⟨j, h1, h2, h3, h4, h5⟩ := zlY he
 have hl : z.cps.toList.length = z.length := by simp [Str.length]
 rw [hl] at h1 h4 h5
 have hn := zjS
 exact tail_any (typeIs_str s z t) slot_str_getitem.lookup (getItem_str (c := c) (by
  have e1 : decide (i < -(2 ^ 63 : Int)) = false := decide_eq_false (by omega)
  have e2 : decide (i >= 2 ^ 63) = false := decide_eq_false (by omega)
  rw [e1, e2, Bool.or_false]) (by rw [h1]; simpa using h2) ⟨.str ⟨#[c]⟩, H, I.tok _, ⟨_, rfl⟩, q⟩) hs
def rIx (K : W.Frag) : R2 := fun x y H Q => rIxL K x y H Q \/ rIxT K x y H Q \/ rIxS x y H Q
theorem ix_seq : IxR X (rIx X.K) := ix_list.or (ix_tup.or ix_str)
theorem znI (its : List Value) (n j : Nat) (u : Value) : Obj.mapSeq (·.setIfInBounds j u) { cls := .type "list", data := .seq its.toArray n } = { cls := .type "list", data := .seq (its.set j u).toArray n } := by
 simp [Obj.mapSeq]
theorem Inv.lst (I : Inv X pins σ H s) (h : H p = some (.lst xs)) :
  ∃ (its : List Value) (n : Nat), Vals xs its /\ s.heap.get? p = some { cls := .type "list", data := .seq its.toArray n } /\ xs.length <= sizeLine := by
 obtain ⟨z, its, n, r, e⟩ := I.hok p _ h
 exact ⟨its, n, r, e, z⟩
theorem Inv.lstUpd {xs ys : List V} {n n' : Nat} {f : Obj -> Obj} (I : Inv X pins σ H s) (h : H p = some (.lst xs))
  (ho : s.heap.get? p = some { cls := .type "list", data := .seq its.toArray n }) (hf : f { cls := .type "list", data := .seq its.toArray n } = { cls := .type "list", data := .seq its'.toArray n' }) (r : Vals ys its') (hz : ys.length <= sizeLine) (t : Nat) :
  Inv X pins σ (upd H p (.lst ys)) { s with heap := s.heap.update p f, toks := t } := by
 have e : (s.heap.update p f).get? p = some { cls := .type "list", data := .seq its'.toArray n' } := by
  rw [Heap.get?_update_self f ho (by rw [hf] <;> rfl), hf]
 refine I.write (x := p) (e := p) (by rw [h]; trivial) (.inl rfl) (fun b u hb q => (Heap.get?_update_other _ _ (Ne.symm hb)).trans q) ⟨_, e⟩ ?_
 exact ⟨hz, its', n', r, e⟩
def rSetL : V -> V -> V -> Hp -> (Hp -> Prop) -> Prop := fun o i v H Q => ∃ p xs k j, o = .ref p /\ i = .int k /\ H p = some (.lst xs) /\ ixN xs.length k = some j /\ Q (upd H p (.lst (xs.set j v)))
theorem set_list : PSet X rSetL := by
 intro pins s σ H o i v ov iv u Q I ro ri rv h
 obtain ⟨p, xs, k, j, rfl, rfl, hp, hj, q⟩ := h
 cases ro
 obtain ⟨t, rfl⟩ := ri
 obtain ⟨its, n, r, ho, hz⟩ := I.lst hp
 obtain ⟨h1, h2, h3, h4⟩ := zoU hj
 have hl := r.length
 have hn := zjS
 have I' : Inv X pins σ (upd H p (.lst (xs.set j v))) { s with heap := s.heap.update p (Obj.mapSeq (·.setIfInBounds j u)) } :=
  I.lstUpd hp ho (znI its n j u) (r.set rv j) (by rw [List.length_set]; exact hz) s.toks
 by_cases h0 : 0 <= k
 ·have hk : k.toNat = j := by
   rw [seqIndex_of h0 h4] at h1
   exact Option.some.inj h1
  exact W.ki_setAt ho h0 (by omega) (by rw [List.size_toArray, <- hl]; exact h4) (by rw [hk]; exact ⟨_, I', q⟩)
 ·have hk : (k + (its.toArray.size : Int)).toNat = j := by
   rw [seqIndex_neg (by omega) h3] at h1
   rw [List.size_toArray, <- hl]
   exact Option.some.inj h1
  exact W.ki_setBack ho (by omega) (by rw [List.size_toArray, <- hl]; exact h3) (by omega) (by rw [hk]; exact ⟨_, I', q⟩)
theorem zly (lo hi : Option Int) (n : Nat) : (sliceBounds lo hi none n).1 = ((HT.sIx n 0 lo : Nat) : Int) /\ (sliceBounds lo hi none n).2.1 = ((HT.sIx n n hi : Nat) : Int) /\ (sliceBounds lo hi none n).2.2 = 1 := by
 refine ⟨?_, ?_, rfl⟩
 ·cases lo with
  | none => simp [sliceBounds, HT.sIx]
  | some i =>
   simp only [sliceBounds, HT.sIx, Option.getD_none, show (1 : Int) > 0 by decide, if_true]
   by_cases h : i < 0
   ·simp only [h, if_true] <;> omega
   ·simp only [h, if_false] <;> omega
 ·cases hi with
  | none => simp [sliceBounds, HT.sIx]
  | some i =>
   simp only [sliceBounds, HT.sIx, Option.getD_none, show (1 : Int) > 0 by decide, if_true]
   by_cases h : i < 0
   ·simp only [h, if_true] <;> omega
   ·simp only [h, if_false] <;> omega
theorem zkx (its : List Value) (lo hi : Option Int) : slicePick its.toArray lo hi none = ((its.drop (HT.sIx its.length 0 lo)).take (HT.sIx its.length its.length hi - HT.sIx its.length 0 lo)).toArray := by
 obtain ⟨h1, h2, h3⟩ := zly lo hi its.toArray.size
 unfold slicePick
 rw [h1, h2, h3]
 simp only [sliceRange_one, pick_run, List.size_toArray] <;> rfl
def rSlL (K : W.Frag) : V -> Option Int -> Option Int -> Hp -> VK -> Prop := fun x lo hi H Q => ∃ a xs, x = .ref a /\ SqL K H a xs /\ ∀ p, H p = none -> Q (.ref p) (upd H p (.lst (cutV xs lo hi)))
theorem sl_list : SlR X (rSlL X.K) := by
 intro pins s σ H x v vl vu lo hi sl Q I rx hs pl pu h
 obtain ⟨a, xs, rfl, hx, q⟩ := h
 cases rx
 obtain ⟨its, r, ht, hz⟩ := I.list hx
 have hlen := r.length
 refine ⟨"list", _, slot_list_getitem.lookup, ht.isList.typeIs, ?_⟩
 refine wpAny_getItem_list_slice ht.isList hs pl pu .none (by simp) ?_ (by rw [List.size_toArray] <;> omega)
 rw [zkx, <- hlen]
 refine ⟨.ref s.heap.objs.size, _, I.laid (t' := s.toks) (o := .lst (cutV xs lo hi)) (fun b ob q => Heap.get?_push_of_some _ q) (Nat.le_refl _) ?_, rfl, q _ (I.hok.fresh (Nat.le_refl _))⟩
 exact ⟨Nat.le_trans (ziQ xs lo hi) hz, _, 0, (r.drop (HT.sIx xs.length 0 lo)).take (HT.sIx xs.length xs.length hi - HT.sIx xs.length 0 lo), Heap.get?_push_size _ rfl⟩
def zjj : V -> Bool
 | .non => true
 | .bl _ => true
 | .int _ => true
 | .str _ => true
 | _ => false
noncomputable def eqV : V -> V -> Bool
 | .non, .non => true
 | .bl a, .bl b => a == b
 | .bl a, .int b => (if a then 1 else 0) == b
 | .int a, .bl b => a == (if b then 1 else 0)
 | .int a, .int b => a == b
 | .str a, .str b => a == b
 | _, _ => false
theorem eqAt_V (ry : RelV y u) (rx : RelV x v) (fy : zjj y = true) (fx : zjj x = true) : SeqAt.EqAt A s u v (eqV y x) := by
 cases y with
 | non =>
  cases ry
  cases x with
  | non => cases rx; exact SeqAt.EqAt.same _
  | bl b => cases rx; exact SeqAt.EqAt.none_bool b
  | int b => obtain ⟨t, rfl⟩ := rx; exact SeqAt.EqAt.none_int b t
  | str b => obtain ⟨t, rfl⟩ := rx; exact SeqAt.EqAt.none_str b t
  | _ => exact absurd (show false = true from fx) Bool.false_ne_true
 | bl a =>
  cases ry
  cases x with
  | non => cases rx; exact SeqAt.EqAt.bool_none a
  | bl b => cases rx; exact SeqAt.EqAt.bool_bool a b
  | int b => obtain ⟨t, rfl⟩ := rx; exact SeqAt.EqAt.bool_int a b t
  | str b => obtain ⟨t, rfl⟩ := rx; exact SeqAt.EqAt.bool_str a b t
  | _ => exact absurd (show false = true from fx) Bool.false_ne_true
 | int a =>
  obtain ⟨t', rfl⟩ := ry
  cases x with
  | non => cases rx; exact SeqAt.EqAt.int_none a t'
  | bl b => cases rx; exact SeqAt.EqAt.int_bool a t' b
  | int b => obtain ⟨t, rfl⟩ := rx; exact SeqAt.EqAt.int_int a t' b t
  | str b => obtain ⟨t, rfl⟩ := rx; exact SeqAt.EqAt.int_str a t' b t
  | _ => exact absurd (show false = true from fx) Bool.false_ne_true
 | str a =>
  obtain ⟨t', rfl⟩ := ry
  cases x with
  | non => cases rx; exact SeqAt.EqAt.str_none a t'
  | bl b => cases rx; exact SeqAt.EqAt.str_bool a t' b
  | int b => obtain ⟨t, rfl⟩ := rx; exact SeqAt.EqAt.str_int a t' b t
  | str b => obtain ⟨t, rfl⟩ := rx; exact SeqAt.EqAt.str_str a t' b t
  | _ => exact absurd (show false = true from fx) Bool.false_ne_true
 | _ => exact absurd (show false = true from fy) Bool.false_ne_true
def eqU (x : V) (u : Value) : Bool := match u with
 | .none => eqV .non x
 | .bool b => eqV (.bl b) x
 | .int i _ => eqV (.int i) x
 | .str z _ => eqV (.str z) x
 | _ => false
theorem eqU_of (r : RelV y u) (f : zjj y = true) : eqU x u = eqV y x := by
 cases y with
 | non => cases r; rfl
 | bl b => cases r; rfl
 | int i => obtain ⟨t, rfl⟩ := r; rfl
 | str z => obtain ⟨t, rfl⟩ := r; rfl
 | _ => exact absurd (show false = true from f) Bool.false_ne_true
theorem zmk : ∀ {xs : List V} {us : List Value}, Vals xs us -> xs.all zjj = true -> us.any (eqU x) = xs.any fun y => eqV y x
 | _, _, .nil, _ => rfl
 | y :: xs, u :: us, .cons r t, f => by
  rw [List.all_cons, Bool.and_eq_true] at f
  rw [List.any_cons, List.any_cons, eqU_of r f.1, zmk t f.2]
theorem zkN (rx : RelV x v) (fx : zjj x = true) : ∀ {xs : List V} {us : List Value}, Vals xs us -> xs.all zjj = true -> ∀ u ∈ us, SeqAt.EqAt A s u v (eqU x u)
 | _, _, .nil, _ => fun u hu => by cases hu
 | y :: xs, u :: us, .cons r t, f => fun u' hu => by
  rw [List.all_cons, Bool.and_eq_true] at f
  rcases List.mem_cons.mp hu with rfl | hu
  ·rw [eqU_of r f.1]; exact eqAt_V r rx f.1 fx
  ·exact zkN rx fx t f.2 u' hu
def inV (x : V) (xs : List V) : Bool := xs.any fun y => eqV y x
def rIn (K : W.Frag) (neg : Bool) : R2 := fun x y H Q => ∃ p xs, y = .ref p /\ (SqL K H p xs \/ SqT K H p xs) /\ zjj x = true /\ xs.all zjj = true /\ Q (.bl (if neg then !inV x xs else inV x xs)) H
theorem zob : OpR X (compareOp .In) (rIn X.K false) := by
 intro pins s σ H x y v u Q I rx ry h
 obtain ⟨p, xs, rfl, hq, fx, fs, q⟩ := h
 cases ry
 rcases hq with hq | hq
 ·obtain ⟨its, r, pl, hz⟩ := I.list hq
  refine SeqAt.in_listAt (eqU x) pl.isList (fun w hw => zkN rx fx r fs w (by simpa using hw)) ⟨.bl _, H, I, rfl, ?_⟩
  rw [show its.toArray.any (eqU x) = its.any (eqU x) by simp, zmk r fs]
  exact q
 ·obtain ⟨its, r, pl, hz⟩ := I.tuple hq
  refine SeqAt.in_tupleAt (eqU x) pl (fun w hw => zkN rx fx r fs w (by simpa using hw)) ⟨.bl _, H, I, rfl, ?_⟩
  rw [show its.toArray.any (eqU x) = its.any (eqU x) by simp, zmk r fs]
  exact q
theorem zim : zgq X (.builtin "len") (fun xs H Q => ∃ p ys, xs = [.ref p] /\ (SqL X.K H p ys \/ SqT X.K H p ys) /\ Q (.int ys.length) H) := by
 intro pins s σ H xs us Q I r h
 obtain ⟨p, ys, rfl, hq, q⟩ := h
 obtain ⟨u, rfl, rx⟩ := zjn r
 cases rx
 have hn := zjS
 rcases hq with hq | hq
 ·obtain ⟨its, r', pl, hz⟩ := I.list hq
  have hlen := r'.length
  exact Calls.call_len_list pl.isList (by simp only [List.size_toArray] <;> omega) ⟨.int ys.length, H, I.tok _, ⟨s.toks + 1, by rw [List.size_toArray, hlen]⟩, q⟩
 ·obtain ⟨its, r', pl, hz⟩ := I.tuple hq
  have hlen := r'.length
  exact len_tuple pl (by simp only [List.size_toArray] <;> omega) ⟨.int ys.length, H, I.tok _, ⟨s.toks + 1, by rw [List.size_toArray, hlen]⟩, q⟩
theorem zlP : zgq X (.type "list") (fun xs H Q => ∃ p ys, xs = [.ref p] /\ (SqL X.K H p ys \/ SqT X.K H p ys) /\ ∀ l, H l = none -> Q (.ref l) (upd H l (.lst ys))) := by
 intro pins s σ H xs us Q I r h
 obtain ⟨p, ys, rfl, hq, q⟩ := h
 obtain ⟨u, rfl, rx⟩ := zjn r
 cases rx
 have fin : ∀ (its : List Value), Vals ys its -> ys.length <= sizeLine -> ∀ (h' : Heap) (c' : Nat), (∀ b o', s.heap.get? b = some o' -> h'.get? b = some o') ->
   h'.get? s.heap.objs.size = some { cls := .type "list", dict := none, data := .seq its.toArray c', slots := #[] } -> EP X pins σ Q (.ref s.heap.objs.size) { s with heap := h' } := fun its r' hz h' c' kp e =>
  ⟨.ref s.heap.objs.size, _, I.laid (t' := s.toks) kp (Nat.le_refl _) (show ObjOk X.prog X.w _ h' _ (.lst ys) from ⟨hz, its, c', r', e⟩), rfl, q _ (I.hok.fresh (Nat.le_refl _))⟩
 rcases hq with hq | hq
 ·obtain ⟨its, r', pl, hz⟩ := I.list hq
  have hlen := r'.length
  obtain ⟨o, ho, hc, n, hd⟩ := pl.isList
  exact call_list_seq p (.inl rfl) ho hc hd (fun h' c' kp e => fin its r' hz h' c' kp e) (by simp only [List.size_toArray] <;> omega)
 ·obtain ⟨its, r', pl, hz⟩ := I.tuple hq
  have hlen := r'.length
  obtain ⟨o, ho, hc, n, hd⟩ := pl
  exact call_list_seq p (.inr rfl) ho hc hd (fun h' c' kp e => fin its r' hz h' c' kp e) (by simp only [List.size_toArray] <;> omega)
theorem zke : zgq X (.type "tuple") (fun xs H Q => ∃ p ys, xs = [.ref p] /\ ((SqL X.K H p ys /\ ∀ l, H l = none -> Q (.ref l) (upd H l (.tup ys))) \/ (SqT X.K H p ys /\ Q (.ref p) H))) := by
 intro pins s σ H xs us Q I r h
 obtain ⟨p, ys, rfl, h⟩ := h
 obtain ⟨u, rfl, rx⟩ := zjn r
 cases rx
 rcases h with ⟨hq, q⟩ | ⟨hq, q⟩
 ·obtain ⟨its, r', pl, hz⟩ := I.list hq
  have hlen := r'.length
  refine call_tuple_list pl.isList (fun h' kp => ?_) (by simp only [List.size_toArray] <;> omega)
  have I1 : Inv X pins σ H { s with heap := h' } := I.kept (t' := s.toks) kp
  have I2 : Inv X pins σ (upd H h'.objs.size (.tup ys)) { s with heap := h'.push { cls := .type "tuple", data := .seq its.toArray } } :=
   I1.laid (t' := s.toks) (fun b o e => Heap.get?_push_of_some _ e) (Nat.le_refl _) (show ObjOk X.prog X.w _ _ _ (.tup ys) from ⟨hz, its, r', IsTup.new _ _⟩)
  exact ⟨.ref h'.objs.size, _, I2, rfl, q _ (I1.hok.fresh (Nat.le_refl _))⟩
 ·obtain ⟨its, r', pl, hz⟩ := I.tuple hq
  exact call_tuple_same pl ⟨.ref p, H, I, rfl, q⟩
def tyV (K : W.Frag) (T : String) (x : V) (H : Hp) : Prop := match x with
 | .str _ => T = "str"
 | .int _ => T = "int"
 | .ref p => (T = "list" /\ ∃ xs, SqL K H p xs) \/ (T = "tuple" /\ ∃ o, K.lookup p = some o /\ o.cls = .type "tuple" /\ o.dict = none) \/
   (T = "dict" /\ ((∃ kvs, H p = some (.dK kvs)) \/ ∃ kvs, H p = some (.dT kvs))) \/ (T = "set" /\ ∃ S n, H p = some (.set S n))
 | _ => False
theorem tyV_is {T : String} (I : Inv X pins σ H s) (r : RelV x v) (ty : tyV X.K T x H) :
  s.TypeIs v T /\ ∀ a, v = .ref a -> ∃ ob, s.heap.get? a = some ob /\ ob.dict = none := by
 cases x with
 | str z =>
  obtain ⟨t, rfl⟩ := r
  cases (show T = "str" from ty)
  exact ⟨typeIs_str s z t, fun _ e => nomatch e⟩
 | int i =>
  obtain ⟨t, rfl⟩ := r
  cases (show T = "int" from ty)
  exact ⟨typeIs_int s i t, fun _ e => nomatch e⟩
 | ref p =>
  cases r
  rcases ty with ⟨rfl, xs, hq⟩ | ⟨rfl, o, hk, hc, hd⟩ | ⟨rfl, hk⟩ | ⟨rfl, S, n, hk⟩
  ·obtain ⟨its, _, pl, _⟩ := I.list hq
   refine ⟨pl.isList.typeIs, fun a e => ?_⟩
   cases e
   obtain ⟨o, n, e, c, hd, _⟩ := pl
   exact ⟨o, e, hd⟩
  ·refine ⟨⟨o, I.kIn p o hk, hc⟩, fun a e => ?_⟩
   cases e
   exact ⟨o, I.kIn _ o hk, hd⟩
  ·have z : ∃ o, s.heap.get? p = some o /\ o.ExactDict := by
    rcases hk with ⟨kvs, hk⟩ | ⟨kvs, hk⟩
    ·obtain ⟨_, _, _, _, o, _, _, e, ex, _⟩ := I.hok p _ hk
     exact ⟨o, e, ex⟩
    ·obtain ⟨_, _, _, _, o, _, _, e, ex, _⟩ := I.hok p _ hk
     exact ⟨o, e, ex⟩
   obtain ⟨o, e, ex⟩ := z
   refine ⟨⟨o, e, ex.1⟩, fun a e2 => ?_⟩
   cases e2
   exact ⟨o, e, ex.2.1⟩
  ·obtain ⟨o, _, _, _, e, ex, _⟩ := I.hok p _ hk
   refine ⟨⟨o, e, ex.1⟩, fun a e2 => ?_⟩
   cases e2
   exact ⟨o, e, ex.2.1⟩
 | _ => exact False.elim ty
def tBM (K : W.Frag) (T : String) (r : V -> List V -> Hp -> VK -> Prop) (to : TE) (t : TA) : TE := fun σ H Q => to σ H fun x H1 => tyV K T x H1 /\ t σ H1 fun xs H2 => r x xs H2 Q
variable {o e : Expr} {es : List Expr} {to : TE} {t : TA} {name : Str} {apos cpos : Pos} {T id : String} {r : V -> List V -> Hp -> VK -> Prop}
theorem pe_bm (pa : PlainAttrs T) (slot : Slot T name id) (hty : typeOf (.builtin id) = pure (.type "method_descriptor")) (hm : MtR X id r) (ho : PE X o to) (ha : PA X (e :: es) t)
  (hbase : attributeBase o name X.env (eval o X.env) = eval o X.env := by rfl)
  (hfew : ((backTo cpos (starEach (e :: es) X.env)).all (fun x => !x.1) && (backToKw cpos (keywordEach [] X.env)).all (fun x => x.1.isSome)
   && decide ((e :: es).length + ([] : List Keyword).length + (if ([] : List Keyword).isEmpty then 0 else 1) < 30)) = true := by rfl)
  (hline : (apos.endLine == cpos.line) = true := by rfl) (hs : starEach (e :: es) X.env = (false, eval e X.env) :: starEach es X.env := by rfl) (hplain : (backTo cpos (starEach es X.env)).any (·.1) = false := by rfl) :
  PE X (.Call (.Attribute o name apos) (e :: es) [] cpos) (tBM X.K T r to t) := by
 intro pins s σ H Q I h
 refine wpAny_Call_method_late hbase hfew hline rfl (thn (ho pins s σ H _ I h) fun v s1 ⟨x, H1, I1, r1, ty, q1⟩ => ?_)
 obtain ⟨h1, h2⟩ := tyV_is I1 r1 ty
 refine ⟨T, id, pa, slot, hty, h1, h2, ?_⟩
 have hA := ha cpos pins s1 σ H1 _ I1 q1
 rw [hs] at hA ⊢
 refine Calls.callWith_builtin (by show (false || (backTo cpos (starEach es X.env)).any (·.1)) = false; rw [hplain] <;> rfl) (Calls.evalArgs_plain ?_)
 exact thn hA fun us s2 ⟨vs, H2, I2, r2, q2⟩ => hm pins s2 σ H2 x vs v us Q I2 r1 r2 q2
end
def MtM (X : Cx) (id : String) (r : V -> List V -> Hp -> VK -> Prop) : Prop :=
 ∀ (pins : List (Addr × Obj)) (s : Shared) (σ : St) (H : Hp) (x : V) (xs : List V) (v : Value) (us : List Value) (Q : VK), Inv X pins σ H s -> RelV x v -> Vals xs us -> r x xs H Q ->
  wpAny (model X.prog X.w) X.A (call (.builtin id) (v :: us)) (EP X pins σ Q) X.xe s
theorem Vals.one : ∀ {x : V} {us : List Value}, Vals [x] us -> ∃ u, us = [u] /\ RelV x u
 | _, _, .cons r .nil => ⟨_, rfl, r⟩
theorem Vals.rep (h : Vals xs us) : ∀ k : Nat, Vals (List.replicate k xs).flatten (List.replicate k us).flatten
 | 0 => .nil
 | k + 1 => by
  rw [List.replicate_succ, List.replicate_succ, List.flatten_cons, List.flatten_cons]
  exact Vals.append h (Vals.rep h k)
theorem zlm (its : List Value) : ∀ (k : Nat) (acc : List Value),
  List.foldl (fun x1 x2 => x1 ++ x2) acc.toArray (List.replicate k its.toArray) = (acc ++ (List.replicate k its).flatten).toArray
 | 0, acc => by simp
 | k + 1, acc => by
  have e : acc.toArray ++ its.toArray = (acc ++ its).toArray := by simp
  have e2 : (acc ++ its) ++ (List.replicate k its).flatten = acc ++ (List.replicate (k + 1) its).flatten := by
   rw [List.replicate_succ, List.flatten_cons, List.append_assoc]
  rw [<- e2, <- zlm its k (acc ++ its), <- e, List.replicate_succ, List.foldl_cons]
section
variable {X : Cx} {pins : List (Addr × Obj)} {σ : St} {H : Hp} {s : Shared} {l b : Addr} {xs ys zs : List V}
theorem Inv.lset (I : Inv X pins σ H s) (hH : H l = some (.lst xs))
  (e : s.heap.get? l = some { cls := .type "list", data := .seq its.toArray n }) (hf : f its.toArray = its'.toArray) (hv : Vals ys its') (hz : ys.length <= sizeLine) :
  Inv X pins σ (upd H l (.lst ys)) { s with heap := s.heap.update l (Obj.mapSeq f), toks := t' } := by
 have q := PySem.IsL.update e f
 rw [hf] at q
 refine I.write (x := l) (e := l) (by rw [hH]; exact trivial) (.inl rfl) (fun b' u hb hu => (Heap.get?_update_other s.heap (Obj.mapSeq f) (Ne.symm hb)).trans hu) ⟨_, q⟩ ?_
 exact ⟨hz, its', _, hv, q⟩
theorem Inv.lnew (I : Inv X pins σ H s) (hv : Vals ys its) (hz : ys.length <= sizeLine) :
  Inv X pins σ (upd H s.heap.objs.size (.lst ys)) { s with heap := s.heap.push { cls := .type "list", data := .seq its.toArray }, toks := t' } :=
 I.laid (fun _ _ q => Heap.get?_push_of_some _ q) (Nat.le_refl _) ⟨hz, its, 0, hv, Heap.get?_push_size _ rfl⟩
theorem Inv.fresh (I : Inv X pins σ H s) : H s.heap.objs.size = none := I.hok.fresh (Nat.le_refl _)
theorem Inv.lstM (I : Inv X pins σ H s) (hH : H l = some (.lst xs)) : xs.length <= sizeLine /\ ∃ (its : List Value) (n : Nat), Vals xs its /\ xs.length = its.length /\ s.heap.get? l = some { cls := .type "list", data := .seq its.toArray n } := by
 obtain ⟨z, its, n, r, e⟩ := I.hok l _ hH
 exact ⟨z, its, n, r, r.length, e⟩
theorem zmZ (h : n <= sizeLine) : Builtin.List.listTooLong n = false := by
 unfold Builtin.List.listTooLong
 exact decide_eq_false (by omega)
end
section
variable {X : Cx}
def rAppend : V -> List V -> Hp -> VK -> Prop := fun x vs H Q => ∃ l xs y, x = .ref l /\ vs = [y] /\ H l = some (.lst xs) /\ xs.length < sizeLine /\ Q .non (upd H l (.lst (xs ++ [y])))
theorem zlu : MtM X "list.append" rAppend := by
 intro pins s σ H x vs v us Q I rx rv h
 obtain ⟨l, xs, y, rfl, rfl, hH, hz, q⟩ := h
 cases rx
 obtain ⟨u, rfl, ru⟩ := rv.one
 obtain ⟨z, its, n, r, hl, e⟩ := I.lstM hH
 refine call_meets F.slot_list_append ⟨_, e, rfl⟩ F.entry_list_append (F.args_list_append_2 _ _) (PySem.list_append l its.toArray n u (by rw [List.size_toArray]; omega)) ⟨e, ?_⟩
 refine ⟨.non, _, I.lset (its' := its ++ [u]) hH e (by simp) (r.append (.cons ru .nil)) ?_, rfl, q⟩
 rw [List.length_append, List.length_singleton]
 omega
def rExtend : V -> List V -> Hp -> VK -> Prop := fun x vs H Q => ∃ l b xs zs, x = .ref l /\ vs = [.ref b] /\ H l = some (.lst xs) /\ H b = some (.lst zs) /\ xs.length + zs.length <= sizeLine /\ Q .non (upd H l (.lst (xs ++ zs)))
theorem zn7 : MtM X "list.extend" rExtend := by
 intro pins s σ H x vs v us Q I rx rv h
 obtain ⟨l, b, xs, zs, rfl, rfl, hH, hB, hz, q⟩ := h
 cases rx
 obtain ⟨u, rfl, ru⟩ := rv.one
 cases ru
 obtain ⟨z, its, n, r, hl, e⟩ := I.lstM hH
 obtain ⟨z2, its2, n2, r2, hl2, e2⟩ := I.lstM hB
 have hsz : its.toArray.size + its2.toArray.size <= sizeLine := by rw [List.size_toArray, List.size_toArray]; omega
 have hlong : ¬ (!its.toArray.isEmpty && Builtin.List.listTooLong (its.toArray.size + its2.toArray.size)) = true := by
  rw [zmZ hsz, Bool.and_false]
  exact Bool.false_ne_true
 refine call_meets F.slot_list_extend ⟨_, e, rfl⟩ F.entry_list_extend (F.args_list_extend_2 _ _)
  (AutoSeq1.list_extend_list_list_0 l its.toArray n b its2.toArray n2 hlong (by rw [List.size_toArray]; omega) (by omega)) ⟨e, e2, ?_⟩
 refine ⟨.non, _, I.lset (its' := its ++ its2) hH e (by simp) (r.append r2) ?_, rfl, q⟩
 rw [List.length_append]
 omega
def rCat : R2 := fun x y H Q => ∃ l b xs zs, x = .ref l /\ y = .ref b /\ H l = some (.lst xs) /\ H b = some (.lst zs) /\ xs.length + zs.length <= sizeLine /\ ∀ p, H p = none -> Q (.ref p) (upd H p (.lst (xs ++ zs)))
theorem op_cat : OpR X (binaryOp .Add) rCat := by
 intro pins s σ H x y v u Q I rx ry h
 obtain ⟨l, b, xs, zs, rfl, rfl, hH, hB, hz, q⟩ := h
 cases rx
 cases ry
 obtain ⟨z, its, n, r, hl, e⟩ := I.lstM hH
 obtain ⟨z2, its2, n2, r2, hl2, e2⟩ := I.lstM hB
 refine PySem.P.add_list e e2 ?_ (by rw [List.size_toArray, List.size_toArray]; omega)
 have ea : its.toArray ++ its2.toArray = (its ++ its2).toArray := by simp
 rw [ea]
 exact ⟨.ref _, _, I.lnew (t' := s.toks) (r.append r2) (by rw [List.length_append]; omega), rfl, q _ I.fresh⟩
def rRep : R2 := fun x y H Q => ∃ l k xs, x = .ref l /\ y = .int k /\ H l = some (.lst xs) /\ -(2 ^ 63) <= k /\ k < 2 ^ 63 /\ xs.length * k.toNat <= sizeLine /\
 ∀ p, H p = none -> Q (.ref p) (upd H p (.lst (List.replicate k.toNat xs).flatten))
theorem len_rep {α : Type} (xs : List α) (k : Nat) : (List.replicate k xs).flatten.length = k * xs.length := by
 induction k with
 | zero => simp
 | succ k ih => rw [List.replicate_succ, List.flatten_cons, List.length_append, ih, Nat.succ_mul, Nat.add_comm]
theorem op_rep : OpR X (binaryOp .Mult) rRep := by
 intro pins s σ H x y v u Q I rx ry h
 obtain ⟨l, k, xs, rfl, rfl, hH, h1, h2, hz, q⟩ := h
 cases rx
 obtain ⟨t, rfl⟩ := ry
 obtain ⟨z, its, n, r, hl, e⟩ := I.lstM hH
 have hlen : its.toArray.size * k.toNat <= sizeLine := by rw [List.size_toArray, <- hl]; exact hz
 have hcap : ¬ its.toArray.size * k.toNat > (2 ^ 63 - 1) / 8 := by
  have : (sizeLine : Nat) <= (2 ^ 63 - 1) / 8 := by decide
  omega
 have hfit : ¬ (!Builtin.List.listFitsIndex k) = true := by
  rw [fitsIndex_both h1 h2]
  exact Bool.false_ne_true
 have hlong : ¬ Builtin.List.listTooLong (its.toArray.size * k.toNat) = true := by
  rw [zmZ hlen]
  exact Bool.false_ne_true
 have hnew : List.foldl (fun x1 x2 => x1 ++ x2) #[] (List.replicate (if its.toArray.isEmpty = true then 0 else k.toNat) its.toArray) = (List.replicate k.toNat its).flatten.toArray := by
  have f0 : ∀ m : Nat, List.foldl (fun x1 x2 => x1 ++ x2) #[] (List.replicate m its.toArray) = (List.replicate m its).flatten.toArray := fun m => by
   have := zlm its m []
   rw [List.nil_append] at this
   exact this
  rw [f0]
  cases its with
  | nil => simp
  | cons a r' => rw [if_neg (by simp)]
 refine wpAny_binaryOp_repeat_ref (T := "list") (U := "int") (by decide) ⟨_, e, rfl⟩ (fun s' => typeIs_int s' k t) noFill_list_mul F.fills_int_mul F.slot_int_rmul repeat_list F.slot_int_index.lookup
  (call_meets F.slot_int_rmul (typeIs_int s k t) F.entry_int_rmul (F.args_int_rmul_2 _ _) (int___rmul___int_list k t l its.toArray n)
   ⟨e, rfl, ⟨_, e, rfl⟩, call_meets F.slot_list_mul ⟨_, e, rfl⟩ F.entry_list_mul (F.args_list_mul_2 _ _) (AutoListH.list___mul___list_int_3 l its.toArray n k t hfit hcap hlong) ⟨e, ?_⟩⟩)
 rw [hnew]
 exact ⟨.ref _, _, I.lnew (t' := s.toks) (r.rep k.toNat) (by rw [len_rep, Nat.mul_comm]; exact hz), rfl, q _ I.fresh⟩
end
end L2
namespace Att
open PyProof.Rows PySem PySem.Calls PySem.W
theorem zjd {P : Params} {h : Heap} : ∀ (ns : List Int) (vs : List Value), WellAll P h vs (ns.map WData.int) -> IntsAre vs ns := by
 intro ns
 induction ns with
 | nil =>
  intro vs w
  rw [List.map_nil] at w
  cases w
  exact .nil
 | cons n ns ih =>
  intro vs w
  rw [List.map_cons] at w
  cases w with
  | cons a b =>
   cases a
   exact .cons _ _ (ih _ b)
theorem zpV {l : OpenLaw} {n : Nat} (hn : l.most = some n) {P : Params} {h : Heap} {args : List WData} {vals : List Value}
  (hpre : l.row.toRowW.claim.pre args = true) (hwl : WellAll P h vals args) :
  ∃ a vs ns, vals = [Value.ref a] /\ args = [WData.list (ns.map WData.int)] /\ h.get? a = some { cls := .type "list", data := .seq vs.toArray } /\ IntsAre vs ns /\ ns.length <= n := by
 have hsh : WShape.hasAll [] args [.list .int] = true := (pre_splitW hpre).1
 have hc : l.pre.holds [] { args := args } = true := (pre_splitW hpre).2
 obtain ⟨d, r, rfl, h1, h2⟩ := hasAllW_cons hsh
 obtain rfl := hasAllW_nil h2
 obtain ⟨xs, rfl, h3⟩ := hasW_list h1
 obtain ⟨ns, rfl⟩ := items_int h3
 have hlen : ns.length <= n := by
  unfold OpenLaw.pre at hc
  have h4 : (WTm.not (.lt (.lit (.int (n : Int))) (.len (.arg 0)))).holds [] { args := [.list (ns.map .int)] } = true := by
   have h4 := (holds_andW hc).1
   rw [hn] at h4
   exact h4
  have h5 := condW_of h4 (w_not (w_lt w_lit (w_len_list (w_arg rfl))))
  rw [List.length_map] at h5
  refine Nat.le_of_not_lt fun q => ?_
  have q' : (n : Int) < ((ns.length : Nat) : Int) := by omega
  first
   | (rw [decide_eq_true q'] at h5; exact absurd h5 (by decide))
   | (simp at h5; omega)
 cases hwl with
 | cons w1 w2 =>
  cases w2
  cases w1 with
  | list ho hall => exact ⟨_, _, ns, rfl, rfl, ho, zjd ns _ hall, hlen⟩
theorem zpe (l : OpenLaw) (args : List WData) : l.row.toRowW.claim.post args (.bool true) args = true :=
 postW_of (r := l.row.toRowW) (X := (true == true))
  (show WShape.has [] (.bool true) .bool = true by first | rfl | decide | simp [WShape.has, WShape.arms, WShape.armsAll])
  (show (WTm.eq .res (.lit (.bool true))).value [] { args := args, res := some (.bool true), after := args } = some (.bool (true == true)) from w_eq_bool (w_res rfl) w_lit) rfl
theorem attach_call {l : OpenLaw} {n : Nat} {q : Program} {loose : List Str} {XP : (Str -> Option Value) -> Heap -> Prop} {YP : World -> Heap -> Prop} {d : DefRec}
  (hn : l.most = some n) (hdf : d.params.defaults = [])
  (call : ∀ (w : World) (s₀ s₁ : Shared) (mg mb : Str -> Option Value) (fa : Addr) (o : Obj) (pm cd doc : Value) (a : Addr) (vs : List Value) (ns : List Int),
   Ground q loose [] XP w s₀ mg mb s₁.heap -> YP w s₁.heap ->
   s₁.heap.get? fa = some o -> o.data = .func (docDef d.name d.params d.body d.scope pm cd doc) -> s₁.heap.CodeRec cd d.name -> mg d.name = some (.ref fa) ->
   s₁.heap.get? a = some { cls := .type "list", data := .seq vs.toArray } -> IntsAre vs ns -> ns.length <= n -> s₁.gens = #[] ->
   codeAny (model l.prog w) callerA (.call (.ref fa) ⟨[.ref a], []⟩) (fun r s' => r = .ok (.ret (.bool true)) /\ OldK s₁.heap s'.heap /\ s'.os = s₁.os /\ AllBare s'.gens) s₁) :
  WalkO q loose XP YP l.row.toRowW d [] (fun f vs => PySem.call f vs) := by
 intro w s₀ s₁ mg mb G Y fa o pm cd doc dV kV ho hd hcd hD hmg hg args vals as hpre hlay hrd hwl hlo
 obtain rfl : dV = .none := Dflts.none hD hdf
 obtain rfl : kV = .none := Dflts.noKw hD
 obtain ⟨a, vs, ns, rfl, rfl, hobj, hints, hlen⟩ := zpV hn hpre hwl
 refine enter_call (codeAny_mono (call w s₀ s₁ mg mb fa o pm cd doc a vs ns G Y ho (fd_plain hd) hcd hmg hobj hints hlen hg) fun r s' hq => ?_)
 obtain ⟨rfl, h2, h3, h4⟩ := hq
 exact ⟨.inl ⟨.bool true, .bool true, [], rfl, fun _ => rfl, .bool true, zpe l _, fun _ => ⟨List.Pairwise.nil, fun _ hm => (nomatch hm)⟩⟩, h2, h3, h4⟩
end Att
namespace L2
open PyProof.Rows PySem PySem.Spec
variable {w : World} {K : W.Frag} {mg mb : Str -> Option Value} {CX : World -> CXT} {a f b : Addr} {fd : FuncData} {x qual : Str} {sp : Sp} {vs : List (Key × Value)} {ns : List Int} {l : W.OpenLaw} {q prog : Program} {loose ps : List Str} {XP : (Str -> Option Value) -> Heap -> Prop} {YP : World -> Heap -> Prop} {d : DefRec} {X : Cx} {oc u d' : Value} {osl : Array (Option Value)} {H H' : Hp} {xs : List (List Key × Addr × Value)} {o : Option V} {y : V} {kvs : List (List Key × V)} {ks keys : List (Option Expr)} {Q E : Value -> Shared -> Prop} {h' : Heap} {A : Around} {s : Shared} {pos : Pos} {pins : List (Addr × Obj)} {σ : St} {trs : List (TE × TE)} {values : List Expr}
theorem zk6 : ∀ {vs : List Value} {ns : List Int}, IntsAre vs ns -> Vals (ns.map V.int) vs
 | _, _, .nil => .nil
 | _, _, .cons n t h => .cons ⟨t, rfl⟩ (zk6 h)
def Only (H : Hp) : Prop := ∀ b, H b = none \/ ∃ o xs, H b = some (.frz o (.lst xs))
theorem law_call {P : Program} {CX : CXT} {k : Nat} {fa a : Addr} {s₁ : Shared} {vs : List Value} 
  (KX : K.In s₁.heap) (hns : s₁.heap.Ns mainGlobals mg) (hb : s₁.heap.Ns builtinsNs mb) (hbb : ∀ x : Str, x ≠ "__name__" -> mb x = bootBuiltins x) (hlim : s₁.heap.NoLimit) (hg : s₁.gens = #[])
  (ha : s₁.heap.get? a = some { cls := .type "list", data := .seq vs.toArray }) (hi : IntsAre vs ns) (hl : ns.length <= sizeLine) (hr : Room k callerA)
  (F : ∀ base : Heap, K.In base -> base.Ns mainGlobals mg -> FnOk P w K mg base CX k fa fd [x] sp) (hbind : ∀ (s : Shared) (u : Value), BindsTo s fd ⟨[u], []⟩ [(x, u)])
  (hsp : ∀ H : Hp, Only H -> SqL K H a (ns.map V.int) -> sp [.ref a] H (fun v _ => v = .bl true) fun _ _ _ => False)
  (hCX : ∀ H e s', CX [] H s₁ (fun _ _ _ => False) e s' -> False) :
  codeAny (model P w) callerA (.call (.ref fa) ⟨[.ref a], []⟩) (fun r s' => r = .ok (.ret (.bool true)) /\ OldK s₁.heap s'.heap /\ s'.os = s₁.os /\ AllBare s'.gens) s₁ := by
 have rv := zk6 hi
 have lenV := hi.length
 have core : ∀ H : Hp, Only H -> SqL K H a (ns.map V.int) -> HOk P w H s₁.heap -> (∀ b, H b ≠ none -> b = a) -> (H a ≠ none -> K.lookup a = none) ->
   codeAny (model P w) callerA (.call (.ref fa) ⟨[.ref a], []⟩) (fun r s' => r = .ok (.ret (.bool true)) /\ OldK s₁.heap s'.heap /\ s'.os = s₁.os /\ AllBare s'.gens) s₁ := by
  intro H hO hS hok hA hK
  have base_of : ∀ {b : Addr} {o : Obj}, s₁.heap.get? b = some o -> H b = none -> (hidT s₁.heap H).get? b = some o := fun e n => hidT_get e n
  have noA : ∀ {b : Addr} {o : Obj} {es : Array DictEntry} {ep : Nat}, s₁.heap.get? b = some o -> o.data = .dict es ep -> H b = none := fun {b o es ep} e d => by
   cases q : H b with
   | none => rfl
   | some u =>
    have e' : b = a := hA b (by rw [q]; simp)
    subst e'
    rw [ha] at e; cases e
    have d' : Data.seq vs.toArray _ = Data.dict es ep := d
    cases d'
  have nsK : ∀ {b : Addr} {m : Str -> Option Value}, s₁.heap.Ns b m -> (hidT s₁.heap H).Ns b m := fun {b m} ⟨o, es, ep, e, d, r⟩ => ⟨o, es, ep, base_of e (noA e d), d, r⟩
  have hKb : K.In (hidT s₁.heap H) := fun b o e => base_of (KX b o e) (by
   cases q : H b with
   | none => rfl
   | some u =>
    have e' : b = a := hA b (by rw [q]; simp)
    subst e'
    rw [hK (by rw [q]; simp)] at e; cases e)
  have hM : Mod K mg (hidT s₁.heap H) := ⟨hKb, nsK hns, ⟨mb, nsK hb, hbb⟩, let ⟨mc, h1, h2⟩ := hlim; ⟨mc, nsK h1, h2⟩⟩
  have e0 : Env0 P w K mg (hidT s₁.heap H) callerA [] s₁ H := ⟨rfl, hM, fun b o e => of_hidT e, Nat.le_of_eq (zoD _ _), trivial, fun b hb => absurd (show b ∈ ([] : List Addr) from hb) (by simp), hok, .of_eq hg⟩
  refine codeAny_mono ((F _ hKb (nsK hns)).run callerA [] s₁ H ⟨[.ref a], []⟩ [.ref a] [.ref a] _ _ hr e0 (hbind s₁ (.ref a)) (.cons rfl .nil) (hsp H hO hS)) fun r s' h => ?_
  cases r with
  | error e => exact (hCX H e s' h).elim
  | ok fl =>
   cases fl with
   | next => exact False.elim h
   | brk => exact False.elim h
   | cont => exact False.elim h
   | ret u =>
    obtain ⟨v, H', os, bare, un, hok', r', q⟩ := h
    have q' : v = .bl true := q
    subst q'
    obtain rfl : u = Value.bool true := r'
    refine ⟨rfl, OldK.of_keep fun b o e => ?_, os, bare⟩
    cases q : H b with
    | none => exact un.keep b o e q (by intro z; exact absurd (show b ∈ ([] : List Addr) from z) (by simp)) (by simp)
    | some u =>
     rcases hO b with z | ⟨ob, xs, z⟩
     ·rw [q] at z; cases z
     ·have z2 := un.frzs b ob _ z
      obtain ⟨e1, _⟩ := hok b _ z
      obtain ⟨e2, _⟩ := hok' b _ z2
      rw [e] at e1; cases e1
      exact e2
 cases hk : K.lookup a with
 | some o =>
  have e := KX a o hk
  rw [ha] at e
  cases e
  refine core (fun _ => none) (fun _ => .inl rfl) (.inr ⟨_, vs.toArray, _, hk, rfl, rfl, rfl, by rw [List.size_toArray, lenV]; exact hl, by simpa using rv⟩) (fun b u z => by have z' : (none : Option HO) = some u := z; cases z') (fun b z => absurd rfl z) fun z => absurd rfl z
 | none =>
  refine core (fun b => if b = a then some (.frz { cls := .type "list", data := .seq vs.toArray } (.lst (ns.map V.int))) else none) (fun b => ?_) (.inl (.inr ⟨{ cls := .type "list", data := .seq vs.toArray }, if_pos rfl⟩)) (fun b u z => ?_) (fun b z => ?_) fun _ => hk
  ·by_cases hb : b = a
   ·exact .inr ⟨_, _, if_pos hb⟩
   ·exact .inl (if_neg hb)
  ·by_cases hb : b = a
   ·have z' := (if_pos hb).symm.trans z
    cases z'
    subst hb
    exact ⟨ha, by rw [List.length_map]; exact hl, vs, _, rv, ha⟩
   ·have z' := (if_neg hb).symm.trans z
    cases z'
  ·by_cases hb : b = a
   ·exact hb
   ·exact absurd (if_neg hb) z
theorem walk_of {n k : Nat} {K : Params -> W.Frag} {sp : World -> Sp} 
  (hn : l.most = some n) (hn2 : n <= sizeLine) (hdf : d.params.defaults = []) (hr : Room k callerA)
  (hY : ∀ (w : World) (h : Heap), YP w h -> (K w.params).In h)
  (F : ∀ (w : World) (mg : Str -> Option Value) (fa : Addr) (h : Heap), (K w.params).In h -> h.Ns mainGlobals mg -> mg d.name = some (.ref fa) ->
   ∃ fd : FuncData, (∀ (s : Shared) (u : Value), BindsTo s fd ⟨[u], []⟩ [(x, u)]) /\
    ∀ base : Heap, (K w.params).In base -> base.Ns mainGlobals mg -> FnOk l.prog w (K w.params) mg base (CX w) k fa fd [x] (sp w))
  (hsp : ∀ (w : World) (H : Hp) (a : Addr) (ns : List Int), ns.length <= n -> Only H -> SqL (K w.params) H a (ns.map V.int) -> sp w [.ref a] H (fun v _ => v = .bl true) fun _ _ _ => False)
  (hCX : ∀ (w : World) (H : Hp) (s : Shared) (e : Value) (s' : Shared), CX w [] H s (fun _ _ _ => False) e s' -> False) :
  W.WalkO q loose XP YP l.row.toRowW d [] (fun f vs => PySem.call f vs) := by
 refine Att.attach_call hn hdf fun w s₀ s₁ mg mb fa o pm cd doc a vs ns G Y ho hd hcd hmg hobj hints hlen hg => ?_
 have KX := hY w _ Y
 obtain ⟨fd, hb, hF⟩ := F w mg fa _ KX G.T.g hmg
 exact law_call KX G.T.g G.T.b G.T.builtins G.T.nolimit hg hobj hints (Nat.le_trans hlen hn2) hr hF hb (fun H hO hS => hsp w H a ns hlen hO hS) fun H e s' => hCX w H s₁ e s'
def zfR (s : Stmt) : Arguments := match s with
 | .FunctionDef _ a _ _ _ _ _ _ _ _ => a
 | _ => { posonlyargs := [], args := [], vararg := none, kwonlyargs := [], kw_defaults := [], kwarg := none, defaults := [] }
def zcV (s : Stmt) : List Stmt := match s with
 | .FunctionDef _ _ b _ _ _ _ _ _ _ => b
 | _ => []
def zaX (s : Stmt) : Scope := match s with
 | .FunctionDef _ _ _ _ _ _ sc _ _ _ => sc
 | _ => { kind := .function, names := [], isGenerator := false, isCoroutine := false }
abbrev CX0 : CXT := fun _ _ _ _ _ _ => False
abbrev E0 : XK := fun _ _ _ => False
theorem pass0 : zpN CX0 X E0 := fun _ _ _ _ _ _ _ h => h.elim
structure Fun (K : W.Frag) (x qual : Str) (st : Stmt) (f : Addr) (fd : FuncData) : Prop where
 ex : ∃ (oc : Value) (od : Option Addr) (kV doc pm : Value) (an : Option Addr) (cdv ct : Value) (osl : Array (Option Value)),
  fd = W.fnOf x qual (zfR st) (zcV st) (zaX st) .none kV doc pm an cdv ct /\ K.lookup f = some ⟨oc, od, .func fd, osl⟩ /\ W.codeIn K cdv qual = true
 kp : W.keepIn K (.ref f) = true
section
variable {P : Program} {w : World} {K : W.Frag} {mg : Str -> Option Value} {base : Heap}
theorem Fun.ok {st : Stmt} {N ps : List Str} {k : Nat} (F : Fun K x qual st f fd) (S : FnScope N ps (zaX st)) (len : ∀ vs H Q E, sp vs H Q E -> vs.length = ps.length)
  (hbody : ∀ (cdv : Value) (A : Around) (outer : List Env) (s : Shared) (H : Hp) (vs : List V) (Q : VK) (E : XK), Room k (A.deeper (envOfC qual (zaX st) s.heap.objs.size f cdv)) -> sp vs H Q E ->
   ∃ t, PSs (cxOf CX0 P w K mg base N qual (zaX st) f cdv A outer s H E).nox (zcV st) t /\ t { nx := fun _ H' => Q .non H', rt := Q } (start N vs) H) : FnOk P w K mg base CX0 (k + 1) f fd ps sp := by
 obtain ⟨oc, od, kV, doc, pm, an, cdv, ct, osl, rfl, lk, hcd⟩ := F.ex
 refine fn_of lk hcd S len fun A outer s H vs Q E hr hsp => ?_
 obtain ⟨t, h, q⟩ := hbody cdv A outer s H vs Q E hr hsp
 exact ⟨t, h.nox, q⟩
theorem Fun.binds {st : Stmt} (F : Fun K x qual st f fd)
  (h : ∀ (kV doc pm : Value) (an : Option Addr) (cdv ct : Value) (us : List Value), us.length = ps.length -> bindArgs (W.fnOf x qual (zfR st) (zcV st) (zaX st) .none kV doc pm an cdv ct) ⟨us, []⟩ = pure (ps.zip us)) : Binds K fd ps [] := by
 obtain ⟨oc, od, kV, doc, pm, an, cdv, ct, osl, rfl, lk, hcd⟩ := F.ex
 exact .all (h kV doc pm an cdv ct)
theorem fun_mk {st : Stmt} {od an : Option Addr} {kV doc pm cdv ct : Value} (l : K.lookup f = some ⟨oc, od, .func (W.fnOf x qual (zfR st) (zcV st) (zaX st) .none kV doc pm an cdv ct), osl⟩)
  (c : W.codeIn K cdv qual = true) (k : W.keepIn K (.ref f) = true) : Fun K x qual st f (W.fnOf x qual (zfR st) (zcV st) (zaX st) .none kV doc pm an cdv ct) := ⟨⟨oc, od, kV, doc, pm, an, cdv, ct, osl, rfl, l, c⟩, k⟩
end
def Same (H H' : Hp) : Prop := ∀ b o, H b = some o -> H' b = some o
theorem Same.seq {xs : List V} (e : Same H H') (h : SqL K H a xs) : SqL K H' a xs := by
 rcases h with (h | ⟨o, h⟩) | h
 ·exact .inl (.inl (e _ _ h))
 ·exact .inl (.inr ⟨o, e _ _ h⟩)
 ·exact .inr h
section
variable {κ : Type} [DecidableEq κ]
def valV (kvs : List (κ × V)) (k : κ) : Option V := (kvs.find? fun kv => decide (kv.1 = k)).map (·.2)
noncomputable def putK (kvs : List (κ × V)) (k : κ) (v : V) : List (κ × V) :=
 if (kvs.any fun kv => decide (kv.1 = k)) = true then kvs.map (fun kv => if kv.1 = k then (kv.1, v) else kv) else kvs ++ [(k, v)]
theorem zeU {p : κ × V} {r : List (κ × V)} {k : κ} (e : p.1 = k) : valV (p :: r) k = some p.2 := by simp [valV, List.find?_cons, e]
theorem zcp {p : κ × V} {r : List (κ × V)} {k : κ} (e : ¬ p.1 = k) : valV (p :: r) k = valV r k := by simp [valV, List.find?_cons, e]
theorem zkQ (k : κ) : ∀ kvs : List (κ × V), (kvs.any fun kv => decide (kv.1 = k)) = (valV kvs k).isSome
 | [] => rfl
 | p :: r => by
  rw [List.any_cons]
  by_cases e : p.1 = k
  ·simp only [zeU e, decide_eq_true e, Bool.true_or, Option.isSome_some]
  ·rw [zcp e, decide_eq_false e, Bool.false_or]; exact zkQ k r
theorem zg2 (kvs : List (κ × V)) (k : κ) (v : V) : (putK kvs k v).length <= kvs.length + 1 := by
 unfold putK
 split
 ·rw [List.length_map]; omega
 ·rw [List.length_append, List.length_cons, List.length_nil]; omega
theorem zka {kvs : List (κ × V)} {k : κ} (v : V) (h : valV kvs k = none) : putK kvs k v = kvs ++ [(k, v)] := by
 unfold putK
 rw [zkQ, h]
 exact if_neg (by decide)
theorem RelO.isSome_eq {u : Option Value} (r : RelO o u) : o.isSome = u.isSome := by
 cases o with
 | none => cases u with
  | none => rfl
  | some _ => exact (show False from r).elim
 | some _ => cases u with
  | none => exact (show False from r).elim
  | some _ => rfl
theorem RelO.getD {u : Option Value} {d : V} (r : RelO o u) (rd : RelV d d') : RelV (o.getD d) (u.getD d') := by
 cases o with
 | none => cases u with
  | none => exact rd
  | some _ => exact (show False from r).elim
 | some _ => cases u with
  | none => exact (show False from r).elim
  | some _ => exact r
theorem KV.val {kvs : List (κ × V)} {vs : List (κ × Value)} (r : KV kvs vs) (k : κ) : RelO (valV kvs k) (valueAt vs k) := by
 unfold KV at r
 induction r with
 | nil => exact True.intro
 | @cons p q ps qs h t ih =>
  obtain ⟨h1, h2⟩ := h
  by_cases e : p.1 = k
  ·have e' : q.1 = k := h1.symm.trans e
   have b : valueAt (q :: qs) k = some q.2 := by simp [valueAt, List.find?_cons, e']
   rw [zeU e, b]; exact h2
  ·have e' : ¬ q.1 = k := fun z => e (h1.trans z)
   have b : valueAt (q :: qs) k = valueAt qs k := by simp [valueAt, List.find?_cons, e']
   rw [zcp e, b]; exact ih
theorem KV.any {kvs : List (κ × V)} {vs : List (κ × Value)} (r : KV kvs vs) (k : κ) : (kvs.any fun kv => decide (kv.1 = k)) = vs.any fun kv => decide (kv.1 = k) := by
 unfold KV at r
 induction r with
 | nil => rfl
 | cons h t ih => rw [List.any_cons, List.any_cons, ih, h.1]
theorem KV.repl {kvs : List (κ × V)} {vs : List (κ × Value)} (r : KV kvs vs) (k : κ) (ry : RelV y u) :
  KV (kvs.map fun kv => if kv.1 = k then (kv.1, y) else kv) (vs.map fun kv => if kv.1 = k then (kv.1, u) else kv) := by
 unfold KV at r ⊢
 induction r with
 | nil => exact .nil
 | @cons p q ps qs h t ih =>
  rw [List.map_cons, List.map_cons]
  refine .cons ?_ ih
  obtain ⟨h1, h2⟩ := h
  by_cases e : p.1 = k
  ·rw [if_pos e, if_pos (h1.symm.trans e)]; exact ⟨h1, ry⟩
  ·rw [if_neg e, if_neg (fun z => e (h1.trans z))]; exact ⟨h1, h2⟩
theorem KV.put {kvs : List (κ × V)} {vs : List (κ × Value)} (r : KV kvs vs) (k : κ) (ry : RelV y u) : KV (putK kvs k y) (stored vs k u) := by
 unfold putK stored
 rw [r.any k]
 by_cases e : (vs.any fun kv => decide (kv.1 = k)) = true
 ·rw [if_pos e, if_pos e]; exact r.repl k ry
 ·rw [if_neg e, if_neg e]; exact Paired.snoc r ⟨rfl, ry⟩
theorem KV.length {kvs : List (κ × V)} {vs : List (κ × Value)} (r : KV kvs vs) : kvs.length = vs.length := Paired.length r
end
theorem znZ {P : Program} {k : Key} (r : RelV (kV k) u) : (zbw P w).is k u = true := by
 cases k with
 | inl i => obtain ⟨t, e⟩ := (show ∃ t, u = Value.int i t from r); subst e; exact zlX P w i t
 | inr x => obtain ⟨t, e⟩ := (show ∃ t, u = Value.str x t from r); subst e; exact zmi P w x t
theorem zkY {P : Program} : ∀ {ks : List Key} {us : List Value}, Vals (ks.map kV) us -> ItemsAre (zbw P w) ks us
 | [], _, r => by rw [List.map_nil] at r; cases r; exact .nil
 | k :: ks, _, r => by
  rw [List.map_cons] at r
  cases r with
  | cons h t => exact .cons (znZ h) (zkY t)
abbrev KT (H : Hp) : List (List Key × V) -> List (List Key × Addr × Value) -> Prop := Paired fun p q => p.1 = q.1 /\ H q.2.1 = some (.tup (p.1.map kV)) /\ RelV p.2 q.2.2
theorem KT.val (r : KT H kvs xs) (k : List Key) : RelO (valV kvs k) ((atKey xs k).map (·.2)) := by
 induction r with
 | nil => exact True.intro
 | @cons p q ps qs h t ih =>
  obtain ⟨h1, _, h2⟩ := h
  by_cases e : p.1 = k
  ·have e' : q.1 = k := h1.symm.trans e
   have b : atKey (q :: qs) k = some q.2 := by simp [atKey, List.find?_cons, e']
   rw [zeU e, b]; exact h2
  ·have e' : ¬ q.1 = k := fun z => e (h1.trans z)
   have b : atKey (q :: qs) k = atKey qs k := by simp [atKey, List.find?_cons, e']
   rw [zcp e, b]; exact ih
theorem KT.repl (r : KT H kvs xs) (k : List Key) (ry : RelV y u) :
  KT H (kvs.map fun kv => if kv.1 = k then (kv.1, y) else kv) (xs.map (putAt k u)) := by
 induction r with
 | nil => exact .nil
 | @cons p q ps qs h t ih =>
  rw [List.map_cons, List.map_cons]
  refine .cons ?_ ih
  obtain ⟨h1, h2, h3⟩ := h
  unfold putAt
  by_cases e : p.1 = k
  ·rw [if_pos e, if_pos (h1.symm.trans e)]; exact ⟨h1, h2, ry⟩
  ·rw [if_neg e, if_neg (fun z => e (h1.trans z))]; exact ⟨h1, h2, h3⟩
theorem KT.put (r : KT H kvs xs) (k : List Key) (hb : H b = some (.tup (k.map kV))) (ry : RelV y u) :
  KT H (putK kvs k y) (storedH xs k b u) := by
 have e : (kvs.any fun kv => decide (kv.1 = k)) = (atKey xs k).isSome := by
  rw [zkQ, (r.val k).isSome_eq, Option.isSome_map]
 unfold putK storedH
 rw [e]
 by_cases q : (atKey xs k).isSome = true
 ·rw [if_pos q, if_pos q]; exact r.repl k ry
 ·rw [if_neg q, if_neg q]; exact Paired.snoc r ⟨rfl, hb, ry⟩
theorem KT.keeps (r : KT H kvs xs) (ht : ∀ b ys, H b = some (.tup ys) -> H' b = some (.tup ys)) : KT H' kvs xs :=
 Paired.mapP r fun _ _ z => ⟨z.1, ht _ _ z.2.1, z.2.2⟩
section
variable {P : Program} {w : World} {H : Hp} {h : Heap} {a : Addr}
theorem rd_of {u : HO} (ok : HOk P w H h) (e : Rd H a u) : ObjOk P w H h a u := e.ok ok
theorem znQ {kvs : List (Key × V)} (ok : HOk P w H h) (e : Rd H a (.dK kvs)) : kvs.length <= sizeLine /\ (a == sysModules) = false /\ ∃ vs, KV kvs vs /\ h.DictOf (zbw P w) a vs :=
 show ObjOk P w H h a (.dK kvs) from rd_of ok e
theorem dk_of {kvs : List (Key × V)} (ok : HOk P w H h) (e : H a = some (.dK kvs)) : kvs.length <= sizeLine /\ (a == sysModules) = false /\ ∃ vs, KV kvs vs /\ h.DictOf (zbw P w) a vs := znQ ok (.inl e)
theorem zlG {ks : List Key} (ok : HOk P w H h) (e : H a = some (.tup (ks.map kV))) : (tupleKind (zbw P w)).is h ks a := by
 obtain ⟨_, its, r, o, h1, h2, n, h3⟩ := (show ObjOk P w H h a (.tup (ks.map kV)) from ok a _ e)
 exact ⟨o, its.toArray, n, h1, h2, h3, by simpa using zkY r⟩
theorem znv (ok : HOk P w H h) (e : Rd H a (.dT kvs)) : kvs.length <= sizeLine /\ (a == sysModules) = false /\
  ∃ xs, KT H kvs xs /\ h.DictOfH (tupleKind (zbw P w)) a xs := by
 obtain ⟨z, y, xs, r, o, es, ep, h1, h2, h3, h4, h5⟩ := (show ObjOk P w H h a (.dT kvs) from rd_of ok e)
 refine ⟨z, y, xs, r, o, es, ep, h1, h2, h3, h4, fun x hx => ?_, h5⟩
 have all : ∀ {l : List (List Key × V)} {m : List (List Key × Addr × Value)}, KT H l m -> ∀ x ∈ m, (tupleKind (zbw P w)).is h x.1 x.2.1 := by
  intro l m q
  induction q with
  | nil => intro x hx; exact nomatch hx
  | @cons p q ps qs hq t ih =>
   intro x hx
   rcases List.mem_cons.mp hx with e | hx
   ·subst e
    exact zlG ok (by rw [<- hq.1]; exact hq.2.1)
   ·exact ih x hx
 exact all r x hx
theorem dt_of (ok : HOk P w H h) (e : H a = some (.dT kvs)) : kvs.length <= sizeLine /\ (a == sysModules) = false /\
  ∃ xs, KT H kvs xs /\ h.DictOfH (tupleKind (zbw P w)) a xs := znv ok (.inl e)
end
def DGet (H : Hp) (a : Addr) (y : V) (r : Option V) : Prop :=
 (∃ kvs k, Rd H a (.dK kvs) /\ y = kV k /\ r = valV kvs k) \/ ∃ kvs k b, Rd H a (.dT kvs) /\ y = .ref b /\ H b = some (.tup (k.map kV)) /\ r = valV kvs k
def DPut (H : Hp) (a : Addr) (y v : V) (H' : Hp) : Prop :=
 (∃ kvs k, H a = some (.dK kvs) /\ y = kV k /\ kvs.length < sizeLine /\ H' = upd H a (.dK (putK kvs k v))) \/
 ∃ kvs k b, H a = some (.dT kvs) /\ y = .ref b /\ H b = some (.tup (k.map kV)) /\ kvs.length < sizeLine /\ H' = upd H a (.dT (putK kvs k v))
theorem DGet.k {kvs : List (Key × V)} {k : Key} (e : H a = some (.dK kvs)) : DGet H a (kV k) (valV kvs k) := .inl ⟨kvs, k, .inl e, rfl, rfl⟩
theorem DPut.k {kvs : List (Key × V)} {k : Key} {v : V} (e : H a = some (.dK kvs)) (hl : kvs.length < sizeLine) : DPut H a (kV k) v (upd H a (.dK (putK kvs k v))) := .inl ⟨kvs, k, e, rfl, hl, rfl⟩
section
variable {X : Cx} {pins : List (Addr × Obj)} {σ : St} {H : Hp} {s : Shared} {a : Addr} {y v : V} {u r : Value} {o : Option V} {A : Around} {E : Value -> Shared -> Prop}
theorem Inv.big (I : Inv X pins σ H s) : sysModules < s.heap.objs.size := by
 have h : mainGlobals < s.heap.objs.size := (I.mod.glob.keeps I.bk).lt
 exact Nat.lt_trans (by decide) h
theorem zo8 (hu : A.units + 1 < cLine) (I : Inv X pins σ H s) (g : DGet H a y (some v)) (ry : RelV y u) (h : ∀ w' s', Inv X pins σ H s' -> RelV v w' -> Q w' s') :
  wpAny (model X.prog X.w) A (getItem (.ref a) u) Q E s := by
 rcases g with ⟨kvs, k, e, ey, l⟩ | ⟨kvs, k, b, e, ey, eb, l⟩
 ·subst ey
  obtain ⟨z, hd, vs, rel, dd⟩ := znQ I.hok e
  obtain ⟨w', hw, rw'⟩ := RelO.some_of (v := v) (o := valueAt vs k) (by rw [l]; exact rel.val k)
  exact wpAny_getItem_of (znZ ry) dd.mapOf hw (h w' _ (I.tok _) rw')
 ·subst ey
  cases (show u = Value.ref b from ry)
  obtain ⟨z, hd, xs, rel, dd⟩ := znv I.hok e
  obtain ⟨w', hw, rw'⟩ := RelO.some_of (v := v) (o := (atKey xs k).map (·.2)) (by rw [l]; exact rel.val k)
  obtain ⟨p, hp, hp2⟩ := Option.map_eq_some_iff.mp hw
  refine wpAny_getItem_heap (tupleKind_room_in1 hu) (zlG I.hok eb) dd hp ?_
  rw [hp2]
  exact h w' _ (I.tok _) rw'
theorem d_notIn (hu : A.units + 1 < cLine) (I : Inv X pins σ H s) (g : DGet H a y o) (ry : RelV y u) (h : ∀ s', Inv X pins σ H s' -> Q (.bool (!o.isSome)) s') :
  wpAny (model X.prog X.w) A (compareOp .NotIn u (.ref a)) Q E s := by
 rcases g with ⟨kvs, k, e, ey, l⟩ | ⟨kvs, k, b, e, ey, eb, l⟩
 ·subst ey
  obtain ⟨z, hd, vs, rel, dd⟩ := znQ I.hok e
  refine wpAny_notIn_of (znZ ry) hd dd.mapOf ?_
  rw [<- (rel.val k).isSome_eq, <- l]
  exact h _ (I.tok _)
 ·subst ey
  cases (show u = Value.ref b from ry)
  obtain ⟨z, hd, xs, rel, dd⟩ := znv I.hok e
  refine wpAny_notIn_heap (tupleKind_room_in1 hu) (zlG I.hok eb) hd dd ?_
  have q := (rel.val k).isSome_eq
  rw [Option.isSome_map] at q
  rw [<- q, <- l]
  exact h _ (I.tok _)
theorem zlT {t' : Nat} {ob : HO} (I : Inv X pins σ H s) (mu : Mut (H a)) (hs : Heap.SameBut a s.heap h') (he : ∃ q, h'.get? a = some q) (new : ObjOk X.prog X.w (upd H a ob) h' a ob) :
  Inv X pins σ (upd H a ob) { s with heap := h', toks := t' } :=
 I.write (x := a) (e := a) mu (.inl rfl) (fun b q hb z => (hs.2 b hb).trans z) he new
theorem dk_new {P : Program} {kvs : List (Key × V)} (z : kvs.length <= sizeLine) (hd : (a == sysModules) = false) (rel : KV kvs vs) (dd : h'.DictOf (zbw P w) a vs) :
  ObjOk P w H' h' a (.dK kvs) := ⟨z, hd, vs, rel, dd⟩
theorem zoE {Q : Unit -> Shared -> Prop} (hu : A.units + 1 < cLine) (I : Inv X pins σ H s) (g : DPut H a y v H') (ry : RelV y u) (rv : RelV v r) (h : ∀ s', Inv X pins σ H' s' -> Q () s') :
  wpAny (model X.prog X.w) A (setItem (.ref a) u r) Q E s := by
 rcases g with ⟨kvs, k, e, ey, l, eH⟩ | ⟨kvs, k, b, e, ey, eb, l, eH⟩
 ·subst ey eH
  obtain ⟨z, hd, vs, rel, dd⟩ := dk_of I.hok e
  have hz : vs.length <= sizeLine := by rw [<- rel.length]; exact z
  have hl : (putK kvs k v).length <= sizeLine := by have := zg2 kvs k v; omega
  refine wpAny_setItem_pairs (hsz := hz) (znZ ry) dd fun h' dd' hs => h _ ?_
  have he : ∃ q, h'.get? a = some q := let ⟨q, _, _, hq, _⟩ := dd'; ⟨q, hq⟩
  exact zlT I (by rw [e]; exact True.intro) hs he (dk_new hl hd (rel.put k rv) dd')
 ·subst ey eH
  cases (show u = Value.ref b from ry)
  obtain ⟨z, hd, xs, rel, dd⟩ := dt_of I.hok e
  have hz : xs.length <= sizeLine := by rw [<- Paired.length rel]; exact z
  have hl : (putK kvs k v).length <= sizeLine := by have := zg2 kvs k v; omega
  refine wpAny_setItem_heap (hsz := hz) (tupleKind_room_in1 hu) (zlG I.hok eb) dd fun h' dd' hs => h _ ?_
  obtain ⟨q, es, ep, hq, h2, h3, h4, _, h5⟩ := dd'
  refine zlT I (by rw [e]; exact True.intro) hs ⟨q, hq⟩ ⟨hl, hd, _, (rel.put k eb rv).keeps fun c ys ec => ?_, q, es, ep, hq, h2, h3, h4, h5⟩
  rw [zaw (ne_of ec e (fun z => nomatch z))]
  exact ec
end
def NoSl (i : Expr) : Prop := ∀ ov iv, subscripted i false ov iv = operate [ov, iv] (getItem ov iv)
theorem subD_of {env : Env} {value slice : Expr} {T id : String} 
  (hl : typeLookup (.type T) "__getitem__" = pure (some (.builtin id))) (hs : NoSl slice)
  (h : wpAny (model prog w) A (eval value env) (fun o s₁ => wpAny (model prog w) A (eval slice env) (fun i s₂ => s₂.TypeIs o T /\ wpAny (model prog w) A (getItem o i) Q E s₂) E s₁) E s) :
  wpAny (model prog w) A (eval (.Subscript value slice pos) env) Q E s := by
 refine Subscript_ (wpAny_mono h (fun o s₁ h₁ => wpAny_mono h₁ (fun i s₂ h₂ => ?_) fun _ _ x => x) fun _ _ x => x)
 obtain ⟨hT, h₂⟩ := h₂
 unfold subscriptTail
 refine wpAny_bind ?_
 rw [getitemInPython_of_ne hT.not_modules]
 refine wpAny_bind (wpAny_specialOf hT hl ?_)
 have fin : wpAny (model prog w) A (subscripted slice false o i) (fun r s₃ => wpAny (model prog w) A (letTemporaryGo value o r >>= fun _ => pure r) Q E s₃) E s₂ := by
  rw [hs o i]
  exact wpAny_operating (wpAny_mono h₂ (fun r s₃ h₃ => wpAny_bind (wpAny_letTemporaryGo (wpAny_pure h₃))) fun _ _ x => x)
 first
  | exact wpAny_pure (wpAny_bind fin)
  | exact wpAny_bind (wpAny_pure (wpAny_bind fin))
  | exact wpAny_bind fin
theorem zlQ (I : Inv X pins σ H s) (g : DGet H a y o) : s.TypeIs (.ref a) "dict" := by
 rcases g with ⟨kvs, k, e, _, _⟩ | ⟨kvs, k, b, e, _, _, _⟩
 ·obtain ⟨_, _, vs, _, dd⟩ := znQ I.hok e
  exact dd.typeIs
 ·obtain ⟨_, _, xs, _, dd⟩ := znv I.hok e
  exact dd.typeIs
def tDGet (td ty : TE) : TE := fun σ H Q => td σ H fun x H1 => ty σ H1 fun y H2 => ∃ a v, x = .ref a /\ DGet H2 a y (some v) /\ Q v H2
def tDNotIn (ty td : TE) : TE := fun σ H Q => ty σ H fun y H1 => td σ H1 fun x H2 => ∃ a o, x = .ref a /\ DGet H2 a y o /\ Q (.bl (!o.isSome)) H2
def sDPut (td ty tv : TE) : TS := fun D σ H => tv σ H fun v H1 => td σ H1 fun x H2 => ty σ H2 fun y H3 => ∃ a H4, x = .ref a /\ DPut H3 a y v H4 /\ D.nx σ H4
section
variable {X : Cx} {o i e value : Expr} {pos pos' tpos : Pos} {td ty tv : TE}
theorem pe_dget (hu : X.A.units + 1 < cLine) (ho : PE X o td) (hi : PE X i ty) (hs : NoSl i) : PE X (.Subscript o i pos) (tDGet td ty) := by
 intro pins s σ H Q I h
 refine subD_of PySem.F.slot_dict_getitem.lookup hs (thn (ho pins s σ H _ I h) fun u s1 ⟨x, H1, I1, rx, q1⟩ => thn (hi pins s1 σ H1 _ I1 q1) fun iv s2 ⟨y, H2, I2, ry, a, v, ex, g, q2⟩ => ?_)
 subst ex
 obtain rfl : u = Value.ref a := rx
 exact ⟨zlQ I2 g, zo8 hu I2 g ry fun w' s3 I3 rw' => ⟨v, H2, I3, rw', q2⟩⟩
theorem zoz (hu : X.A.units + 1 < cLine) (hi : PE X i ty) (ho : PE X o td) : PC X .NotIn i o (tDNotIn ty td) := by
 intro pins s σ H Q I h
 refine thn (hi pins s σ H _ I h) fun iv s1 ⟨y, H1, I1, ry, q1⟩ => thn (ho pins s1 σ H1 _ I1 q1) fun u s2 ⟨x, H2, I2, rx, a, ov, ex, g, q2⟩ => ?_
 subst ex
 obtain rfl : u = Value.ref a := rx
 exact d_notIn hu I2 g ry fun s3 I3 => ⟨.bl (!ov.isSome), H2, I3, rfl, q2⟩
theorem ps_dput (hu : X.A.units + 1 < cLine) (ho : PE X o td) (hi : PE X i ty) (hv : PE X value tv) (hs : swapsWith value (some (.Subscript o i pos')) pos.line X.env = pure false) :
  PS X (.Assign [.Subscript o i pos'] value pos) (sDPut td ty tv) := by
 intro pins s σ H D I h
 refine wpAny_Assign_Subscript (thn (hv pins s σ H _ I h) fun r s1 ⟨v, H1, I1, rv, q1⟩ => thn (ho pins s1 σ H1 _ I1 q1) fun u s2 ⟨x, H2, I2, rx, q2⟩ => thn (hi pins s2 σ H2 _ I2 q2) fun iv s3 ⟨y, H3, I3, ry, a, H4, ex, g, q3⟩ => ?_) hs
 subst ex
 obtain rfl : u = Value.ref a := rx
 exact zoE hu I3 g ry rv fun s4 I4 => ⟨σ, H4, I4, q3⟩
end
theorem zmP {P : Program} (h : Heap) (hb : sysModules < h.objs.size) : ObjOk P w H (h.push { cls := .type "dict", data := .dict #[] }) h.objs.size (.dK []) :=
 ⟨Nat.zero_le _, beq_eq_false_iff_ne.mpr (Ne.symm (Nat.ne_of_lt hb)), [], .nil, Heap.DictOf.new h⟩
def tDNewK : TE := fun _ H Q => ∀ p, H p = none -> Q (.ref p) (upd H p (.dK []))
section
variable {X : Cx} {pos : Pos}
theorem pe_dnewK : PE X (.Dict [] [] pos) tDNewK := fun pins s σ H Q I h =>
 wpAny_Dict_empty ⟨.ref s.heap.objs.size, _, I.laid (a := s.heap.objs.size) (o := .dK []) (t' := s.toks) (fun _ _ q => Heap.get?_push_of_some _ q) (Nat.le_refl _) (zmP s.heap I.big), rfl, h _ (I.hok.fresh (Nat.le_refl _))⟩
end
def zpT : List (TE × TE) -> St -> Hp -> (List (V × V) -> Hp -> Prop) -> Prop
 | [], _, H, Q => Q [] H
 | (tk, tv) :: r, σ, H, Q => tk σ H fun x H1 => tv σ H1 fun y H2 => zpT r σ H2 fun ps H3 => Q ((x, y) :: ps) H3
abbrev VV : List (V × V) -> List (Value × Value) -> Prop := Paired fun p q => RelV p.1 q.1 /\ RelV p.2 q.2
def PPs (X : Cx) (pos : Pos) (keys : List (Option Expr)) (values : List Expr) (trs : List (TE × TE)) : Prop :=
 ∀ (pins : List (Addr × Obj)) (s : Shared) (σ : St) (H : Hp) (Q : List (V × V) -> Hp -> Prop), Inv X pins σ H s -> zpT trs σ H Q ->
  wpAny (model X.prog X.w) X.A (evalPairs (pairTrees keys values X.env pos)) (fun vs s' => ∃ ps H', Inv X pins σ H' s' /\ VV ps vs /\ Q ps H') X.xe s
theorem pps_nil : PPs X pos [] [] [] := fun pins s σ H Q I h => pairTrees_nil_walk ⟨[], H, I, .nil, h⟩
theorem zkr {k v : Expr} {vs : List Expr} {tk tv : TE} (hk : PE X k tk) (hv : PE X v tv) (hr : PPs X pos ks vs trs) :
  PPs X pos (some k :: ks) (v :: vs) ((tk, tv) :: trs) := fun pins s σ H Q I h =>
 pairTrees_cons_walk (thn (hk pins s σ H _ I h) fun u s1 ⟨x, H1, I1, rx, q1⟩ => thn (hv pins s1 σ H1 _ I1 q1) fun w2 s2 ⟨y, H2, I2, ry, q2⟩ =>
  thn (hr pins s2 σ H2 _ I2 q2) fun ws s3 ⟨ps, H3, I3, rel, q3⟩ => ⟨(x, y) :: ps, H3, I3, .cons ⟨rx, ry⟩ rel, q3⟩)
def zjC (kvs more : List (Key × V)) : List (Key × V) := more.foldl (fun acc kv => putK acc kv.1 kv.2) kvs
theorem KV.merge : ∀ {more : List (Key × V)} {rs : List (Key × Value)} {kvs : List (Key × V)} {vs : List (Key × Value)}, KV more rs -> KV kvs vs -> KV (zjC kvs more) (merged vs rs) := by
 intro more rs kvs vs r
 unfold KV at r
 induction r generalizing kvs vs with
 | nil => intro q; exact q
 | @cons p q ps qs h t ih =>
  intro r0
  have e : KV (putK kvs p.1 p.2) (stored vs q.1 q.2) := by
   have := r0.put p.1 h.2
   rw [<- h.1]; exact this
  exact ih e
theorem zhI : ∀ (more kvs : List (Key × V)), (zjC kvs more).length <= kvs.length + more.length
 | [], kvs => by show kvs.length <= kvs.length + 0; omega
 | p :: r, kvs => by
  have h1 := zhI r (putK kvs p.1 p.2)
  have h2 := zg2 kvs p.1 p.2
  show (zjC (putK kvs p.1 p.2) r).length <= _
  rw [List.length_cons]; omega
theorem zjJ {P : Program} {w : World} : ∀ {kvs : List (Key × V)} {ws : List (Value × Value)}, VV (kvs.map fun kv => (kV kv.1, kv.2)) ws -> ∃ rs, Carries (zbw P w) ws rs /\ KV kvs rs
 | [], _, r => by rw [List.map_nil] at r; cases r; exact ⟨[], True.intro, .nil⟩
 | p :: kvs, _, r => by
  rw [List.map_cons] at r
  cases r with
  | @cons a b as bs h t =>
   obtain ⟨rs, c, q⟩ := zjJ (P := P) (w := w) t
   obtain ⟨b1, b2⟩ := b
   exact ⟨(p.1, b2) :: rs, ⟨znZ h.1, rfl, c⟩, .cons ⟨rfl, h.2⟩ q⟩
def tDisp (trs : List (TE × TE)) : TE := fun σ H Q => ∀ p, H p = none -> zpT trs σ (upd H p (.dK [])) fun ps H2 => H2 p = some (.dK []) /\ ∃ kvs : List (Key × V), ps = kvs.map (fun kv => (kV kv.1, kv.2)) /\ kvs.length <= 15 /\ Q (.ref p) (upd H2 p (.dK (zjC [] kvs)))
theorem pe_disp (h : PPs X pos keys values trs) (hall : keys.all (·.isSome) = true) (hl : keys.length = values.length) (h0 : keys ≠ [])
  (h15 : keys.length <= 15) : PE X (.Dict keys values pos) (tDisp trs) := by
 intro pins s σ H Q I q
 have hn := I.hok.fresh (Nat.le_refl s.heap.objs.size)
 have I1 := I.laid (a := s.heap.objs.size) (o := .dK []) (h' := s.heap.push { cls := .type "dict", data := .dict #[] }) (t' := s.toks) (fun _ _ q => Heap.get?_push_of_some _ q) (Nat.le_refl _) (zmP s.heap I.big)
 refine wpAny_Dict_walk (knd := zbw X.prog X.w) hall hl h0 h15 (thn (h pins _ σ _ _ I1 (q _ hn)) fun ws s2 ⟨ps, H2, I2, rel, e, kvs, ep, lk, q2⟩ => ?_)
 subst ep
 obtain ⟨rs, c, rk⟩ := zjJ (P := X.prog) (w := X.w) rel
 obtain ⟨z, hd, vs0, r0, dd⟩ := dk_of I2.hok e
 cases r0
 refine ⟨rs, c, dd, fun h' dd' hs => ⟨.ref s.heap.objs.size, _, ?_, rfl, q2⟩⟩
 have hz : (zjC [] kvs).length <= sizeLine := by
  have h1 := zhI kvs []
  rw [List.length_nil] at h1
  rw [sizeLine_eq]; omega
 have he : ∃ q, h'.get? s.heap.objs.size = some q := let ⟨q, _, _, hq, _⟩ := dd'; ⟨q, hq⟩
 exact zlT I2 (by rw [e]; exact True.intro) hs he (dk_new hz hd (rk.merge .nil) dd')
structure M2 (X : Cx) (o : Expr) (m : Str) (apos : Pos) (e f : Expr) (cpos : Pos) : Prop where
 base : attributeBase o m X.env (eval o X.env) = eval o X.env
 few : ((backTo cpos (starEach [e, f] X.env)).all (fun x => !x.1) && (backToKw cpos (keywordEach [] X.env)).all (fun x => x.1.isSome)
  && decide (([e, f] : List Expr).length + ([] : List Keyword).length + (if ([] : List Keyword).isEmpty then 0 else 1) < 30)) = true
 line : (apos.endLine == cpos.line) = true
 trees : backTo cpos (starEach [e, f] X.env) = [(false, eval e X.env), (false, eval f X.env)]
def IsD (H : Hp) (a : Addr) : Prop := (∃ kvs, Rd H a (.dK kvs)) \/ ∃ kvs, Rd H a (.dT kvs)
theorem isD_at (I : Inv X pins σ H s) (d : IsD H a) :
  s.TypeIs (.ref a) "dict" /\ (∀ b, Value.ref a = .ref b -> ∃ ob, s.heap.get? b = some ob /\ ob.dict = none) /\ (a == sysModules) = false := by
 rcases d with ⟨kvs, e⟩ | ⟨kvs, e⟩
 ·obtain ⟨_, hd, vs, _, dd⟩ := znQ I.hok e
  refine ⟨dd.typeIs, fun b q => ?_, hd⟩
  cases q
  obtain ⟨ob, _, _, h1, h2, _⟩ := dd
  exact ⟨ob, h1, h2.2.1⟩
 ·obtain ⟨_, hd, xs, _, dd⟩ := znv I.hok e
  refine ⟨dd.typeIs, fun b q => ?_, hd⟩
  cases q
  obtain ⟨ob, _, _, h1, h2, _⟩ := dd
  exact ⟨ob, h1, h2.2.1⟩
section
variable {X : Cx} {pins : List (Addr × Obj)} {σ : St} {H : Hp} {s : Shared} {a : Addr} {y d : V} {u r : Value} {o : Option V} {A : Around} {E : Value -> Shared -> Prop}
theorem d_get2 (hu : A.units + 1 < cLine) (I : Inv X pins σ H s) (g : DGet H a y o) (ry : RelV y u) (rd : RelV d r) (h : ∀ w' s', Inv X pins σ H s' -> RelV (o.getD d) w' -> Q w' s') :
  wpAny (model X.prog X.w) A (call (.builtin "dict.get") [.ref a, u, r]) Q E s := by
 rcases g with ⟨kvs, k, e, ey, l⟩ | ⟨kvs, k, b, e, ey, eb, l⟩
 ·subst ey
  obtain ⟨z, hd, vs, rel, dd⟩ := znQ I.hok e
  refine call_meetsIn PySem.F.slot_dict_get dd.typeIs PySem.F.entry_dict_get (PySem.F.args_dict_get_3 _ _ _) (meets_dict_get_default (zbw X.prog X.w) a (znZ ry) hd r) ⟨_, dd.mapOf, h _ _ (I.tok _) ?_⟩
  rw [l]
  exact (rel.val k).getD rd
 ·subst ey
  cases (show u = Value.ref b from ry)
  obtain ⟨z, hd, xs, rel, dd⟩ := znv I.hok e
  refine call_meetsIn PySem.F.slot_dict_get dd.typeIs PySem.F.entry_dict_get (PySem.F.args_dict_get_3 _ _ _) (meetsH_dict_get_default (tupleKind (zbw X.prog X.w)) a b hd r) ⟨tupleKind_room_in1 hu, k, xs, zlG I.hok eb, dd, h _ _ (I.tok _) ?_⟩
  rw [l]
  exact (rel.val k).getD rd
end
def tDGet2 (td ty tx : TE) : TE := fun σ H Q => td σ H fun x H1 => ∃ a, x = .ref a /\ IsD H1 a /\ ty σ H1 fun y H2 => tx σ H2 fun z H3 => ∃ o, DGet H3 a y o /\ Q (o.getD z) H3
section
variable {X : Cx} {o e f : Expr} {apos cpos : Pos} {td ty tx : TE}
theorem pe_dget2 (hu : X.A.units + 1 < cLine) (ho : PE X o td) (he : PE X e ty) (hf : PE X f tx) (m : M2 X o "get" apos e f cpos) : PE X (.Call (.Attribute o "get" apos) [e, f] [] cpos) (tDGet2 td ty tx) := by
 intro pins s σ H Q I h
 refine wpAny_Call_method m.base m.few m.line PySem.F.plainAttrs_dict PySem.F.slot_dict_get PySem.F.type_dict_get (thn (ho pins s σ H _ I h) fun u s1 ⟨x, H1, I1, rx, a, ex, d, q1⟩ => ?_)
 subst ex
 obtain rfl : u = Value.ref a := rx
 obtain ⟨t1, t2, _⟩ := isD_at I1 d
 refine ⟨t1, t2, ?_⟩
 rw [m.trees]
 refine Calls.callWith_builtin rfl (Calls.evalArgs_plain (Calls.spliced_cons (thn (he pins s1 σ H1 _ I1 q1) fun iv s2 ⟨y, H2, I2, ry, q2⟩ =>
  Calls.spliced_cons (thn (hf pins s2 σ H2 _ I2 q2) fun fv s3 ⟨z, H3, I3, rz, ov, g, q3⟩ => Calls.spliced_nil ?_))))
 exact d_get2 hu I3 g ry rz fun w' s4 I4 rw' => ⟨_, H3, I4, rw', q3⟩
end
end L2
namespace M
open L2 PySem
variable {A A' : List Addr} {G H G' : Hp} {p a l : Addr} {K : W.Frag} {xs ys : List V} {x v : V} {d : D} {ds es : List D} {i : Nat} {c : Ch} {t : T} {ov : Option (Option V)} {s : Sl} {ρ ρ' : R} {e : Expr} {b : Bool} {f : D -> D -> Option D} {ma : ME} {op : Operator} {r : V -> Hp -> VK -> Prop} {g : D -> Option D}
inductive D where
 | non | bl (b : Bool) | int (i : Int) | str (x : Str) | lst (ds : List D) | tup (ds : List D) | scr (ns : List Int) | exc (c : Str) | dic (ks : List Int) (ds : List D) | dit (ks : List (List Int)) (ds : List D)
def ExcIs (a C : Addr) (h : Heap) : Prop := ∃ o, h.get? a = some o /\ o.cls = .ref C
def kI (n : Int) : Key := Sum.inl n
mutual
def RepD (K : W.Frag) (G : Hp) (v : V) : D -> Prop
 | .non => v = .non
 | .bl b => v = .bl b
 | .int i => v = .int i
 | .str x => v = .str x
 | .lst ds => ∃ a xs, v = .ref a /\ G a = some (.lst xs) /\ RepL K G xs ds
 | .tup ds => ∃ a xs, v = .ref a /\ G a = some (.tup xs) /\ RepL K G xs ds
 | .scr ns => ∃ a, v = .ref a /\ SqL K G a (ns.map V.int)
 | .exc c => ∃ a C, v = .ref a /\ W.nsIn K mainGlobals c = some (some (.ref C)) /\ G a = some (.ext (ExcIs a C))
 | .dic ks ds => ∃ a ys, v = .ref a /\ Rd G a (.dK ys) /\ ys.map (·.1) = ks.map kI /\ RepL K G (ys.map (·.2)) ds
 | .dit ks ds => ∃ a ys, v = .ref a /\ G a = some (.dT ys) /\ ys.map (·.1) = ks.map (·.map kI) /\ RepL K G (ys.map (·.2)) ds
def RepL (K : W.Frag) (G : Hp) (xs : List V) : List D -> Prop
 | [] => xs = []
 | d :: ds => ∃ x ys, xs = x :: ys /\ RepD K G x d /\ RepL K G ys ds
end
def Fz (G H : Hp) : Prop := ∀ a o, G a = some o -> H a = some o
theorem Fz.refl (G : Hp) : Fz G G := fun _ _ h => h
theorem Fz.trans {A B C : Hp} (h : Fz A B) (k : Fz B C) : Fz A C := fun a o e => k a o (h a o e)
theorem Fz.free (h : Fz G H) (e : H p = none) : G p = none := by
 cases q : G p with
 | none => rfl
 | some o => rw [h p o q] at e; cases e
theorem Fz.new (e : G p = none) (o : HO) : Fz G (upd G p o) := fun a u q => by
 rw [zaw (zaP q e)]; exact q
theorem Fz.upd2 (h : Fz G H) (p : Addr) (o : HO) : Fz (upd G p o) (upd H p o) := fun a u q => by
 by_cases e : a = p
 ·subst e; rw [zaI] at q ⊢; exact q
 ·rw [zaw e] at q ⊢; exact h a u q
theorem Fz.right (h : Fz G H) (e : G p = none) (o : HO) : Fz G (upd H p o) := fun a u q => by
 rw [zaw (zaP q e)]; exact h a u q
theorem Fz.sql {G H : Hp} (h : Fz G H) (q : SqL K G a xs) : SqL K H a xs := Same.seq (H := G) (H' := H) h q
mutual
theorem RepD.mono (h : Fz G G') : ∀ {v : V} {d : D}, RepD K G v d -> RepD K G' v d
 | _, .non, e => e
 | _, .bl _, e => e
 | _, .int _, e => e
 | _, .str _, e => e
 | _, .lst _, ⟨a, xs, e, q, r⟩ => ⟨a, xs, e, h a _ q, RepL.mono h r⟩
 | _, .tup _, ⟨a, xs, e, q, r⟩ => ⟨a, xs, e, h a _ q, RepL.mono h r⟩
 | _, .scr _, ⟨a, e, q⟩ => ⟨a, e, h.sql q⟩
 | _, .exc _, ⟨a, C, e, n, q⟩ => ⟨a, C, e, n, h a _ q⟩
 | _, .dic _ _, ⟨a, ys, e, q, f, r⟩ => ⟨a, ys, e, q.imp (h a _) fun ⟨o, z⟩ => ⟨o, h a _ z⟩, f, RepL.mono h r⟩
 | _, .dit _ _, ⟨a, ys, e, q, f, r⟩ => ⟨a, ys, e, h a _ q, f, RepL.mono h r⟩
theorem RepL.mono (h : Fz G G') : ∀ {xs : List V} {ds : List D}, RepL K G xs ds -> RepL K G' xs ds
 | _, [], e => e
 | _, _ :: _, ⟨x, ys, e, q, r⟩ => ⟨x, ys, e, RepD.mono h q, RepL.mono h r⟩
end
section
variable {K : W.Frag} {G : Hp}
theorem RepL.nil : RepL K G [] [] := rfl
theorem RepL.cons {x : V} {d : D} (h : RepD K G x d) (t : RepL K G xs ds) : RepL K G (x :: xs) (d :: ds) := ⟨x, xs, rfl, h, t⟩
theorem RepL.length : ∀ {xs : List V} {ds : List D}, RepL K G xs ds -> xs.length = ds.length
 | _, [], e => by cases e; rfl
 | _, _ :: _, ⟨x, ys, e, _, r⟩ => by subst e; rw [List.length_cons, List.length_cons, RepL.length r]
theorem RepL.get : ∀ {xs : List V} {ds : List D} {i : Nat} {d : D}, RepL K G xs ds -> ds[i]? = some d -> ∃ x, xs[i]? = some x /\ RepD K G x d
 | _, [], _, _, _, h => by simp at h
 | _, _ :: _, 0, _, ⟨x, ys, e, q, r⟩, h => by subst e; simp at h; subst h; exact ⟨x, rfl, q⟩
 | _, _ :: _, i + 1, _, ⟨x, ys, e, q, r⟩, h => by
  subst e
  obtain ⟨y, h1, h2⟩ := RepL.get (i := i) r (by simpa using h)
  exact ⟨y, by simpa using h1, h2⟩
theorem RepL.append : ∀ {xs ys : List V} {ds es : List D}, RepL K G xs ds -> RepL K G ys es -> RepL K G (xs ++ ys) (ds ++ es)
 | _, _, [], _, e, r => by cases e; exact r
 | _, _, _ :: _, _, ⟨x, zs, e, q, r⟩, s => by subst e; exact ⟨x, zs ++ _, rfl, q, RepL.append r s⟩
theorem RepL.snoc (h : RepL K G xs ds) (q : RepD K G x d) : RepL K G (xs ++ [x]) (ds ++ [d]) := h.append (.cons q .nil)
theorem RepL.take : ∀ {xs : List V} {ds : List D} (n : Nat), RepL K G xs ds -> RepL K G (xs.take n) (ds.take n)
 | _, _, 0, _ => by simp; exact .nil
 | _, [], n + 1, e => by cases e; exact .nil
 | _, _ :: _, n + 1, ⟨x, zs, e, q, r⟩ => by subst e; exact ⟨x, zs.take n, rfl, q, RepL.take n r⟩
theorem RepL.drop : ∀ {xs : List V} {ds : List D} (n : Nat), RepL K G xs ds -> RepL K G (xs.drop n) (ds.drop n)
 | _, _, 0, r => by simpa using r
 | _, [], n + 1, e => by cases e; exact .nil
 | _, _ :: _, n + 1, ⟨x, zs, e, q, r⟩ => by subst e; exact RepL.drop n r
theorem RepL.set : ∀ {xs : List V} {ds : List D} (i : Nat) {x : V} {d : D}, RepL K G xs ds -> RepD K G x d -> RepL K G (xs.set i x) (ds.set i d)
 | _, [], _, _, _, e, _ => by cases e; exact .nil
 | _, _ :: _, 0, _, _, ⟨x, zs, e, q, r⟩, h => by subst e; exact ⟨_, zs, rfl, h, r⟩
 | _, _ :: _, i + 1, _, _, ⟨x, zs, e, q, r⟩, h => by subst e; exact ⟨x, _, rfl, q, RepL.set i r h⟩
theorem RepL.rep (h : RepL K G xs ds) : ∀ k : Nat, RepL K G (List.replicate k xs).flatten (List.replicate k ds).flatten
 | 0 => .nil
 | k + 1 => by rw [List.replicate_succ, List.replicate_succ, List.flatten_cons, List.flatten_cons]; exact h.append (RepL.rep h k)
theorem RepL.ints : ∀ (ns : List Int), RepL K G (ns.map V.int) (ns.map D.int)
 | [] => .nil
 | n :: ns => ⟨.int n, ns.map V.int, rfl, rfl, RepL.ints ns⟩
theorem RepL.ints_eq : ∀ {ns : List Int} {xs : List V}, RepL K G xs (ns.map D.int) -> xs = ns.map V.int
 | [], _, e => e
 | n :: ns, _, ⟨x, ys, e, q, r⟩ => by subst e; cases (show x = V.int n from q); rw [RepL.ints_eq r]; rfl
theorem RepL.at {i : Int} (h : RepL K G xs ds) (e : atI ds i = some d) : ∃ x, atI xs i = some x /\ RepD K G x d := by
 unfold atI at e ⊢
 rw [h.length]
 cases q : ixN ds.length i with
 | none => rw [q] at e; cases e
 | some j => rw [q] at e; exact h.get e
end
inductive Ch where
 | d (x : D) | l (xs : List D)
inductive T where
 | lst (cs : List Ch) | tup (cs : List Ch) | ins (c : Str) (fs : List (Str × Ch)) | dic (ks : List Int) (ds : List D) | dit (ks : List (List Int)) (ds : List D)
inductive Sl where
 | emp | val (d : D) | own (ds : List D) | par (ds : List D) | two (ds es : List D) | tre (t : T) | ptr (t : T)
abbrev R := List Sl
def Sl.items : Sl -> Option (List D)
 | .own ds => some ds
 | .par ds => some ds
 | _ => none
structure Bs where
 G : Hp
 H : Hp
 O : List (Nat × Addr)
def RepC (K : W.Frag) (G H : Hp) (x : V) : Ch -> List Addr -> Prop
 | .d y, A => RepD K G x y /\ A = []
 | .l ds, A => ∃ l xs, x = .ref l /\ H l = some (.lst xs) /\ RepL K G xs ds /\ A = [l]
def RepCs (K : W.Frag) (G H : Hp) : List V -> List Ch -> List Addr -> Prop
 | [], [], A => A = []
 | x :: xs, c :: cs, A => ∃ A1 A2, RepC K G H x c A1 /\ RepCs K G H xs cs A2 /\ A = A1 ++ A2
 | _, _, _ => False
def RepT (K : W.Frag) (G H : Hp) (v : V) : T -> List Addr -> Prop
 | .lst cs, A => ∃ p xs A', v = .ref p /\ H p = some (.lst xs) /\ RepCs K G H xs cs A' /\ A = p :: A'
 | .tup cs, A => ∃ p xs A', v = .ref p /\ H p = some (.tup xs) /\ RepCs K G H xs cs A' /\ A = p :: A'
 | .ins c fs, A => ∃ p C dx vs A', v = .ref p /\ W.nsIn K mainGlobals c = some (some (.ref C)) /\ H p = some (.ins C dx vs) /\ H dx = some (.own p) /\ vs.map (·.1) = fs.map (·.1) /\ RepCs K G H (vs.map (·.2)) (fs.map (·.2)) A' /\ A = p :: dx :: A'
 | .dic ks ds, A => ∃ p ys, v = .ref p /\ H p = some (.dK ys) /\ ys.map (·.1) = ks.map kI /\ RepL K G (ys.map (·.2)) ds /\ A = [p]
 | .dit ks ds, A => ∃ p ys, v = .ref p /\ H p = some (.dT ys) /\ ys.map (·.1) = ks.map (·.map kI) /\ RepL K G (ys.map (·.2)) ds /\ A = [p]
section
variable {K : W.Frag} {G G' H H' : Hp}
theorem RepC.move (h : RepC K G H x c A) (hg : Fz G G') (hh : ∀ a ∈ A, H' a = H a) : RepC K G' H' x c A := by
 cases c with
 | d y => exact ⟨h.1.mono hg, h.2⟩
 | l ds => obtain ⟨l, xs, e, q, r, rfl⟩ := h; exact ⟨l, xs, e, by rw [hh l (by simp)]; exact q, r.mono hg, rfl⟩
theorem RepCs.move : ∀ {xs : List V} {cs : List Ch} {A : List Addr}, RepCs K G H xs cs A -> Fz G G' -> (∀ a ∈ A, H' a = H a) -> RepCs K G' H' xs cs A
 | [], [], _, h, _, _ => h
 | x :: xs, c :: cs, A, ⟨A1, A2, h1, h2, e⟩, hg, hh => ⟨A1, A2, h1.move hg fun a m => hh a (by rw [e]; exact List.mem_append_left _ m), h2.move hg fun a m => hh a (by rw [e]; exact List.mem_append_right _ m), e⟩
 | [], _ :: _, _, h, _, _ => h.elim
 | _ :: _, [], _, h, _, _ => h.elim
theorem RepT.move (h : RepT K G H v t A) (hg : Fz G G') (hh : ∀ a ∈ A, H' a = H a) : RepT K G' H' v t A := by
 cases t with
 | lst cs => obtain ⟨p, xs, A', e, q, r, rfl⟩ := h; exact ⟨p, xs, A', e, by rw [hh p (by simp)]; exact q, r.move hg fun a m => hh a (by simp [m]), rfl⟩
 | tup cs => obtain ⟨p, xs, A', e, q, r, rfl⟩ := h; exact ⟨p, xs, A', e, by rw [hh p (by simp)]; exact q, r.move hg fun a m => hh a (by simp [m]), rfl⟩
 | ins c fs => obtain ⟨p, C, dx, vs, A', e, n, q, q2, f, r, rfl⟩ := h; exact ⟨p, C, dx, vs, A', e, n, by rw [hh p (by simp)]; exact q, by rw [hh dx (by simp)]; exact q2, f, r.move hg fun a m => hh a (by simp [m]), rfl⟩
 | dic ks ds => obtain ⟨p, ys, e, q, f, r, rfl⟩ := h; exact ⟨p, ys, e, by rw [hh p (by simp)]; exact q, f, r.mono hg, rfl⟩
 | dit ks ds => obtain ⟨p, ys, e, q, f, r, rfl⟩ := h; exact ⟨p, ys, e, by rw [hh p (by simp)]; exact q, f, r.mono hg, rfl⟩
theorem RepC.det (h : RepC K G H x c A) (h' : RepC K G' H' x c A') : A = A' := by
 cases c with
 | d y => rw [h.2, h'.2]
 | l ds => obtain ⟨l, xs, e, _, _, rfl⟩ := h; obtain ⟨l', xs', e', _, _, rfl⟩ := h'; rw [e] at e'; cases e'; rfl
theorem RepCs.det : ∀ {xs : List V} {cs : List Ch} {A A' : List Addr}, RepCs K G H xs cs A -> RepCs K G' H' xs cs A' -> A = A'
 | [], [], _, _, h, h' => by rw [show _ = [] from h, show _ = [] from h']
 | x :: xs, c :: cs, _, _, ⟨A1, A2, h1, h2, e⟩, ⟨B1, B2, k1, k2, e'⟩ => by rw [e, e', h1.det k1, h2.det k2]
 | [], _ :: _, _, _, h, _ => h.elim
 | _ :: _, [], _, _, h, _ => h.elim
theorem RepT.det (h : RepT K G H v t A) (h' : RepT K G' H' v t A') (hh : ∀ a ∈ A, H' a = H a) : A = A' := by
 cases t with
 | lst cs =>
  obtain ⟨p, xs, B, e, q, r, rfl⟩ := h; obtain ⟨p', xs', B', e', q', r', rfl⟩ := h'
  rw [e] at e'; cases e'
  rw [hh p (by simp), q] at q'; cases q'
  rw [r.det r']
 | tup cs =>
  obtain ⟨p, xs, B, e, q, r, rfl⟩ := h; obtain ⟨p', xs', B', e', q', r', rfl⟩ := h'
  rw [e] at e'; cases e'
  rw [hh p (by simp), q] at q'; cases q'
  rw [r.det r']
 | ins c fs =>
  obtain ⟨p, C, dx, vs, B, e, n, q, q2, f, r, rfl⟩ := h; obtain ⟨p', C', dx', vs', B', e', n', q', q2', f', r', rfl⟩ := h'
  rw [e] at e'; cases e'
  rw [hh p (by simp), q] at q'; cases q'
  rw [r.det r']
 | dic ks ds => obtain ⟨p, ys, e, q, f, r, rfl⟩ := h; obtain ⟨p', ys', e', q', f', r', rfl⟩ := h'; rw [e] at e'; cases e'; rfl
 | dit ks ds => obtain ⟨p, ys, e, q, f, r, rfl⟩ := h; obtain ⟨p', ys', e', q', f', r', rfl⟩ := h'; rw [e] at e'; cases e'; rfl
theorem RepC.here (h : RepC K G H x c A) (m : a ∈ A) : ∃ xs, H a = some (.lst xs) := by
 cases c with
 | d y => rw [h.2] at m; cases m
 | l ds => obtain ⟨l, xs, _, q, _, rfl⟩ := h; simp at m; subst m; exact ⟨xs, q⟩
theorem RepCs.here : ∀ {xs : List V} {cs : List Ch} {A : List Addr}, RepCs K G H xs cs A -> ∀ {a : Addr}, a ∈ A -> ∃ xs, H a = some (.lst xs)
 | [], [], _, h, a, m => by rw [show _ = [] from h] at m; cases m
 | x :: xs, c :: cs, _, ⟨A1, A2, h1, h2, e⟩, a, m => by
  rw [e] at m
  rcases List.mem_append.mp m with m | m
  ·exact h1.here m
  ·exact h2.here m
 | [], _ :: _, _, h, _, _ => h.elim
 | _ :: _, [], _, h, _, _ => h.elim
theorem RepT.here (h : RepT K G H v t A) (m : a ∈ A) : H a ≠ none := by
 cases t with
 | lst cs =>
  obtain ⟨p, xs, B, e, q, r, rfl⟩ := h
  rcases List.mem_cons.mp m with rfl | m
  ·rw [q]; simp
  ·obtain ⟨ys, z⟩ := r.here m; rw [z]; simp
 | tup cs =>
  obtain ⟨p, xs, B, e, q, r, rfl⟩ := h
  rcases List.mem_cons.mp m with rfl | m
  ·rw [q]; simp
  ·obtain ⟨ys, z⟩ := r.here m; rw [z]; simp
 | ins c fs =>
  obtain ⟨p, C, dx, vs, B, e, n, q, q2, f, r, rfl⟩ := h
  rcases List.mem_cons.mp m with rfl | m
  ·rw [q]; simp
  rcases List.mem_cons.mp m with rfl | m
  ·rw [q2]; simp
  ·obtain ⟨ys, z⟩ := r.here m; rw [z]; simp
 | dic ks ds => obtain ⟨p, ys, e, q, f, r, rfl⟩ := h; simp at m; subst m; rw [q]; simp
 | dit ks ds => obtain ⟨p, ys, e, q, f, r, rfl⟩ := h; simp at m; subst m; rw [q]; simp
end
def SlotOk (K : W.Frag) (B : Bs) (G H : Hp) (i : Nat) (ov : Option (Option V)) : Sl -> Prop
 | .emp => True
 | .two _ _ => True
 | .val d => ∃ v, ov = some (some v) /\ RepD K G v d
 | .own ds => ∃ l xs, ov = some (some (.ref l)) /\ G l = none /\ H l = some (.lst xs) /\ RepL K G xs ds /\ B.H l = none
 | .par ds => ∃ l xs, ov = some (some (.ref l)) /\ G l = none /\ H l = some (.lst xs) /\ RepL K G xs ds /\ (i, l) ∈ B.O
 | .tre t => ∃ v A, ov = some (some v) /\ RepT K G H v t A /\ A.Nodup /\ ∀ a ∈ A, G a = none /\ B.H a = none
 | .ptr t => ∃ v A, ov = some (some v) /\ RepT K G H v t A /\ A.Nodup /\ ∀ a ∈ A, G a = none /\ (B.H a = none \/ (i, a) ∈ B.O)
def Wr (ρ : R) (i : Nat) : Prop := ∃ s ds, ρ[i]? = some s /\ s.items = some ds
def OwS (K : W.Frag) (G H : Hp) (ov : Option (Option V)) (a : Addr) : Sl -> Prop
 | .own _ => ov = some (some (.ref a))
 | .par _ => ov = some (some (.ref a))
 | .tre t => ∃ v A, ov = some (some v) /\ RepT K G H v t A /\ a ∈ A
 | .ptr t => ∃ v A, ov = some (some v) /\ RepT K G H v t A /\ a ∈ A
 | _ => False
def Nw (K : W.Frag) (G H : Hp) (σ : St) (ρ : R) (a : Addr) : Prop := ∀ (i : Nat) (s : Sl), ρ[i]? = some s -> ¬ OwS K G H σ[i]? a s
structure SI (K : W.Frag) (B : Bs) (G H : Hp) (σ : St) (ρ : R) : Prop where
 fz : Fz G H
 g0 : Fz B.G G
 new : ∀ b o, G b = some o -> B.G b ≠ none \/ B.H b = none
 keep : ∀ b o, B.H b = some o -> (∀ i, (i, b) ∉ B.O) -> H b = some o
 there : ∀ b, H b = none -> B.H b = none
 len : σ.length = ρ.length
 ob : ∀ i b, (i, b) ∈ B.O -> B.H b ≠ none
 slot : ∀ i s, ρ[i]? = some s -> SlotOk K B G H i σ[i]? s
 dis : ∀ (i j : Nat) (s t : Sl) (a : Addr), i ≠ j -> ρ[i]? = some s -> ρ[j]? = some t -> OwS K G H σ[i]? a s -> ¬ OwS K G H σ[j]? a t
section
variable {K : W.Frag} {B : Bs} {G G' H H' : Hp} {σ : St} {ρ : R}
theorem SlotOk.own (h : SlotOk K B G H i ov s) (w : OwS K G H ov a s) : G a = none /\ H a ≠ none /\ (B.H a = none \/ (i, a) ∈ B.O) := by
 cases s with
 | emp => exact w.elim
 | two _ _ => exact w.elim
 | val d => exact w.elim
 | own ds => obtain ⟨l, xs, e, g, k, r, n⟩ := h; rw [show ov = _ from w] at e; cases e; exact ⟨g, by rw [k]; simp, .inl n⟩
 | par ds => obtain ⟨l, xs, e, g, k, r, n⟩ := h; rw [show ov = _ from w] at e; cases e; exact ⟨g, by rw [k]; simp, .inr n⟩
 | tre t =>
  obtain ⟨v, A, e, r, nd, f⟩ := h
  obtain ⟨v', A', e', r', m⟩ := w
  rw [e] at e'; cases e'
  rw [<- r.det r' fun _ _ => rfl] at m
  exact ⟨(f a m).1, r.here m, .inl (f a m).2⟩
 | ptr t =>
  obtain ⟨v, A, e, r, nd, f⟩ := h
  obtain ⟨v', A', e', r', m⟩ := w
  rw [e] at e'; cases e'
  rw [<- r.det r' fun _ _ => rfl] at m
  exact ⟨(f a m).1, r.here m, (f a m).2⟩
theorem SlotOk.mono (h : SlotOk K B G H i ov s) (hg : Fz G G') (hw : ∀ a, OwS K G H ov a s -> G a = none -> H a ≠ none -> G' a = none /\ H' a = H a) : SlotOk K B G' H' i ov s := by
 have ow := fun a (w : OwS K G H ov a s) => h.own w
 cases s with
 | emp => trivial
 | two _ _ => trivial
 | val d => obtain ⟨v, e, r⟩ := h; exact ⟨v, e, r.mono hg⟩
 | own ds =>
  obtain ⟨l, xs, e, g, k, r, n⟩ := h
  obtain ⟨h1, h2⟩ := hw l e g (by rw [k]; simp)
  exact ⟨l, xs, e, h1, h2.trans k, r.mono hg, n⟩
 | par ds =>
  obtain ⟨l, xs, e, g, k, r, n⟩ := h
  obtain ⟨h1, h2⟩ := hw l e g (by rw [k]; simp)
  exact ⟨l, xs, e, h1, h2.trans k, r.mono hg, n⟩
 | tre t =>
  obtain ⟨v, A, e, r, nd, f⟩ := h
  have w := fun a m => hw a ⟨v, A, e, r, m⟩ (f a m).1 (r.here m)
  exact ⟨v, A, e, r.move hg fun a m => (w a m).2, nd, fun a m => ⟨(w a m).1, (f a m).2⟩⟩
 | ptr t =>
  obtain ⟨v, A, e, r, nd, f⟩ := h
  have w := fun a m => hw a ⟨v, A, e, r, m⟩ (f a m).1 (r.here m)
  exact ⟨v, A, e, r.move hg fun a m => (w a m).2, nd, fun a m => ⟨(w a m).1, (f a m).2⟩⟩
theorem SlotOk.back (h : SlotOk K B G H i ov s) (hw : ∀ a, OwS K G H ov a s -> G a = none -> H a ≠ none -> G' a = none /\ H' a = H a) (w : OwS K G' H' ov a s) : OwS K G H ov a s := by
 cases s with
 | emp => exact w
 | two _ _ => exact w
 | val d => exact w
 | own ds => exact w
 | par ds => exact w
 | tre t =>
  obtain ⟨v, A, e, r, nd, f⟩ := h
  obtain ⟨v', A', e', r', m⟩ := w
  rw [e] at e'; cases e'
  have q := r.det r' fun a m => (hw a ⟨v, A, e, r, m⟩ (f a m).1 (r.here m)).2
  subst q
  exact ⟨v, A, e, r, m⟩
 | ptr t =>
  obtain ⟨v, A, e, r, nd, f⟩ := h
  obtain ⟨v', A', e', r', m⟩ := w
  rw [e] at e'; cases e'
  have q := r.det r' fun a m => (hw a ⟨v, A, e, r, m⟩ (f a m).1 (r.here m)).2
  subst q
  exact ⟨v, A, e, r, m⟩
theorem SI.move (I : SI K B G H σ ρ) (fz : Fz G' H') (fg : Fz G G') (new : ∀ b o, G' b = some o -> B.G b ≠ none \/ B.H b = none) (keep : ∀ b o, B.H b = some o -> (∀ i, (i, b) ∉ B.O) -> H' b = some o) (there : ∀ b, H' b = none -> B.H b = none)
  (ow : ∀ (i : Nat) (s : Sl) (a : Addr), ρ[i]? = some s -> OwS K G H σ[i]? a s -> G a = none -> H a ≠ none -> G' a = none /\ H' a = H a) : SI K B G' H' σ ρ where
 fz := fz
 g0 := I.g0.trans fg
 new := new
 keep := keep
 there := there
 len := I.len
 ob := I.ob
 slot := fun i s e => (I.slot i s e).mono fg fun a w g h => ow i s a e w g h
 dis := fun i j s t a n e1 e2 w1 w2 => I.dis i j s t a n e1 e2 ((I.slot i s e1).back (fun a w g h => ow i s a e1 w g h) w1) ((I.slot j t e2).back (fun a w g h => ow j t a e2 w g h) w2)
theorem SI.chg (I : SI K B G H σ ρ) {ov : Option V} {s' : Sl} (fz : Fz G' H') (fg : Fz G G') (new : ∀ b o, G' b = some o -> B.G b ≠ none \/ B.H b = none) (keep : ∀ b o, B.H b = some o -> (∀ i, (i, b) ∉ B.O) -> H' b = some o) (there : ∀ b, H' b = none -> B.H b = none)
  (ow : ∀ (j : Nat) (s : Sl) (a : Addr), j ≠ i -> ρ[j]? = some s -> OwS K G H σ[j]? a s -> G a = none -> H a ≠ none -> G' a = none /\ H' a = H a /\ ¬ OwS K G' H' (some ov) a s') (sl : SlotOk K B G' H' i (some ov) s') : SI K B G' H' (σ.set i ov) (ρ.set i s') := by
 have atI : ∀ {s}, (ρ.set i s')[i]? = some s -> s = s' /\ (σ.set i ov)[i]? = some ov := fun {s} e => by
  rw [List.getElem?_set, if_pos rfl] at e ⊢
  split at e
  ·rename_i h; cases e; rw [if_pos (by rw [I.len]; exact h)]; exact ⟨rfl, rfl⟩
  ·cases e
 have atJ : ∀ {j s}, j ≠ i -> (ρ.set i s')[j]? = some s -> ρ[j]? = some s /\ (σ.set i ov)[j]? = σ[j]? := fun {j s} n e => by
  rw [List.getElem?_set_ne (Ne.symm n)] at e ⊢
  exact ⟨e, rfl⟩
 refine ⟨fz, I.g0.trans fg, new, keep, there, by rw [List.length_set, List.length_set]; exact I.len, I.ob, fun j s e => ?_, fun j k s t a n e1 e2 w1 w2 => ?_⟩
 ·by_cases z : j = i
  ·subst z; obtain ⟨rfl, q⟩ := atI e; rw [q]; exact sl
  ·obtain ⟨e1, q⟩ := atJ z e
   rw [q]
   exact (I.slot j s e1).mono fg fun a w g h => ⟨(ow j s a z e1 w g h).1, (ow j s a z e1 w g h).2.1⟩
 ·have one : ∀ j s, j ≠ i -> (ρ.set i s')[j]? = some s -> OwS K G' H' (σ.set i ov)[j]? a s -> ρ[j]? = some s /\ OwS K G H σ[j]? a s := fun j s z e w => by
   obtain ⟨e1, q⟩ := atJ z e
   rw [q] at w
   exact ⟨e1, (I.slot j s e1).back (fun a w g h => ⟨(ow j s a z e1 w g h).1, (ow j s a z e1 w g h).2.1⟩) w⟩
  by_cases z1 : j = i
  ·subst z1
   obtain ⟨rfl, q1⟩ := atI e1
   obtain ⟨f2, w2⟩ := one k t (Ne.symm n) e2 w2
   obtain ⟨o1, o2, _⟩ := (I.slot k t f2).own w2
   rw [q1] at w1
   exact (ow k t a (Ne.symm n) f2 w2 o1 o2).2.2 w1
  ·have p1 := one j s z1 e1 w1
   by_cases z2 : k = i
   ·subst z2
    obtain ⟨rfl, q2⟩ := atI e2
    obtain ⟨o1, o2, _⟩ := (I.slot j s p1.1).own p1.2
    rw [q2] at w2
    exact (ow j s a z1 p1.1 p1.2 o1 o2).2.2 w2
   ·have p2 := one k t z2 e2 w2
    exact I.dis j k s t a n p1.1 p2.1 p1.2 p2.2
theorem SI.nw (I : SI K B G H σ ρ) (hp : H p = none) : Nw K G H σ ρ p := fun i s e w => ((I.slot i s e).own w).2.1 hp
theorem SI.nw_move (I : SI K B G H σ ρ) (n : Nw K G H σ ρ p) (ow : ∀ (i : Nat) (s : Sl) (a : Addr), ρ[i]? = some s -> OwS K G H σ[i]? a s -> G a = none -> H a ≠ none -> G' a = none /\ H' a = H a) : Nw K G' H' σ ρ p :=
 fun i s e w => n i s e ((I.slot i s e).back (fun a w g h => ow i s a e w g h) w)
theorem SI.allocF (I : SI K B G H σ ρ) (hp : H p = none) (o : HO) : SI K B (upd G p o) (upd H p o) σ ρ :=
 I.move (I.fz.upd2 p o) (Fz.new (I.fz.free hp) o) (fun b u e => by
  by_cases q : b = p
  ·subst q; exact .inr (I.there b hp)
  ·rw [zaw q] at e; exact I.new b u e) (fun b u e n => by
  have q := I.keep b u e n
  rw [zaw (zaP q hp)]; exact q) (fun b e => by
  by_cases q : b = p
  ·subst q; rw [zaI] at e; cases e
  ·rw [zaw q] at e; exact I.there b e) (fun i s a _ _ g h => by
  have q : a ≠ p := fun z => h (by rw [z]; exact hp)
  rw [zaw q, zaw q]; exact ⟨g, rfl⟩)
theorem SI.allocO (I : SI K B G H σ ρ) (hp : H p = none) (o : HO) : SI K B G (upd H p o) σ ρ :=
 I.move (I.fz.right (I.fz.free hp) o) (Fz.refl G) I.new (fun b u e n => by
  have q := I.keep b u e n
  rw [zaw (zaP q hp)]; exact q) (fun b e => by
  by_cases q : b = p
  ·subst q; rw [zaI] at e; cases e
  ·rw [zaw q] at e; exact I.there b e) (fun i s a _ _ g h => by
  have q : a ≠ p := fun z => h (by rw [z]; exact hp)
  rw [zaw q]; exact ⟨g, rfl⟩)
theorem SI.frz (I : SI K B G H σ ρ) {o : HO} (hl : H l = some o) (hB : B.H l = none) (hn : Nw K G H σ ρ l) (hg : G l = none) : SI K B (upd G l o) H σ ρ :=
 I.move (fun a u q => by
  by_cases e : a = l
  ·subst e; rw [zaI] at q; cases q; exact hl
  ·rw [zaw e] at q; exact I.fz a u q) (Fz.new hg o) (fun b u e => by
  by_cases q : b = l
  ·subst q; exact .inr hB
  ·rw [zaw q] at e; exact I.new b u e) I.keep I.there (fun i s a e w g _ => by
  refine ⟨?_, rfl⟩
  rw [zaw (fun z => ?_)]
  ·exact g
  ·subst z; exact hn i s e w)
theorem SI.set (I : SI K B G H σ ρ) (h : RepD K G v d) : SI K B G H (σ.set i (some v)) (ρ.set i (.val d)) :=
 I.chg I.fz (Fz.refl G) I.new I.keep I.there (fun _ _ _ _ _ _ g _ => ⟨g, rfl, id⟩) ⟨v, rfl, h⟩
theorem SI.setO (I : SI K B G H σ ρ) (hg : G l = none) (hl : H l = some (.lst xs)) (h : RepL K G xs ds) (hB : B.H l = none) (hn : Nw K G H σ ρ l) :
  SI K B G H (σ.set i (some (.ref l))) (ρ.set i (.own ds)) :=
 I.chg I.fz (Fz.refl G) I.new I.keep I.there (fun j s a _ e w g _ => ⟨g, rfl, fun z => by cases (show some (some (V.ref l)) = some (some (.ref a)) from z); exact hn j s e w⟩) ⟨l, xs, rfl, hg, hl, h, hB⟩
theorem SI.wr (I : SI K B G H σ ρ) (e : ρ[i]? = some s) (q : s.items = some ds) : ∃ l xs, σ[i]? = some (some (.ref l)) /\ G l = none /\ H l = some (.lst xs) /\ RepL K G xs ds := by
 have h := I.slot i s e
 cases s with
 | emp => cases q
 | two _ _ => cases q
 | val d => cases q
 | tre _ => cases q
 | ptr _ => cases q
 | own es => cases q; obtain ⟨l, xs, h1, h2, h3, h4, _⟩ := h; exact ⟨l, xs, h1, h2, h3, h4⟩
 | par es => cases q; obtain ⟨l, xs, h1, h2, h3, h4, _⟩ := h; exact ⟨l, xs, h1, h2, h3, h4⟩
def Sl.put (s : Sl) (ds : List D) : Sl := match s with
 | .own _ => .own ds
 | .par _ => .par ds
 | s => s
theorem zfZ (q : s.items = some ds) : OwS K G H ov a s ↔ ov = some (some (.ref a)) := by
 cases s with
 | own _ => exact Iff.rfl
 | par _ => exact Iff.rfl
 | _ => cases q
theorem zlO (q : s.items = some ds) (es : List D) : (s.put es).items = some es := by
 cases s with
 | own _ => rfl
 | par _ => rfl
 | _ => cases q
theorem zkX {α : Type} {l : List α} {x : α} (e : l[i]? = some x) : l.set i x = l := by
 obtain ⟨h, rfl⟩ := List.getElem?_eq_some_iff.mp e
 exact List.set_getElem_self h
theorem SI.chgW (I : SI K B G H σ ρ) {i : Nat} (e : ρ[i]? = some s) (q : s.items = some ds) (hl : σ[i]? = some (some (.ref l))) (fz : Fz G' H') (fg : Fz G G') (nw : ∀ b o, G' b = some o -> G b ≠ none \/ H b = none)
  (kp : ∀ b o, b ≠ l -> H b = some o -> H' b = some o) (gl : G' l = none) (hl' : H' l = some (.lst ys)) (r : RepL K G' ys es) : SI K B G' H' σ (ρ.set i (s.put es)) := by
 obtain ⟨l', xs, e1, e2, e3, e4⟩ := I.wr e q
 rw [hl] at e1; cases e1
 have sl := I.slot i s e
 have nb : ∀ b o, B.H b = some o -> (∀ i, (i, b) ∉ B.O) -> b ≠ l := fun b o h1 h2 z => by
  subst z
  rcases (sl.own ((zfZ q).mpr hl)).2.2 with z | z
  ·rw [h1] at z; cases z
  ·exact h2 i z
 have h := I.chg (i := i) (ov := some (.ref l)) (s' := s.put es) (G' := G') (H' := H') fz fg (fun b o k => ?_) (fun b o k1 k2 => kp b o (nb b o k1 k2) (I.keep b o k1 k2)) (fun b k => ?_) (fun j t a z ej w g ha => ?_) ?_
 ·rwa [zkX hl] at h
 ·rcases nw b o k with h | h
  ·cases q2 : G b with
   | none => exact absurd q2 h
   | some u => exact I.new b u q2
  ·exact .inr (I.there b h)
 ·refine I.there b ?_
  cases q2 : H b with
  | none => rfl
  | some u =>
   by_cases z : b = l
   ·subst z; rw [hl'] at k; cases k
   ·rw [kp b u z q2] at k; cases k
 ·have na : a ≠ l := fun w' => by subst w'; exact I.dis j i t s a z ej e w ((zfZ q).mpr hl)
  obtain ⟨u, hu⟩ := Option.ne_none_iff_exists'.mp ha
  refine ⟨?_, (kp a u na hu).trans hu.symm, fun z => na ?_⟩
  ·cases q2 : G' a with
   | none => rfl
   | some u =>
    rcases nw a u q2 with z | z
    ·exact absurd g z
    ·exact absurd z ha
  ·cases (zfZ (zlO q es)).mp z; rfl
 ·cases s with
  | own es' => obtain ⟨l', xs', k1, k2, k3, k4, k5⟩ := sl; rw [hl] at k1; cases k1; exact ⟨_, ys, rfl, gl, hl', r, k5⟩
  | par es' => obtain ⟨l', xs', k1, k2, k3, k4, k5⟩ := sl; rw [hl] at k1; cases k1; exact ⟨_, ys, rfl, gl, hl', r, k5⟩
  | _ => cases q
theorem SI.write (I : SI K B G H σ ρ) (e : ρ[i]? = some s) (q : s.items = some ds) (hl : σ[i]? = some (some (.ref l))) (h : RepL K G ys es) :
  SI K B G (upd H l (.lst ys)) σ (ρ.set i (s.put es)) := by
 obtain ⟨l', xs, e1, e2, e3, e4⟩ := I.wr e q
 rw [hl] at e1; cases e1
 exact I.chgW e q hl (I.fz.right e2 _) (Fz.refl G) (fun b o k => .inl (by rw [k]; simp)) (fun b o z k => by rw [zaw z]; exact k) e2 zaI h
theorem SI.freeze (I : SI K B G H σ ρ) {i : Nat} (e : ρ[i]? = some (.own ds)) : ∃ l xs, σ[i]? = some (some (.ref l)) /\ Fz G (upd G l (.lst xs)) /\ RepD K (upd G l (.lst xs)) (.ref l) (.lst ds) /\
  SI K B (upd G l (.lst xs)) H σ (ρ.set i (.val (.lst ds))) := by
 obtain ⟨l, xs, h1, h2, h3, h4, h5⟩ := I.slot i _ e
 have fz := Fz.new h2 (.lst xs)
 have rep : RepD K (upd G l (.lst xs)) (.ref l) (.lst ds) := ⟨l, xs, rfl, zaI, h4.mono fz⟩
 refine ⟨l, xs, h1, fz, rep, ?_⟩
 have h := I.chg (i := i) (ov := some (.ref l)) (s' := .val (.lst ds)) (G' := upd G l (.lst xs)) (H' := H) (fun a u q => ?_) fz (fun b u q => ?_) I.keep I.there (fun j t a z ej w g _ => ⟨?_, rfl, id⟩) ⟨.ref l, rfl, rep⟩
 ·rwa [zkX h1] at h
 ·by_cases z : a = l
  ·subst z; rw [zaI] at q; cases q; exact h3
  ·rw [zaw z] at q; exact I.fz a u q
 ·by_cases z : b = l
  ·subst z; exact .inr h5
  ·rw [zaw z] at q; exact I.new b u q
 ·rw [zaw (fun q => by subst q; exact I.dis j i t _ a z ej e w h1)]; exact g
end
abbrev ME := R -> Option (D × R)
abbrev MO := R -> Option (List D × R)
abbrev MT := R -> Option (Bool × R)
abbrev MA := R -> Option (List D × R)
def SE (X : Cx) (e : Expr) (m : ME) : Prop :=
 ∃ t, PE X e t /\ ∀ B G H σ ρ d ρ' (Q : VK), SI X.K B G H σ ρ -> m ρ = some (d, ρ') -> (∀ G' H' v, SI X.K B G' H' σ ρ' -> Fz G G' -> RepD X.K G' v d -> Q v H') -> t σ H Q
def SO (X : Cx) (e : Expr) (m : MO) : Prop :=
 ∃ t, PE X e t /\ ∀ B G H σ ρ ds ρ' (Q : VK), SI X.K B G H σ ρ -> m ρ = some (ds, ρ') ->
  (∀ G' H' l xs, SI X.K B G' H' σ ρ' -> Fz G G' -> G' l = none -> H' l = some (.lst xs) -> RepL X.K G' xs ds -> B.H l = none -> Nw X.K G' H' σ ρ' l -> Q (.ref l) H') -> t σ H Q
def STt (X : Cx) (e : Expr) (m : MT) : Prop :=
 ∃ t, PT X e t /\ ∀ B G H σ ρ d ρ' (Q : Bool -> Hp -> Prop), SI X.K B G H σ ρ -> m ρ = some (d, ρ') -> (∀ G' H', SI X.K B G' H' σ ρ' -> Fz G G' -> Q d H') -> t σ H Q
def SA (X : Cx) (es : List Expr) (m : MA) : Prop :=
 ∃ t, PA X es t /\ ∀ B G H σ ρ ds ρ' (Q : List V -> Hp -> Prop), SI X.K B G H σ ρ -> m ρ = some (ds, ρ') -> (∀ G' H' vs, SI X.K B G' H' σ ρ' -> Fz G G' -> RepL X.K G' vs ds -> Q vs H') -> t σ H Q
theorem zjD {B : Bs} {σ : St} (I : SI K B G H σ ρ) (hg : G l = none) (hl : H l = some (.lst xs)) (h : RepL K G xs ds) (hB : B.H l = none) (hn : Nw K G H σ ρ l) :
  SI K B (upd G l (.lst xs)) H σ ρ /\ Fz G (upd G l (.lst xs)) /\ RepD K (upd G l (.lst xs)) (.ref l) (.lst ds) :=
 ⟨I.frz hl hB hn hg, Fz.new hg _, ⟨l, xs, rfl, zaI, h.mono (Fz.new hg _)⟩⟩
def eFz (m : MO) : ME := fun ρ => (m ρ).map fun p => (.lst p.1, p.2)
theorem SO.se {X : Cx} {m : MO} (h : SO X e m) : SE X e (eFz m) := by
 obtain ⟨t, p, s⟩ := h
 refine ⟨t, p, fun B G H σ ρ d ρ' Q I hm k => ?_⟩
 unfold eFz at hm
 cases q : m ρ with
 | none => rw [q] at hm; cases hm
 | some r =>
  obtain ⟨ds, ρ1⟩ := r
  rw [q] at hm
  cases hm
  refine s B G H σ ρ ds _ Q I q fun G' H' l xs I' fz hg hl hr hB hn => ?_
  obtain ⟨I2, f2, r2⟩ := zjD I' hg hl hr hB hn
  exact k _ _ _ I2 (fz.trans f2) r2
def eC (d : D) : ME := fun ρ => some (d, ρ)
noncomputable def eVar (i : Nat) : ME := fun ρ => match ρ[i]? with
 | some (.val d) => some (d, ρ)
 | some (.own ds) => some (.lst ds, ρ.set i (.val (.lst ds)))
 | _ => none
section
variable {X : Cx} {pos : Pos}
theorem zab (i : Nat) {x : Str} (hN : X.N[i]? = some x := by rfl) (hv : Vis X.env.scope x := by first | exact Or.inl rfl | exact Or.inr (Or.inl rfl) | exact Or.inr (Or.inr rfl)) (hd : (x == ("__debug__" : Str)) = false := by decide)
  (hcd : (x == ("__classdict__" : Str)) = false := by decide) : SE X (.Name x pos) (eVar i) := by
 refine ⟨_, zfB hN hv hd hcd, fun B G H σ ρ d ρ' Q I hm k => ?_⟩
 unfold eVar at hm
 cases e : ρ[i]? with
 | none => rw [e] at hm; cases hm
 | some s =>
  rw [e] at hm
  cases s with
  | emp => cases hm
  | two _ _ => cases hm
  | tre _ => cases hm
  | ptr _ => cases hm
  | par ds => cases hm
  | val d' =>
   cases hm
   obtain ⟨v, h1, h2⟩ := I.slot i _ e
   exact ⟨v, h1, k G H v I (Fz.refl G) h2⟩
  | own ds =>
   cases hm
   obtain ⟨l, xs, h1, f, r, I'⟩ := I.freeze e
   exact ⟨.ref l, h1, k _ H _ I' f r⟩
theorem zah {i : Int} {j} : SE X (.Constant (.int i) j pos) (eC (.int i)) := ⟨_, zlE, fun B G H σ ρ d ρ' Q I hm k => by cases hm; exact k G H _ I (Fz.refl G) rfl⟩
theorem zix {j} : SE X (.Constant (.bool b) j pos) (eC (.bl b)) := ⟨_, pe_bl, fun B G H σ ρ d ρ' Q I hm k => by cases hm; exact k G H _ I (Fz.refl G) rfl⟩
theorem zjg {j} : SE X (.Constant .none j pos) (eC .non) := ⟨_, pe_non, fun B G H σ ρ d ρ' Q I hm k => by cases hm; exact k G H _ I (Fz.refl G) rfl⟩
theorem zdj {x : Str} {j} : SE X (.Constant (.str x) j pos) (eC (.str x)) := ⟨_, znc, fun B G H σ ρ d ρ' Q I hm k => by cases hm; exact k G H _ I (Fz.refl G) rfl⟩
end
def aNil : MA := fun ρ => some ([], ρ)
noncomputable def zag (m : ME) (r : MA) : MA := fun ρ => (m ρ).bind fun p => (r p.2).map fun q => (p.1 :: q.1, q.2)
section
variable {X : Cx} {e : Expr} {es : List Expr} {m : ME} {r : MA}
theorem zae : SA X [] aNil := ⟨_, zjb, fun B G H σ ρ ds ρ' Q I hm k => by cases hm; exact k G H [] I (Fz.refl G) .nil⟩
theorem zaa (h : SE X e m) (hr : SA X es r) (hs : starEach (e :: es) X.env = (false, eval e X.env) :: starEach es X.env := by rfl) : SA X (e :: es) (zag m r) := by
 obtain ⟨t, p, s⟩ := h
 obtain ⟨u, q, z⟩ := hr
 refine ⟨_, zen p q hs, fun B G H σ ρ ds ρ' Q I hm k => ?_⟩
 unfold zag at hm
 cases e1 : m ρ with
 | none => rw [e1] at hm; cases hm
 | some a =>
  obtain ⟨d, ρ1⟩ := a
  rw [e1] at hm
  cases e2 : r ρ1 with
  | none => simp [e2] at hm
  | some b =>
   obtain ⟨es', ρ2⟩ := b
   simp only [Option.bind_some, e2, Option.map_some, Option.some.injEq, Prod.mk.injEq] at hm
   obtain ⟨rfl, rfl⟩ := hm
   exact s B G H σ ρ d ρ1 _ I e1 fun G1 H1 v I1 f1 r1 => z B G1 H1 σ ρ1 es' ρ2 _ I1 e2 fun G2 H2 vs I2 f2 r2 => k G2 H2 (v :: vs) I2 (f1.trans f2) (.cons (r1.mono f2) r2)
end
def V2 (X : Cx) (r : R2) (f : D -> D -> Option D) : Prop := ∀ B G H σ ρ x y a b d (Q : VK), SI X.K B G H σ ρ -> RepD X.K G x a -> RepD X.K G y b -> f a b = some d -> (∀ G' H' v, SI X.K B G' H' σ ρ -> Fz G G' -> RepD X.K G' v d -> Q v H') -> r x y H Q
def V1 (X : Cx) (r : V -> Hp -> VK -> Prop) (f : D -> Option D) : Prop := ∀ B G H σ ρ x a d (Q : VK), SI X.K B G H σ ρ -> RepD X.K G x a -> f a = some d -> (∀ G' H' v, SI X.K B G' H' σ ρ -> Fz G G' -> RepD X.K G' v d -> Q v H') -> r x H Q
def VC (X : Cx) (r : List V -> Hp -> VK -> Prop) (f : List D -> Option D) : Prop := ∀ B G H σ ρ xs ds d (Q : VK), SI X.K B G H σ ρ -> RepL X.K G xs ds -> f ds = some d -> (∀ G' H' v, SI X.K B G' H' σ ρ -> Fz G G' -> RepD X.K G' v d -> Q v H') -> r xs H Q
noncomputable def m2 (f : D -> D -> Option D) (ma mb : ME) : ME := fun ρ => (ma ρ).bind fun p => (mb p.2).bind fun q => (f p.1 q.1).map fun d => (d, q.2)
def m1 (f : D -> Option D) (ma : ME) : ME := fun ρ => (ma ρ).bind fun p => (f p.1).map fun d => (d, p.2)
noncomputable def mC (f : List D -> Option D) (ma : MA) : ME := fun ρ => (ma ρ).bind fun p => (f p.1).map fun d => (d, p.2)
theorem m2_inv {ma mb : ME} (h : m2 f ma mb ρ = some (d, ρ')) : ∃ a ρ1 b, ma ρ = some (a, ρ1) /\ mb ρ1 = some (b, ρ') /\ f a b = some d := by
 unfold m2 at h
 cases e1 : ma ρ with
 | none => rw [e1] at h; cases h
 | some p =>
  obtain ⟨a, ρ1⟩ := p
  rw [e1] at h
  cases e2 : mb ρ1 with
  | none => simp [e2] at h
  | some q =>
   obtain ⟨b, ρ2⟩ := q
   simp only [Option.bind_some, e2] at h
   cases e3 : f a b with
   | none => rw [e3] at h; cases h
   | some c => rw [e3] at h; cases h; exact ⟨a, ρ1, b, rfl, e2, e3⟩
theorem m1_inv {f : D -> Option D} (h : m1 f ma ρ = some (d, ρ')) : ∃ a, ma ρ = some (a, ρ') /\ f a = some d := by
 unfold m1 at h
 cases e1 : ma ρ with
 | none => rw [e1] at h; cases h
 | some p =>
  obtain ⟨a, ρ1⟩ := p
  rw [e1] at h
  simp only [Option.bind_some] at h
  cases e3 : f a with
  | none => rw [e3] at h; cases h
  | some c => rw [e3] at h; cases h; exact ⟨a, rfl, e3⟩
theorem mC_inv {f : List D -> Option D} {ma : MA} (h : mC f ma ρ = some (d, ρ')) : ∃ a, ma ρ = some (a, ρ') /\ f a = some d := by
 unfold mC at h
 cases e1 : ma ρ with
 | none => rw [e1] at h; cases h
 | some p =>
  obtain ⟨a, ρ1⟩ := p
  rw [e1] at h
  simp only [Option.bind_some] at h
  cases e3 : f a with
  | none => rw [e3] at h; cases h
  | some c => rw [e3] at h; cases h; exact ⟨a, rfl, e3⟩
section
variable {X : Cx} {a b : Expr} {ma mb : ME} {pos : Pos} {f : D -> D -> Option D}
theorem zmK {r : R2} {ta tb : TE} (hv : V2 X r f)
  (sa : ∀ B G H σ ρ d ρ' (Q : VK), SI X.K B G H σ ρ -> ma ρ = some (d, ρ') -> (∀ G' H' v, SI X.K B G' H' σ ρ' -> Fz G G' -> RepD X.K G' v d -> Q v H') -> ta σ H Q)
  (sb : ∀ B G H σ ρ d ρ' (Q : VK), SI X.K B G H σ ρ -> mb ρ = some (d, ρ') -> (∀ G' H' v, SI X.K B G' H' σ ρ' -> Fz G G' -> RepD X.K G' v d -> Q v H') -> tb σ H Q) :
  ∀ B G H σ ρ d ρ' (Q : VK), SI X.K B G H σ ρ -> m2 f ma mb ρ = some (d, ρ') -> (∀ G' H' v, SI X.K B G' H' σ ρ' -> Fz G G' -> RepD X.K G' v d -> Q v H') -> tOp r ta tb σ H Q := by
 intro B G H σ ρ d ρ' Q I hm k
 obtain ⟨x, ρ1, y, e1, e2, e3⟩ := m2_inv hm
 exact sa B G H σ ρ x ρ1 _ I e1 fun G1 H1 v I1 f1 r1 => sb B G1 H1 σ ρ1 y ρ' _ I1 e2 fun G2 H2 u I2 f2 r2 =>
  hv B G2 H2 σ ρ' v u x y d Q I2 (r1.mono f2) r2 e3 fun G3 H3 z I3 f3 r3 => k G3 H3 z I3 (f1.trans (f2.trans f3)) r3
theorem znl {r : R2} (ho : OpR X (binaryOp op) r) (hv : V2 X r f) (ha : SE X a ma) (hb : SE X b mb) : SE X (.BinOp a op b pos) (m2 f ma mb) := by
 obtain ⟨ta, pa, sa⟩ := ha
 obtain ⟨tb, pb, sb⟩ := hb
 exact ⟨_, pe_op ho pa pb, zmK hv sa sb⟩
theorem zk1 {op : CmpOp} {r : R2} (ho : OpR X (compareOp op) r) (hv : V2 X r f) (ha : SE X a ma) (hb : SE X b mb) (hm : behindInMarks op b = false) : SE X (.Compare a [op] [b] pos) (m2 f ma mb) := by
 obtain ⟨ta, pa, sa⟩ := ha
 obtain ⟨tb, pb, sb⟩ := hb
 exact ⟨_, pe_cmpR ho pa pb hm, zmK hv sa sb⟩
theorem se_un {op : UnaryOp} (ho : UnR X (unaryOp op) r) (hv : V1 X r g) (ha : SE X a ma) : SE X (.UnaryOp op a pos) (m1 g ma) := by
 obtain ⟨ta, pa, sa⟩ := ha
 refine ⟨_, pe_un ho pa, fun B G H σ ρ d ρ' Q I hm k => ?_⟩
 obtain ⟨x, e1, e2⟩ := m1_inv hm
 exact sa B G H σ ρ x ρ' _ I e1 fun G1 H1 v I1 f1 r1 => hv B G1 H1 σ ρ' v x d Q I1 r1 e2 fun G2 H2 z I2 f2 r2 => k G2 H2 z I2 (f1.trans f2) r2
theorem se_ix {r : R2} (hr : IxR X r) (hv : V2 X r f) (ha : SE X a ma) (hb : SE X b mb) (hs : zkw b) : SE X (.Subscript a b pos) (m2 f ma mb) := by
 obtain ⟨ta, pa, sa⟩ := ha
 obtain ⟨tb, pb, sb⟩ := hb
 exact ⟨_, pe_ix hr pa pb hs, zmK hv sa sb⟩
end
section
variable {X : Cx} {x : Str} {p pos : Pos} {e : Expr} {es : List Expr} {ma : MA} {id T : String} {r : List V -> Hp -> VK -> Prop} {f : List D -> Option D}
theorem soundC {t : TA} (hv : VC X r f) (sa : ∀ B G H σ ρ ds ρ' (Q : List V -> Hp -> Prop), SI X.K B G H σ ρ -> ma ρ = some (ds, ρ') -> (∀ G' H' vs, SI X.K B G' H' σ ρ' -> Fz G G' -> RepL X.K G' vs ds -> Q vs H') -> t σ H Q) :
  ∀ B G H σ ρ d ρ' (Q : VK), SI X.K B G H σ ρ -> mC f ma ρ = some (d, ρ') -> (∀ G' H' v, SI X.K B G' H' σ ρ' -> Fz G G' -> RepD X.K G' v d -> Q v H') -> tCB r t σ H Q := by
 intro B G H σ ρ d ρ' Q I hm k
 obtain ⟨ds, e1, e2⟩ := mC_inv hm
 exact sa B G H σ ρ ds ρ' _ I e1 fun G1 H1 vs I1 f1 r1 => hv B G1 H1 σ ρ' vs ds d Q I1 r1 e2 fun G2 H2 z I2 f2 r2 => k G2 H2 z I2 (f1.trans f2) r2
theorem zd8 (hc : zgq X (.builtin id) r) (hv : VC X r f) (hb : bootBuiltins x = some (.builtin id)) (hm : X.mg x = none) (ha : SA X (e :: es) ma) (hg : Gl X x := by rfl) (hn : x ≠ "__name__" := by decide) (hdb : (x == ("__debug__" : Str)) = false := by decide)
  (he : starEach (e :: es) X.env = (false, eval e X.env) :: starEach es X.env := by rfl) (hpl : (backTo pos (starEach es X.env)).any (·.1) = false := by rfl) : SE X (.Call (.Name x p) (e :: es) [] pos) (mC f ma) := by
 obtain ⟨t, pa, sa⟩ := ha
 exact ⟨_, zkm hc hg hm hb pa hn hdb he hpl, soundC hv sa⟩
theorem zpr (hc : zgq X (.type T) r) (hv : VC X r f) (hb : bootBuiltins x = some (.type T)) (hm : X.mg x = none) (ha : SA X (e :: es) ma) (hg : Gl X x := by rfl) (hn : x ≠ "__name__" := by decide) (hdb : (x == ("__debug__" : Str)) = false := by decide)
  (he : starEach (e :: es) X.env = (false, eval e X.env) :: starEach es X.env := by rfl) (hpl : (backTo pos (starEach es X.env)).any (·.1) = false := by rfl) : SE X (.Call (.Name x p) (e :: es) [] pos) (mC f ma) := by
 obtain ⟨t, pa, sa⟩ := ha
 exact ⟨_, zhb hc hg hm hb pa hn hdb he hpl, soundC hv sa⟩
end
end M
namespace M
open L2 PySem PySem.Spec
open PyProof.Rows hiding St
variable {v : V} {ds cs out : List D} {p pos pos' : Pos} {xs vs ys : List V} {X : Cx} {C : Int -> Int -> Prop} {c l : Addr} {g : D -> R -> Option R} {a b e : Expr} {ma : MA} {i j n t : Nat} {mb : ME} {K : W.Frag} {G H H' G' : Hp} {us its : List Value} {u : Value} {d : D} {B : Bs} {σ σc : St} {ρ ρ' : R} {s : Sl} {x qual : Str} {Q E : Value -> Shared -> Prop} {f : D -> D -> Option D} {op op' : CmpOp} {m mc : MT} {es ifs : List Expr} {h : List D -> R -> Option R} {body : List Stmt} {N ps : List Str} {fd : FuncData} {env : Env} {scope : Scope} {A : Around} {cl : List (Str × Addr)} {h' : Heap} {prog : Program} {w : World} {use : Option (Value -> Sem Unit)} {ov : Option (Option V)} {cap : List Nat} {wi : TI} {tg' : Addr -> Shared -> Hp -> List Addr -> TG} {tt : Addr -> Shared -> Hp -> List Addr -> TT} {te : Addr -> Shared -> Hp -> List Addr -> TE} {ns : List Int}
section
variable {X : Cx} {K : W.Frag} {B : Bs} {G H : Hp} {σ : St} {ρ : R}
theorem SI.lst (I : SI K B G H σ ρ) (h : RepD K G v (.lst ds)) : ∃ a xs, v = .ref a /\ H a = some (.lst xs) /\ RepL K G xs ds := by
 obtain ⟨a, xs, e, q, r⟩ := h
 exact ⟨a, xs, e, I.fz a _ q, r⟩
theorem SI.tup (I : SI K B G H σ ρ) (h : RepD K G v (.tup ds)) : ∃ a xs, v = .ref a /\ H a = some (.tup xs) /\ RepL K G xs ds := by
 obtain ⟨a, xs, e, q, r⟩ := h
 exact ⟨a, xs, e, I.fz a _ q, r⟩
theorem SI.newT (I : SI K B G H σ ρ) {p : Addr} (hp : H p = none) (h : RepL K G xs ds) : SI K B (upd G p (.tup xs)) (upd H p (.tup xs)) σ ρ /\ Fz G (upd G p (.tup xs)) /\ RepD K (upd G p (.tup xs)) (.ref p) (.tup ds) :=
 ⟨I.allocF hp _, Fz.new (I.fz.free hp) _, ⟨p, xs, rfl, zaI, h.mono (Fz.new (I.fz.free hp) _)⟩⟩
theorem SI.newL (I : SI K B G H σ ρ) {p : Addr} (hp : H p = none) (h : RepL K G xs ds) : SI K B (upd G p (.lst xs)) (upd H p (.lst xs)) σ ρ /\ Fz G (upd G p (.lst xs)) /\ RepD K (upd G p (.lst xs)) (.ref p) (.lst ds) :=
 ⟨I.allocF hp _, Fz.new (I.fz.free hp) _, ⟨p, xs, rfl, zaI, h.mono (Fz.new (I.fz.free hp) _)⟩⟩
end
def dI2 (c : Int -> Int -> Bool) (g : Int -> Int -> D) : D -> D -> Option D
 | .int i, .int j => if c i j then some (g i j) else none
 | _, _ => none
theorem zoY {c : Int -> Int -> Bool} {g : Int -> Int -> Int} (hc : ∀ i j, c i j = true -> C i j) : V2 X (rI C fun i j => .int (g i j)) (dI2 c fun i j => .int (g i j)) := by
 intro B G H σ ρ x y a b d Q I ra rb hf k
 cases a <;> cases b <;> simp only [dI2] at hf <;> try cases hf
 rename_i i j
 split at hf
 ·rename_i h
  cases hf
  exact ⟨i, j, ra, rb, hc i j h, k G H _ I (Fz.refl G) rfl⟩
 ·cases hf
theorem v2_int0 {g : Int -> Int -> Int} : V2 X (rI0 fun i j => .int (g i j)) (dI2 (fun _ _ => true) fun i j => .int (g i j)) := by
 intro B G H σ ρ x y a b d Q I ra rb hf k
 cases a <;> cases b <;> simp only [dI2] at hf <;> try cases hf
 rename_i i j
 exact ⟨i, j, ra, rb, k G H _ I (Fz.refl G) rfl⟩
theorem zcc {g : Int -> Int -> Bool} : V2 X (rI0 fun i j => .bl (g i j)) (dI2 (fun _ _ => true) fun i j => .bl (g i j)) := by
 intro B G H σ ρ x y a b d Q I ra rb hf k
 cases a <;> cases b <;> simp only [dI2] at hf <;> try cases hf
 rename_i i j
 exact ⟨i, j, ra, rb, k G H _ I (Fz.refl G) rfl⟩
def dSub : D -> D -> Option D := dI2 (fun _ _ => true) fun i j => .int (i - j)
def znV (j : Int) : Bool := decide (0 < j) && decide (j.natAbs.log2 < 9000)
theorem op_fdivW : OpR X (binaryOp .FloorDiv) (rI (fun _ j => 0 < j /\ j.natAbs.log2 < 9000) fun i j => .int (i / j)) := opI fun i j _ _ _ _ _ hc q => by
 have h1 : (0 : Int) < j := hc.1
 exact PyProof.Rows.floordiv_int (by omega) (by rw [Int.fdiv_eq_ediv_of_nonneg i (by omega)]; exact q) (.inl (PyProof.noPylong_of_log2 hc.2))
def dDiv : D -> D -> Option D := dI2 (fun _ j => znV j) fun i j => .int (i / j)
def dMod : D -> D -> Option D := dI2 (fun _ j => decide (0 < j)) fun i j => .int (i % j)
noncomputable def dPow : D -> D -> Option D := dI2 (fun i j => decide (0 <= j) && decide (j <= 1000000) && decide (i.natAbs < 2 ^ 64)) fun i j => .int (i ^ j.toNat)
def dLt : D -> D -> Option D := dI2 (fun _ _ => true) fun i j => .bl (decide (i < j))
def dLe : D -> D -> Option D := dI2 (fun _ _ => true) fun i j => .bl (decide (i <= j))
def dGt : D -> D -> Option D := dI2 (fun _ _ => true) fun i j => .bl (decide (j < i))
def dGe : D -> D -> Option D := dI2 (fun _ _ => true) fun i j => .bl (decide (j <= i))
section
variable {X : Cx} {a b : Expr} {ma mb : ME} {pos : Pos}
theorem zbp (ha : SE X a ma) (hb : SE X b mb) : SE X (.BinOp a .Sub b pos) (m2 dSub ma mb) := znl op_sub v2_int0 ha hb
theorem ze7 (ha : SE X a ma) (hb : SE X b mb) : SE X (.BinOp a .FloorDiv b pos) (m2 dDiv ma mb) := znl op_fdivW (zoY fun i j h => by simpa [znV] using h) ha hb
theorem zbx (ha : SE X a ma) (hb : SE X b mb) : SE X (.BinOp a .Mod b pos) (m2 dMod ma mb) := znl op_mod (zoY fun i j h => by simpa using h) ha hb
theorem zlw (ha : SE X a ma) (hb : SE X b mb) : SE X (.BinOp a .Pow b pos) (m2 dPow ma mb) := znl op_pow (zoY fun i j h => by simp only [Bool.and_eq_true, decide_eq_true_eq] at h; exact ⟨h.1.1, h.1.2, h.2⟩) ha hb
theorem se_lt (ha : SE X a ma) (hb : SE X b mb) : SE X (.Compare a [.Lt] [b] pos) (m2 dLt ma mb) := zk1 zlS zcc ha hb (zgI _)
theorem se_le (ha : SE X a ma) (hb : SE X b mb) : SE X (.Compare a [.LtE] [b] pos) (m2 dLe ma mb) := zk1 zjr zcc ha hb (zgI _)
theorem se_gt (ha : SE X a ma) (hb : SE X b mb) : SE X (.Compare a [.Gt] [b] pos) (m2 dGt ma mb) := zk1 op_gt zcc ha hb (zgI _)
end
def dNeg : D -> Option D
 | .int i => some (.int (-i))
 | _ => none
theorem zoM {ma : ME} (ha : SE X a ma) : SE X (.UnaryOp .USub a pos) (m1 dNeg ma) :=
 se_un un_neg (fun B G H σ ρ x a d Q I ra hf k => by
  cases a <;> simp only [dNeg] at hf <;> try cases hf
  exact ⟨_, ra, k G H _ I (Fz.refl G) rfl⟩) ha
def zkk (i j : Int) : Bool := (decide (i.natAbs < 2 ^ 64) || decide (j.natAbs < 2 ^ 64)) || (decide (i.natAbs < 2 ^ 4000) && decide (j.natAbs < 2 ^ 4000))
noncomputable def dMul : D -> D -> Option D
 | .int i, .int j => if zkk i j then some (.int (i * j)) else none
 | .lst ds, .int k => if decide (-1000000 <= k) && decide (k <= 1000000) && decide (ds.length * k.toNat <= 1000000) then some (.lst (List.replicate k.toNat ds).flatten) else none
 | _, _ => none
theorem zjN {k : Int} (h : k.natAbs < 2 ^ 4000) : Builtin.Int.intBits k <= 4000 := by
 unfold Builtin.Int.intBits
 split
 ·exact Nat.zero_le _
 ·have : k.natAbs.log2 < 4000 := by
   rcases Nat.eq_zero_or_pos k.natAbs with h0 | hp
   ·rw [h0]; decide
   ·exact (Nat.log2_lt (Nat.ne_of_gt hp)).mpr h
  omega
theorem mulOk_ok {i j : Int} (h : zkk i j = true) : IntMulOk i j := by
 unfold zkk at h
 simp only [Bool.or_eq_true, Bool.and_eq_true, decide_eq_true_eq] at h
 rcases h with (h | h) | ⟨h1, h2⟩
 ·exact .of_left (intBits_le_64 (by omega) (by omega))
 ·exact .of_right (intBits_le_64 (by omega) (by omega))
 ·have b1 := zjN h1
  have b2 := zjN h2
  unfold IntMulOk
  intro z
  simp only [Bool.and_eq_true] at z
  have z2 := z.2
  unfold Builtin.Int.intTooBig at z2
  revert z2
  generalize Builtin.Int.intBits i = p at *
  generalize Builtin.Int.intBits j = q at *
  intro z2
  have z3 := of_decide_eq_true z2
  have hb := bitsLine_eq
  omega
theorem op_mulG : OpR X (binaryOp .Mult) (rI IntMulOk fun i j => .int (i * j)) := opI fun _ _ _ _ _ _ _ hc q => mul_int q hc
theorem zgO {ma mb : ME} (ha : SE X a ma) (hb : SE X b mb) : SE X (.BinOp a .Mult b pos) (m2 dMul ma mb) := by
 refine znl (op_mulG.or op_rep) (fun B G H σ ρ x y a b d Q I ra rb hf k => ?_) ha hb
 cases a <;> cases b <;> simp only [dMul] at hf <;> try cases hf
 ·rename_i i j
  split at hf
  ·rename_i h
   cases hf
   exact .inl ⟨i, j, ra, rb, mulOk_ok h, k G H _ I (Fz.refl G) rfl⟩
  ·cases hf
 ·rename_i ds j
  split at hf
  ·rename_i h
   cases hf
   simp only [Bool.and_eq_true, decide_eq_true_eq] at h
   obtain ⟨a, xs, rfl, ha, r⟩ := I.lst ra
   have hl := r.length
   refine .inr ⟨a, j, xs, rfl, rb, ha, by omega, by omega, by rw [hl, sizeLine_eq]; omega, fun p hp => ?_⟩
   obtain ⟨I2, f2, r2⟩ := I.newL hp (r.rep j.toNat)
   exact k _ _ _ I2 f2 r2
  ·cases hf
noncomputable def dAdd : D -> D -> Option D
 | .int i, .int j => some (.int (i + j))
 | .tup a, .tup b => if a.length + b.length <= 16777216 then some (.tup (a ++ b)) else none
 | .lst a, .lst b => if a.length + b.length <= 16777216 then some (.lst (a ++ b)) else none
 | .str a, .str b => if a.length + b.length <= 16777216 then some (.str (a ++ b)) else none
 | _, _ => none
theorem op_catT0 : OpR X (binaryOp .Add) (fun x y H Q => ∃ a b ys, x = .ref a /\ y = .ref b /\ SqT X.K H a [] /\ SqT X.K H b ys /\ Q (.ref b) H) := by
 intro pins s σ H x y v u Q I rx ry h
 obtain ⟨a, b, ys, rfl, rfl, ha, hb, q⟩ := h
 cases rx
 cases ry
 obtain ⟨its, r1, p1, _⟩ := I.tuple ha
 obtain ⟨its2, r2, p2, _⟩ := I.tuple hb
 obtain rfl : its = [] := by cases r1; rfl
 obtain ⟨⟨cls, dd, data, sl⟩, ho, hc, n, hd⟩ := id p1
 obtain ⟨⟨cls2, dd2, data2, sl2⟩, ho2, hc2, n2, hd2⟩ := id p2
 simp only at hc hd hc2 hd2
 subst hc hd hc2 hd2
 exact concat_meets ⟨_, ho, rfl⟩ ⟨_, ho2, rfl⟩ noFill_tuple_add seq_tuple_add PySem.F.slot_tuple_add PySem.F.entry_tuple_add (PySem.F.args_tuple_add_2 _ _)
   (tuple_addW0 a b _ _ n n2 dd dd2 sl sl2 (by simp)) ⟨ho, ho2, ⟨.ref b, H, I, rfl, q⟩⟩
theorem zaU {ma mb : ME} (ha : SE X a ma) (hb : SE X b mb) : SE X (.BinOp a .Add b pos) (m2 dAdd ma mb) := by
 refine znl (op_add.or (op_catT.or (op_catT0.or (op_cat.or znO)))) (fun B G H σ ρ x y a b d Q I ra rb hf k => ?_) ha hb
 cases a <;> cases b <;> simp only [dAdd] at hf <;> try cases hf
 ·exact .inl ⟨_, _, ra, rb, k G H _ I (Fz.refl G) rfl⟩
 ·rename_i i j
  split at hf
  ·rename_i h
   cases hf
   exact .inr (.inr (.inr (.inr ⟨i, j, ra, rb, by rw [sizeLine_eq]; exact h, k G H _ I (Fz.refl G) rfl⟩)))
  ·cases hf
 ·rename_i as bs
  split at hf
  ·rename_i h
   cases hf
   obtain ⟨a, xs, rfl, ha, r⟩ := I.lst ra
   obtain ⟨b, ys, rfl, hb, r2⟩ := I.lst rb
   refine .inr (.inr (.inr (.inl ⟨a, b, xs, ys, rfl, rfl, ha, hb, by rw [r.length, r2.length, sizeLine_eq]; exact h, fun p hp => ?_⟩)))
   obtain ⟨I2, f2, r2⟩ := I.newL hp (r.append r2)
   exact k _ _ _ I2 f2 r2
  ·cases hf
 ·rename_i as bs
  split at hf
  ·rename_i h
   cases hf
   obtain ⟨a, xs, rfl, ha, r⟩ := I.tup ra
   obtain ⟨b, ys, rfl, hb, r2⟩ := I.tup rb
   by_cases z : xs = []
   ·subst z
    have z' : as = [] := List.eq_nil_of_length_eq_zero r.length.symm
    subst z'
    exact .inr (.inr (.inl ⟨a, b, ys, rfl, rfl, SqT.of ha, SqT.of hb, k G H _ I (Fz.refl G) rb⟩))
   ·refine .inr (.inl ⟨a, b, xs, ys, rfl, rfl, SqT.of ha, SqT.of hb, z, by rw [r.length, r2.length, sizeLine_eq]; exact h, fun w => ?_, fun w p hp => ?_⟩)
    ·subst w
     have w' : bs = [] := List.eq_nil_of_length_eq_zero r2.length.symm
     subst w'
     rw [List.append_nil] at k
     exact k G H _ I (Fz.refl G) ra
    ·obtain ⟨I2, f2, r2⟩ := I.newT hp (r.append r2)
     exact k _ _ _ I2 f2 r2
  ·cases hf
mutual
def noS : D -> Bool
 | .scr _ => false
 | .exc _ => false
 | .dic _ _ => false
 | .dit _ _ => false
 | .lst ds => noSL ds
 | .tup ds => noSL ds
 | _ => true
def noSL : List D -> Bool
 | [] => true
 | d :: ds => noS d && noSL ds
end
mutual
def eqB : D -> D -> Bool
 | .non, .non => true
 | .bl a, .bl b => a == b
 | .int a, .int b => a == b
 | .str a, .str b => a == b
 | .bl a, .int b => (if a then 1 else 0) == b
 | .int a, .bl b => a == (if b then 1 else 0)
 | .lst a, .lst b => eqBL a b
 | .tup a, .tup b => eqBL a b
 | _, _ => false
def eqBL : List D -> List D -> Bool
 | [], [] => true
 | a :: as, b :: bs => eqB a b && eqBL as bs
 | _, _ => false
end
theorem zht : ∀ {as bs : List D}, as.length ≠ bs.length -> eqBL as bs = false
 | [], [], h => absurd rfl h
 | [], _ :: _, _ => rfl
 | _ :: _, [], _ => rfl
 | a :: as, b :: bs, h => by
  have := zht (as := as) (bs := bs) (fun e => h (by simp [e]))
  simp [eqBL, this]
mutual
theorem zkH : ∀ d, noS d = true -> eqB d d = true
 | .non, _ => rfl
 | .bl b, _ => by simp [eqB]
 | .int b, _ => by simp [eqB]
 | .str b, _ => by simp [eqB]
 | .lst ds, h => by simp only [noS] at h; simp only [eqB]; exact ziZ ds h
 | .tup ds, h => by simp only [noS] at h; simp only [eqB]; exact ziZ ds h
 | .scr _, h => by simp [noS] at h
 | .exc _, h => by simp [noS] at h
 | (.dic _ _), h => by simp [noS] at h
 | (.dit _ _), h => by simp [noS] at h
theorem ziZ : ∀ ds, noSL ds = true -> eqBL ds ds = true
 | [], _ => rfl
 | d :: ds, h => by
  simp only [noSL, Bool.and_eq_true] at h
  simp only [eqBL, Bool.and_eq_true]
  exact ⟨zkH d h.1, ziZ ds h.2⟩
end
mutual
def depth : D -> Nat
 | .lst ds => zgY ds + 1
 | .tup ds => zgY ds + 1
 | _ => 0
def zgY : List D -> Nat
 | [] => 0
 | d :: ds => max (depth d) (zgY ds)
end
theorem zh5 : ∀ {l : List D} {i : Nat} {d : D}, l[i]? = some d -> depth d <= zgY l
 | [], _, _, h => by simp at h
 | c :: l, 0, d, h => by simp at h; subst h; simp only [zgY]; omega
 | c :: l, i + 1, d, h => by
  have := zh5 (l := l) (i := i) (d := d) (by simpa using h)
  simp only [zgY]; omega
theorem zhF : ∀ {l : List D} {i : Nat} {d : D}, l[i]? = some d -> noSL l = true -> noS d = true
 | [], _, _, h, _ => by simp at h
 | c :: l, 0, d, h, z => by simp at h; subst h; simp only [noSL, Bool.and_eq_true] at z; exact z.1
 | c :: l, i + 1, d, h, z => by simp only [noSL, Bool.and_eq_true] at z; exact zhF (l := l) (i := i) (by simpa using h) z.2
mutual
theorem RepD.inj : ∀ {a b : D} {x : V}, noS a = true -> noS b = true -> RepD K G x a -> RepD K G x b -> a = b
 | .non, b, x, _, nb, ra, rb => by
  cases (show x = V.non from ra)
  cases b <;> simp_all [RepD, noS]
 | .bl c, b, x, _, nb, ra, rb => by
  cases (show x = V.bl c from ra)
  cases b <;> simp_all [RepD, noS]
 | .int c, b, x, _, nb, ra, rb => by
  cases (show x = V.int c from ra)
  cases b <;> simp_all [RepD, noS]
 | .str c, b, x, _, nb, ra, rb => by
  cases (show x = V.str c from ra)
  cases b <;> simp_all [RepD, noS]
 | .lst ds, b, x, na, nb, ra, rb => by
  obtain ⟨p, xs, rfl, q, r⟩ := ra
  cases b with
  | lst es =>
   obtain ⟨p2, ys, e, q2, r2⟩ := rb
   cases e
   rw [q] at q2
   cases q2
   simp only [noS] at na nb
   rw [RepL.inj na nb r r2]
  | tup es =>
   obtain ⟨p2, ys, e, q2, r2⟩ := rb
   cases e
   rw [q] at q2
   cases q2
  | scr _ => simp [noS] at nb
  | exc _ => simp [noS] at nb
  | dic _ _ => simp [noS] at nb
  | dit _ _ => simp [noS] at nb
  | non => simp [RepD] at rb
  | bl _ => simp [RepD] at rb
  | int _ => simp [RepD] at rb
  | str _ => simp [RepD] at rb
 | .tup ds, b, x, na, nb, ra, rb => by
  obtain ⟨p, xs, rfl, q, r⟩ := ra
  cases b with
  | tup es =>
   obtain ⟨p2, ys, e, q2, r2⟩ := rb
   cases e
   rw [q] at q2
   cases q2
   simp only [noS] at na nb
   rw [RepL.inj na nb r r2]
  | lst es =>
   obtain ⟨p2, ys, e, q2, r2⟩ := rb
   cases e
   rw [q] at q2
   cases q2
  | scr _ => simp [noS] at nb
  | exc _ => simp [noS] at nb
  | dic _ _ => simp [noS] at nb
  | dit _ _ => simp [noS] at nb
  | non => simp [RepD] at rb
  | bl _ => simp [RepD] at rb
  | int _ => simp [RepD] at rb
  | str _ => simp [RepD] at rb
 | .scr _, _, _, na, _, _, _ => by simp [noS] at na
 | .exc _, _, _, na, _, _, _ => by simp [noS] at na
 | (.dic _ _), _, _, na, _, _, _ => by simp [noS] at na
 | (.dit _ _), _, _, na, _, _, _ => by simp [noS] at na
theorem RepL.inj : ∀ {as bs : List D} {xs : List V}, noSL as = true -> noSL bs = true -> RepL K G xs as -> RepL K G xs bs -> as = bs
 | [], [], _, _, _, _, _ => rfl
 | [], _ :: _, xs, _, _, e, h => by
  obtain ⟨_, _, e2, _⟩ := h
  cases (show xs = [] from e)
  cases e2
 | _ :: _, [], xs, _, _, h, e => by
  obtain ⟨_, _, e2, _⟩ := h
  cases (show xs = [] from e)
  cases e2
 | a :: as, b :: bs, xs, na, nb, h, h2 => by
  obtain ⟨x, ys, e, q, r⟩ := h
  obtain ⟨x2, ys2, e2, q2, r2⟩ := h2
  subst e
  cases e2
  simp only [noSL, Bool.and_eq_true] at na nb
  rw [RepD.inj na.1 nb.1 q q2, RepL.inj na.2 nb.2 r r2]
end
def eqJ (ds es : List D) (j : Nat) : Bool := match ds[j]?, es[j]? with
 | some a, some b => eqB a b
 | _, _ => false
theorem zeB : ∀ (as bs : List D), as.length = bs.length -> (List.range as.length).all (eqJ as bs) = eqBL as bs
 | [], [], _ => by simp [eqBL]
 | a :: as, b :: bs, h => by
  have ih := zeB as bs (by simpa using h)
  rw [List.length_cons, List.range_succ_eq_map, List.all_cons, List.all_map]
  simp only [eqBL, <- ih]
  congr 1
 | [], _ :: _, h => by simp at h
 | _ :: _, [], h => by simp at h
section
variable {X : Cx} {pins : List (Addr × Obj)} {σ : St} {H G : Hp} {s : Shared}
theorem zkK (r : Vals xs us) (h : RepL X.K G xs ds) (e : us[j]? = some u) : ∃ x d, ds[j]? = some d /\ RelV x u /\ RepD X.K G x d := by
 have hl := r.length
 have hl2 := h.length
 have hj : j < us.length := (List.getElem?_eq_some_iff.mp e).1
 have ej : ds[j]? = some ds[j] := List.getElem?_eq_getElem (by omega)
 obtain ⟨x, q1, q2⟩ := h.get ej
 obtain ⟨u', h1, h2⟩ := r.get q1
 have : u' = u := by rw [h1] at e; exact Option.some.inj e
 subst this
 exact ⟨x, _, ej, h2, q2⟩
theorem eqAt_D (I : Inv X pins σ H s) (fz : Fz G H) : ∀ (n : Nat) (A : Around) (a b : D) (x y : V) (u v : Value), depth a <= n -> noS a = true -> noS b = true -> A.units + n + 1 < cLine -> RepD X.K G x a -> RepD X.K G y b -> RelV x u -> RelV y v ->
  SeqAt.EqAt A s u v (eqB a b) /\ SeqAt.RcAt A s u v (eqB a b) := by
 intro n
 induction n with
 | zero =>
  intro A a b x y u v hd na nb hu ra rb rx ry
  have hu' : A.units < cLine := by omega
  cases a with
  | non =>
   cases (show x = V.non from ra); cases (show u = Value.none from rx)
   cases b with
   | non => cases (show y = V.non from rb); cases (show v = Value.none from ry); exact ⟨.same _, .none_none⟩
   | bl c => cases (show y = V.bl c from rb); cases (show v = Value.bool c from ry); exact ⟨.none_bool _, .none_bool _⟩
   | int c => cases (show y = V.int c from rb); obtain ⟨t, rfl⟩ := ry; exact ⟨.none_int _ _, .none_int _ _⟩
   | str c => cases (show y = V.str c from rb); obtain ⟨t, rfl⟩ := ry; exact ⟨.none_str _ _, .none_str _ _⟩
   | lst ds =>
    obtain ⟨p, xs, rfl, q, r⟩ := rb
    cases (show v = Value.ref p from ry)
    obtain ⟨its, rv, pl, hz⟩ := I.list (SqL.of (fz _ _ q))
    exact ⟨.none_list pl.isList hu', .none_list pl.isList hu'⟩
   | tup ds =>
    obtain ⟨p, xs, rfl, q, r⟩ := rb
    cases (show v = Value.ref p from ry)
    obtain ⟨its, rv, pl, hz⟩ := I.tuple (SqT.of (fz _ _ q))
    exact ⟨.none_tuple pl hu', .none_tuple pl hu'⟩
   | scr _ => simp [noS] at nb
   | exc _ => simp [noS] at nb
   | dic _ _ => simp [noS] at nb
   | dit _ _ => simp [noS] at nb
  | bl c0 =>
   cases (show x = V.bl c0 from ra); cases (show u = Value.bool c0 from rx)
   cases b with
   | non => cases (show y = V.non from rb); cases (show v = Value.none from ry); exact ⟨.bool_none _, .bool_none _⟩
   | bl c => cases (show y = V.bl c from rb); cases (show v = Value.bool c from ry); exact ⟨.bool_bool _ _, .bool_bool _ _⟩
   | int c => cases (show y = V.int c from rb); obtain ⟨t, rfl⟩ := ry; exact ⟨.bool_int _ _ _, .bool_int _ _ _⟩
   | str c => cases (show y = V.str c from rb); obtain ⟨t, rfl⟩ := ry; exact ⟨.bool_str _ _ _, .bool_str _ _ _⟩
   | lst ds =>
    obtain ⟨p, xs, rfl, q, r⟩ := rb
    cases (show v = Value.ref p from ry)
    obtain ⟨its, rv, pl, hz⟩ := I.list (SqL.of (fz _ _ q))
    exact ⟨.bool_list _ pl.isList hu', .bool_list _ pl.isList hu'⟩
   | tup ds =>
    obtain ⟨p, xs, rfl, q, r⟩ := rb
    cases (show v = Value.ref p from ry)
    obtain ⟨its, rv, pl, hz⟩ := I.tuple (SqT.of (fz _ _ q))
    exact ⟨.bool_tuple _ pl hu', .bool_tuple _ pl hu'⟩
   | scr _ => simp [noS] at nb
   | exc _ => simp [noS] at nb
   | dic _ _ => simp [noS] at nb
   | dit _ _ => simp [noS] at nb
  | int c0 =>
   cases (show x = V.int c0 from ra); obtain ⟨t0, rfl⟩ := rx
   cases b with
   | non => cases (show y = V.non from rb); cases (show v = Value.none from ry); exact ⟨.int_none _ _, .int_none _ _⟩
   | bl c => cases (show y = V.bl c from rb); cases (show v = Value.bool c from ry); exact ⟨.int_bool _ _ _, .int_bool _ _ _⟩
   | int c => cases (show y = V.int c from rb); obtain ⟨t, rfl⟩ := ry; exact ⟨.int_int _ _ _ _, .int_int _ _ _ _⟩
   | str c => cases (show y = V.str c from rb); obtain ⟨t, rfl⟩ := ry; exact ⟨.int_str _ _ _ _, .int_str _ _ _ _⟩
   | lst ds =>
    obtain ⟨p, xs, rfl, q, r⟩ := rb
    cases (show v = Value.ref p from ry)
    obtain ⟨its, rv, pl, hz⟩ := I.list (SqL.of (fz _ _ q))
    exact ⟨.int_list _ _ pl.isList hu', .int_list _ _ pl.isList hu'⟩
   | tup ds =>
    obtain ⟨p, xs, rfl, q, r⟩ := rb
    cases (show v = Value.ref p from ry)
    obtain ⟨its, rv, pl, hz⟩ := I.tuple (SqT.of (fz _ _ q))
    exact ⟨.int_tuple _ _ pl hu', .int_tuple _ _ pl hu'⟩
   | scr _ => simp [noS] at nb
   | exc _ => simp [noS] at nb
   | dic _ _ => simp [noS] at nb
   | dit _ _ => simp [noS] at nb
  | str c0 =>
   cases (show x = V.str c0 from ra); obtain ⟨t0, rfl⟩ := rx
   cases b with
   | non => cases (show y = V.non from rb); cases (show v = Value.none from ry); exact ⟨.str_none _ _, .str_none _ _⟩
   | bl c => cases (show y = V.bl c from rb); cases (show v = Value.bool c from ry); exact ⟨.str_bool _ _ _, .str_bool _ _ _⟩
   | int c => cases (show y = V.int c from rb); obtain ⟨t, rfl⟩ := ry; exact ⟨.str_int _ _ _ _, .str_int _ _ _ _⟩
   | str c => cases (show y = V.str c from rb); obtain ⟨t, rfl⟩ := ry; exact ⟨.str_str _ _ _ _, .str_str _ _ _ _⟩
   | lst ds =>
    obtain ⟨p, xs, rfl, q, r⟩ := rb
    cases (show v = Value.ref p from ry)
    obtain ⟨its, rv, pl, hz⟩ := I.list (SqL.of (fz _ _ q))
    exact ⟨.str_list _ _ pl.isList hu', .str_list _ _ pl.isList hu'⟩
   | tup ds =>
    obtain ⟨p, xs, rfl, q, r⟩ := rb
    cases (show v = Value.ref p from ry)
    obtain ⟨its, rv, pl, hz⟩ := I.tuple (SqT.of (fz _ _ q))
    exact ⟨.str_tuple _ _ pl hu', .str_tuple _ _ pl hu'⟩
   | scr _ => simp [noS] at nb
   | exc _ => simp [noS] at nb
   | dic _ _ => simp [noS] at nb
   | dit _ _ => simp [noS] at nb
  | lst ds => simp [depth] at hd
  | tup ds => simp [depth] at hd
  | scr _ => simp [noS] at na
  | exc _ => simp [noS] at na
  | dic _ _ => simp [noS] at na
  | dit _ _ => simp [noS] at na
 | succ n ih =>
  intro A a b x y u v hd na nb hu ra rb rx ry
  have hu' : A.units < cLine := by omega
  have items : ∀ (ds es : List D) (xs ys : List V) (its its2 : List Value), zgY ds <= n -> noSL ds = true -> noSL es = true -> RepL X.K G xs ds -> RepL X.K G ys es -> Vals xs its -> Vals ys its2 ->
    ∀ j (h1 : j < its.toArray.size) (h2 : j < its2.toArray.size), SeqAt.EqAt A.in1 s its.toArray[j] its2.toArray[j] (eqJ ds es j) := by
   intro ds es xs ys its its2 hd nd ne r r2 rv rv2 j h1 h2
   simp only [List.size_toArray] at h1 h2
   obtain ⟨x1, d1, e1, k1, m1⟩ := zkK rv r (j := j) (u := its[j]) (List.getElem?_eq_getElem h1)
   obtain ⟨x2, d2, e2, k2, m2⟩ := zkK rv2 r2 (j := j) (u := its2[j]) (List.getElem?_eq_getElem h2)
   have e : eqJ ds es j = eqB d1 d2 := by unfold eqJ; rw [e1, e2]
   rw [e]
   have := zh5 e1
   simpa using (ih A.in1 d1 d2 x1 x2 _ _ (by omega) (zhF e1 nd) (zhF e2 ne) (by show A.units + 1 + n + 1 < cLine; omega) m1 m2 k1 k2).1
  cases a with
  | scr _ => simp [noS] at na
  | exc _ => simp [noS] at na
  | dic _ _ => simp [noS] at na
  | dit _ _ => simp [noS] at na
  | non => exact ih A .non b x y u v (Nat.zero_le _) na nb (by omega) ra rb rx ry
  | bl c => exact ih A (.bl c) b x y u v (Nat.zero_le _) na nb (by omega) ra rb rx ry
  | int c => exact ih A (.int c) b x y u v (Nat.zero_le _) na nb (by omega) ra rb rx ry
  | str c => exact ih A (.str c) b x y u v (Nat.zero_le _) na nb (by omega) ra rb rx ry
  | lst ds =>
   have ra0 := ra
   obtain ⟨p, xs, rfl, q, r⟩ := ra
   cases (show u = Value.ref p from rx)
   obtain ⟨its, rv, pl, hz⟩ := I.list (SqL.of (fz _ _ q))
   cases b with
   | non => cases (show y = V.non from rb); cases (show v = Value.none from ry); exact ⟨.list_none pl.isList hu', .list_none pl.isList hu'⟩
   | bl c => cases (show y = V.bl c from rb); cases (show v = Value.bool c from ry); exact ⟨.list_bool _ pl.isList hu', .list_bool _ pl.isList hu'⟩
   | int c => cases (show y = V.int c from rb); obtain ⟨t, rfl⟩ := ry; exact ⟨.list_int _ _ pl.isList hu', .list_int _ _ pl.isList hu'⟩
   | str c => cases (show y = V.str c from rb); obtain ⟨t, rfl⟩ := ry; exact ⟨.list_str _ _ pl.isList hu', .list_str _ _ pl.isList hu'⟩
   | scr _ => simp [noS] at nb
   | exc _ => simp [noS] at nb
   | dic _ _ => simp [noS] at nb
   | dit _ _ => simp [noS] at nb
   | tup es =>
    obtain ⟨p2, ys, rfl, q2, r2⟩ := rb
    cases (show v = Value.ref p2 from ry)
    obtain ⟨its2, rv2, pl2, hz2⟩ := I.tuple (SqT.of (fz _ _ q2))
    exact ⟨.list_tuple pl.isList pl2 hu', .list_tuple pl.isList pl2 hu'⟩
   | lst es =>
    have rb0 := rb
    obtain ⟨p2, ys, rfl, q2, r2⟩ := rb
    cases (show v = Value.ref p2 from ry)
    obtain ⟨its2, rv2, pl2, hz2⟩ := I.list (SqL.of (fz _ _ q2))
    simp only [depth] at hd
    have l1 := rv.length; have l2 := r.length; have l3 := rv2.length; have l4 := r2.length
    have rc : SeqAt.RcAt A s (.ref p) (.ref p2) (eqBL ds es) := by
     by_cases hl : ds.length = es.length
     ·have z := SeqAt.RcAt.lists (A := A) (s := s) (e := eqJ ds es) pl.isList pl2.isList (by simp only [List.size_toArray]; omega) hu' (items ds es xs ys its its2 (by omega) (by simpa only [noS] using na) (by simpa only [noS] using nb) r r2 rv rv2)
      rw [List.size_toArray, <- l1, l2, zeB ds es hl] at z
      exact z
     ·rw [zht hl]
      refine .lists_lengths pl.isList pl2.isList ?_ hu'
      simp only [List.size_toArray, bne_iff_ne, ne_eq]
      omega
    refine ⟨?_, by simp only [eqB]; exact rc⟩
    by_cases hp : p = p2
    ·subst hp
     have e := RepD.inj na nb ra0 rb0
     cases e
     rw [zkH _ na]
     exact .same _
    ·simp only [eqB]
     exact .of_refs hp rc
  | tup ds =>
   have ra0 := ra
   obtain ⟨p, xs, rfl, q, r⟩ := ra
   cases (show u = Value.ref p from rx)
   obtain ⟨its, rv, pl, hz⟩ := I.tuple (SqT.of (fz _ _ q))
   cases b with
   | non => cases (show y = V.non from rb); cases (show v = Value.none from ry); exact ⟨.tuple_none pl hu', .tuple_none pl hu'⟩
   | bl c => cases (show y = V.bl c from rb); cases (show v = Value.bool c from ry); exact ⟨.tuple_bool _ pl hu', .tuple_bool _ pl hu'⟩
   | int c => cases (show y = V.int c from rb); obtain ⟨t, rfl⟩ := ry; exact ⟨.tuple_int _ _ pl hu', .tuple_int _ _ pl hu'⟩
   | str c => cases (show y = V.str c from rb); obtain ⟨t, rfl⟩ := ry; exact ⟨.tuple_str _ _ pl hu', .tuple_str _ _ pl hu'⟩
   | scr _ => simp [noS] at nb
   | exc _ => simp [noS] at nb
   | dic _ _ => simp [noS] at nb
   | dit _ _ => simp [noS] at nb
   | lst es =>
    obtain ⟨p2, ys, rfl, q2, r2⟩ := rb
    cases (show v = Value.ref p2 from ry)
    obtain ⟨its2, rv2, pl2, hz2⟩ := I.list (SqL.of (fz _ _ q2))
    exact ⟨.tuple_list pl pl2.isList hu', .tuple_list pl pl2.isList hu'⟩
   | tup es =>
    have rb0 := rb
    obtain ⟨p2, ys, rfl, q2, r2⟩ := rb
    cases (show v = Value.ref p2 from ry)
    obtain ⟨its2, rv2, pl2, hz2⟩ := I.tuple (SqT.of (fz _ _ q2))
    simp only [depth] at hd
    have l1 := rv.length; have l2 := r.length; have l3 := rv2.length; have l4 := r2.length
    have rc : SeqAt.RcAt A s (.ref p) (.ref p2) (eqBL ds es) := by
     have z := SeqAt.RcAt.tuples (A := A) (s := s) (e := eqJ ds es) pl pl2 hu' (items ds es xs ys its its2 (by omega) (by simpa only [noS] using na) (by simpa only [noS] using nb) r r2 rv rv2)
     simp only [List.size_toArray] at z
     by_cases hl : ds.length = es.length
     ·have e1 : min its.length its2.length = ds.length := by omega
      have e2 : (its.length == its2.length) = true := by simp; omega
      rw [e1, e2, Bool.and_true, zeB ds es hl] at z
      exact z
     ·have e2 : (its.length == its2.length) = false := by simp; omega
      rw [e2, Bool.and_false] at z
      rw [zht hl]
      exact z
    refine ⟨?_, by simp only [eqB]; exact rc⟩
    by_cases hp : p = p2
    ·subst hp
     have e := RepD.inj na nb ra0 rb0
     cases e
     rw [zkH _ na]
     exact .same _
    ·simp only [eqB]
     exact .of_refs hp rc
end
def dEq (a b : D) : Option D := if noS a && noS b && decide (depth a <= 50) then some (.bl (eqB a b)) else none
def dNe (a b : D) : Option D := if noS a && noS b && decide (depth a <= 50) then some (.bl (!eqB a b)) else none
def rEqD (K : W.Frag) (c : Bool -> Bool) : R2 := fun x y H Q => ∃ G a b, Fz G H /\ RepD K G x a /\ RepD K G y b /\ noS a = true /\ noS b = true /\ depth a <= 50 /\ Q (.bl (c (eqB a b))) H
theorem op_eqD (hu : X.A.units + 64 < cLine) : OpR X (compareOp .Eq) (rEqD X.K id) := by
 intro pins s σ H x y v u Q I rx ry h
 obtain ⟨G, a, b, fz, ra, rb, na, nb, hd, q⟩ := h
 exact (eqAt_D I fz 50 X.A a b x y v u hd na nb (by omega) ra rb rx ry).2 _ _ _ _ ⟨.bl _, H, I, rfl, q⟩
theorem zle {ma mb : ME} (hu : X.A.units + 64 < cLine) (ha : SE X a ma) (hb : SE X b mb) : SE X (.Compare a [.Eq] [b] pos) (m2 dEq ma mb) := by
 refine zk1 (op_eqD hu) (fun B G H σ ρ x y a b d Q I ra rb hf k => ?_) ha hb (zgI _)
 unfold dEq at hf
 split at hf
 ·rename_i h
  simp only [Bool.and_eq_true, decide_eq_true_eq] at h
  cases hf
  exact ⟨G, a, b, I.fz, ra, rb, h.1.1, h.1.2, h.2, k G H _ I (Fz.refl G) rfl⟩
 ·cases hf
section
variable {X : Cx} {pins : List (Addr × Obj)} {σ : St} {H G : Hp} {s : Shared}
theorem neAt_D (I : Inv X pins σ H s) (fz : Fz G H) (A : Around) (a b : D) (x y : V) (u v : Value) (hd : depth a <= 50) (na : noS a = true) (nb : noS b = true) (hu : A.units + 64 < cLine) (ra : RepD X.K G x a) (rb : RepD X.K G y b) (rx : RelV x u) (ry : RelV y v) :
  SeqAt.RcNeAt A s u v (!eqB a b) := by
 have hu' : A.units < cLine := by omega
 have items : ∀ (ds es : List D) (xs ys : List V) (its its2 : List Value), zgY ds <= 49 -> noSL ds = true -> noSL es = true -> RepL X.K G xs ds -> RepL X.K G ys es -> Vals xs its -> Vals ys its2 ->
   ∀ j (h1 : j < its.toArray.size) (h2 : j < its2.toArray.size), SeqAt.EqAt A.in1 s its.toArray[j] its2.toArray[j] (eqJ ds es j) := by
  intro ds es xs ys its its2 hd nd ne r r2 rv rv2 j h1 h2
  simp only [List.size_toArray] at h1 h2
  obtain ⟨x1, d1, e1, k1, m1⟩ := zkK rv r (j := j) (u := its[j]) (List.getElem?_eq_getElem h1)
  obtain ⟨x2, d2, e2, k2, m2⟩ := zkK rv2 r2 (j := j) (u := its2[j]) (List.getElem?_eq_getElem h2)
  have e : eqJ ds es j = eqB d1 d2 := by unfold eqJ; rw [e1, e2]
  rw [e]
  have := zh5 e1
  simpa using (eqAt_D I fz 49 A.in1 d1 d2 x1 x2 _ _ (by omega) (zhF e1 nd) (zhF e2 ne) (by show A.units + 1 + 49 + 1 < cLine; omega) m1 m2 k1 k2).1
 cases a with
 | scr _ => simp [noS] at na
 | exc _ => simp [noS] at na
 | dic _ _ => simp [noS] at na
 | dit _ _ => simp [noS] at na
 | non =>
  cases (show x = V.non from ra); cases (show u = Value.none from rx)
  cases b with
  | non => cases (show y = V.non from rb); cases (show v = Value.none from ry); exact .none_none
  | bl c => cases (show y = V.bl c from rb); cases (show v = Value.bool c from ry); exact .none_bool _
  | int c => cases (show y = V.int c from rb); obtain ⟨t, rfl⟩ := ry; exact .none_int _ _
  | str c => cases (show y = V.str c from rb); obtain ⟨t, rfl⟩ := ry; exact .none_str _ _
  | lst ds =>
   obtain ⟨p, xs, rfl, q, r⟩ := rb
   cases (show v = Value.ref p from ry)
   obtain ⟨its, rv, pl, hz⟩ := I.list (SqL.of (fz _ _ q))
   exact .none_list pl.isList hu'
  | tup ds =>
   obtain ⟨p, xs, rfl, q, r⟩ := rb
   cases (show v = Value.ref p from ry)
   obtain ⟨its, rv, pl, hz⟩ := I.tuple (SqT.of (fz _ _ q))
   exact .none_tuple pl hu'
  | scr _ => simp [noS] at nb
  | exc _ => simp [noS] at nb
  | dic _ _ => simp [noS] at nb
  | dit _ _ => simp [noS] at nb
 | bl c0 =>
  cases (show x = V.bl c0 from ra); cases (show u = Value.bool c0 from rx)
  cases b with
  | non => cases (show y = V.non from rb); cases (show v = Value.none from ry); exact .bool_none _
  | bl c => cases (show y = V.bl c from rb); cases (show v = Value.bool c from ry); exact .bool_bool _ _
  | int c => cases (show y = V.int c from rb); obtain ⟨t, rfl⟩ := ry; exact .bool_int _ _ _
  | str c => cases (show y = V.str c from rb); obtain ⟨t, rfl⟩ := ry; exact .bool_str _ _ _
  | lst ds =>
   obtain ⟨p, xs, rfl, q, r⟩ := rb
   cases (show v = Value.ref p from ry)
   obtain ⟨its, rv, pl, hz⟩ := I.list (SqL.of (fz _ _ q))
   exact .bool_list _ pl.isList hu'
  | tup ds =>
   obtain ⟨p, xs, rfl, q, r⟩ := rb
   cases (show v = Value.ref p from ry)
   obtain ⟨its, rv, pl, hz⟩ := I.tuple (SqT.of (fz _ _ q))
   exact .bool_tuple _ pl hu'
  | scr _ => simp [noS] at nb
  | exc _ => simp [noS] at nb
  | dic _ _ => simp [noS] at nb
  | dit _ _ => simp [noS] at nb
 | int c0 =>
  cases (show x = V.int c0 from ra); obtain ⟨t0, rfl⟩ := rx
  cases b with
  | non => cases (show y = V.non from rb); cases (show v = Value.none from ry); exact .int_none _ _
  | bl c => cases (show y = V.bl c from rb); cases (show v = Value.bool c from ry); exact .int_bool _ _ _
  | int c => cases (show y = V.int c from rb); obtain ⟨t, rfl⟩ := ry; exact .int_int _ _ _ _
  | str c => cases (show y = V.str c from rb); obtain ⟨t, rfl⟩ := ry; exact .int_str _ _ _ _
  | lst ds =>
   obtain ⟨p, xs, rfl, q, r⟩ := rb
   cases (show v = Value.ref p from ry)
   obtain ⟨its, rv, pl, hz⟩ := I.list (SqL.of (fz _ _ q))
   exact .int_list _ _ pl.isList hu'
  | tup ds =>
   obtain ⟨p, xs, rfl, q, r⟩ := rb
   cases (show v = Value.ref p from ry)
   obtain ⟨its, rv, pl, hz⟩ := I.tuple (SqT.of (fz _ _ q))
   exact .int_tuple _ _ pl hu'
  | scr _ => simp [noS] at nb
  | exc _ => simp [noS] at nb
  | dic _ _ => simp [noS] at nb
  | dit _ _ => simp [noS] at nb
 | str c0 =>
  cases (show x = V.str c0 from ra); obtain ⟨t0, rfl⟩ := rx
  cases b with
  | non => cases (show y = V.non from rb); cases (show v = Value.none from ry); exact .str_none _ _
  | bl c => cases (show y = V.bl c from rb); cases (show v = Value.bool c from ry); exact .str_bool _ _ _
  | int c => cases (show y = V.int c from rb); obtain ⟨t, rfl⟩ := ry; exact .str_int _ _ _ _
  | str c => cases (show y = V.str c from rb); obtain ⟨t, rfl⟩ := ry; exact .str_str _ _ _ _
  | lst ds =>
   obtain ⟨p, xs, rfl, q, r⟩ := rb
   cases (show v = Value.ref p from ry)
   obtain ⟨its, rv, pl, hz⟩ := I.list (SqL.of (fz _ _ q))
   exact .str_list _ _ pl.isList hu'
  | tup ds =>
   obtain ⟨p, xs, rfl, q, r⟩ := rb
   cases (show v = Value.ref p from ry)
   obtain ⟨its, rv, pl, hz⟩ := I.tuple (SqT.of (fz _ _ q))
   exact .str_tuple _ _ pl hu'
  | scr _ => simp [noS] at nb
  | exc _ => simp [noS] at nb
  | dic _ _ => simp [noS] at nb
  | dit _ _ => simp [noS] at nb
 | lst ds =>
  obtain ⟨p, xs, rfl, q, r⟩ := ra
  cases (show u = Value.ref p from rx)
  obtain ⟨its, rv, pl, hz⟩ := I.list (SqL.of (fz _ _ q))
  cases b with
  | non => cases (show y = V.non from rb); cases (show v = Value.none from ry); exact .list_none pl.isList hu'
  | bl c => cases (show y = V.bl c from rb); cases (show v = Value.bool c from ry); exact .list_bool _ pl.isList hu'
  | int c => cases (show y = V.int c from rb); obtain ⟨t, rfl⟩ := ry; exact .list_int _ _ pl.isList hu'
  | str c => cases (show y = V.str c from rb); obtain ⟨t, rfl⟩ := ry; exact .list_str _ _ pl.isList hu'
  | scr _ => simp [noS] at nb
  | exc _ => simp [noS] at nb
  | dic _ _ => simp [noS] at nb
  | dit _ _ => simp [noS] at nb
  | tup es =>
   obtain ⟨p2, ys, rfl, q2, r2⟩ := rb
   cases (show v = Value.ref p2 from ry)
   obtain ⟨its2, rv2, pl2, hz2⟩ := I.tuple (SqT.of (fz _ _ q2))
   exact .list_tuple pl.isList pl2 hu'
  | lst es =>
   obtain ⟨p2, ys, rfl, q2, r2⟩ := rb
   cases (show v = Value.ref p2 from ry)
   obtain ⟨its2, rv2, pl2, hz2⟩ := I.list (SqL.of (fz _ _ q2))
   simp only [depth] at hd
   have l1 := rv.length; have l2 := r.length; have l3 := rv2.length; have l4 := r2.length
   simp only [eqB]
   by_cases hl : ds.length = es.length
   ·have z := SeqAt.RcNeAt.lists (A := A) (s := s) (e := eqJ ds es) pl.isList pl2.isList (by simp only [List.size_toArray]; omega) hu' (items ds es xs ys its its2 (by omega) (by simpa only [noS] using na) (by simpa only [noS] using nb) r r2 rv rv2)
    rw [List.size_toArray, <- l1, l2, zeB ds es hl] at z
    exact z
   ·rw [zht hl]
    refine .lists_lengths pl.isList pl2.isList ?_ hu'
    simp only [List.size_toArray, bne_iff_ne, ne_eq]
    omega
 | tup ds =>
  obtain ⟨p, xs, rfl, q, r⟩ := ra
  cases (show u = Value.ref p from rx)
  obtain ⟨its, rv, pl, hz⟩ := I.tuple (SqT.of (fz _ _ q))
  cases b with
  | non => cases (show y = V.non from rb); cases (show v = Value.none from ry); exact .tuple_none pl hu'
  | bl c => cases (show y = V.bl c from rb); cases (show v = Value.bool c from ry); exact .tuple_bool _ pl hu'
  | int c => cases (show y = V.int c from rb); obtain ⟨t, rfl⟩ := ry; exact .tuple_int _ _ pl hu'
  | str c => cases (show y = V.str c from rb); obtain ⟨t, rfl⟩ := ry; exact .tuple_str _ _ pl hu'
  | scr _ => simp [noS] at nb
  | exc _ => simp [noS] at nb
  | dic _ _ => simp [noS] at nb
  | dit _ _ => simp [noS] at nb
  | lst es =>
   obtain ⟨p2, ys, rfl, q2, r2⟩ := rb
   cases (show v = Value.ref p2 from ry)
   obtain ⟨its2, rv2, pl2, hz2⟩ := I.list (SqL.of (fz _ _ q2))
   exact .tuple_list pl pl2.isList hu'
  | tup es =>
   obtain ⟨p2, ys, rfl, q2, r2⟩ := rb
   cases (show v = Value.ref p2 from ry)
   obtain ⟨its2, rv2, pl2, hz2⟩ := I.tuple (SqT.of (fz _ _ q2))
   simp only [depth] at hd
   have l1 := rv.length; have l2 := r.length; have l3 := rv2.length; have l4 := r2.length
   have z := SeqAt.RcNeAt.tuples (A := A) (s := s) (e := eqJ ds es) pl pl2 hu' (items ds es xs ys its its2 (by omega) (by simpa only [noS] using na) (by simpa only [noS] using nb) r r2 rv rv2)
   simp only [List.size_toArray] at z
   simp only [eqB]
   by_cases hl : ds.length = es.length
   ·have e1 : min its.length its2.length = ds.length := by omega
    have e2 : (its.length == its2.length) = true := by simp; omega
    rw [e1, e2, Bool.and_true, zeB ds es hl] at z
    exact z
   ·have e2 : (its.length == its2.length) = false := by simp; omega
    rw [e2, Bool.and_false] at z
    rw [zht hl]
    exact z
end
theorem op_neD (hu : X.A.units + 64 < cLine) : OpR X (compareOp .NotEq) (rEqD X.K not) := by
 intro pins s σ H x y v u Q I rx ry h
 obtain ⟨G, a, b, fz, ra, rb, na, nb, hd, q⟩ := h
 exact neAt_D I fz X.A a b x y v u hd na nb hu ra rb rx ry _ _ _ _ ⟨.bl _, H, I, rfl, q⟩
theorem v2_ne : V2 X (rEqD X.K not) dNe := by
 intro B G H σ ρ x y a b d Q I ra rb hf k
 unfold dNe at hf
 split at hf
 ·rename_i h
  simp only [Bool.and_eq_true, decide_eq_true_eq] at h
  cases hf
  exact ⟨G, a, b, I.fz, ra, rb, h.1.1, h.1.2, h.2, k G H _ I (Fz.refl G) rfl⟩
 ·cases hf
theorem v2_eq : V2 X (rEqD X.K id) dEq := by
 intro B G H σ ρ x y a b d Q I ra rb hf k
 unfold dEq at hf
 split at hf
 ·rename_i h
  simp only [Bool.and_eq_true, decide_eq_true_eq] at h
  cases hf
  exact ⟨G, a, b, I.fz, ra, rb, h.1.1, h.1.2, h.2, k G H _ I (Fz.refl G) rfl⟩
 ·cases hf
theorem se_ne {ma mb : ME} (hu : X.A.units + 64 < cLine) (ha : SE X a ma) (hb : SE X b mb) : SE X (.Compare a [.NotEq] [b] pos) (m2 dNe ma mb) :=
 zk1 (op_neD hu) v2_ne ha hb (zgI _)
noncomputable def dIx : D -> D -> Option D
 | .lst ds, .int i => atI ds i
 | .tup ds, .int i => atI ds i
 | .scr ns, .int i => (atI ns i).map .int
 | _, _ => none
theorem atI_map {α β : Type} (f : α -> β) {xs : List α} {i : Int} {v : α} (h : atI xs i = some v) : atI (xs.map f) i = some (f v) := by
 unfold atI at h ⊢
 rw [List.length_map]
 cases q : ixN xs.length i with
 | none => rw [q] at h; cases h
 | some j =>
  rw [q] at h
  show (xs.map f)[j]? = _
  rw [List.getElem?_map, show xs[j]? = some v from h]
  rfl
def ReadD (K : W.Frag) (G H : Hp) (v : V) : D -> Prop
 | .lst ds => ∃ a xs, v = .ref a /\ H a = some (.lst xs) /\ RepL K G xs ds
 | d => RepD K G v d
theorem ReadD.of (fz : Fz G H) (h : RepD K G v d) : ReadD K G H v d := by
 cases d with
 | lst ds => obtain ⟨a, xs, e, q, r⟩ := h; exact ⟨a, xs, e, fz a _ q, r⟩
 | _ => exact h
def Sl.read : Sl -> Option D
 | .emp => none
 | .two _ _ => none
 | .tre _ => none
 | .ptr _ => none
 | .val d => some d
 | .own ds => some (.lst ds)
 | .par ds => some (.lst ds)
def hasV (ρ : R) (j : Nat) : Bool := match ρ[j]? with
 | some (.val _) => true
 | some (.own _) => true
 | some (.par _) => true
 | _ => false
theorem SI.has (I : SI K B G H σ ρ) (h : hasV ρ j = true) : ∃ v, σ[j]? = some (some v) := by
 unfold hasV at h
 cases e : ρ[j]? with
 | none => rw [e] at h; cases h
 | some s =>
  rw [e] at h
  have q := I.slot j s e
  cases s with
  | emp => cases h
  | two _ _ => cases h
  | tre _ => cases h
  | ptr _ => cases h
  | val d => obtain ⟨v, e, _⟩ := q; exact ⟨v, e⟩
  | own d => obtain ⟨l, _, e, _⟩ := q; exact ⟨_, e⟩
  | par d => obtain ⟨l, _, e, _⟩ := q; exact ⟨_, e⟩
theorem SI.read (I : SI K B G H σ ρ) (hv : σ[j]? = some (some v)) (e : ρ[j]? = some s) (q : s.read = some d) : ReadD K G H v d := by
 have h := I.slot j s e
 cases s with
 | emp => cases q
 | two _ _ => cases q
 | tre _ => cases q
 | ptr _ => cases q
 | val d' =>
  cases q
  obtain ⟨w, e1, r⟩ := h
  rw [hv] at e1; cases e1
  exact .of I.fz r
 | own ds =>
  cases q
  obtain ⟨l, xs, e1, _, h3, h4, _⟩ := h
  rw [hv] at e1; cases e1
  exact ⟨l, xs, rfl, h3, h4⟩
 | par ds =>
  cases q
  obtain ⟨l, xs, e1, _, h3, h4, _⟩ := h
  rw [hv] at e1; cases e1
  exact ⟨l, xs, rfl, h3, h4⟩
theorem zps {x y : V} {a b d : D} {Q : VK} (I : SI K B G H σ ρ) (ra : ReadD K G H x a) (rb : RepD K G y b) (hf : dIx a b = some d) (k : ∀ v, RepD K G v d -> Q v H) : rIx K x y H Q := by
 cases a <;> cases b <;> simp only [dIx] at hf <;> try cases hf
 ·rename_i ds i
  obtain ⟨p, xs, rfl, hp, r⟩ := ra
  obtain ⟨v, e, q⟩ := r.at hf
  exact .inl ⟨p, xs, i, v, rfl, rb, SqL.of hp, e, k _ q⟩
 ·rename_i ds i
  obtain ⟨p, xs, rfl, hp, r⟩ := I.tup ra
  obtain ⟨v, e, q⟩ := r.at hf
  exact .inr (.inl ⟨p, xs, i, v, rfl, rb, SqT.of hp, e, k _ q⟩)
 ·rename_i ns i
  obtain ⟨p, rfl, hp⟩ := ra
  cases e : atI ns i with
  | none => rw [e] at hf; cases hf
  | some n =>
   rw [e] at hf
   cases hf
   exact .inl ⟨p, _, i, .int n, rfl, rb, I.fz.sql hp, atI_map V.int e, k _ rfl⟩
theorem v2_ix : V2 X (rIx X.K) dIx := fun B G H σ ρ x y a b d Q I ra rb hf k => zps I (.of I.fz ra) rb hf fun v q => k G H v I (Fz.refl G) q
theorem zbY {ma mb : ME} (ha : SE X a ma) (hb : SE X b mb) (hs : zkw b := by exact fun _ _ => rfl) : SE X (.Subscript a b pos) (m2 dIx ma mb) := se_ix ix_seq v2_ix ha hb hs
noncomputable def eIxV (j : Nat) (mi : ME) : ME := fun ρ => if hasV ρ j then (mi ρ).bind fun p => (p.2[j]?.bind Sl.read).bind fun d => (dIx d p.1).map fun e => (e, p.2) else none
theorem zai (j : Nat) (hb : SE X b mb) (hN : X.N[j]? = some x := by rfl) (hv : Vis X.env.scope x := by first | exact Or.inl rfl | exact Or.inr (Or.inl rfl) | exact Or.inr (Or.inr rfl)) (hd : (x == ("__debug__" : Str)) = false := by decide)
    (hcd : (x == ("__classdict__" : Str)) = false := by decide) (hs : zkw b := by exact fun _ _ => rfl) : SE X (.Subscript (.Name x pos') b pos) (eIxV j mb) := by
  obtain ⟨tb, pb, sb⟩ := hb
  refine ⟨_, pe_ix ix_seq (zfB hN hv hd hcd) pb hs, fun B G H σ ρ d ρ' Q I hm k => ?_⟩
  unfold eIxV at hm
  split at hm
  . rename_i hh
    obtain ⟨v, ev⟩ := I.has hh
    cases e1 : mb ρ with
    | none => rw [e1] at hm; cases hm
    | some q =>
      obtain ⟨i, ρ1⟩ := q
      rw [e1] at hm
      simp only [Option.bind_some] at hm
      cases e2 : ρ1[j]? with
      | none => rw [e2] at hm; cases hm
      | some s =>
        rw [e2] at hm
        simp only [Option.bind_some] at hm
        cases e3 : s.read with
        | none => rw [e3] at hm; cases hm
        | some a =>
          rw [e3] at hm
          simp only [Option.bind_some] at hm
          cases e4 : dIx a i with
          | none => rw [e4] at hm; cases hm
          | some c =>
            rw [e4] at hm
            cases hm
            exact ⟨v, ev, sb B G H σ ρ i ρ' _ I e1 fun G1 H1 y I1 f1 r1 => zps I1 (I1.read ev e2 e3) r1 e4 fun w q => k G1 H1 w I1 f1 q⟩
  . cases hm
noncomputable def dLen : List D -> Option D
 | [.lst ds] => some (.int ds.length)
 | [.tup ds] => some (.int ds.length)
 | [.scr ns] => some (.int ns.length)
 | _ => none
theorem zna {x : V} {a d : D} {Q : VK} (I : SI K B G H σ ρ) (ra : ReadD K G H x a) (hf : dLen [a] = some d) (k : ∀ v, RepD K G v d -> Q v H) :
  ∃ p ys, [x] = [V.ref p] /\ (SqL K H p ys \/ SqT K H p ys) /\ Q (.int ys.length) H := by
 cases a <;> simp only [dLen] at hf <;> try cases hf
 ·obtain ⟨p, xs, rfl, hp, r⟩ := ra
  exact ⟨p, xs, rfl, .inl (SqL.of hp), by rw [r.length]; exact k _ rfl⟩
 ·obtain ⟨p, xs, rfl, hp, r⟩ := I.tup ra
  exact ⟨p, xs, rfl, .inr (SqT.of hp), by rw [r.length]; exact k _ rfl⟩
 ·obtain ⟨p, rfl, hp⟩ := ra
  exact ⟨p, _, rfl, .inl (I.fz.sql hp), by rw [List.length_map]; exact k _ rfl⟩
theorem RepL.one (h : RepL K G xs [d]) : ∃ x, xs = [x] /\ RepD K G x d := by
 obtain ⟨x, ys, e, q, r⟩ := h
 cases (show ys = [] from r)
 exact ⟨x, e, q⟩
theorem RepL.two {a b : D} (h : RepL K G xs [a, b]) : ∃ x y, xs = [x, y] /\ RepD K G x a /\ RepD K G y b := by
 obtain ⟨x, ys, e, q, r⟩ := h
 obtain ⟨y, e2, q2⟩ := r.one
 subst e2
 exact ⟨x, y, e, q, q2⟩
theorem dLen_one (h : dLen ds = some d) : ∃ a, ds = [a] := by
 match ds, h with
 | [a], _ => exact ⟨a, rfl⟩
 | [], h => cases h
 | _ :: _ :: _, h => simp [dLen] at h
theorem vc_len : VC X (fun xs H Q => ∃ p ys, xs = [.ref p] /\ (SqL X.K H p ys \/ SqT X.K H p ys) /\ Q (.int ys.length) H) dLen := by
 intro B G H σ ρ xs ds d Q I r hf k
 obtain ⟨a, rfl⟩ := dLen_one hf
 obtain ⟨x, rfl, ra⟩ := r.one
 exact zna I (.of I.fz ra) hf fun v q => k G H v I (Fz.refl G) q
theorem se_len (ml : X.mg "len" = none) (ha : SA X [e] ma) (hg : Gl X "len" := by rfl) (he : starEach [e] X.env = (false, eval e X.env) :: starEach [] X.env := by rfl) : SE X (.Call (.Name "len" p) [e] [] pos) (mC dLen ma) :=
 zd8 zim vc_len PySem.boot_len ml ha hg (by decide) (by decide) he rfl
def zbv (j : Nat) : ME := fun ρ => (ρ[j]?.bind Sl.read).bind fun d => (dLen [d]).map fun e => (e, ρ)
theorem zaB (j : Nat) (ml : X.mg "len" = none) (hN : X.N[j]? = some x := by rfl) (hv : Vis X.env.scope x := by first | exact Or.inl rfl | exact Or.inr (Or.inl rfl) | exact Or.inr (Or.inr rfl)) (hd : (x == ("__debug__" : Str)) = false := by decide)
  (hcd : (x == ("__classdict__" : Str)) = false := by decide) (hg : Gl X "len" := by rfl) (he : starEach [.Name x pos'] X.env = (false, eval (.Name x pos') X.env) :: starEach [] X.env := by rfl) : SE X (.Call (.Name "len" p) [.Name x pos'] [] pos) (zbv j) := by
 refine ⟨_, zkm zim hg ml PySem.boot_len (zen (zfB hN hv hd hcd) zjb he) (by decide) (by decide) he rfl, fun B G H σ ρ d ρ' Q I hm k => ?_⟩
 unfold zbv at hm
 cases e2 : ρ[j]? with
 | none => rw [e2] at hm; cases hm
 | some s =>
  rw [e2] at hm
  simp only [Option.bind_some] at hm
  cases e3 : s.read with
  | none => rw [e3] at hm; cases hm
  | some a =>
   rw [e3] at hm
   simp only [Option.bind_some] at hm
   cases e4 : dLen [a] with
   | none => rw [e4] at hm; cases hm
   | some c =>
    rw [e4] at hm
    cases hm
    have hh : hasV ρ j = true := by
     unfold hasV
     rw [e2]
     cases s <;> first | rfl | cases e3
    obtain ⟨v, ev⟩ := I.has hh
    exact ⟨v, ev, zna I (I.read ev e2 e3) e4 fun w q => k G H w I (Fz.refl G) q⟩
noncomputable def zcw : List D -> Option D
 | [.lst ds] => some (.tup ds)
 | [.tup ds] => some (.tup ds)
 | [.scr ns] => some (.tup (ns.map .int))
 | _ => none
theorem vc_tuple : VC X (fun xs H Q => ∃ p ys, xs = [.ref p] /\ ((SqL X.K H p ys /\ ∀ l, H l = none -> Q (.ref l) (upd H l (.tup ys))) \/ (SqT X.K H p ys /\ Q (.ref p) H))) zcw := by
 intro B G H σ ρ xs ds d Q I r hf k
 match ds, hf with
 | [a], hf =>
  obtain ⟨x, rfl, ra⟩ := r.one
  cases a <;> simp only [zcw] at hf <;> try cases hf
  ·obtain ⟨p, ys, rfl, hp, q⟩ := I.lst ra
   refine ⟨p, ys, rfl, .inl ⟨SqL.of hp, fun l hl => ?_⟩⟩
   obtain ⟨I2, f2, r2⟩ := I.newT hl q
   exact k _ _ _ I2 f2 r2
  ·obtain ⟨p, ys, e, hp, q⟩ := I.tup ra
   subst e
   exact ⟨p, ys, rfl, .inr ⟨SqT.of hp, k G H _ I (Fz.refl G) ra⟩⟩
  ·obtain ⟨p, rfl, hp⟩ := ra
   refine ⟨p, _, rfl, .inl ⟨I.fz.sql hp, fun l hl => ?_⟩⟩
   obtain ⟨I2, f2, r2⟩ := I.newT hl (RepL.ints _)
   exact k _ _ _ I2 f2 r2
 | [], hf => cases hf
 | _ :: _ :: _, hf => simp [zcw] at hf
theorem zcm (ml : X.mg "tuple" = none) (ha : SA X [e] ma) (hg : Gl X "tuple" := by rfl) (he : starEach [e] X.env = (false, eval e X.env) :: starEach [] X.env := by rfl) (hb : bootBuiltins "tuple" = some (.type "tuple") := by decide +kernel) :
  SE X (.Call (.Name "tuple" p) [e] [] pos) (mC zcw ma) :=
 zpr zke vc_tuple hb ml ha hg (by decide) (by decide) he rfl
noncomputable def zaW : List D -> Option (List D)
 | [.lst ds] => some ds
 | [.tup ds] => some ds
 | [.scr ns] => some (ns.map .int)
 | _ => none
noncomputable def oC (f : List D -> Option (List D)) (ma : MA) : MO := fun ρ => (ma ρ).bind fun p => (f p.1).map fun d => (d, p.2)
theorem oC_inv {f : List D -> Option (List D)} {d : List D} (h : oC f ma ρ = some (d, ρ')) : ∃ a, ma ρ = some (a, ρ') /\ f a = some d := by
 unfold oC at h
 cases e1 : ma ρ with
 | none => rw [e1] at h; cases h
 | some p =>
  obtain ⟨a, ρ1⟩ := p
  rw [e1] at h
  simp only [Option.bind_some] at h
  cases e3 : f a with
  | none => rw [e3] at h; cases h
  | some c => rw [e3] at h; cases h; exact ⟨a, rfl, e3⟩
theorem SI.newO (I : SI K B G H σ ρ) {p : Addr} (hp : H p = none) (xs : List V) : SI K B G (upd H p (.lst xs)) σ ρ /\ G p = none /\ (upd H p (.lst xs)) p = some (.lst xs) /\ B.H p = none /\ Nw K G (upd H p (.lst xs)) σ ρ p :=
 ⟨I.allocO hp _, I.fz.free hp, zaI, I.there p hp, I.nw_move (I.nw hp) fun i s a _ _ g h => ⟨g, zaw fun z => h (by rw [z]; exact hp)⟩⟩
theorem so_list (ml : X.mg "list" = none) (ha : SA X [e] ma) (hg : Gl X "list" := by rfl) (he : starEach [e] X.env = (false, eval e X.env) :: starEach [] X.env := by rfl) (hb : bootBuiltins "list" = some (.type "list") := by decide +kernel) :
  SO X (.Call (.Name "list" p) [e] [] pos) (oC zaW ma) := by
 obtain ⟨t, pa, sa⟩ := ha
 refine ⟨_, zhb zlP hg ml hb pa (by decide) (by decide) he rfl, fun B G H σ ρ ds ρ' Q I hm k => ?_⟩
 obtain ⟨as, e1, e2⟩ := oC_inv hm
 refine sa B G H σ ρ as ρ' _ I e1 fun G1 H1 vs I1 f1 r1 => ?_
 match as, e2 with
 | [a], e2 =>
  obtain ⟨x, rfl, ra⟩ := r1.one
  have fin : ∀ (q : Addr) (ys : List V) (sq : SqL X.K H1 q ys \/ SqT X.K H1 q ys), x = .ref q -> RepL X.K G1 ys ds -> ∃ p ys, [x] = [V.ref p] /\ (SqL X.K H1 p ys \/ SqT X.K H1 p ys) /\ ∀ l, H1 l = none -> Q (.ref l) (upd H1 l (.lst ys)) := fun q ys sq ex r => by
   refine ⟨q, ys, by rw [ex], sq, fun l hl => ?_⟩
   obtain ⟨I2, g2, h2, b2, n2⟩ := I1.newO hl ys
   exact k G1 _ l ys I2 f1 g2 h2 r b2 n2
  cases a <;> simp only [zaW] at e2 <;> try cases e2
  ·obtain ⟨p, ys, ex, hp, q⟩ := I1.lst ra
   exact fin p ys (.inl (SqL.of hp)) ex q
  ·obtain ⟨p, ys, ex, hp, q⟩ := I1.tup ra
   exact fin p ys (.inr (SqT.of hp)) ex q
  ·obtain ⟨p, ex, hp⟩ := ra
   exact fin p _ (.inl (I1.fz.sql hp)) ex (RepL.ints _)
 | [], e2 => cases e2
 | _ :: _ :: _, e2 => simp [zaW] at e2
section
variable {X : Cx} {es : List Expr} {ma : MA} {pos : Pos}
noncomputable def eTup (ma : MA) : ME := fun ρ => (ma ρ).bind fun p => if p.1.length <= 16777216 then some (.tup p.1, p.2) else none
theorem zcn {x1} (h : SA X es ma) : SE X (.Tuple es x1 pos) (eTup ma) := by
 obtain ⟨t, pa, sa⟩ := h
 refine ⟨_, pe_tup pa, fun B G H σ ρ d ρ' Q I hm k => ?_⟩
 unfold eTup at hm
 cases e1 : ma ρ with
 | none => rw [e1] at hm; cases hm
 | some q =>
  obtain ⟨ds, ρ1⟩ := q
  rw [e1] at hm
  simp only [Option.bind_some] at hm
  split at hm
  ·rename_i hl
   cases hm
   refine sa B G H σ ρ ds ρ' _ I e1 fun G1 H1 vs I1 f1 r1 => ⟨by rw [r1.length, sizeLine_eq]; exact hl, fun p hp => ?_⟩
   obtain ⟨I2, f2, r2⟩ := I1.newT hp r1
   exact k _ _ _ I2 (f1.trans f2) r2
  ·cases hm
noncomputable def oLst (ma : MA) : MO := fun ρ => (ma ρ).bind fun p => if p.1.length <= 16777216 then some (p.1, p.2) else none
theorem zdy (h : SA X es ma) : SO X (.List es pos) (oLst ma) := by
 obtain ⟨t, pa, sa⟩ := h
 refine ⟨_, pe_lst pa, fun B G H σ ρ d ρ' Q I hm k => ?_⟩
 unfold oLst at hm
 cases e1 : ma ρ with
 | none => rw [e1] at hm; cases hm
 | some q =>
  obtain ⟨ds, ρ1⟩ := q
  rw [e1] at hm
  simp only [Option.bind_some] at hm
  split at hm
  ·rename_i hl
   cases hm
   refine sa B G H σ ρ _ ρ' _ I e1 fun G1 H1 vs I1 f1 r1 => ⟨by rw [r1.length, sizeLine_eq]; exact hl, fun p hp => ?_⟩
   obtain ⟨I2, g2, h2, b2, n2⟩ := I1.newO hp vs
   exact k G1 _ p vs I2 f1 g2 h2 r1 b2 n2
  ·cases hm
end
theorem zaf {α β : Type} {o : Option α} {f : α -> Option β} {b : β} (h : o.bind f = some b) : ∃ a, o = some a /\ f a = some b := by
 cases o with
 | none => cases h
 | some a => exact ⟨a, rfl, h⟩
theorem zay {α β : Type} {o : Option α} {f : α -> β} {b : β} (h : o.map f = some b) : ∃ a, o = some a /\ f a = b := by
 cases o with
 | none => cases h
 | some a => cases h; exact ⟨a, rfl, rfl⟩
def dTru : D -> Option Bool
 | .bl b => some b
 | .int i => some (i != 0)
 | .non => some false
 | .lst ds => some (!ds.isEmpty)
 | .tup ds => some (!ds.isEmpty)
 | _ => none
noncomputable def tTru (ma : ME) : MT := fun ρ => (ma ρ).bind fun p => (dTru p.1).map fun b => (b, p.2)
section
variable {X : Cx} {a b c : Expr} {ma mb mc : ME} {pos : Pos}
theorem zow (h : RepL K G xs ds) : (!xs.isEmpty) = !ds.isEmpty := by
 have := h.length
 cases xs <;> cases ds <;> simp_all
theorem zck (ha : SE X a ma) (he : ∀ whole, isTrue a X.env whole = (do let v <- whole; standAt a.pos; holding [v] (truthy v)) := by exact fun _ => rfl) : STt X a (tTru ma) := by
  obtain ⟨ta, pa, sa⟩ := ha
  refine ⟨_, pt_truth pa he, fun B G H σ ρ d ρ' Q I hm k => ?_⟩
  obtain ⟨⟨x, ρ1⟩, e1, e2⟩ := zaf hm
  obtain ⟨t, e3, e4⟩ := zay e2
  obtain ⟨rfl, rfl⟩ := Prod.mk.inj e4
  refine sa B G H σ ρ x ρ1 _ I e1 fun G1 H1 v I1 f1 r1 => ⟨t, ?_, k G1 H1 I1 f1⟩
  cases x <;> simp only [dTru] at e3 <;> try cases e3
  . cases r1; exact rfl
  . cases r1; exact rfl
  . cases r1; exact rfl
  . obtain ⟨p, xs, rfl, hp, r⟩ := I1.lst r1
    exact .inl ⟨xs, SqL.of hp, (zow r).symm⟩
  . obtain ⟨p, xs, rfl, hp, r⟩ := I1.tup r1
    exact .inr (.inl ⟨xs, SqT.of hp, (zow r).symm⟩)
theorem zig {r : R2} (ho : OpR X (compareOp op) r) (hv : V2 X r f) (hB : ∀ x y d, f x y = some d -> ∃ t, d = .bl t) (ha : SE X a ma) (hb : SE X b mb) (hm : behindInMarks op b = false) : STt X (.Compare a [op] [b] pos) (tTru (m2 f ma mb)) := by
 obtain ⟨ta, pa, sa⟩ := ha
 obtain ⟨tb, pb, sb⟩ := hb
 refine ⟨_, pt_cmpR ho pa pb hm, fun B G H σ ρ d ρ' Q I hm k => ?_⟩
 obtain ⟨⟨x, ρ1⟩, e1, e2⟩ := zaf hm
 obtain ⟨t, e3, e4⟩ := zay e2
 obtain ⟨rfl, rfl⟩ := Prod.mk.inj e4
 obtain ⟨_, _, _, _, _, e5⟩ := m2_inv e1
 obtain ⟨t', rfl⟩ := hB _ _ _ e5
 obtain rfl : t' = t := Option.some.inj e3
 refine zmK hv sa sb B G H σ ρ (.bl t') ρ1 _ I e1 fun G1 H1 v I1 f1 r1 => ?_
 cases (show v = V.bl t' from r1)
 exact ⟨t', rfl, k G1 H1 I1 f1⟩
theorem zjM {g : Int -> Int -> Bool} (x y d : D) (h : dI2 (fun _ _ => true) (fun i j => .bl (g i j)) x y = some d) : ∃ t, d = .bl t := by
 cases x <;> cases y <;> simp only [dI2] at h <;> try cases h
 exact ⟨_, rfl⟩
theorem bl_eq (x y d : D) (h : dEq x y = some d) : ∃ t, d = .bl t := by
 unfold dEq at h
 split at h
 ·cases h; exact ⟨_, rfl⟩
 ·cases h
theorem bl_ne (x y d : D) (h : dNe x y = some d) : ∃ t, d = .bl t := by
 unfold dNe at h
 split at h
 ·cases h; exact ⟨_, rfl⟩
 ·cases h
theorem zno (ha : SE X a ma) (hb : SE X b mb) : STt X (.Compare a [.Lt] [b] pos) (tTru (m2 dLt ma mb)) := zig zlS zcc zjM ha hb (zgI _)
theorem zl3 (ha : SE X a ma) (hb : SE X b mb) : STt X (.Compare a [.Gt] [b] pos) (tTru (m2 dGt ma mb)) := zig op_gt zcc zjM ha hb (zgI _)
theorem st_ge (ha : SE X a ma) (hb : SE X b mb) : STt X (.Compare a [.GtE] [b] pos) (tTru (m2 dGe ma mb)) := zig op_ge zcc zjM ha hb (zgI _)
theorem zis (hu : X.A.units + 64 < cLine) (ha : SE X a ma) (hb : SE X b mb) : STt X (.Compare a [.Eq] [b] pos) (tTru (m2 dEq ma mb)) := zig (op_eqD hu) v2_eq bl_eq ha hb (zgI _)
theorem ziY (hu : X.A.units + 64 < cLine) (ha : SE X a ma) (hb : SE X b mb) : STt X (.Compare a [.NotEq] [b] pos) (tTru (m2 dNe ma mb)) := zig (op_neD hu) v2_ne bl_ne ha hb (zgI _)
end
def STw (X : Cx) (e : Expr) (m : MT) : Prop :=
 ∃ t, PW X e t /\ ∀ B G H σ ρ d ρ' (Q : Bool -> Hp -> Prop), SI X.K B G H σ ρ -> m ρ = some (d, ρ') -> (∀ G' H', SI X.K B G' H' σ ρ' -> Fz G G' -> Q d H') -> t σ H Q
theorem STw.st (h : STw X e m) : STt X e m := let ⟨t, p, s⟩ := h; ⟨t, p.pt, s⟩
noncomputable def znX (a b : MT) : MT := fun ρ => (a ρ).bind fun p => if p.1 then b p.2 else some (false, p.2)
noncomputable def tOrM (a b : MT) : MT := fun ρ => (a ρ).bind fun p => if p.1 then some (true, p.2) else b p.2
def zhZ (a : MT) : MT := fun ρ => (a ρ).map fun p => (!p.1, p.2)
section
variable {X : Cx} {a b c : Expr} {ma mb : MT} {pos : Pos} {rest : List Expr}
theorem zl7 (h : STt X a ma) : STw X (.BoolOp .And [a] pos) ma := let ⟨t, p, s⟩ := h; ⟨t, pw_and1 p, s⟩
theorem ziN (h : STt X a ma) : STw X (.BoolOp .Or [a] pos) ma := let ⟨t, p, s⟩ := h; ⟨t, pw_or1 p, s⟩
theorem zoP (ha : STt X a ma) (hb : STw X (.BoolOp .And (b :: rest) pos) mb) : STw X (.BoolOp .And (a :: b :: rest) pos) (znX ma mb) := by
 obtain ⟨ta, pa, sa⟩ := ha
 obtain ⟨tb, pb, sb⟩ := hb
 refine ⟨_, pw_and pa pb, fun B G H σ ρ d ρ' Q I hm k => ?_⟩
 obtain ⟨⟨x, ρ1⟩, e1, e2⟩ := zaf hm
 refine sa B G H σ ρ x ρ1 _ I e1 fun G1 H1 I1 f1 => ?_
 cases x with
 | true => exact sb B G1 H1 σ ρ1 d ρ' Q I1 e2 fun G2 H2 I2 f2 => k G2 H2 I2 (f1.trans f2)
 | false => cases e2; exact k G1 H1 I1 f1
theorem ziv (ha : STt X a ma) (hb : STw X (.BoolOp .Or (b :: rest) pos) mb) : STw X (.BoolOp .Or (a :: b :: rest) pos) (tOrM ma mb) := by
 obtain ⟨ta, pa, sa⟩ := ha
 obtain ⟨tb, pb, sb⟩ := hb
 refine ⟨_, pw_or pa pb, fun B G H σ ρ d ρ' Q I hm k => ?_⟩
 obtain ⟨⟨x, ρ1⟩, e1, e2⟩ := zaf hm
 refine sa B G H σ ρ x ρ1 _ I e1 fun G1 H1 I1 f1 => ?_
 cases x with
 | false => exact sb B G1 H1 σ ρ1 d ρ' Q I1 e2 fun G2 H2 I2 f2 => k G2 H2 I2 (f1.trans f2)
 | true => cases e2; exact k G1 H1 I1 f1
theorem zfK (ha : STt X a ma) : STt X (.UnaryOp .Not a pos) (zhZ ma) := by
 obtain ⟨ta, pa, sa⟩ := ha
 refine ⟨_, pt_not pa, fun B G H σ ρ d ρ' Q I hm k => ?_⟩
 obtain ⟨⟨x, ρ1⟩, e1, e2⟩ := zay hm
 cases e2
 exact sa B G H σ ρ x ρ1 _ I e1 fun G1 H1 I1 f1 => k G1 H1 I1 f1
end
noncomputable def eAnd (a b : ME) : ME := fun ρ => (a ρ).bind fun p => match p.1 with
 | .bl true => b p.2
 | .bl false => some (.bl false, p.2)
 | _ => none
noncomputable def eOr (a b : ME) : ME := fun ρ => (a ρ).bind fun p => match p.1 with
 | .bl true => some (.bl true, p.2)
 | .bl false => b p.2
 | _ => none
def dNot : D -> Option D
 | .bl b => some (.bl (!b))
 | _ => none
section
variable {X : Cx} {a b c : Expr} {ma mb : ME} {pos : Pos} {rest : List Expr} {op : BoolOp}
theorem zhi (h : SE X a ma) : SE X (.BoolOp op [a] pos) ma := let ⟨t, p, s⟩ := h; ⟨t, pe_one p, s⟩
theorem zhq (ha : SE X a ma) (hb : SE X (.BoolOp .And (b :: rest) pos) mb) : SE X (.BoolOp .And (a :: b :: rest) pos) (eAnd ma mb) := by
 obtain ⟨ta, pa, sa⟩ := ha
 obtain ⟨tb, pb, sb⟩ := hb
 refine ⟨_, pe_and pa pb, fun B G H σ ρ d ρ' Q I hm k => ?_⟩
 obtain ⟨⟨x, ρ1⟩, e1, e2⟩ := zaf hm
 refine sa B G H σ ρ x ρ1 _ I e1 fun G1 H1 v I1 f1 r1 => ?_
 cases x <;> try cases e2
 rename_i y
 refine ⟨y, r1, ?_⟩
 cases y with
 | true => exact sb B G1 H1 σ ρ1 d ρ' Q I1 e2 fun G2 H2 v I2 f2 r2 => k G2 H2 v I2 (f1.trans f2) r2
 | false => cases e2; exact k G1 H1 _ I1 f1 rfl
theorem se_not (ha : SE X a ma) : SE X (.UnaryOp .Not a pos) (m1 dNot ma) := by
 obtain ⟨ta, pa, sa⟩ := ha
 refine ⟨_, pe_not pa, fun B G H σ ρ d ρ' Q I hm k => ?_⟩
 obtain ⟨x, e1, e2⟩ := m1_inv hm
 refine sa B G H σ ρ x ρ' _ I e1 fun G1 H1 v I1 f1 r1 => ?_
 cases x <;> simp only [dNot] at e2 <;> try cases e2
 exact ⟨_, r1, k G1 H1 _ I1 f1 rfl⟩
def eIf (c : MT) (a b : ME) : ME := fun ρ => (c ρ).bind fun p => if p.1 then a p.2 else b p.2
theorem se_ifExp (hc : STt X c mc) (ha : SE X a ma) (hb : SE X b mb) : SE X (.IfExp c a b pos) (eIf mc ma mb) := by
 obtain ⟨tc, pc, sc⟩ := hc
 obtain ⟨ta, pa, sa⟩ := ha
 obtain ⟨tb, pb, sb⟩ := hb
 refine ⟨_, pe_ifExp pc pa pb, fun B G H σ ρ d ρ' Q I hm k => ?_⟩
 obtain ⟨⟨x, ρ1⟩, e1, e2⟩ := zaf hm
 refine sc B G H σ ρ x ρ1 _ I e1 fun G1 H1 I1 f1 => ?_
 cases x with
 | true => exact sa B G1 H1 σ ρ1 d ρ' Q I1 e2 fun G2 H2 v I2 f2 r2 => k G2 H2 v I2 (f1.trans f2) r2
 | false => exact sb B G1 H1 σ ρ1 d ρ' Q I1 e2 fun G2 H2 v I2 f2 r2 => k G2 H2 v I2 (f1.trans f2) r2
end
noncomputable def zfh (f g : D -> D -> Option D) (a b c : ME) : ME := fun ρ => (a ρ).bind fun p => (b p.2).bind fun q => (f p.1 q.1).bind fun t => match t with
 | .bl true => (c q.2).bind fun r => (g q.1 r.1).map fun d => (d, r.2)
 | .bl false => some (.bl false, q.2)
 | _ => none
section
variable {X : Cx} {a b c : Expr} {ma mb mc : ME} {pos : Pos}
theorem ziR {r r' : R2} {f g : D -> D -> Option D} {ta tb tc : TE} (hv : V2 X r f) (hw : V2 X r' g)
  (sa : ∀ B G H σ ρ d ρ' (Q : VK), SI X.K B G H σ ρ -> ma ρ = some (d, ρ') -> (∀ G' H' v, SI X.K B G' H' σ ρ' -> Fz G G' -> RepD X.K G' v d -> Q v H') -> ta σ H Q)
  (sb : ∀ B G H σ ρ d ρ' (Q : VK), SI X.K B G H σ ρ -> mb ρ = some (d, ρ') -> (∀ G' H' v, SI X.K B G' H' σ ρ' -> Fz G G' -> RepD X.K G' v d -> Q v H') -> tb σ H Q)
  (sc : ∀ B G H σ ρ d ρ' (Q : VK), SI X.K B G H σ ρ -> mc ρ = some (d, ρ') -> (∀ G' H' v, SI X.K B G' H' σ ρ' -> Fz G G' -> RepD X.K G' v d -> Q v H') -> tc σ H Q) :
  ∀ B G H σ ρ d ρ' (Q : VK), SI X.K B G H σ ρ -> zfh f g ma mb mc ρ = some (d, ρ') -> (∀ G' H' v, SI X.K B G' H' σ ρ' -> Fz G G' -> RepD X.K G' v d -> Q v H') -> zox r r' ta tb tc σ H Q := by
 intro B G H σ ρ d ρ' Q I hm k
 obtain ⟨⟨x, ρ1⟩, e1, h1⟩ := zaf hm
 obtain ⟨⟨y, ρ2⟩, e2, h2⟩ := zaf h1
 obtain ⟨t, e3, h3⟩ := zaf h2
 refine sa B G H σ ρ x ρ1 _ I e1 fun G1 H1 v I1 f1 r1 => sb B G1 H1 σ ρ1 y ρ2 _ I1 e2 fun G2 H2 u I2 f2 r2 => hv B G2 H2 σ ρ2 v u x y t _ I2 (r1.mono f2) r2 e3 fun G3 H3 z I3 f3 r3 => ?_
 cases t <;> try cases h3
 rename_i t
 refine ⟨t, r3, ?_⟩
 cases t with
 | true =>
  obtain ⟨⟨w, ρ3⟩, e4, h4⟩ := zaf h3
  obtain ⟨d', e5, e6⟩ := zay h4
  cases e6
  exact sc B G3 H3 σ ρ2 w ρ3 _ I3 e4 fun G4 H4 s I4 f4 r4 => hw B G4 H4 σ ρ3 u s y w d Q I4 (r2.mono (f3.trans f4)) r4 e5 fun G5 H5 z5 I5 f5 r5 => k G5 H5 z5 I5 (f1.trans (f2.trans (f3.trans (f4.trans f5)))) r5
 | false => cases h3; exact k G3 H3 _ I3 (f1.trans (f2.trans f3)) rfl
theorem ziI {r r' : R2} {f g : D -> D -> Option D} (ho : OpR X (compareOp op) r) (ho' : OpR X (compareOp op') r') (hv : V2 X r f) (hw : V2 X r' g) (ha : SE X a ma) (hb : SE X b mb) (hc : SE X c mc)
  (hm : lastMarks [op, op'] [b, c] = false := by with_unfolding_all rfl) : SE X (.Compare a [op, op'] [b, c] pos) (zfh f g ma mb mc) := by
 obtain ⟨ta, pa, sa⟩ := ha
 obtain ⟨tb, pb, sb⟩ := hb
 obtain ⟨tc, pc, sc⟩ := hc
 exact ⟨_, pe_chain ho ho' pa pb pc hm, ziR hv hw sa sb sc⟩
theorem zko {r r' : R2} {f g : D -> D -> Option D} (ho : OpR X (compareOp op) r) (ho' : OpR X (compareOp op') r') (hv : V2 X r f) (hw : V2 X r' g) (hB : ∀ x y d, g x y = some d -> ∃ t, d = .bl t) (ha : SE X a ma) (hb : SE X b mb) (hc : SE X c mc)
  (hm : lastMarks [op, op'] [b, c] = false := by with_unfolding_all rfl) : STt X (.Compare a [op, op'] [b, c] pos) (tTru (zfh f g ma mb mc)) := by
 obtain ⟨ta, pa, sa⟩ := ha
 obtain ⟨tb, pb, sb⟩ := hb
 obtain ⟨tc, pc, sc⟩ := hc
 refine ⟨_, pt_chain ho ho' pa pb pc hm, fun B G H σ ρ d ρ' Q I hm k => ?_⟩
 obtain ⟨⟨x, ρ1⟩, e1, e2⟩ := zaf hm
 obtain ⟨t, e3, e4⟩ := zay e2
 obtain ⟨rfl, rfl⟩ := Prod.mk.inj e4
 have hx : ∃ t', x = .bl t' := by
  obtain ⟨⟨x', ρ1'⟩, _, h1⟩ := zaf e1
  obtain ⟨⟨y', ρ2'⟩, _, h2⟩ := zaf h1
  obtain ⟨t', et', h3⟩ := zaf h2
  clear et'
  cases t' <;> try cases h3
  rename_i t'
  cases t' with
  | true =>
   obtain ⟨⟨w, ρ3⟩, e4, h4⟩ := zaf h3
   obtain ⟨d', e5, e6⟩ := zay h4
   cases e6
   exact hB _ _ _ e5
  | false => cases h3; exact ⟨_, rfl⟩
 obtain ⟨t', rfl⟩ := hx
 obtain rfl : t' = t := Option.some.inj e3
 refine ziR hv hw sa sb sc B G H σ ρ (.bl t') ρ1 _ I e1 fun G1 H1 v I1 f1 r1 => ?_
 cases (show v = V.bl t' from r1)
 exact ⟨t', rfl, k G1 H1 I1 f1⟩
end
inductive Fl where
 | next | brk | cont | ret (r : Sl)
abbrev MS := R -> Option (Fl × R)
def ResOk (K : W.Frag) (B : Bs) (G H : Hp) (v : V) : Sl -> Prop
 | .val d => RepD K G v d
 | .own ds => ∃ l xs, v = .ref l /\ G l = none /\ H l = some (.lst xs) /\ RepL K G xs ds /\ B.H l = none
 | .tre t => ∃ A, RepT K G H v t A /\ A.Nodup /\ ∀ a ∈ A, G a = none /\ B.H a = none
 | .two ds es => ∃ t l xs m ys, v = .ref t /\ H t = some (.tup [.ref l, .ref m]) /\ l ≠ m /\ G l = none /\ H l = some (.lst xs) /\ RepL K G xs ds /\ B.H l = none /\ G m = none /\ H m = some (.lst ys) /\ RepL K G ys es /\ B.H m = none
 | _ => False
def Post (K : W.Frag) (B : Bs) (G : Hp) (E : Ends) (fl : Fl) (ρ' : R) : Prop := match fl with
 | .next => ∀ G' H' σ', SI K B G' H' σ' ρ' -> Fz G G' -> E.nx σ' H'
 | .brk => ∀ G' H' σ', SI K B G' H' σ' ρ' -> Fz G G' -> E.bk σ' H'
 | .cont => ∀ G' H' σ', SI K B G' H' σ' ρ' -> Fz G G' -> E.ct σ' H'
 | .ret r => ∀ G' H' σ' v, SI K B G' H' σ' ρ' -> Fz G G' -> ResOk K B G' H' v r -> E.rt v H'
theorem Post.mono {G G1 : Hp} {E : Ends} {fl : Fl} (h : Post K B G E fl ρ') (f : Fz G G1) : Post K B G1 E fl ρ' := by
 cases fl with
 | next => exact fun G' H' σ' I g => h G' H' σ' I (f.trans g)
 | brk => exact fun G' H' σ' I g => h G' H' σ' I (f.trans g)
 | cont => exact fun G' H' σ' I g => h G' H' σ' I (f.trans g)
 | ret r => exact fun G' H' σ' v I g => h G' H' σ' v I (f.trans g)
def SS (X : Cx) (st : Stmt) (m : MS) : Prop := ∃ t, PS X st t /\ ∀ B G H σ ρ fl ρ' (E : Ends), SI X.K B G H σ ρ -> m ρ = some (fl, ρ') -> Post X.K B G E fl ρ' -> t E σ H
def SSs (X : Cx) (st : List Stmt) (m : MS) : Prop := ∃ t, PSs X st t /\ ∀ B G H σ ρ fl ρ' (E : Ends), SI X.K B G H σ ρ -> m ρ = some (fl, ρ') -> Post X.K B G E fl ρ' -> t E σ H
def zby : MS := fun ρ => some (.next, ρ)
def sSeq (a b : MS) : MS := fun ρ => (a ρ).bind fun p => match p.1 with
 | .next => b p.2
 | f => some (f, p.2)
section
variable {X : Cx} {st : Stmt} {rest : List Stmt} {m n : MS} {e : Expr} {me : ME} {pos : Pos}
theorem zaC : SSs X [] zby := ⟨_, pss_nil, fun B G H σ ρ fl ρ' E I hm k => by cases hm; exact k G H σ I (Fz.refl G)⟩
theorem zak (h : SS X st m) : SSs X [st] m := let ⟨t, p, s⟩ := h; ⟨t, pss_one p, s⟩
theorem zad (h : SS X st m) (hr : SSs X rest n) : SSs X (st :: rest) (sSeq m n) := by
 obtain ⟨t, p, s⟩ := h
 obtain ⟨u, q, z⟩ := hr
 refine ⟨_, pss_cons p q, fun B G H σ ρ fl ρ' E I hm k => ?_⟩
 obtain ⟨⟨f, ρ1⟩, e1, e2⟩ := zaf hm
 refine s B G H σ ρ f ρ1 _ I e1 ?_
 cases f with
 | next => exact fun G1 H1 σ1 I1 f1 => z B G1 H1 σ1 ρ1 fl ρ' E I1 e2 (k.mono f1)
 | brk => cases e2; exact k
 | cont => cases e2; exact k
 | ret r => cases e2; exact k
def sRet (m : ME) : MS := fun ρ => (m ρ).map fun p => (.ret (.val p.1), p.2)
theorem zas (h : SE X e me) : SS X (.Return (some e) pos) (sRet me) := by
 obtain ⟨t, p, s⟩ := h
 refine ⟨_, zo9 p, fun B G H σ ρ fl ρ' E I hm k => ?_⟩
 obtain ⟨⟨d, ρ1⟩, e1, e2⟩ := zay hm
 cases e2
 exact s B G H σ ρ d ρ1 _ I e1 fun G1 H1 v I1 f1 r1 => k G1 H1 σ v I1 f1 r1
def zjm (m : MO) : MS := fun ρ => (m ρ).map fun p => (.ret (.own p.1), p.2)
theorem zfD {mo : MO} (h : SO X e mo) : SS X (.Return (some e) pos) (zjm mo) := by
 obtain ⟨t, p, s⟩ := h
 refine ⟨_, zo9 p, fun B G H σ ρ fl ρ' E I hm k => ?_⟩
 obtain ⟨⟨d, ρ1⟩, e1, e2⟩ := zay hm
 cases e2
 exact s B G H σ ρ d ρ1 _ I e1 fun G1 H1 l xs I1 f1 g1 h1 r1 b1 _ => k G1 H1 σ _ I1 f1 ⟨l, xs, rfl, g1, h1, r1, b1⟩
theorem SI.emp (I : SI K B G H σ ρ) (i : Nat) : SI K B G H σ (ρ.set i .emp) := by
 by_cases hi : i < ρ.length
 ·have hs : σ[i]? = some (σ[i]'(by rw [I.len]; exact hi)) := List.getElem?_eq_getElem _
  have h := I.chg (i := i) (ov := σ[i]'(by rw [I.len]; exact hi)) (s' := .emp) I.fz (Fz.refl G) I.new I.keep I.there (fun _ _ _ _ _ _ g _ => ⟨g, rfl, id⟩) trivial
  rwa [zkX hs] at h
 ·rw [List.set_eq_of_length_le (by omega)]; exact I
noncomputable def zhN (i : Nat) : MS := fun ρ => match ρ[i]? with
 | some (.val d) => some (.ret (.val d), ρ)
 | some (.own ds) => some (.ret (.own ds), ρ.set i .emp)
 | _ => none
theorem zdD (i : Nat) (hN : X.N[i]? = some x := by rfl) (hv : Vis X.env.scope x := by first | exact Or.inl rfl | exact Or.inr (Or.inl rfl) | exact Or.inr (Or.inr rfl)) (hd : (x == ("__debug__" : Str)) = false := by decide)
  (hcd : (x == ("__classdict__" : Str)) = false := by decide) : SS X (.Return (some (.Name x pos')) pos) (zhN i) := by
 refine ⟨_, zo9 (zfB hN hv hd hcd), fun B G H σ ρ fl ρ' E I hm k => ?_⟩
 unfold zhN at hm
 cases e : ρ[i]? with
 | none => rw [e] at hm; cases hm
 | some s =>
  rw [e] at hm
  have h := I.slot i s e
  cases s with
  | emp => cases hm
  | two _ _ => cases hm
  | tre _ => cases hm
  | ptr _ => cases hm
  | par ds => cases hm
  | val d => cases hm; obtain ⟨v, h1, h2⟩ := h; exact ⟨v, h1, k G H σ v I (Fz.refl G) h2⟩
  | own ds =>
   cases hm
   obtain ⟨l, xs, h1, h2, h3, h4, h5⟩ := h
   exact ⟨.ref l, h1, k G H σ _ (I.emp i) (Fz.refl G) ⟨l, xs, rfl, h2, h3, h4, h5⟩⟩
def sIf (c : MT) (a b : MS) : MS := fun ρ => (c ρ).bind fun p => if p.1 then a p.2 else b p.2
theorem zbJ {c : Expr} {a b : List Stmt} {ma mb : MS} (hc : STt X c mc) (ha : SSs X a ma) (hb : SSs X b mb) : SS X (.If c a b pos) (sIf mc ma mb) := by
 obtain ⟨tc, pc, sc⟩ := hc
 obtain ⟨ta, pa, sa⟩ := ha
 obtain ⟨tb, pb, sb⟩ := hb
 refine ⟨_, ps_if pc pa pb, fun B G H σ ρ fl ρ' E I hm k => ?_⟩
 obtain ⟨⟨x, ρ1⟩, e1, e2⟩ := zaf hm
 refine sc B G H σ ρ x ρ1 _ I e1 fun G1 H1 I1 f1 => ?_
 cases x with
 | true => exact sa B G1 H1 σ ρ1 fl ρ' E I1 e2 (k.mono f1)
 | false => exact sb B G1 H1 σ ρ1 fl ρ' E I1 e2 (k.mono f1)
end
def SG (X : Cx) (tg : Expr) (g : D -> R -> Option R) : Prop := ∃ t, PG X tg t /\ ∀ B G H σ ρ v d ρ' (Q : St -> Hp -> Prop), SI X.K B G H σ ρ -> RepD X.K G v d -> g d ρ = some ρ' -> (∀ G' H' σ', SI X.K B G' H' σ' ρ' -> Fz G G' -> Q σ' H') -> t v σ H Q
def SGs (X : Cx) (tgs : List Expr) (g : List D -> R -> Option R) : Prop := ∃ t, PGs X tgs t /\ ∀ B G H σ ρ vs ds ρ' (Q : St -> Hp -> Prop), SI X.K B G H σ ρ -> RepL X.K G vs ds -> g ds ρ = some ρ' -> (∀ G' H' σ', SI X.K B G' H' σ' ρ' -> Fz G G' -> Q σ' H') -> t vs σ H Q
def gN (i : Nat) : D -> R -> Option R := fun d ρ => some (ρ.set i (.val d))
def zdW : List D -> R -> Option R := fun ds ρ => match ds with
 | [] => some ρ
 | _ => none
def zaz (g : D -> R -> Option R) (h : List D -> R -> Option R) : List D -> R -> Option R := fun ds ρ => match ds with
 | d :: ds => (g d ρ).bind fun ρ1 => h ds ρ1
 | [] => none
def gT (n : Nat) (g : List D -> R -> Option R) : D -> R -> Option R := fun d ρ => match d with
 | .tup ds => if ds.length = n then g ds ρ else none
 | _ => none
section
variable {X : Cx} {pos : Pos}
theorem zal (i : Nat) (hN : X.N.Nodup) (hi : X.N[i]? = some x := by rfl) (hx : Loc X.env.scope x := by first | exact Or.inl rfl | exact Or.inr rfl) (hf : X.fn x = true \/ X.env.scope.names.lookup x = some .local := by first | exact Or.inl rfl | exact Or.inr rfl) : SG X (.Name x pos) (gN i) :=
 ⟨_, zok hN hi hx hf, fun B G H σ ρ v d ρ' Q I r hm k => by cases hm; exact k G H _ (I.set r) (Fz.refl G)⟩
theorem zbl : SGs X [] zdW := ⟨_, pgs_nil, fun B G H σ ρ vs ds ρ' Q I r hm k => by
 cases ds with
 | nil => cases hm; exact ⟨r, k G H σ I (Fz.refl G)⟩
 | cons => cases hm⟩
theorem zan {e : Expr} (h1 : SG X e g) (h2 : SGs X es h) (hs : (assignEach (e :: es) X.env).map (·.2) = assign e X.env :: (assignEach es X.env).map (·.2) := by rfl) : SGs X (e :: es) (zaz g h) := by
 obtain ⟨t, p, s⟩ := h1
 obtain ⟨u, q, z⟩ := h2
 refine ⟨_, pgs_cons p q hs, fun B G H σ ρ vs ds ρ' Q I r hm k => ?_⟩
 cases ds with
 | nil => cases hm
 | cons d ds =>
  obtain ⟨x, ys, rfl, rx, ry⟩ := r
  obtain ⟨ρ1, e1, e2⟩ := zaf hm
  exact ⟨x, ys, rfl, s B G H σ ρ x d ρ1 _ I rx e1 fun G1 H1 σ1 I1 f1 => z B G1 H1 σ1 ρ1 ys ds ρ' Q I1 (ry.mono f1) e2 fun G2 H2 σ2 I2 f2 => k G2 H2 σ2 I2 (f1.trans f2)⟩
theorem zcd {k : Nat} {g : List D -> R -> Option R} (hc : X.calm = true) (h : SGs X es g) (hn : (assignEach es X.env).length = n := by rfl) (hst : (assignEach es X.env).findIdx? (·.1) = none := by rfl) : SG X (.Tuple es k pos) (gT n g) := by
 obtain ⟨t, p, s⟩ := h
 refine ⟨_, pg_tup hc p hn hst, fun B G H σ ρ v d ρ' Q I r hm k => ?_⟩
 cases d <;> try cases hm
 rename_i ds
 simp only [gT] at hm
 split at hm
 ·rename_i hl
  obtain ⟨a, xs, e, ha, rx⟩ := I.tup r
  exact ⟨a, xs, e, SqT.of ha, by rw [rx.length]; exact hl, s B G H σ ρ xs ds ρ' Q I rx hm k⟩
 ·cases hm
variable {e tg : Expr} {me : ME} {mo : MO}
noncomputable def sAsg (m : ME) (g : D -> R -> Option R) : MS := fun ρ => (m ρ).bind fun p => (g p.1 p.2).map fun ρ' => (.next, ρ')
theorem zk7 (he : SE X e me) (hg : SG X tg g) (hs : swapsWithSole [tg] e pos.line X.env = pure false := by rfl) (hw : swappedStores [tg] e X.env = pure none := by rfl)
  (h1 : (assignEach [tg] X.env).map (·.2) = [assign tg X.env] := by rfl) : SS X (.Assign [tg] e pos) (sAsg me g) := by
 obtain ⟨t, p, s⟩ := he
 obtain ⟨u, q, z⟩ := hg
 refine ⟨_, ps_asg p q hs hw h1, fun B G H σ ρ fl ρ' E I hm k => ?_⟩
 obtain ⟨⟨d, ρ1⟩, e1, h2⟩ := zaf hm
 obtain ⟨ρ2, e2, e3⟩ := zay h2
 obtain ⟨rfl, rfl⟩ := Prod.mk.inj e3
 exact s B G H σ ρ d ρ1 _ I e1 fun G1 H1 v I1 f1 r1 => z B G1 H1 σ ρ1 v d ρ2 _ I1 r1 e2 fun G2 H2 σ2 I2 f2 => k G2 H2 σ2 I2 (f1.trans f2)
noncomputable def sSet (i : Nat) (m : ME) : MS := fun ρ => (m ρ).map fun p => (.next, p.2.set i (.val p.1))
theorem zap (i : Nat) (he : SE X e me) (hN : X.N.Nodup) (hi : X.N[i]? = some x := by rfl) (hx : Loc X.env.scope x := by first | exact Or.inl rfl | exact Or.inr rfl) (hs : swapsWith e (some (.Name x pos')) pos.line X.env = pure false := by rfl)
    (hf : X.fn x = true \/ X.env.scope.names.lookup x = some .local := by first | exact Or.inl rfl | exact Or.inr rfl) : SS X (.Assign [.Name x pos'] e pos) (sSet i me) := by
  obtain ⟨t, p, s⟩ := he
  refine ⟨_, zpc hN hi hx p hs hf, fun B G H σ ρ fl ρ' E I hm k => ?_⟩
  obtain ⟨⟨d, ρ1⟩, e1, e3⟩ := zay hm
  cases e3
  exact s B G H σ ρ d ρ1 _ I e1 fun G1 H1 v I1 f1 r1 => k G1 H1 _ (I1.set r1) f1
noncomputable def zh3 (i : Nat) (m : MO) : MS := fun ρ => (m ρ).map fun p => (.next, p.2.set i (.own p.1))
theorem zeP (i : Nat) (he : SO X e mo) (hN : X.N.Nodup) (hi : X.N[i]? = some x := by rfl) (hx : Loc X.env.scope x := by first | exact Or.inl rfl | exact Or.inr rfl) (hs : swapsWith e (some (.Name x pos')) pos.line X.env = pure false := by rfl)
    (hf : X.fn x = true \/ X.env.scope.names.lookup x = some .local := by first | exact Or.inl rfl | exact Or.inr rfl) : SS X (.Assign [.Name x pos'] e pos) (zh3 i mo) := by
  obtain ⟨t, p, s⟩ := he
  refine ⟨_, zpc hN hi hx p hs hf, fun B G H σ ρ fl ρ' E I hm k => ?_⟩
  obtain ⟨⟨d, ρ1⟩, e1, e3⟩ := zay hm
  cases e3
  exact s B G H σ ρ d ρ1 _ I e1 fun G1 H1 l xs I1 f1 g1 h1 r1 b1 n1 => k G1 H1 _ (I1.setO g1 h1 r1 b1 n1) f1
noncomputable def sApp (i : Nat) (m : ME) : MS := fun ρ => if (ρ[i]?.bind Sl.items).isSome then (m ρ).bind fun p => p.2[i]?.bind fun s => s.items.bind fun ds => if ds.length < 16777216 then some (.next, p.2.set i (s.put (ds ++ [p.1]))) else none else none
theorem zja (i : Nat) {pos' apos cpos : Pos} (he : SE X e me) (hN : X.N[i]? = some x := by rfl) (hv : Vis X.env.scope x := by first | exact Or.inl rfl | exact Or.inr (Or.inl rfl) | exact Or.inr (Or.inr rfl)) (hd : (x == ("__debug__" : Str)) = false := by decide)
  (hcd : (x == ("__classdict__" : Str)) = false := by decide)
  (hbase : attributeBase (.Name x pos') "append" X.env (eval (.Name x pos') X.env) = eval (.Name x pos') X.env := by rfl)
  (hfew : ((backTo cpos (starEach [e] X.env)).all (fun x => !x.1) && (backToKw cpos (keywordEach [] X.env)).all (fun x => x.1.isSome)
   && decide ([e].length + ([] : List Keyword).length + (if ([] : List Keyword).isEmpty then 0 else 1) < 30)) = true := by rfl)
  (hline : (apos.endLine == cpos.line) = true := by rfl) (hs : starEach [e] X.env = (false, eval e X.env) :: starEach [] X.env := by rfl) : SS X (.Expr (.Call (.Attribute (.Name x pos') "append" apos) [e] [] cpos) pos) (sApp i me) := by
 obtain ⟨t, p, s⟩ := he
 refine ⟨_, zpW (pe_bm PySem.F.plainAttrs_list PySem.F.slot_list_append PySem.F.type_list_append zlu (zfB hN hv hd hcd) (zen p zjb hs) hbase hfew hline hs rfl) (by rfl), fun B G H σ ρ fl ρ' E I hm k => ?_⟩
 unfold sApp at hm
 split at hm
 ·rename_i hso
  obtain ⟨ds0, hso⟩ := Option.isSome_iff_exists.mp hso
  obtain ⟨s0, e0, q0⟩ := zaf hso
  obtain ⟨l, xs0, h1, h2, h3, h4⟩ := I.wr e0 q0
  obtain ⟨⟨d, ρ1⟩, e1, hm⟩ := zaf hm
  obtain ⟨s1, e2, hm⟩ := zaf hm
  obtain ⟨ds, e3, hm⟩ := zaf hm
  split at hm
  ·rename_i hl
   cases hm
   refine ⟨.ref l, h1, .inl ⟨rfl, _, SqL.of h3⟩, s B G H σ ρ d ρ1 _ I e1 fun G1 H1 v I1 f1 r1 => ?_⟩
   obtain ⟨l', xs, k1, k2, k3, k4⟩ := I1.wr e2 e3
   rw [h1] at k1; cases k1
   refine ⟨l, xs, v, rfl, rfl, k3, by rw [k4.length, sizeLine_eq]; exact hl, ?_⟩
   exact k G1 _ σ (I1.write e2 e3 h1 (k4.snoc r1)) f1
  ·cases hm
 ·cases hm
noncomputable def sPut (j : Nat) (mi me : ME) : MS := fun ρ => (me ρ).bind fun p => if hasV p.2 j then (mi p.2).bind fun q => match q.1 with
 | .int k => q.2[j]?.bind fun s => s.items.bind fun ds => (ixN ds.length k).bind fun n => some (.next, q.2.set j (s.put (ds.set n p.1)))
 | _ => none else none
theorem zm6 (j : Nat) {i : Expr} {mi : ME} {pos' tpos : Pos} (he : SE X e me) (hi : SE X i mi) (hN : X.N[j]? = some x := by rfl) (hv : Vis X.env.scope x := by first | exact Or.inl rfl | exact Or.inr (Or.inl rfl) | exact Or.inr (Or.inr rfl)) (hd : (x == ("__debug__" : Str)) = false := by decide)
  (hcd : (x == ("__classdict__" : Str)) = false := by decide)
  (ha : ∀ v, assign (.Subscript (.Name x pos') i tpos) X.env v = (do
   let ov <- holding [v] (eval (.Name x pos') X.env)
   let iv <- holding [v, ov] (eval i X.env)
   standAt tpos
   holding [v, ov, iv] (setItem ov iv v)
   release [v, ov, iv] []) := by exact fun _ => rfl)
  (hs : swapsWithSole [.Subscript (.Name x pos') i tpos] e pos.line X.env = pure false := by rfl) (hw : swappedStores [.Subscript (.Name x pos') i tpos] e X.env = pure none := by rfl)
  (h1 : (assignEach [.Subscript (.Name x pos') i tpos] X.env).map (·.2) = [assign (.Subscript (.Name x pos') i tpos) X.env] := by rfl) : SS X (.Assign [.Subscript (.Name x pos') i tpos] e pos) (sPut j mi me) := by
 obtain ⟨t, p, s⟩ := he
 obtain ⟨u, q, z⟩ := hi
 refine ⟨_, ps_asg p (pg_sub (zfB hN hv hd hcd) q set_list ha) hs hw h1, fun B G H σ ρ fl ρ' E I hm k => ?_⟩
 obtain ⟨⟨d, ρ1⟩, e1, hm⟩ := zaf hm
 refine s B G H σ ρ d ρ1 _ I e1 fun G1 H1 v I1 f1 r1 => ?_
 split at hm
 ·rename_i hh
  obtain ⟨w, ew⟩ := I1.has hh
  obtain ⟨⟨kd, ρ2⟩, e2, hm⟩ := zaf hm
  cases kd <;> try cases hm
  rename_i kk
  obtain ⟨s2, e3, hm⟩ := zaf hm
  obtain ⟨ds, e4, hm⟩ := zaf hm
  obtain ⟨n, e5, hm⟩ := zaf hm
  cases hm
  refine ⟨w, ew, z B G1 H1 σ ρ1 (.int kk) ρ2 _ I1 e2 fun G2 H2 y I2 f2 r2 => ?_⟩
  obtain ⟨l, xs, k1, k2, k3, k4⟩ := I2.wr e3 e4
  rw [ew] at k1; cases k1
  refine ⟨l, xs, kk, n, rfl, r2, k3, by rw [k4.length]; exact e5, ?_⟩
  exact k G2 _ σ (I2.write e3 e4 ew (k4.set n (r1.mono f2))) (f1.trans f2)
 ·cases hm
end
structure Itm (K : W.Frag) (J : It) (G : Hp) (items : List D) : Prop where
 go : ∀ H i, Fz G H -> i < items.length -> J.go i H
 yld : ∀ H i x H', Fz G H -> J.yld i H x H' -> ∀ d, items[i]? = some d -> (H' = H /\ RepD K G x d) \/ ∃ p xs ds, H p = none /\ H' = upd H p (.tup xs) /\ x = .ref p /\ d = .tup ds /\ RepL K G xs ds
 stop : ∀ H i, Fz G H -> items.length <= i -> J.stop i H
def SIt (X : Cx) (tg it : Expr) (m : MA) : Prop := ∃ wi, PI X tg it wi /\ ∀ B G H σ ρ ds ρ' (Q : It -> Hp -> Prop), SI X.K B G H σ ρ -> m ρ = some (ds, ρ') -> (∀ J G' H', SI X.K B G' H' σ ρ' -> Fz G G' -> Itm X.K J G' ds -> Q J H') -> wi σ H Q
noncomputable def forM (f : D -> R -> Option (Fl × R)) : List D -> R -> Option (Fl × R)
 | [], ρ => some (.next, ρ)
 | d :: ds, ρ => (f d ρ).bind fun p => match p.1 with
  | .next => forM f ds p.2
  | .cont => forM f ds p.2
  | .brk => some (.next, p.2)
  | .ret r => some (.ret r, p.2)
def sFor (mi : MA) (g : D -> R -> Option R) (mb : MS) : MS := fun ρ => (mi ρ).bind fun p => forM (fun d ρ => (g d ρ).bind fun ρ' => mb ρ') p.1 p.2
theorem SI.yld {x : V} (I : SI K B G H σ ρ)
  (h : (H' = H /\ RepD K G x d) \/ ∃ p xs ds, H p = none /\ H' = upd H p (.tup xs) /\ x = .ref p /\ d = .tup ds /\ RepL K G xs ds) : ∃ G', SI K B G' H' σ ρ /\ Fz G G' /\ RepD K G' x d := by
 rcases h with ⟨rfl, r⟩ | ⟨p, xs, ds, hp, rfl, rfl, rfl, r⟩
 ·exact ⟨G, I, Fz.refl G, r⟩
 ·obtain ⟨I2, f2, r2⟩ := I.newT hp r
  exact ⟨_, I2, f2, r2⟩
theorem zcB {tg it : Expr} {mi : MA} {mb : MS} (hp : PassesOwn (model X.prog X.w) X.A X.env X.xe) (hc : X.calm = true) (hi : SIt X tg it mi) (hg : SG X tg g) (hb : SSs X body mb)
    (hs : ∀ x, foldedSetIterable it X.env x = pure x := by exact fun _ => rfl) : SS X (.For tg it body [] pos) (sFor mi g mb) := by
  obtain ⟨wi, pi, si⟩ := hi
  obtain ⟨tg', pg, sg⟩ := hg
  obtain ⟨tb, pb, sb⟩ := hb
  refine ⟨_, ps_for hp hc pi pg pb hs, fun B G H σ ρ fl ρ' E I hm k => ?_⟩
  obtain ⟨⟨ds, ρ1⟩, e1, hm⟩ := zaf hm
  refine si B G H σ ρ ds ρ1 _ I e1 fun J G1 H1 I1 f1 IT => ?_
  refine ⟨fun i m σ H => m = ds.length - i /\ i <= ds.length /\ ∃ G2 ρ2, SI X.K B G2 H σ ρ2 /\ Fz G1 G2 /\ forM (fun d ρ => (g d ρ).bind fun ρ' => mb ρ') (ds.drop i) ρ2 = some (fl, ρ'), ⟨ds.length, by simp, Nat.zero_le _, G1, ρ1, I1, Fz.refl _, by simpa using hm⟩, ?_⟩
  rintro i m σ2 H2 ⟨rfl, hi, G2, ρ2, I2, f2, e2⟩
  by_cases hlt : i < ds.length
  . rw [List.drop_eq_getElem_cons hlt] at e2
    simp only [forM] at e2
    obtain ⟨⟨f, ρ3⟩, e3, e4⟩ := zaf e2
    obtain ⟨ρ2', e5, e6⟩ := zaf e3
    have fz2 : Fz G1 H2 := f2.trans I2.fz
    refine .inr ⟨IT.go H2 i fz2 hlt, fun σ' H' => (∃ G3, SI X.K B G3 H' σ' ρ3 /\ Fz G1 G3) /\ (f = .next \/ f = .cont), ?_, fun x H' y => ?_⟩
    . rintro σ' H' ⟨⟨G3, I3, f3⟩, hf⟩
      refine ⟨ds.length - (i + 1), by omega, rfl, hlt, G3, ρ3, I3, f3, ?_⟩
      rcases hf with rfl | rfl <;> exact e4
    . have yy := IT.yld H2 i x H' fz2 y ds[i] (List.getElem?_eq_getElem hlt)
      have yy2 : (H' = H2 /\ RepD X.K G2 x ds[i]) \/ ∃ p xs es, H2 p = none /\ H' = upd H2 p (.tup xs) /\ x = .ref p /\ ds[i] = .tup es /\ RepL X.K G2 xs es := by
        rcases yy with ⟨a, b⟩ | ⟨p, xs, es, a, b, c, d, e⟩
        . exact .inl ⟨a, b.mono f2⟩
        . exact .inr ⟨p, xs, es, a, b, c, d, e.mono f2⟩
      obtain ⟨G3, I3, f3, r3⟩ := I2.yld yy2
      refine sg B G3 H' σ2 ρ2 x ds[i] ρ2' _ I3 r3 e5 fun G4 H4 σ4 I4 f4 => sb B G4 H4 σ4 ρ2' f ρ3 _ I4 e6 ?_
      have ff : Fz G1 G4 := f2.trans (f3.trans f4)
      cases f with
      | next => exact fun G5 H5 σ5 I5 f5 => ⟨⟨G5, I5, ff.trans f5⟩, .inl rfl⟩
      | cont => exact fun G5 H5 σ5 I5 f5 => ⟨⟨G5, I5, ff.trans f5⟩, .inr rfl⟩
      | brk => cases e4; exact fun G5 H5 σ5 I5 f5 => k G5 H5 σ5 I5 (f1.trans (ff.trans f5))
      | ret r => cases e4; exact fun G5 H5 σ5 v I5 f5 => k G5 H5 σ5 v I5 (f1.trans (ff.trans f5))
  . have e : i = ds.length := by omega
    subst e
    rw [List.drop_length] at e2
    cases e2
    exact .inl ⟨IT.stop H2 _ (f2.trans I2.fz) (Nat.le_refl _), k G2 H2 σ2 I2 (f1.trans f2)⟩
section
variable {X : Cx} {tg it : Expr} {me : ME}
noncomputable def iSeq (m : ME) : MA := fun ρ => (m ρ).bind fun p => (zaW [p.1]).map fun ds => (ds, p.2)
theorem pi_or {l : Expr} {tl : TE} (hl : PE X l tl) : PI X tg l (fun σ H R => tl σ H fun x H1 => ∃ a, x = .ref a /\ (((∃ xs, SqL X.K H1 a xs) /\ R (Itl X.K a) H1) \/ ((∃ xs, SqT X.K H1 a xs) /\ R (Itt X.K a) H1))) := by
 intro pins s σ H R I h
 refine thn (hl pins s σ H _ I h) fun v s1 ⟨x, H1, I1, r1, q1⟩ => ?_
 obtain ⟨a, e, q⟩ := q1
 subst e
 cases r1
 rcases q with ⟨⟨xs, hq⟩, q⟩ | ⟨⟨xs, hq⟩, q⟩
 ·obtain ⟨its, rv, p, hz⟩ := I1.list hq
  refine wpAny_pyIter_list p.isList ?_
  refine ⟨s1.heap.objs.size, [s1.heap.objs.size], _, _, H1, rfl, I1.kept (t' := s1.toks) fun b o e => Heap.get?_push_of_some _ e, zpo a _, ⟨_, Heap.get?_push_size _ rfl, rfl, rfl⟩, fun b hb => ?_, q⟩
  have e : b = s1.heap.objs.size := by simpa using hb
  subst e
  exact I1.fpOk (Nat.le_refl _) (I1.hok.fresh (Nat.le_refl _))
 ·obtain ⟨its, rv, p, hz⟩ := I1.tuple hq
  refine wpAny_pyIter_tuple (show s1.heap.IsTuple a its.toArray from p) ?_
  refine ⟨s1.heap.objs.size, [s1.heap.objs.size], _, _, H1, rfl, I1.kept (t' := s1.toks) fun b o e => Heap.get?_push_of_some _ e, znS a _, ⟨_, Heap.get?_push_size _ rfl, rfl, rfl⟩, fun b hb => ?_, q⟩
  have e : b = s1.heap.objs.size := by simpa using hb
  subst e
  exact I1.fpOk (Nat.le_refl _) (I1.hok.fresh (Nat.le_refl _))
theorem zmX {a : Addr} (hg : SqL K G a xs) (r : RepL K G xs ds) : Itm K (Itl K a) G ds where
 go := fun H i f hi => by
  have hl := r.length
  exact ⟨xs, xs[i], f.sql hg, List.getElem?_eq_getElem (by omega)⟩
 yld := fun H i x H' f y d e => by
  obtain ⟨rfl, y⟩ := y
  have hx := y xs (f.sql hg)
  obtain ⟨x', h1, h2⟩ := r.get e
  rw [hx] at h1; cases h1
  exact .inl ⟨rfl, h2⟩
 stop := fun H i f hi => ⟨xs, f.sql hg, by rw [r.length]; exact hi⟩
theorem itm_tup {a : Addr} (hg : G a = some (.tup xs)) (r : RepL K G xs ds) : Itm K (Itt K a) G ds where
 go := fun H i f hi => by
  have hl := r.length
  exact ⟨xs, xs[i], SqT.of (f _ _ hg), List.getElem?_eq_getElem (by omega)⟩
 yld := fun H i x H' f y d e => by
  obtain ⟨rfl, y⟩ := y
  have hx := y xs (SqT.of (f _ _ hg))
  obtain ⟨x', h1, h2⟩ := r.get e
  rw [hx] at h1; cases h1
  exact .inl ⟨rfl, h2⟩
 stop := fun H i f hi => ⟨xs, SqT.of (f _ _ hg), by rw [r.length]; exact hi⟩
theorem zb0 (h : SE X it me) : SIt X tg it (iSeq me) := by
 obtain ⟨t, p, s⟩ := h
 refine ⟨_, pi_or p, fun B G H σ ρ ds ρ' Q I hm k => ?_⟩
 obtain ⟨⟨d, ρ1⟩, e1, hm⟩ := zaf hm
 obtain ⟨es, e2, e3⟩ := zay hm
 cases e3
 refine s B G H σ ρ d ρ1 _ I e1 fun G1 H1 v I1 f1 r1 => ?_
 cases d <;> simp only [zaW] at e2 <;> try cases e2
 ·obtain ⟨a, xs, rfl, ha, r⟩ := r1
  exact ⟨a, rfl, .inl ⟨⟨xs, SqL.of (I1.fz _ _ ha)⟩, k _ G1 H1 I1 f1 (zmX (SqL.of ha) r)⟩⟩
 ·obtain ⟨a, xs, rfl, ha, r⟩ := r1
  exact ⟨a, rfl, .inr ⟨⟨xs, SqT.of (I1.fz _ _ ha)⟩, k _ G1 H1 I1 f1 (itm_tup ha r)⟩⟩
 ·obtain ⟨a, rfl, ha⟩ := r1
  exact ⟨a, rfl, .inl ⟨⟨_, I1.fz.sql ha⟩, k _ G1 H1 I1 f1 (zmX ha (RepL.ints _))⟩⟩
end
def zcq (lo : Int) (n : Nat) : List D := (List.range n).map fun (i : Nat) => D.int (lo + (i : Int))
theorem ziU (lo : Int) (n : Nat) : Itm K (Itr lo n) G (zcq lo n) where
 go := fun H i f hi => by show i < n; simpa [zcq] using hi
 yld := fun H i x H' f y d e => by
  obtain ⟨rfl, rfl⟩ := y
  unfold zcq at e
  rw [List.getElem?_map] at e
  cases q : (List.range n)[i]? with
  | none => rw [q] at e; cases e
  | some j =>
   rw [q] at e
   have hj : j = i := by
    have := List.getElem?_eq_some_iff.mp q
    obtain ⟨h1, h2⟩ := this
    simpa using h2.symm
   subst hj
   cases e
   exact .inl ⟨rfl, rfl⟩
 stop := fun H i f hi => by show n <= i; simpa [zcq] using hi
def zch (j : Int) : Bool := decide (-1000000000000 <= j) && decide (j <= 1000000000000)
theorem zcu {j : Int} (h : zch j = true) : -(2 ^ 62) <= j /\ j < 2 ^ 62 := by
 unfold zch at h
 simp only [Bool.and_eq_true, decide_eq_true_eq] at h
 omega
noncomputable def iR1 (ma : MA) : MA := fun ρ => (ma ρ).bind fun p => match p.1 with
 | [.int j] => if zch j then some (zcq 0 j.toNat, p.2) else none
 | _ => none
noncomputable def iR2 (ma : MA) : MA := fun ρ => (ma ρ).bind fun p => match p.1 with
 | [.int i, .int j] => if zch i && zch j then some (zcq i (j - i).toNat, p.2) else none
 | _ => none
section
variable {X : Cx} {tg a b : Expr} {ma : MA} {p pos : Pos}
theorem zaG (hm : X.mg "range" = none) (ha : SA X [a] ma) (hg : Gl X "range" := by rfl) (hs : starEach [a] X.env = [(false, eval a X.env)] := by rfl) : SIt X tg (.Call (.Name "range" p) [a] [] pos) (iR1 ma) := by
 obtain ⟨t, pa, sa⟩ := ha
 refine ⟨_, zoo hg hm pa hs, fun B G H σ ρ ds ρ' Q I hm k => ?_⟩
 obtain ⟨⟨es, ρ1⟩, e1, h2⟩ := zaf hm
 dsimp only at h2
 refine sa B G H σ ρ es ρ1 _ I e1 fun G1 H1 vs I1 f1 r1 => ?_
 split at h2
 ·rename_i j
  split at h2
  ·rename_i hj
   cases h2
   obtain ⟨x, rfl, rx⟩ := r1.one
   cases (show x = V.int j from rx)
   exact ⟨j, rfl, (zcu hj).1, (zcu hj).2, k _ G1 H1 I1 f1 (ziU 0 _)⟩
  ·cases h2
 ·cases h2
theorem zji (hm : X.mg "range" = none) (ha : SA X [a, b] ma) (hg : Gl X "range" := by rfl) (hs : starEach [a, b] X.env = [(false, eval a X.env), (false, eval b X.env)] := by rfl) (hs2 : starEach [b] X.env = [(false, eval b X.env)] := by rfl) : SIt X tg (.Call (.Name "range" p) [a, b] [] pos) (iR2 ma) := by
 obtain ⟨t, pa, sa⟩ := ha
 refine ⟨_, zn6 hg hm pa hs hs2, fun B G H σ ρ ds ρ' Q I hm k => ?_⟩
 obtain ⟨⟨es, ρ1⟩, e1, h2⟩ := zaf hm
 dsimp only at h2
 refine sa B G H σ ρ es ρ1 _ I e1 fun G1 H1 vs I1 f1 r1 => ?_
 split at h2
 ·rename_i i j
  split at h2
  ·rename_i hj
   simp only [Bool.and_eq_true] at hj
   cases h2
   obtain ⟨x, y, rfl, rx, ry⟩ := r1.two
   cases (show x = V.int i from rx)
   cases (show y = V.int j from ry)
   exact ⟨i, j, rfl, ⟨(zcu hj.1).1, (zcu hj.1).2, (zcu hj.2).1, (zcu hj.2).2⟩, k _ G1 H1 I1 f1 (ziU i _)⟩
  ·cases h2
 ·cases h2
end
def ResF (K : W.Frag) (G' H' H : Hp) (v : V) : Sl -> Prop
 | .val d => RepD K G' v d
 | .own ds => ∃ l xs, v = .ref l /\ G' l = none /\ H' l = some (.lst xs) /\ RepL K G' xs ds /\ H l = none
 | .tre t => ∃ A, RepT K G' H' v t A /\ A.Nodup /\ ∀ a ∈ A, G' a = none /\ H a = none
 | .two ds es => ∃ t l xs m ys, v = .ref t /\ H' t = some (.tup [.ref l, .ref m]) /\ l ≠ m /\ G' l = none /\ H' l = some (.lst xs) /\ RepL K G' xs ds /\ H l = none /\ G' m = none /\ H' m = some (.lst ys) /\ RepL K G' ys es /\ H m = none
 | _ => False
def spP (K : W.Frag) (n : Nat) (F : List D -> Option Sl) : Sp := fun vs H Q _ => ∃ G ds r, F ds = some r /\ ds.length = n /\ Fz G H /\ RepL K G vs ds /\
 ∀ G' H' v, Fz G G' -> Fz G' H' -> (∀ b o, G' b = some o -> G b ≠ none \/ H b = none) -> Fz H H' -> ResF K G' H' H v r -> Q v H'
def spM (K : W.Frag) (n : Nat) (F : List D -> List D -> Option (Sl × List D)) : Sp := fun vs H Q _ => ∃ G l xs cs ws ds r out, vs = .ref l :: ws /\ F cs ds = some (r, out) /\ ds.length + 1 = n /\ Fz G H /\ G l = none /\ H l = some (.lst xs) /\ RepL K G xs cs /\ RepL K G ws ds /\
 ∀ G' H' v ys, Fz G G' -> Fz G' H' -> (∀ b o, G' b = some o -> G b ≠ none \/ H b = none) -> (∀ b o, b ≠ l -> H b = some o -> H' b = some o) -> G' l = none -> H' l = some (.lst ys) -> RepL K G' ys out -> ResF K G' H' H v r -> Q v H'
noncomputable def fP (N : Nat) (m : MS) : List D -> Option Sl := fun ds => (m (ds.map .val ++ List.replicate (N - ds.length) .emp)).bind fun p => match p.1 with
 | .ret r => some r
 | .next => some (.val .non)
 | _ => none
noncomputable def fM (N : Nat) (m : MS) : List D -> List D -> Option (Sl × List D) := fun cs ds => (m (.par cs :: (ds.map .val ++ List.replicate (N - (ds.length + 1)) .emp))).bind fun p => match p.1, (p.2[0]? : Option Sl) with
 | Fl.ret r, some (Sl.par out) => some (r, out)
 | Fl.next, some (Sl.par out) => some (.val .non, out)
 | _, _ => none
theorem zlt (h : vs.length <= N.length) : (L2.start N vs).length = N.length := by
 unfold L2.start
 rw [List.length_append, List.length_map, List.length_replicate]
 omega
theorem SI.start (fz : Fz G H) (r : RepL K G vs ds) (h : ds.length <= N.length) :
  SI K ⟨G, H, []⟩ G H (L2.start N vs) (ds.map .val ++ List.replicate (N.length - ds.length) .emp) where
 fz := fz
 g0 := Fz.refl G
 new := fun b o e => .inl (by show G b ≠ none; rw [e]; simp)
 keep := fun b o e _ => e
 there := fun b e => e
 ob := fun i b m => by cases m
 len := by rw [zlt (by rw [r.length]; exact h), List.length_append, List.length_map, List.length_replicate]; omega
 slot := fun i s e => by
  by_cases hi : i < ds.length
  ·rw [List.getElem?_append_left (by simpa using hi), List.getElem?_map, List.getElem?_eq_getElem hi] at e
   cases e
   obtain ⟨x, h1, h2⟩ := r.get (List.getElem?_eq_getElem hi)
   refine ⟨x, ?_, h2⟩
   unfold L2.start
   rw [List.getElem?_append_left (by rw [List.length_map, r.length]; exact hi), List.getElem?_map, h1]
   rfl
  ·rw [List.getElem?_append_right (by simpa using hi), List.getElem?_replicate] at e
   split at e
   ·cases e; trivial
   ·cases e
 dis := fun i j s _ a _ e _ w => by
  exfalso
  by_cases hi : i < ds.length
  ·rw [List.getElem?_append_left (by simpa using hi), List.getElem?_map, List.getElem?_eq_getElem hi] at e
   cases e; exact w
  ·rw [List.getElem?_append_right (by simpa using hi), List.getElem?_replicate] at e
   split at e
   ·cases e; exact w
   ·cases e
theorem SI.startM (fz : Fz G H) (hg : G l = none) (hl : H l = some (.lst xs)) (rc : RepL K G xs cs) (r : RepL K G vs ds) (h : ds.length + 1 <= N.length) :
  SI K ⟨G, H, [(0, l)]⟩ G H (L2.start N (.ref l :: vs)) (.par cs :: (ds.map .val ++ List.replicate (N.length - (ds.length + 1)) .emp)) where
 fz := fz
 g0 := Fz.refl G
 new := fun b o e => .inl (by show G b ≠ none; rw [e]; simp)
 keep := fun b o e _ => e
 there := fun b e => e
 ob := fun i b m => by
  have : b = l := ((by simpa using m) : i = 0 /\ b = l).2
  subst this
  show H b ≠ none
  rw [hl]; simp
 len := by
  have := r.length
  rw [zlt (by rw [List.length_cons, r.length]; exact h), List.length_cons, List.length_append, List.length_map, List.length_replicate]; omega
 slot := fun i s e => by
  cases i with
  | zero => simp at e; subst e; exact ⟨l, xs, rfl, hg, hl, rc, by simp⟩
  | succ i =>
   rw [List.getElem?_cons_succ] at e
   by_cases hi : i < ds.length
   ·rw [List.getElem?_append_left (by simpa using hi), List.getElem?_map, List.getElem?_eq_getElem hi] at e
    cases e
    obtain ⟨x, h1, h2⟩ := r.get (List.getElem?_eq_getElem hi)
    refine ⟨x, ?_, h2⟩
    unfold L2.start
    rw [List.map_cons, List.cons_append, List.getElem?_cons_succ, List.getElem?_append_left (by rw [List.length_map, r.length]; exact hi), List.getElem?_map, h1]
    rfl
   ·rw [List.getElem?_append_right (by simpa using hi), List.getElem?_replicate] at e
    split at e
    ·cases e; trivial
    ·cases e
 dis := fun i j s t a hij hi hj w1 w2 => by
  have z : ∀ (i : Nat) (s : Sl), (Sl.par cs :: (ds.map .val ++ List.replicate (N.length - (ds.length + 1)) .emp))[i]? = some s -> OwS K G H (L2.start N (.ref l :: vs))[i]? a s -> i = 0 := fun i s e q => by
   cases i with
   | zero => rfl
   | succ i =>
    exfalso
    rw [List.getElem?_cons_succ] at e
    by_cases hi : i < ds.length
    ·rw [List.getElem?_append_left (by simpa using hi), List.getElem?_map, List.getElem?_eq_getElem hi] at e
     cases e; exact q
    ·rw [List.getElem?_append_right (by simpa using hi), List.getElem?_replicate] at e
     split at e
     ·cases e; exact q
     ·cases e
  exact hij ((z i s hi w1).trans (z j t hj w2).symm)
section
variable {P : Program} {w : World} {K : W.Frag} {mg : Str -> Option Value} {base : Heap}
theorem fnP_ok {st : Stmt} {f : Addr} {k n : Nat} {m : MS} (F : Fun K x qual st f fd) (S : FnScope N ps (zaX st)) (hn : ps.length = n) (hN : n <= N.length)
  (body : ∀ (cdv : Value) (A : Around) (outer : List Env) (s : Shared) (H : Hp) (E : XK), Room k (A.deeper (envOfC qual (zaX st) s.heap.objs.size f cdv)) -> SSs (cxOf CX0 P w K mg base N qual (zaX st) f cdv A outer s H E).nox (zcV st) m) :
  FnOk P w K mg base CX0 (k + 1) f fd ps (spP K n (fP N.length m)) := by
 refine F.ok S (fun vs H Q E h => ?_) (fun cdv A outer s H vs Q E hr h => ?_)
 ·obtain ⟨G, ds, r, _, h2, _, h4, _⟩ := h
  rw [h4.length, h2, hn]
 ·obtain ⟨G, ds, r, e1, h2, fz, h4, kk⟩ := h
  obtain ⟨t, pt, so⟩ := body cdv A outer s H E hr
  refine ⟨t, pt, ?_⟩
  obtain ⟨⟨fl, ρ'⟩, e2, e3⟩ := zaf e1
  refine so ⟨G, H, []⟩ G H (L2.start N vs) _ fl ρ' _ (SI.start fz h4 (by omega)) e2 ?_
  have fin : ∀ G' H' σ' v, SI K ⟨G, H, []⟩ G' H' σ' ρ' -> Fz G G' -> ResF K G' H' H v r -> Q v H' := fun G' H' σ' v I f rr => kk G' H' v f I.fz I.new (fun b o e => I.keep b o e (by simp)) rr
  cases fl with
  | next => cases e3; exact fun G' H' σ' I f => fin G' H' σ' .non I f rfl
  | brk => cases e3
  | cont => cases e3
  | ret r' =>
   cases e3
   refine fun G' H' σ' v I f rr => fin G' H' σ' v I f ?_
   cases r with
   | val d => exact rr
   | own ds => exact rr
   | emp => exact rr
   | two _ _ => exact rr
   | tre _ => exact rr
   | ptr _ => exact rr
   | par ds => exact rr
theorem fnM_ok {st : Stmt} {f : Addr} {k n : Nat} {m : MS} (F : Fun K x qual st f fd) (S : FnScope N ps (zaX st)) (hn : ps.length = n) (hN : n <= N.length)
  (body : ∀ (cdv : Value) (A : Around) (outer : List Env) (s : Shared) (H : Hp) (E : XK), Room k (A.deeper (envOfC qual (zaX st) s.heap.objs.size f cdv)) -> SSs (cxOf CX0 P w K mg base N qual (zaX st) f cdv A outer s H E).nox (zcV st) m) :
  FnOk P w K mg base CX0 (k + 1) f fd ps (spM K n (fM N.length m)) := by
 refine F.ok S (fun vs H Q E h => ?_) (fun cdv A outer s H vs Q E hr h => ?_)
 ·obtain ⟨G, l, xs, cs, ws, ds, r, out, rfl, _, h2, _, _, _, _, h4, _⟩ := h
  rw [List.length_cons, h4.length, h2, hn]
 ·obtain ⟨G, l, xs, cs, ws, ds, r, out, rfl, e1, h2, fz, hg, hl, rc, h4, kk⟩ := h
  obtain ⟨t, pt, so⟩ := body cdv A outer s H E hr
  refine ⟨t, pt, ?_⟩
  obtain ⟨⟨fl, ρ'⟩, e2, e3⟩ := zaf e1
  refine so ⟨G, H, [(0, l)]⟩ G H _ _ fl ρ' _ (SI.startM fz hg hl rc h4 (by omega)) e2 ?_
  have fin : ∀ G' H' σ' v, ρ'[0]? = some (.par out) -> SI K ⟨G, H, [(0, l)]⟩ G' H' σ' ρ' -> Fz G G' -> ResF K G' H' H v r -> Q v H' := fun G' H' σ' v e0 I f rr => by
   obtain ⟨l', ys, k1, k2, k3, k4, k5⟩ := I.slot 0 _ e0
   have : l' = l := by simpa using k5
   subst this
   exact kk G' H' v ys f I.fz I.new (fun b o hb e => I.keep b o e (fun i hm => by simp at hm; exact hb hm.2)) k2 k3 k4 rr
  cases e0 : ρ'[0]? with
  | none => rw [e0] at e3; cases fl <;> cases e3
  | some s0 =>
   rw [e0] at e3
   cases s0 with
   | emp => cases fl <;> cases e3
   | two _ _ => cases fl <;> cases e3
   | tre _ => cases fl <;> cases e3
   | ptr _ => cases fl <;> cases e3
   | val d => cases fl <;> cases e3
   | own d => cases fl <;> cases e3
   | par o2 =>
    cases fl with
    | next => cases e3; exact fun G' H' σ' I f => fin G' H' σ' .non e0 I f rfl
    | brk => cases e3
    | cont => cases e3
    | ret r' =>
     cases e3
     refine fun G' H' σ' v I f rr => fin G' H' σ' v e0 I f ?_
     cases r with
     | val d => exact rr
     | own ds => exact rr
     | emp => exact rr
     | two _ _ => exact rr
     | tre _ => exact rr
     | ptr _ => exact rr
     | par ds => exact rr
end
structure FD (P : Program) (w : World) (K : W.Frag) (mg : Str -> Option Value) (base : Heap) (k : Nat) (x : Str) (sp : Sp) : Prop where
 ex : ∃ f fd ps, FnOk P w K mg base CX0 k f fd ps sp /\ mg x = some (.ref f) /\ W.keepIn K (.ref f) = true /\ Binds K fd ps []
theorem zoO (nw : ∀ b o, G' b = some o -> G b ≠ none \/ H b = none) (kp : Fz H H') : ∀ (i : Nat) (s : Sl) (a : Addr), ρ[i]? = some s -> OwS K G H σ[i]? a s -> G a = none -> H a ≠ none -> G' a = none /\ H' a = H a := fun i s a _ _ g h => by
 obtain ⟨u, hu⟩ := Option.ne_none_iff_exists'.mp h
 refine ⟨?_, (kp a u hu).trans hu.symm⟩
 cases q : G' a with
 | none => rfl
 | some u =>
  rcases nw a u q with z | z
  ·exact absurd g z
  ·exact absurd z h
theorem SI.grow (I : SI K B G H σ ρ) (f : Fz G G') (fz : Fz G' H') (nw : ∀ b o, G' b = some o -> G b ≠ none \/ H b = none) (kp : Fz H H') : SI K B G' H' σ ρ :=
 I.move fz f (fun b o e => by
  rcases nw b o e with h | h
  ·cases q : G b with
   | none => exact absurd q h
   | some u => exact I.new b u q
  ·exact .inr (I.there b h)) (fun b o e n => kp b o (I.keep b o e n)) (fun b e => I.there b (kp.free e)) (zoO nw kp)
theorem SI.own_ne (I : SI K B G H σ ρ) {p : Addr} (hp : H p = none) (nw : ∀ b o, G' b = some o -> G b ≠ none \/ H b = none) (kp : Fz H H') : Nw K G' H' σ ρ p := I.nw_move (I.nw hp) (zoO nw kp)
noncomputable def zax (F : List D -> Option Sl) (ma : MA) : ME := fun ρ => (ma ρ).bind fun p => (F p.1).bind fun r => match r with
 | .val d => some (d, p.2)
 | .own ds => some (.lst ds, p.2)
 | _ => none
noncomputable def znm (F : List D -> Option Sl) (ma : MA) : MO := fun ρ => (ma ρ).bind fun p => (F p.1).bind fun r => match r with
 | .own ds => some (ds, p.2)
 | _ => none
section
variable {X : Cx} {x : Str} {p pos : Pos} {e : Expr} {es : List Expr} {ma : MA} {k k' n : Nat} {F : List D -> Option Sl}
theorem zam (fd : FD X.prog X.w X.K X.mg X.base k x (spP X.K n F)) (hr : Room k' X.A) (ha : SA X (e :: es) ma) (hn : (e :: es).length = n := by rfl) (hk : k <= k' := by decide) (hg : Gl X x := by rfl) (hdb : (x == ("__debug__" : Str)) = false := by decide)
  (he : starEach (e :: es) X.env = (false, eval e X.env) :: starEach es X.env := by rfl) (hpl : (backTo pos (starEach es X.env)).any (·.1) = false := by rfl) (hlen : ∀ ρ as ρ', ma ρ = some (as, ρ') -> as.length = n) : SE X (.Call (.Name x p) (e :: es) [] pos) (zax F ma) := by
 obtain ⟨f, fdd, ps, G0, h1, h2, h3⟩ := fd.ex
 obtain ⟨t, pa, sa⟩ := ha
 refine ⟨_, zjT G0 (hr.mono hk) hg h1 h2 h3 .nil pass0 pa hdb he hpl, fun B G H σ ρ d ρ' Q I hm kk => ?_⟩
 obtain ⟨⟨as, ρ1⟩, e1, hm⟩ := zaf hm
 obtain ⟨r, e2, hm⟩ := zaf hm
 refine sa B G H σ ρ as ρ1 _ I e1 fun G1 H1 vs I1 f1 r1 => ?_
 show spP X.K n F (vs ++ []) H1 Q E0
 rw [List.append_nil]
 refine ⟨G1, as, r, e2, hlen ρ as ρ1 e1, I1.fz, r1, fun G2 H2 v f2 fz2 nw kp rr => ?_⟩
 have I2 := I1.grow f2 fz2 nw kp
 cases r with
 | val d' => cases hm; exact kk G2 H2 v I2 (f1.trans f2) rr
 | own ds =>
  cases hm
  obtain ⟨l, xs, rfl, g3, h3, r3, b3⟩ := rr
  obtain ⟨I3, f3, r4⟩ := zjD I2 g3 h3 r3 (I1.there l b3) (I1.own_ne b3 nw kp)
  exact kk _ H2 _ I3 (f1.trans (f2.trans f3)) r4
 | emp => cases hm
 | two _ _ => cases hm
 | tre _ => cases hm
 | ptr _ => cases hm
 | par _ => cases hm
theorem zks (fd : FD X.prog X.w X.K X.mg X.base k x (spP X.K n F)) (hr : Room k' X.A) (ha : SA X (e :: es) ma) (hn : (e :: es).length = n := by rfl) (hk : k <= k' := by decide) (hg : Gl X x := by rfl) (hdb : (x == ("__debug__" : Str)) = false := by decide)
  (he : starEach (e :: es) X.env = (false, eval e X.env) :: starEach es X.env := by rfl) (hpl : (backTo pos (starEach es X.env)).any (·.1) = false := by rfl) (hlen : ∀ ρ as ρ', ma ρ = some (as, ρ') -> as.length = n) : SO X (.Call (.Name x p) (e :: es) [] pos) (znm F ma) := by
 obtain ⟨f, fdd, ps, G0, h1, h2, h3⟩ := fd.ex
 obtain ⟨t, pa, sa⟩ := ha
 refine ⟨_, zjT G0 (hr.mono hk) hg h1 h2 h3 .nil pass0 pa hdb he hpl, fun B G H σ ρ d ρ' Q I hm kk => ?_⟩
 obtain ⟨⟨as, ρ1⟩, e1, hm⟩ := zaf hm
 obtain ⟨r, e2, hm⟩ := zaf hm
 refine sa B G H σ ρ as ρ1 _ I e1 fun G1 H1 vs I1 f1 r1 => ?_
 show spP X.K n F (vs ++ []) H1 Q E0
 rw [List.append_nil]
 refine ⟨G1, as, r, e2, hlen ρ as ρ1 e1, I1.fz, r1, fun G2 H2 v f2 fz2 nw kp rr => ?_⟩
 have I2 := I1.grow f2 fz2 nw kp
 cases r with
 | val d' => cases hm
 | own ds =>
  cases hm
  obtain ⟨l, xs, rfl, g3, h3, r3, b3⟩ := rr
  exact kk G2 H2 l xs I2 (f1.trans f2) g3 h3 r3 (I1.there l b3) (I1.own_ne b3 nw kp)
 | emp => cases hm
 | two _ _ => cases hm
 | tre _ => cases hm
 | ptr _ => cases hm
 | par _ => cases hm
end
def aLen (ma : MA) (n : Nat) : Prop := ∀ ρ as ρ', ma ρ = some (as, ρ') -> as.length = n
theorem zaj : aLen aNil 0 := fun ρ as ρ' h => by cases h; rfl
theorem zac {m : ME} {r : MA} (h : aLen r n) : aLen (zag m r) (n + 1) := fun ρ as ρ' e => by
 obtain ⟨⟨d, ρ1⟩, _, h2⟩ := zaf e
 obtain ⟨⟨ds, ρ2⟩, e3, e4⟩ := zay h2
 cases e4
 rw [List.length_cons, h ρ1 ds ρ2 e3]
noncomputable def zfp (F : List D -> List D -> Option (Sl × List D)) (j : Nat) (ma : MA) : ME := fun ρ => if (ρ[j]?.bind Sl.items).isSome then (ma ρ).bind fun p => p.2[j]?.bind fun s => s.items.bind fun cs => (F cs p.1).bind fun r => match r.1 with
 | .val d => some (d, p.2.set j (s.put r.2))
 | .own ds => some (.lst ds, p.2.set j (s.put r.2))
 | _ => none else none
theorem SI.growW (I : SI K B G H σ ρ) (e : ρ[j]? = some s) (q : s.items = some cs) (hl : σ[j]? = some (some (.ref l)))
  (f : Fz G G') (fz : Fz G' H') (nw : ∀ b o, G' b = some o -> G b ≠ none \/ H b = none) (kp : ∀ b o, b ≠ l -> H b = some o -> H' b = some o) (gl : G' l = none) (hl' : H' l = some (.lst ys)) (r : RepL K G' ys out) : SI K B G' H' σ (ρ.set j (s.put out)) :=
 I.chgW e q hl fz f nw kp gl hl' r
theorem SI.own_neW {l p : Addr} (I : SI K B G H σ ρ) (e : ρ[j]? = some s) (q : s.items = some cs) (hl : σ[j]? = some (some (.ref l))) (hp : H p = none)
  (nw : ∀ b o, G' b = some o -> G b ≠ none \/ H b = none) (kp : ∀ b o, b ≠ l -> H b = some o -> H' b = some o) : Nw K G' H' σ (ρ.set j (s.put out)) p := fun i t et w => by
 obtain ⟨l', xs, e1, e2, e3, e4⟩ := I.wr e q
 rw [hl] at e1; cases e1
 have hpl : p ≠ l := fun z => by rw [z, e3] at hp; cases hp
 by_cases z : i = j
 ·subst z
  rw [List.getElem?_set, if_pos rfl] at et
  split at et
  ·cases et
   have := (zfZ (zlO q out)).mp w
   rw [hl] at this
   exact hpl (V.ref.inj (Option.some.inj (Option.some.inj this))).symm
  ·cases et
 ·rw [List.getElem?_set_ne (Ne.symm z)] at et
  have sl := I.slot i t et
  refine (sl.own (sl.back (fun a w g h => ?_) w)).2.1 hp
  have na : a ≠ l := fun w' => by subst w'; exact I.dis i j t s a z et e w ((zfZ q).mpr hl)
  obtain ⟨u, hu⟩ := Option.ne_none_iff_exists'.mp h
  refine ⟨?_, (kp a u na hu).trans hu.symm⟩
  cases q2 : G' a with
  | none => rfl
  | some u =>
   rcases nw a u q2 with z | z
   ·exact absurd g z
   ·exact absurd z h
section
variable {X : Cx} {x y : Str} {p py pos : Pos} {es : List Expr} {ma : MA} {k k' n : Nat} {F : List D -> List D -> Option (Sl × List D)}
theorem soundM {t : TA} {Q : VK} (sa : ∀ B G H σ ρ ds ρ' (Q : List V -> Hp -> Prop), SI X.K B G H σ ρ -> ma ρ = some (ds, ρ') -> (∀ G' H' vs, SI X.K B G' H' σ ρ' -> Fz G G' -> RepL X.K G' vs ds -> Q vs H') -> t σ H Q)
  (hlen : ∀ ρ as ρ', ma ρ = some (as, ρ') -> as.length + 1 = n) (I : SI X.K B G H σ ρ) {ds0 : List D} (h0 : ρ[j]?.bind Sl.items = some ds0) {as : List D} {ρ1 : R} (e1 : ma ρ = some (as, ρ1)) {s : Sl} (e2 : ρ1[j]? = some s) {cs : List D} (e3 : s.items = some cs)
  {r : Sl} {out : List D} (e4 : F cs as = some (r, out))
  (kk : ∀ G' H' v, SI X.K B G' H' σ (ρ1.set j (s.put out)) -> Fz G G' -> True -> (∃ H1, ResF X.K G' H' H1 v r /\ (∀ b, H1 b = none -> B.H b = none) /\ ∀ b, H1 b = none -> Nw X.K G' H' σ (ρ1.set j (s.put out)) b) -> Q v H') :
  tCall (spM X.K n F) [] E0 (tCons (tVar j) t) σ H Q := by
 obtain ⟨s0, k0, q0⟩ := zaf h0
 obtain ⟨l, xs0, h1, h2, h3, h4⟩ := I.wr k0 q0
 refine ⟨.ref l, h1, sa B G H σ ρ as ρ1 _ I e1 fun G1 H1 vs I1 f1 r1 => ?_⟩
 show spM X.K n F ((.ref l :: vs) ++ []) H1 Q E0
 rw [List.append_nil]
 obtain ⟨l', xs, m1, m2, m3, m4⟩ := I1.wr e2 e3
 rw [h1] at m1; cases m1
 refine ⟨G1, l, xs, cs, vs, as, r, out, rfl, e4, hlen ρ as ρ1 e1, I1.fz, m2, m3, m4, r1, fun G2 H2 v ys f2 fz2 nw kp gl hl r2 rr => ?_⟩
 exact kk G2 H2 v (I1.growW e2 e3 h1 f2 fz2 nw kp gl hl r2) (f1.trans f2) trivial ⟨H1, rr, fun b hb => I1.there b hb, fun b hb => I1.own_neW e2 e3 h1 hb nw kp⟩
theorem zdz (j : Nat) (fd : FD X.prog X.w X.K X.mg X.base k x (spM X.K n F)) (hr : Room k' X.A) (ha : SA X es ma) (hlen : ∀ ρ as ρ', ma ρ = some (as, ρ') -> as.length + 1 = n) (hN : X.N[j]? = some y := by rfl) (hv : Vis X.env.scope y := by first | exact Or.inl rfl | exact Or.inr (Or.inl rfl) | exact Or.inr (Or.inr rfl)) (hd : (y == ("__debug__" : Str)) = false := by decide)
  (hcd : (y == ("__classdict__" : Str)) = false := by decide) (hk : k <= k' := by decide) (hg : Gl X x := by rfl) (hdb : (x == ("__debug__" : Str)) = false := by decide)
  (he : starEach (.Name y py :: es) X.env = (false, eval (.Name y py) X.env) :: starEach es X.env := by rfl) (hpl : (backTo pos (starEach es X.env)).any (·.1) = false := by rfl) : SE X (.Call (.Name x p) (.Name y py :: es) [] pos) (zfp F j ma) := by
 obtain ⟨f, fdd, ps, G0, h1, h2, h3⟩ := fd.ex
 obtain ⟨t, pa, sa⟩ := ha
 refine ⟨_, zjT G0 (hr.mono hk) hg h1 h2 h3 .nil pass0 (zen (zfB hN hv hd hcd) pa he) hdb he hpl, fun B G H σ ρ d ρ' Q I hm kk => ?_⟩
 unfold zfp at hm
 split at hm
 ·rename_i hso
  obtain ⟨ds0, hso⟩ := Option.isSome_iff_exists.mp hso
  obtain ⟨⟨as, ρ1⟩, e1, hm⟩ := zaf hm
  obtain ⟨s, e2, hm⟩ := zaf hm
  obtain ⟨cs, e3, hm⟩ := zaf hm
  obtain ⟨⟨r, out⟩, e4, hm⟩ := zaf hm
  refine soundM sa hlen I hso e1 e2 e3 e4 fun G' H' v I' f' _ ⟨H1, rr, bb, nn⟩ => ?_
  cases r with
  | val d' => cases hm; exact kk G' H' v I' f' rr
  | own ds =>
   cases hm
   obtain ⟨l, xs, rfl, g3, h3, r3, b3⟩ := rr
   obtain ⟨I3, f3, r4⟩ := zjD I' g3 h3 r3 (bb l b3) (nn l b3)
   exact kk _ H' _ I3 (f'.trans f3) r4
  | emp => cases hm
  | two _ _ => cases hm
  | tre _ => cases hm
  | ptr _ => cases hm
  | par _ => cases hm
 ·cases hm
end
def zfX (env : Env) (cs : List (Str × Addr)) (x : Str × NameKind) : List (Str × Addr) := if x.2 == .free then (x.1, (env.cells.lookup x.1).getD 0) :: cs else cs
def clOf (scope : Scope) (env : Env) : List (Str × Addr) := scope.names.foldl (zfX env) []
theorem zif : ∀ (names : List (Str × NameKind)) (cs : List (Str × Addr)), (∀ y ∈ names, y.2 = .free -> ∃ c, env.cells.lookup y.1 = some c) ->
  (forIn names cs (fun x r => if x.2 == NameKind.free then do let a <- cellOf env x.1; pure (ForInStep.yield ((x.1, a) :: r)) else pure (ForInStep.yield r)) : Sem (List (Str × Addr))) = pure (names.foldl (zfX env) cs)
 | [], cs, _ => rfl
 | (n, k) :: r, cs, h => by
  have ih := fun cs' => zif r cs' (fun y hy => h y (List.mem_cons_of_mem _ hy))
  rw [List.forIn_cons, List.foldl_cons]
  by_cases hk : (k == NameKind.free) = true
  ·obtain ⟨c, hc⟩ := h (n, k) List.mem_cons_self (by simpa using hk)
   have e : zfX env cs (n, k) = (n, c) :: cs := by unfold zfX; simp [hk, hc]
   rw [e, <- ih]
   simp only [hk, if_true]
   unfold cellOf
   simp only at hc
   rw [hc]
   rfl
  ·have e : zfX env cs (n, k) = cs := by unfold zfX; simp [hk]
   rw [e, <- ih]
   simp only [hk]
   rfl
theorem znB {env : Env} (h : ∀ y ∈ scope.names, y.2 = .free -> ∃ c, env.cells.lookup y.1 = some c) : closureFor scope env = pure (clOf scope env) := by
 unfold closureFor clOf
 have e := zif (env := env) scope.names [] h
 simp only [bind_pure]
 exact e
theorem zej : ∀ {names : List (Str × NameKind)} {cs : List (Str × Addr)}, (∀ y ∈ names, y.2 = .free -> ∃ c, env.cells.lookup y.1 = some c) -> (cs.lookup x = some c -> env.cells.lookup x = some c) ->
  (names.foldl (zfX env) cs).lookup x = some c -> env.cells.lookup x = some c
 | [], cs, _, h0, h => h0 h
 | (n, k) :: r, cs, hn, h0, h => by
  rw [List.foldl_cons] at h
  refine zej (names := r) (fun y hy => hn y (List.mem_cons_of_mem _ hy)) ?_ h
  intro q
  unfold zfX at q
  split at q
  ·rename_i hk
   obtain ⟨c', hc⟩ := hn (n, k) List.mem_cons_self (by simpa using hk)
   rw [List.lookup_cons] at q
   simp only at hc
   by_cases z : (x == n) = true
   ·rw [z] at q
    have zz : x = n := by simpa using z
    subst zz
    simp only [hc, Option.getD_some] at q
    rw [hc]; exact q
   ·have z' : (x == n) = false := by simpa using z
    rw [z'] at q; exact h0 q
  ·exact h0 q
theorem zgs : ∀ {names : List (Str × NameKind)} {cs : List (Str × Addr)}, ((x, NameKind.free) ∈ names \/ (cs.lookup x).isSome = true) -> ((names.foldl (zfX env) cs).lookup x).isSome = true
 | [], cs, h => by
  rcases h with h | h
  ·simp at h
  ·exact h
 | (n, k) :: r, cs, h => by
  rw [List.foldl_cons]
  refine zgs (names := r) ?_
  rcases h with h | h
  ·rcases List.mem_cons.mp h with h | h
   ·cases h
    refine .inr ?_
    unfold zfX
    simp
   ·exact .inl h
  ·refine .inr ?_
   unfold zfX
   split
   ·rw [List.lookup_cons]
    by_cases z : (x == n) = true
    ·rw [z]; rfl
    ·have z' : (x == n) = false := by simpa using z
     rw [z']; exact h
   ·exact h
theorem zi3 : ∀ {names : List (Str × NameKind)} {n : Nat} {acc : List (Str × Addr)}, (cellsFrom n names acc).lookup x = some c -> (n <= c /\ (x, NameKind.cell) ∈ names) \/ acc.lookup x = some c
 | [], n, acc, h => .inr h
 | (m, k) :: r, n, acc, h => by
  unfold cellsFrom at h
  split at h
  ·rename_i hk
   have hk' : k = .cell := by simpa using hk
   subst hk'
   rcases zi3 h with ⟨h1, h2⟩ | h1
   ·exact .inl ⟨Nat.le_of_succ_le h1, List.mem_cons_of_mem _ h2⟩
   ·rw [List.lookup_cons] at h1
    cases q : x == m with
    | true =>
     rw [q] at h1
     cases h1
     rw [beq_iff_eq.mp q]
     exact .inl ⟨Nat.le_refl _, List.mem_cons_self⟩
    | false => rw [q] at h1; exact .inr h1
  ·rcases zi3 h with ⟨h1, h2⟩ | h1
   ·exact .inl ⟨h1, List.mem_cons_of_mem _ h2⟩
   ·exact .inr h1
theorem zm5 : ∀ {names : List (Str × NameKind)} {n : Nat} {acc : List (Str × Addr)}, (x, NameKind.cell) ∉ names -> (cellsFrom n names acc).lookup x = acc.lookup x
 | [], n, acc, _ => rfl
 | (m, k) :: r, n, acc, h => by
  unfold cellsFrom
  split
  ·rename_i hk
   have hk' : k = .cell := by simpa using hk
   subst hk'
   rw [zm5 fun z => h (List.mem_cons_of_mem _ z), List.lookup_cons]
   cases q : x == m with
   | true => exact absurd (by rw [beq_iff_eq.mp q]; exact List.mem_cons_self) h
   | false => rfl
  ·exact zm5 fun z => h (List.mem_cons_of_mem _ z)
theorem zmW : ∀ {names : List (Str × NameKind)} {n : Nat} {acc : List (Str × Addr)}, (x, NameKind.cell) ∈ names -> ∃ c, (cellsFrom n names acc).lookup x = some c /\ n <= c
 | (m, k) :: r, n, acc, h => by
  unfold cellsFrom
  by_cases hr : (x, NameKind.cell) ∈ r
  ·split
   ·obtain ⟨c, h1, h2⟩ := zmW (n := n + 1) (acc := (m, n) :: acc) hr
    exact ⟨c, h1, Nat.le_of_succ_le h2⟩
   ·exact zmW hr
  ·rcases List.mem_cons.mp h with e | e
   ·cases e
    rw [if_pos (beq_self_eq_true _), zm5 hr, List.lookup_cons, beq_self_eq_true]
    exact ⟨n, rfl, Nat.le_refl _⟩
   ·exact absurd e hr
theorem zo7 : ∀ {names : List (Str × NameKind)} {n : Nat} {acc : List (Str × Addr)}, (∀ x c, acc.lookup x = some c -> c < n) -> (∀ x y c, acc.lookup x = some c -> acc.lookup y = some c -> x = y) ->
  ∀ x y c, (cellsFrom n names acc).lookup x = some c -> (cellsFrom n names acc).lookup y = some c -> x = y
 | [], n, acc, _, hi => hi
 | (m, k) :: r, n, acc, hl, hi => by
  unfold cellsFrom
  split
  ·refine zo7 (fun x c h => ?_) (fun x y c h1 h2 => ?_)
   ·rw [List.lookup_cons] at h
    cases q : x == m with
    | true => rw [q] at h; cases h; exact Nat.lt_succ_self _
    | false => rw [q] at h; exact Nat.lt_succ_of_lt (hl x c h)
   ·rw [List.lookup_cons] at h1 h2
    cases q : x == m with
    | true =>
     rw [q] at h1
     cases h1
     cases q2 : y == m with
     | true => rw [beq_iff_eq.mp q, beq_iff_eq.mp q2]
     | false => rw [q2] at h2; exact absurd (hl y n h2) (Nat.lt_irrefl _)
    | false =>
     rw [q] at h1
     cases q2 : y == m with
     | true => rw [q2] at h2; cases h2; exact absurd (hl x n h1) (Nat.lt_irrefl _)
     | false => rw [q2] at h2; exact hi x y c h1 h2
  ·exact zo7 hl hi
theorem zms : ∀ {names : List (Str × NameKind)} {h : Heap} {acc : List (Str × Addr)}, (∀ x c, acc.lookup x = some c -> ∃ v, h.IsCell c v) -> ∀ x c, (cellsFrom h.objs.size names acc).lookup x = some c -> ∃ v, (pushCells h names).IsCell c v
 | [], h, acc, ha => ha
 | (m, k) :: r, h, acc, ha => by
  unfold cellsFrom pushCells
  split
  ·intro x c e
   rw [<- Heap.size_push h { cls := .type "cell", data := .cell none }] at e
   refine zms (fun y d q => ?_) x c e
   rw [List.lookup_cons] at q
   cases z : y == m with
   | true => rw [z] at q; cases q; exact ⟨none, _, Heap.get?_push_size _ rfl, rfl⟩
   | false =>
    rw [z] at q
    obtain ⟨v, hv⟩ := ha y d q
    exact ⟨v, hv.keeps fun b o e => Heap.get?_push_of_some _ e⟩
  ·exact zms ha
theorem zmm {M : Model} {s : Shared} {globals : Addr} {Q : Env -> Shared -> Prop}
  (hQ : ∀ h' : Heap, h'.Ns s.heap.objs.size (fun _ => none) -> (∀ a o, s.heap.get? a = some o -> h'.get? a = some o) ->
   ((∀ x c, cl.lookup x = some c -> ∃ v, s.heap.IsCell c v) -> ∀ x c, (cellsFrom (s.heap.objs.size + 1) scope.names cl).lookup x = some c -> ∃ v, h'.IsCell c v) ->
   Q (newEnv scope s.heap.objs.size globals (cellsFrom (s.heap.objs.size + 1) scope.names cl) qual none .none (some env) builtinsNs) { s with heap := h' }) :
  wpAny M A (newFunctionEnv scope globals cl [] qual none .none (some env)) Q E s := by
 simp only [newFunctionEnv, Option.isSome_some, if_true]
 refine wpAny_bind (wpAny_alloc ?_)
 refine wpAny_bind (wpAny_layCells _ (fun name kind cells => by cases hkc : kind == NameKind.cell <;> simp [hkc]) _ _ _ _ ?_)
 rw [show ({ s with heap := s.heap.push { cls := .type "dict", data := .dict #[] } } : Shared).heap.objs.size = s.heap.objs.size + 1 from Heap.size_push ..]
 refine wpAny_bind ?_
 rw [List.forIn_nil]
 refine wpAny_pure (wpAny_pure (hQ _ ((Heap.Ns.new s.heap (.type "dict")).keeps (pushCells_keeps _ _)) (fun a o e => pushCells_keeps _ _ a o (Heap.get?_push_of_some _ e)) fun hc x c e => ?_))
 rw [<- Heap.size_push s.heap { cls := .type "dict", data := .dict #[] }] at e
 refine zms (fun y d q => ?_) x c e
 obtain ⟨v, hv⟩ := hc y d q
 exact ⟨v, hv.keeps fun b o e => Heap.get?_push_of_some _ e⟩
def clC (scope : Scope) (env : Env) (C : Addr) : List (Str × Addr) := cellsFrom (C + 1) scope.names (clOf scope env)
def ownC (scope : Scope) (x : Str) : Bool := match scope.names.lookup x with
 | some .cell => true
 | _ => false
noncomputable def cxC (X : Cx) (N : List Str) (scope : Scope) (C : Addr) (s : Shared) (H : Hp) (fp : List Addr) : Cx :=
 { X with N := N, s₀ := s, H₀ := H, env := compEnvC scope (clC scope X.env C) C X.env, outer := X.stack, ex := fp, fn := ownC scope, pn := [], xe := fun _ _ => False }
structure BlkOk (X : Cx) (scope : Scope) : Prop where
 kind : scope.kind = .function
 uniq : ∀ y ∈ scope.names, scope.names.lookup y.1 = some y.2
 free : ∀ y ∈ scope.names, y.2 = .free -> X.env.kindOf y.1 = some .cell \/ X.env.kindOf y.1 = some .free
theorem zgz {α : Type} {v : α} : ∀ {l : List (Str × α)}, l.lookup x = some v -> (x, v) ∈ l
 | [], h => by simp at h
 | (n, w) :: r, h => by
  rw [List.lookup_cons] at h
  by_cases z : (x == n) = true
  ·rw [z] at h
   have zz : x = n := by simpa using z
   subst zz
   cases h
   exact List.mem_cons_self
  ·have z' : (x == n) = false := by simpa using z
   rw [z'] at h
   exact List.mem_cons_of_mem _ (zgz h)
theorem zel {env : Env} {x : Str} : ∀ {names : List (Str × NameKind)}, (names.map fun (n, k) => if (k == NameKind.free && env.scope.kind == .function && env.kindOf n == some .cell) then (n, NameKind.cell) else (n, k)).lookup x =
  (names.lookup x).map fun k => if (k == NameKind.free && env.scope.kind == .function && env.kindOf x == some .cell) then NameKind.cell else k
 | [] => rfl
 | (n, k) :: r => by
  have ih := zel (env := env) (x := x) (names := r)
  show List.lookup x ((if (k == NameKind.free && env.scope.kind == .function && env.kindOf n == some .cell) = true then (n, NameKind.cell) else (n, k)) :: _) = _
  cases hx : x == n with
  | true =>
   have zz : x = n := by simpa using hx
   by_cases hc : (k == NameKind.free && env.scope.kind == .function && env.kindOf n == some .cell) = true
   ·rw [if_pos hc]
    simp only [List.lookup_cons, hx, Option.map_some]
    rw [zz, if_pos hc]
   ·rw [if_neg hc]
    simp only [List.lookup_cons, hx, Option.map_some]
    rw [zz, if_neg hc]
  | false =>
   by_cases hc : (k == NameKind.free && env.scope.kind == .function && env.kindOf n == some .cell) = true
   ·rw [if_pos hc]; simp only [List.lookup_cons, hx]; exact ih
   ·rw [if_neg hc]; simp only [List.lookup_cons, hx]; exact ih
section
variable {X : Cx} {pins : List (Addr × Obj)} {σ : St} {H : Hp} {s : Shared} {scope : Scope} {N : List Str} {fp : List Addr} {C : Addr}
theorem ziO (I : Inv X pins σ H s) (b : BlkOk X scope) : ∀ y ∈ scope.names, y.2 = .free -> ∃ c, X.env.cells.lookup y.1 = some c := fun y hy hf => I.ok.has y.1 (b.free y hy hf)
theorem blk_vis (h : (relabel scope X.env).names.lookup x = some .cell \/ (relabel scope X.env).names.lookup x = some .free) : (x, NameKind.free) ∈ scope.names \/ (x, NameKind.cell) ∈ scope.names := by
 have e : (relabel scope X.env).names.lookup x = (scope.names.lookup x).map fun k => if (k == NameKind.free && X.env.scope.kind == .function && X.env.kindOf x == some .cell) then NameKind.cell else k := zel
 rw [e] at h
 cases q : scope.names.lookup x with
 | none => rw [q] at h; simp at h
 | some k =>
  have hm := zgz q
  by_cases hk : k = .free
  ·subst hk; exact .inl hm
  ·rw [q] at h
   have hkf : (k == NameKind.free) = false := by simpa using hk
   simp only [Option.map_some, hkf, Bool.false_and, Bool.false_eq_true, if_false, Option.some.injEq] at h
   rcases h with h | h
   ·subst h; exact .inr hm
   ·exact absurd h hk
theorem zhP (I : Inv X pins σ H s) (b : BlkOk X scope) (h : (clOf scope X.env).lookup x = some c) : X.env.cells.lookup x = some c := zej (ziO I b) (by simp) h
theorem zhV (I : Inv X pins σ H s) (b : BlkOk X scope) (h : (clC scope X.env C).lookup x = some c) : C < c \/ X.env.cells.lookup x = some c := by
 rcases zi3 h with ⟨h1, _⟩ | h1
 ·exact .inl h1
 ·exact .inr (zhP I b h1)
theorem zmY (b : BlkOk X scope) (h : (x, NameKind.free) ∈ scope.names) : (clC scope X.env C).lookup x = (clOf scope X.env).lookup x := zm5 fun z => by
 have h1 := b.uniq _ h
 have h2 := b.uniq _ z
 simp only at h1 h2
 rw [h1] at h2
 cases h2
theorem blk_ok (I : Inv X pins σ H s) (b : BlkOk X scope) (hC : s.heap.objs.size <= C) (hf : ∀ b ∈ fp, FpOk X pins H b) (hfC : ∀ b ∈ fp, b < C) : (cxC X N scope C s H fp).Ok where
 mod := I.ok.mod
 kind := b.kind
 glob := I.ok.glob
 blt := I.ok.blt
 above := hC
 inj := zo7 (fun x c h => by
  obtain ⟨v, hv⟩ := I.cell x c (zhP I b h)
  exact Nat.lt_succ_of_lt (Nat.lt_of_lt_of_le hv.lt hC)) fun x y c h1 h2 => I.ok.inj x y c (zhP I b h1) (zhP I b h2)
 has := fun x hx => by
  rcases blk_vis (x := x) hx with hm | hm
  ·show ∃ c, (clC scope X.env C).lookup x = some c
   rw [zmY b hm]
   exact Option.isSome_iff_exists.mp (zgs (.inl hm))
  ·obtain ⟨c, h, _⟩ := zmW (n := C + 1) (acc := clOf scope X.env) hm
   exact ⟨c, h⟩
 cab := fun x c h e => by
  have h' : ownC scope x = true := h
  unfold ownC at h'
  split at h'
  ·rename_i q
   obtain ⟨c', h1, h2⟩ := zmW (n := C + 1) (acc := clOf scope X.env) (zgz q)
   have e' : some c' = some c := h1.symm.trans e
   cases e'
   exact Nat.le_trans hC (Nat.le_of_succ_le h2)
  ·cases h'
 hd := I.ok.hd
 frames := I.ok.frames
 stk := .inl rfl
 exf := fun a ha => ⟨Nat.ne_of_lt (hfC a ha), fun x c e z => by
  rcases zhV I b e with q | q
  ·exact Nat.lt_asymm q (z ▸ hfC a ha)
  ·exact (hf a ha).2.2.2.2.1 x c q z⟩
 bs := I.bs
 bsz := Nat.le_trans I.ok.bsz I.sz
 noex := fun a o e ha => by
  rcases (hf a ha).2.2.2.1 with z | z
  ·exact I.ok.noex a o e z
  ·exact absurd (Nat.lt_of_lt_of_le (Heap.lt_size e) (Nat.le_trans I.ok.bsz z)) (Nat.lt_irrefl _)
 exfs := fun a ha hs => by
  rcases List.mem_cons.mp (I.stkSub a hs) with z | z
  ·exact (hf a ha).2.1 z
  ·exact (hf a ha).2.2.1 z
 funs := I.stack
 frf := I.stkFree
theorem zpx {tk : Nat} (I : Inv X pins σ H s) (b : BlkOk X scope) (hf : ∀ b ∈ fp, FpOk X pins H b) (hfs : ∀ b ∈ fp, b < s.heap.objs.size)
  (hns : h'.Ns s.heap.objs.size (fun _ => none)) (hk : ∀ a o, s.heap.get? a = some o -> h'.get? a = some o) (hcl : ∀ x c, (clC scope X.env s.heap.objs.size).lookup x = some c -> ∃ v, h'.IsCell c v) (hl : σc.length = N.length)
  (hσ : ∀ (i : Nat) (x : Str) (v : V), N[i]? = some x -> σc[i]? = some (some v) -> (x, NameKind.free) ∈ scope.names /\ ∃ j : Nat, X.N[j]? = some x /\ σ[j]? = some (some v)) (hloc : ∀ (i : Nat) (x : Str) (v : V), N[i]? = some x -> σc[i]? = some (some v) -> ¬ (relabel scope X.env).names.lookup x = some .local) :
  Inv (cxC X N scope s.heap.objs.size s H fp) [] σc H { s with heap := h', toks := tk } := by
 have ok := blk_ok (N := N) I b (Nat.le_refl _) hf hfs
 refine ⟨ok, rfl, I.bare, Un.kept hk, ⟨_, hns, fun i x v h1 h2 h3 => ?_⟩, fun x c e => ?_, I.hok.fresh (Nat.le_refl _), fun x c e => ?_, fun p hp => absurd (show p ∈ ([] : List (Addr × Obj)) from hp) (by simp), I.hok.kept hk, hl⟩
 ·obtain ⟨hm, j, hj, hv⟩ := hσ i x v h1 h2
  have hkind := b.free _ hm rfl
  obtain ⟨m, hn, hloc'⟩ := I.loc
  have hvis : Vis X.env.scope x := by
   rcases hkind with z | z
   ·exact .inr (.inl z)
   ·exact .inr (.inr z)
  obtain ⟨u, ru, lk⟩ := hloc' j x v hj hv hvis
  refine ⟨u, ru, ?_⟩
  rcases lk with ⟨z, _⟩ | ⟨_, c, ec, hc⟩
  ·exfalso
   rcases hkind with w | w <;> simp only at w <;> rw [z] at w <;> cases w
  ·refine .inr ⟨?_, c, ?_, ?_⟩
   ·rcases h3 with z | z | z
    ·exact absurd z (hloc i x v h1 h2)
    ·exact .inl z
    ·exact .inr z
   ·have hs : ((clOf scope X.env).lookup x).isSome = true := zgs (.inl hm)
    obtain ⟨c', ec'⟩ := Option.isSome_iff_exists.mp hs
    have := zej (ziO I b) (by simp) ec'
    rw [ec] at this
    cases this
    exact (zmY b hm).trans ec'
   ·obtain ⟨o, ho, hd⟩ := hc
    exact ⟨o, hk _ _ ho, hd⟩
 ·exact hcl x c e
 ·rcases zhV I b e with q | q
  ·exact I.hok.fresh (Nat.le_of_lt q)
  ·exact I.freeC x c q
theorem zol {h' : Heap} {s1 : Shared} (I : Inv X pins σ H s) (hf : ∀ b ∈ fp, FpOk X pins H b) (J : Inv (cxC X N scope s.heap.objs.size s H fp) [] σc H' s1) (hs : Heap.SameBut s.heap.objs.size s1.heap h') : Inv X pins σ H' { s1 with heap := h' } := by
 have kp : ∀ a o, a ≠ s.heap.objs.size -> s1.heap.get? a = some o -> h'.get? a = some o := fun a o ha e => hs.extBut a o ha e
 have free : H' s.heap.objs.size = none := J.free
 have ntr : ∀ a u, H' a = some u -> a ≠ s.heap.objs.size := fun a u e z => by rw [z, free] at e; cases e
 have lt : ∀ a o, s.heap.get? a = some o -> a ≠ s.heap.objs.size := fun a o e => Nat.ne_of_lt (Heap.lt_size e)
 have u : Un (frs X.stack) fp H H' s.heap s1.heap := J.base
 have u' : Un (frs X.stack) fp H H' s.heap h' := by
  refine ⟨fun a o e n hb hx => kp a o (lt a o e) (u.keep a o e n hb hx), fun a o e n hb hx => ?_, u.free, fun a o e hx => ?_, u.tups, u.frzs, u.tbls⟩
  ·obtain ⟨sl, q⟩ := u.slot a o e n hb hx
   exact ⟨sl, kp a _ (lt a o e) q⟩
  ·obtain ⟨o', q⟩ := u.there a o e hx
   exact ⟨o', kp a _ (lt a o e) q⟩
 have hok : HOk X.prog X.w H' h' := fun a o e => (J.hok a o e).stay (fun c v hc q => by
  refine kp c v ?_ q
  rcases hc with rfl | hc
  ·exact ntr _ _ e
  ·exact ntr _ _ hc) (fun _ q => q) fun _ _ q => q
 obtain ⟨hh, g, d, t, os'⟩ := s1
 have os : os' = s.os := J.os
 subst os
 have z := I.call (h' := h') (g' := g) (d' := d) (t' := t) (ch := fp) u' hok J.bare (fun a ha => ⟨(hf a ha).2.2.2.1, (hf a ha).2.1, (hf a ha).2.2.2.2.1, (hf a ha).2.2.2.2.2⟩)
 exact z
end
def PTs (X : Cx) (ifs : List Expr) (t : TT) : Prop := ∀ (pins : List (Addr × Obj)) (s : Shared) (σ : St) (H : Hp) (Q : Bool -> Hp -> Prop), Inv X pins σ H s -> t σ H Q ->
 wpAny (model X.prog X.w) X.A (forIn ifs true fun c r => if r = true then do let ok <- isTrue c X.env (eval c X.env); pure (ForInStep.yield ok) else pure (ForInStep.yield r)) (TP X pins σ Q) X.xe s
theorem pts_nil : PTs X [] (fun _ H Q => Q true H) := fun pins s σ H Q I h => wpAny_tests_nil ⟨H, I, h⟩
theorem pts_one {c : Expr} {t : TT} (h : PT X c t) : PTs X [c] t := fun pins s σ H Q I hw => wpAny_tests_one (h pins s σ H Q I hw)
theorem zmv {R : Result -> Shared -> Prop} {s : Shared} {elt target iter : Expr} {it acc : Value} (I : Nat -> Shared -> Prop)
  (turn : ∀ n s, I n s -> wpAny (model prog w) A (pyNext it) (fun r s₁ => match r with
   | none => R (.ok .next) s₁
   | some v => wpAny (model prog w) A (letOwnedTupleGo target it v) (fun _ s₁' => wpAny (model prog w) A (assign target env v) (fun _ s₂ =>
     wpAny (model prog w) A (forIn ifs true fun c r => if r = true then do let ok <- isTrue c env (eval c env); pure (ForInStep.yield ok) else pure (ForInStep.yield r)) (fun ok s₃ =>
      if ok = true then wpAny (model prog w) A (eval elt env) (fun x s₄ =>
       wpAny (model prog w) A (call (.builtin "list.append") [acc, x]) (fun _ s₅ => ∃ m, m < n /\ I m s₅) (fun _ _ => False) s₄) (fun _ _ => False) s₃
      else ∃ m, m < n /\ I m s₃) (fun _ _ => False) s₂) (fun _ _ => False) s₁') (fun _ _ => False) s₁) (fun _ _ => False) s)
  (n : Nat) (h : I n s) : codeAny (model prog w) A (.compLoop (.ListComp elt [⟨target, iter, ifs, 0⟩] scope pos) 0 it acc env) R s := by
 refine codeAny_loop rfl I (fun n s hI => ?_) n h
 show wpAny _ A ((compTurn (.ListComp elt [⟨target, iter, ifs, 0⟩] scope pos) 0 it acc env).onRaise (fun x => do noteFrame x env; theTreesLotGoes x)) _ _ s
 refine wpAny_noted ?_
 rw [compTurn_list]
 have no : ∀ {E : Value -> Shared -> Prop}, ∀ x s', (fun (_ : Value) (_ : Shared) => False) x s' -> E x s' := fun _ _ z => z.elim
 refine wpAny_bind (wpAny_standAt (wpAny_bind (wpAny_mono (turn n s hI) (fun r s₁ h₁ => ?_) no)))
 cases r with
 | none => exact wpAny_pure h₁
 | some v =>
  refine wpAny_bind (wpAny_mono h₁ (fun _ s₁' h₁' => ?_) no)
  refine wpAny_bind (wpAny_mono h₁' (fun _ s₂ h₂ => wpAny_bind (wpAny_mono h₂ (fun ok s₃ h₃ => ?_) no)) no)
  cases ok with
  | false => exact wpAny_pure ⟨rfl, h₃⟩
  | true =>
   exact wpAny_bind (wpAny_bind (wpAny_mono h₃ (fun x s₄ h₄ => wpAny_bind (wpAny_mono h₄ (fun _ s₅ h₅ => wpAny_pure (wpAny_pure ⟨rfl, h₅⟩)) no)) no))
def tLC (σ0 : St -> St) (wi : TI) (g : Addr -> Shared -> Hp -> List Addr -> TG) (tt : Addr -> Shared -> Hp -> List Addr -> TT) (te : Addr -> Shared -> Hp -> List Addr -> TE) : TE := fun σ H Q => wi σ H fun J H1 => ∀ D, H1 D = none -> ∃ W : Nat -> Nat -> St -> Hp -> Prop, (∃ m, W 0 m (σ0 σ) (upd H1 D (.lst []))) /\ ∀ i m σ H, W i m σ H ->
 (J.stop i H /\ Q (.ref D) H) \/ (J.go i H /\ ∀ C s₀ H₀ fp x H', J.yld i H x H' -> g C s₀ H₀ fp x σ H' fun σ2 H2 => tt C s₀ H₀ fp σ2 H2 fun ok H3 => if ok = true then te C s₀ H₀ fp σ2 H3 fun v H4 => ∃ xs, H4 D = some (.lst xs) /\ xs.length < sizeLine /\ ∃ m', m' < m /\ W (i + 1) m' σ2 (upd H4 D (.lst (xs ++ [v])))
  else ∃ m', m' < m /\ W (i + 1) m' σ2 H3)
section
variable {X : Cx} {elt iter tg : Expr} {ifs : List Expr} {scope : Scope} {pos : Pos} {N : List Str} {σ0 : St -> St} {wi : TI} {g : Addr -> Shared -> Hp -> List Addr -> TG} {tt : Addr -> Shared -> Hp -> List Addr -> TT} {te : Addr -> Shared -> Hp -> List Addr -> TE}
structure Cap (X : Cx) (scope : Scope) (N : List Str) (σ0 : St -> St) : Prop where
 len : ∀ σ, (σ0 σ).length = N.length
 src : ∀ (σ : St) (i : Nat) (x : Str) (v : V), N[i]? = some x -> (σ0 σ)[i]? = some (some v) -> (x, NameKind.free) ∈ scope.names /\ ∃ j : Nat, X.N[j]? = some x /\ σ[j]? = some (some v)
 loc : ∀ (σ : St) (i : Nat) (x : Str) (v : V), N[i]? = some x -> (σ0 σ)[i]? = some (some v) -> ¬ (relabel scope X.env).names.lookup x = some .local
theorem zoi {E : Value -> Shared -> Prop} (hc : X.calm = true) (b : BlkOk X scope) (cap : Cap X scope N σ0) (hi : PI X tg iter wi) (hg : ∀ C s H fp, PG (cxC X N scope C s H fp) tg (g C s H fp)) (ht : ∀ C s H fp, PTs (cxC X N scope C s H fp) ifs (tt C s H fp)) (he : ∀ C s H fp, PE (cxC X N scope C s H fp) elt (te C s H fp))
  {pins : List (Addr × Obj)} {s : Shared} {σ : St} {H : Hp} {Q : VK} (I : Inv X pins σ H s) (h : tLC σ0 wi g tt te σ H Q) {QQ : Value -> Shared -> Prop} {p0 : Pos}
  (hs : ∀ x, foldedSetIterable iter X.env x = pure x)
  (fin : match use with
   | none => ∀ u s', EP X pins σ Q u s' -> QQ u s'
   | some f => ∀ (D : Addr) (fp : List Addr) (C : Addr) (H1 H' : Hp) (σc : St) (s1 s' : Shared), Inv X pins σ H1 s1 -> (∀ b ∈ fp, FpOk X pins H1 b) -> C = s1.heap.objs.size -> Inv (cxC X N scope C s1 H1 fp) [] σc H' s' -> Q (.ref D) H' ->
     wpAny (model X.prog X.w) X.A (f (.ref D)) (fun _ s'' => ∃ m, s''.heap.Ns C m /\ ∀ h', Heap.SameBut C s''.heap h' -> QQ .none { s'' with heap := h' }) X.xe s') :
  wpAny (model X.prog X.w) X.A (comprehension (.ListComp elt [⟨tg, iter, ifs, 0⟩] scope pos) scope X.env p0 (newList []) false (eval iter X.env) use) QQ X.xe s := by
 refine wpAny_comprehension_free (cl := clOf scope X.env) (g := ⟨tg, iter, ifs, 0⟩) (gs := []) rfl hs (znB (ziO I b)) b.kind (fun x hx hl => hl ▸ b.uniq x hx) ?_
 refine thn (hi pins s σ H _ I h) fun v s1 h1 => thn h1 fun itv s2 h2 => ?_
 obtain ⟨it, fp, tn, J, H2, e, I2, T, st2, f2, h3⟩ := h2
 subst e
 refine wpAny_newObj_type ?_ (by show (0 : Nat) <= sizeLine; exact Nat.zero_le _)
 have hD : H2 s2.heap.objs.size = none := I2.fresh
 obtain ⟨W, ⟨m0, w0⟩, turn⟩ := h3 _ hD
 have I3 : Inv X pins σ (upd H2 s2.heap.objs.size (.lst [])) { s2 with heap := s2.heap.push { cls := .type "list", data := .seq ([] : List Value).toArray } } := I2.lnew (t' := s2.toks) .nil (Nat.zero_le _)
 have f3 : ∀ b ∈ fp, FpOk X pins (upd H2 s2.heap.objs.size (.lst [])) b := fun b hb => by
  obtain ⟨a1, a2⟩ := f2 b hb
  obtain ⟨o, ho, _⟩ := T.obj _ _ st2 b hb
  exact ⟨by rw [zaw (Nat.ne_of_lt (Heap.lt_size ho))]; exact a1, a2⟩
 have st3 : tn 0 (s2.heap.push { cls := .type "list", data := .seq ([] : List Value).toArray }) := T.keep _ _ _ st2 fun b hb o e => Heap.get?_push_of_some _ e
 generalize hs3 : ({ s2 with heap := s2.heap.push { cls := .type "list", data := .seq ([] : List Value).toArray } } : Shared) = s3 at I3
 have hs3' : s3.heap = s2.heap.push { cls := .type "list", data := .seq ([] : List Value).toArray } := by rw [<- hs3]
 rw [<- hs3'] at st3
 have hfs : ∀ b ∈ fp, b < s3.heap.objs.size := fun b hb => by
  obtain ⟨o, ho, _⟩ := T.obj _ _ st3 b hb
  exact Heap.lt_size ho
 show wpAny _ _ (newFunctionEnv scope X.env.globals (clOf scope X.env) [] X.env.qual none .none (some X.env)) _ _ s3
 refine zmm fun h' hns hk hcl => ?_
 have hcl := hcl fun x c e => I3.cell x c (zhP I3 b e)
 generalize hDD : s2.heap.objs.size = DD at *
 have B0 : Inv (cxC X N scope s3.heap.objs.size s3 (upd H2 DD (.lst [])) fp) [] (σ0 σ) (upd H2 DD (.lst [])) { s3 with heap := h' } :=
  zpx (tk := s3.toks) I3 b f3 hfs hns hk hcl (cap.len σ) (cap.src σ) (cap.loc σ)
 have stat : ∀ {H' : Hp}, (∀ b ∈ fp, H' b = none) -> ∀ b ∈ fp, FpOk (cxC X N scope s3.heap.objs.size s3 (upd H2 DD (.lst [])) fp) [] H' b := fun hn b' hb => by
  refine ⟨hn b' hb, Nat.ne_of_lt (hfs b' hb), fun z => ?_, .inl hb, fun x c e => ?_, fun p hp => absurd (show p ∈ ([] : List (Addr × Obj)) from hp) (by simp)⟩
  ·rcases List.mem_cons.mp (I3.stkSub b' z) with w | w
   ·exact (f3 b' hb).2.1 w
   ·exact (f3 b' hb).2.2.1 w
  ·intro z
   rcases zhV I3 b e with q | q
   ·exact Nat.lt_asymm q (z ▸ hfs b' hb)
   ·exact (f3 b' hb).2.2.2.2.1 x c q z
 have tn0 : tn 0 h' := T.keep _ _ _ st3 fun b' hb o e => hk b' o e
 have post : ∀ (s' : Shared) (σc : St) (H' : Hp), Inv (cxC X N scope s3.heap.objs.size s3 (upd H2 DD (.lst [])) fp) [] σc H' s' -> Q (.ref DD) H' -> compPost (model X.prog X.w) X.A X.xe use QQ (.ref DD) s3.heap.objs.size (.ok .next) s' := fun s' σc H' J' q => by
  cases use with
  | none =>
   obtain ⟨m, hn, _⟩ := J'.loc
   exact ⟨m, hn, fun h'' hs'' => fin _ _ ⟨.ref DD, H', zol I3 f3 J' hs'', rfl, q⟩⟩
  | some f => exact fin DD fp _ _ H' σc s3 s' I3 f3 rfl J' q
 have loop : codeAny (model X.prog X.w) X.A (.compLoop (.ListComp elt [⟨tg, iter, ifs, 0⟩] scope pos) 0 (.ref it) (.ref DD) (compEnvC scope (clC scope X.env s3.heap.objs.size) s3.heap.objs.size X.env)) (compPost (model X.prog X.w) X.A X.xe use QQ (.ref DD) s3.heap.objs.size) { s3 with heap := h' } := by
  refine zmv (fun n s' => ∃ i σ' H', Inv (cxC X N scope s3.heap.objs.size s3 (upd H2 DD (.lst [])) fp) [] σ' H' s' /\ tn i s'.heap /\ (∀ b ∈ fp, H' b = none) /\ W i n σ' H') ?_ m0 ⟨0, σ0 σ, _, B0, tn0, fun b' hb => (f3 b' hb).1, w0⟩
  rintro n s5 ⟨i, σ5, H5, I5, st5, fr5, w5⟩
  rcases turn i n σ5 H5 w5 with ⟨stop, qn⟩ | ⟨go, step⟩
  ·refine thn (T.done (cxC X N scope s3.heap.objs.size s3 (upd H2 DD (.lst [])) fp) rfl rfl rfl hc i [] s5 σ5 H5 (fun _ _ => False) I5 (stat fr5) st5 stop) fun r s6 ⟨hr, I6⟩ => ?_
   subst hr
   exact post s6 σ5 H5 I6 qn
  ·refine thn (T.item (cxC X N scope s3.heap.objs.size s3 (upd H2 DD (.lst [])) fp) rfl rfl rfl hc i [] s5 σ5 H5 (fun _ _ => False) I5 (stat fr5) st5 go) fun r s6 ⟨u, hr, h6⟩ => ?_
   subst hr
   refine thn h6 fun _ s7 ⟨x, H7, I7, r7, y7, st7, fr7⟩ => ?_
   have I7' := I7.pinned (stat fr7) (T.obj _ _ st7)
   have again : ∀ {σ8 : St} {H8 : Hp} {s8 : Shared} {m' : Nat}, Inv (cxC X N scope s3.heap.objs.size s3 (upd H2 DD (.lst [])) fp) ([] ++ zkZ fp s7.heap) σ8 H8 s8 -> m' < n -> W (i + 1) m' σ8 H8 ->
     ∃ m, m < n /\ ∃ i σ' H', Inv (cxC X N scope s3.heap.objs.size s3 (upd H2 DD (.lst [])) fp) [] σ' H' s8 /\ tn i s8.heap /\ (∀ b ∈ fp, H' b = none) /\ W i m σ' H' := fun {σ8 H8 s8 m'} I8 hm w8 => by
    refine ⟨m', hm, i + 1, σ8, H8, I8.unpinned, T.keep _ _ _ st7 fun b' hb o e => (I8.pin (b', o) (List.mem_append_right _ (List.mem_append_right _ (zgA hb e)))).1, fun b' hb => ?_, w8⟩
    obtain ⟨o, e, d⟩ := T.obj _ _ st7 b' hb
    exact (I8.pin (b', o) (List.mem_append_right _ (List.mem_append_right _ (zgA hb e)))).2.1
   refine thn (hg _ _ _ _ _ s7 σ5 H7 x u _ I7' r7 (step _ _ _ _ x H7 y7)) fun _ s8 ⟨σ8, H8, I8, q8⟩ => ?_
   refine thn (ht _ _ _ _ _ s8 σ8 H8 _ I8 q8) fun ok s9 ⟨H9, I9, q9⟩ => ?_
   cases ok with
   | false =>
    obtain ⟨m', hm, w9⟩ := q9
    exact again I9 hm w9
   | true =>
    refine thn (he _ _ _ _ _ s9 σ8 H9 _ I9 q9) fun u10 s10 ⟨v10, H10, I10, r10, xs, hx, hz, m', hm, w10⟩ => ?_
    refine thn (zlu _ s10 σ8 H10 (.ref DD) [v10] (.ref DD) [u10] (fun v H' => v = .non /\ H' = upd H10 DD (.lst (xs ++ [v10]))) I10 rfl (.cons r10 .nil) ⟨DD, xs, v10, rfl, rfl, hx, hz, rfl, rfl⟩) fun _ s11 ⟨_, H11, I11, _, _, e11⟩ => ?_
    subst e11
    exact again I11 hm w10
 exact codeAny_compStart_list loop (T.self _ _ _ _ _ tn0 loop)
theorem pe_lc (hc : X.calm = true) (b : BlkOk X scope) (cap : Cap X scope N σ0) (hi : PI X tg iter wi) (hg : ∀ C s H fp, PG (cxC X N scope C s H fp) tg (g C s H fp)) (ht : ∀ C s H fp, PTs (cxC X N scope C s H fp) ifs (tt C s H fp)) (he : ∀ C s H fp, PE (cxC X N scope C s H fp) elt (te C s H fp))
    (hs : ∀ x, foldedSetIterable iter X.env x = pure x := by exact fun _ => rfl) : PE X (.ListComp elt [⟨tg, iter, ifs, 0⟩] scope pos) (tLC σ0 wi g tt te) := by
  intro pins s σ H Q I h
  rw [eval_ListComp]
  exact zoi (use := none) (E := X.xe) hc b cap hi hg ht he I h hs (fun u s' q => q)
end
def zgC (ρ : R) : Bool := ρ.all fun s => match s with
 | .own _ => false
 | .par _ => false
 | .tre _ => false
 | .ptr _ => false
 | _ => true
theorem zmB (h : zgC ρ = true) {a : Addr} (e : ρ[i]? = some s) : ¬ OwS K G H ov a s := fun w => by
 unfold zgC at h
 rw [List.all_eq_true] at h
 have := h s (List.mem_of_getElem? e)
 cases s with
 | emp => exact w
 | two _ _ => exact w
 | val d => exact w
 | _ => exact absurd (show false = true from this) Bool.false_ne_true
theorem ziH (h : zgC ρ = true) (e : ρ[i]? = some s) : (∀ t, s ≠ .tre t) /\ ∀ t, s ≠ .ptr t := by
 unfold zgC at h
 rw [List.all_eq_true] at h
 have := h s (List.mem_of_getElem? e)
 constructor
 ·rintro t rfl; exact absurd (show false = true from this) Bool.false_ne_true
 ·rintro t rfl; exact absurd (show false = true from this) Bool.false_ne_true
theorem ziB (h : zgC ρ = true) : ¬ Wr ρ i := fun ⟨s, ds, e, q⟩ => by
 unfold zgC at h
 rw [List.all_eq_true] at h
 have := h s (List.mem_of_getElem? e)
 cases s with
 | emp => cases q
 | two _ _ => cases q
 | tre _ => cases q
 | ptr _ => cases q
 | val d => cases q
 | own d => exact absurd (show false = true from this) Bool.false_ne_true
 | par d => exact absurd (show false = true from this) Bool.false_ne_true
structure VS (K : W.Frag) (G : Hp) (σ : St) (ρ : R) : Prop where
 len : σ.length = ρ.length
 no : zgC ρ = true
 val : ∀ (i : Nat) d, ρ[i]? = some (.val d) -> ∃ v, σ[i]? = some (some v) /\ RepD K G v d
theorem VS.si (h : VS K G σ ρ) (fz : Fz G H) : SI K ⟨G, H, []⟩ G H σ ρ where
 fz := fz
 g0 := Fz.refl G
 new := fun b o e => .inl (by show G b ≠ none; rw [e]; simp)
 keep := fun b o e _ => e
 there := fun b e => e
 ob := fun i b m => by cases m
 len := h.len
 slot := fun i s e => by
  cases s with
  | emp => trivial
  | two _ _ => trivial
  | tre t => exact absurd rfl ((ziH h.no e).1 t)
  | ptr t => exact absurd rfl ((ziH h.no e).2 t)
  | val d => exact h.val i d e
  | own ds => exact absurd ⟨_, ds, e, rfl⟩ (ziB h.no (i := i))
  | par ds => exact absurd ⟨_, ds, e, rfl⟩ (ziB h.no (i := i))
 dis := fun i j s _ a _ e _ w => absurd w (zmB h.no e)
theorem VS.of (I : SI K B G H σ ρ) (h : zgC ρ = true) : VS K G σ ρ := ⟨I.len, h, fun i d e => I.slot i _ e⟩
noncomputable def fz1 (i : Nat) (ρ : R) : R := match ρ[i]? with
 | some (.own ds) => ρ.set i (.val (.lst ds))
 | _ => ρ
def fzL : List Nat -> R -> R
 | [], ρ => ρ
 | i :: is, ρ => fzL is (fz1 i ρ)
theorem SI.fz1 (I : SI K B G H σ ρ) (i : Nat) : ∃ G', SI K B G' H σ (M.fz1 i ρ) /\ Fz G G' := by
 unfold M.fz1
 cases e : ρ[i]? with
 | none => exact ⟨G, I, Fz.refl G⟩
 | some s =>
  cases s with
  | own ds => obtain ⟨l, xs, _, f, _, I'⟩ := I.freeze e; exact ⟨_, I', f⟩
  | emp => exact ⟨G, I, Fz.refl G⟩
  | two _ _ => exact ⟨G, I, Fz.refl G⟩
  | tre _ => exact ⟨G, I, Fz.refl G⟩
  | ptr _ => exact ⟨G, I, Fz.refl G⟩
  | val _ => exact ⟨G, I, Fz.refl G⟩
  | par _ => exact ⟨G, I, Fz.refl G⟩
theorem SI.fzL : ∀ (is : List Nat) {G : Hp} {ρ : R}, SI K B G H σ ρ -> ∃ G', SI K B G' H σ (M.fzL is ρ) /\ Fz G G'
 | [], G, ρ, I => ⟨G, I, Fz.refl G⟩
 | i :: is, G, ρ, I => by
  obtain ⟨G1, I1, f1⟩ := I.fz1 i
  obtain ⟨G2, I2, f2⟩ := SI.fzL is I1
  exact ⟨G2, I2, f1.trans f2⟩
def capS (ρ : R) (i : Nat) : Sl := match ρ[i]? with
 | some (.val d) => .val d
 | _ => .emp
theorem znY (ρ : R) (i : Nat) : capS ρ i = .emp \/ ∃ d, capS ρ i = .val d := by
 unfold capS
 split
 ·exact .inr ⟨_, rfl⟩
 ·exact .inl rfl
def capR (cap : List Nat) (t : Nat) (ρ : R) : R := cap.map (capS ρ) ++ List.replicate t .emp
def capσ (cap : List Nat) (t : Nat) (σ : St) : St := cap.map (fun i => (σ[i]?).join) ++ List.replicate t none
theorem cap_vs (I : SI K B G H σ ρ) (cap : List Nat) (t : Nat) : VS K G (capσ cap t σ) (capR cap t ρ) where
 len := by unfold capσ capR; simp
 no := by
  unfold zgC capR
  rw [List.all_eq_true]
  intro s hs
  rcases List.mem_append.mp hs with h | h
  ·obtain ⟨i, _, rfl⟩ := List.mem_map.mp h
   rcases znY ρ i with e | ⟨d, e⟩
   ·rw [e]
   ·rw [e]
  ·rw [List.eq_of_mem_replicate h]
 val := fun i d e => by
  unfold capR at e
  by_cases hi : i < cap.length
  ·rw [List.getElem?_append_left (by simpa using hi), List.getElem?_map, List.getElem?_eq_getElem hi] at e
   have e' : capS ρ cap[i] = .val d := by simpa using e
   unfold capS at e'
   split at e'
   ·rename_i d' q
    cases e'
    obtain ⟨v, h1, h2⟩ := I.slot _ _ q
    refine ⟨v, ?_, h2⟩
    unfold capσ
    rw [List.getElem?_append_left (by simpa using hi), List.getElem?_map, List.getElem?_eq_getElem hi]
    simp [h1]
   ·cases e'
  ·rw [List.getElem?_append_right (by simpa using hi), List.getElem?_replicate] at e
   split at e
   ·cases e
   ·cases e
noncomputable def zft (f : D -> R -> Option (Option D × R)) : List D -> R -> Option (List D × R)
 | [], ρ => some ([], ρ)
 | d :: ds, ρ => (f d ρ).bind fun p => (zft f ds p.2).map fun q => (p.1.toList ++ q.1, q.2)
noncomputable def znw (g : D -> R -> Option R) (mt : MT) (me : ME) : D -> R -> Option (Option D × R) := fun d ρ => (g d ρ).bind fun ρ1 => (mt ρ1).bind fun p => if p.1 then (me p.2).bind fun q => if zgC q.2 then some (some q.1, q.2) else none else if zgC p.2 then some (none, p.2) else none
noncomputable def oLC (cap : List Nat) (t : Nat) (mi : MA) (g : D -> R -> Option R) (mt : MT) (me : ME) : MO := fun ρ => (mi ρ).bind fun p => if p.1.length <= 16777216 then (zft (znw g mt me) p.1 (capR cap t (fzL cap p.2))).map fun q => (q.1, fzL cap p.2) else none
def STs (X : Cx) (ifs : List Expr) (m : MT) : Prop :=
 ∃ t, PTs X ifs t /\ ∀ B G H σ ρ d ρ' (Q : Bool -> Hp -> Prop), SI X.K B G H σ ρ -> m ρ = some (d, ρ') -> (∀ G' H', SI X.K B G' H' σ ρ' -> Fz G G' -> Q d H') -> t σ H Q
def zbM : MT := fun ρ => some (true, ρ)
theorem zaF : STs X [] zbM := ⟨_, pts_nil, fun B G H σ ρ d ρ' Q I hm k => by cases hm; exact k G H I (Fz.refl G)⟩
theorem zma {c : Expr} (h : STt X c m) : STs X [c] m := let ⟨t, p, s⟩ := h; ⟨t, pts_one p, s⟩
def blkB (env : Env) (scope : Scope) : Bool := (scope.names.all fun x => scope.names.lookup x.1 == some x.2 && (x.2 != .free || (env.kindOf x.1 == some .cell || env.kindOf x.1 == some .free)))
theorem zlo (hk : scope.kind = .function) (h : blkB X.env scope = true) : BlkOk X scope := by
 unfold blkB at h
 rw [List.all_eq_true] at h
 refine ⟨hk, fun x hx => ?_, fun x hx hf => ?_⟩
 ·have := h x hx
  simp only [Bool.and_eq_true, Bool.or_eq_true, bne_iff_ne, beq_iff_eq] at this
  exact this.1
 ·have := h x hx
  simp only [Bool.and_eq_true, Bool.or_eq_true, bne_iff_ne, beq_iff_eq] at this
  exact (this.2).resolve_left (fun z => z hf)
def capB (names : List (Str × NameKind)) (N XN : List Str) (cap : List Nat) (t : Nat) : Bool := N.length == cap.length + t && (cap.zip N).all fun p => XN[p.1]? == some p.2 && names.lookup p.2 == some .free
theorem zlB (h : capB scope.names N X.N cap t = true) : Cap X scope N (capσ cap t) := by
 unfold capB at h
 rw [Bool.and_eq_true, List.all_eq_true] at h
 obtain ⟨hl, h⟩ := h
 have hl : N.length = cap.length + t := by simpa using hl
 have key : ∀ (σ : St) (i : Nat) (x : Str) (v : V), N[i]? = some x -> (capσ cap t σ)[i]? = some (some v) -> ∃ j, cap[i]? = some j /\ σ[j]? = some (some v) /\ X.N[j]? = some x /\ scope.names.lookup x = some .free := fun σ i x v h1 h2 => by
  unfold capσ at h2
  by_cases hi : i < cap.length
  ·rw [List.getElem?_append_left (by simpa using hi), List.getElem?_map, List.getElem?_eq_getElem hi] at h2
   have h3 : (σ[cap[i]]?).join = some v := by simpa using h2
   have hz : (cap[i], x) ∈ cap.zip N := by
    refine List.mem_of_getElem? (i := i) ?_
    rw [List.getElem?_zip_eq_some]
    exact ⟨List.getElem?_eq_getElem hi, h1⟩
   have := h _ hz
   simp only [Bool.and_eq_true, beq_iff_eq] at this
   refine ⟨cap[i], List.getElem?_eq_getElem hi, ?_, this.1, this.2⟩
   cases q : σ[cap[i]]? with
   | none => rw [q] at h3; cases h3
   | some o => rw [q] at h3; rw [show o = some v from h3]
  ·rw [List.getElem?_append_right (by simpa using hi), List.getElem?_replicate] at h2
   split at h2 <;> cases h2
 refine ⟨fun σ => by unfold capσ; simp [hl], fun σ i x v h1 h2 => ?_, fun σ i x v h1 h2 z => ?_⟩
 ·obtain ⟨j, _, a, b, c⟩ := key σ i x v h1 h2
  exact ⟨zgz c, j, b, a⟩
 ·obtain ⟨j, _, a, b, c⟩ := key σ i x v h1 h2
  have e : (relabel scope X.env).names.lookup x = (scope.names.lookup x).map fun k => if (k == NameKind.free && X.env.scope.kind == .function && X.env.kindOf x == some .cell) then NameKind.cell else k := zel
  rw [e, c] at z
  simp only [Option.map_some, Option.some.injEq] at z
  split at z <;> cases z
structure LcV (K : W.Frag) (g : D -> R -> Option R) (mt : MT) (me : ME) (items all : List D) (G2 H1 : Hp) (DD : Addr) (i : Nat) (σc : St) (Hc Gc : Hp) (ρc : R) (acc : List D) (xs : List V) (rest : List D) (ρe : R) : Prop where
 fc : Fz G2 Gc
 fcH : Fz Gc Hc
 nw : ∀ b o, Gc b = some o -> G2 b ≠ none \/ H1 b = none
 kp : ∀ b o, H1 b = some o -> Hc b = some o
 gD : Gc DD = none
 hDc : Hc DD = some (.lst xs)
 ra : RepL K Gc xs acc
 hx : xs.length <= i
 vs : VS K Gc σc ρc
 ec : zft (znw g mt me) (items.drop i) ρc = some (rest, ρe)
 eall : all = acc ++ rest
section
variable {X : Cx} {elt iter tg : Expr} {ifs : List Expr} {scope : Scope} {pos : Pos} {N : List Str} {cap : List Nat} {t : Nat} {mi : MA} {g : D -> R -> Option R} {mt : MT} {me : ME}
theorem znf 
  (si : ∀ B G H σ ρ ds ρ' (Q : It -> Hp -> Prop), SI X.K B G H σ ρ -> mi ρ = some (ds, ρ') -> (∀ J G' H', SI X.K B G' H' σ ρ' -> Fz G G' -> Itm X.K J G' ds -> Q J H') -> wi σ H Q)
  (sg : ∀ C s H₀ fp B G H σ ρ v d ρ' (Q : St -> Hp -> Prop), SI X.K B G H σ ρ -> RepD X.K G v d -> g d ρ = some ρ' -> (∀ G' H' σ', SI X.K B G' H' σ' ρ' -> Fz G G' -> Q σ' H') -> tg' C s H₀ fp v σ H Q)
  (st : ∀ C s H₀ fp B G H σ ρ d ρ' (Q : Bool -> Hp -> Prop), SI X.K B G H σ ρ -> mt ρ = some (d, ρ') -> (∀ G' H', SI X.K B G' H' σ ρ' -> Fz G G' -> Q d H') -> tt C s H₀ fp σ H Q)
  (se : ∀ C s H₀ fp B G H σ ρ d ρ' (Q : VK), SI X.K B G H σ ρ -> me ρ = some (d, ρ') -> (∀ G' H' v, SI X.K B G' H' σ ρ' -> Fz G G' -> RepD X.K G' v d -> Q v H') -> te C s H₀ fp σ H Q) :
  ∀ B G H σ ρ ds ρ' (Q : VK), SI X.K B G H σ ρ -> oLC cap t mi g mt me ρ = some (ds, ρ') ->
   (∀ G' H' l xs, SI X.K B G' H' σ ρ' -> Fz G G' -> G' l = none -> H' l = some (.lst xs) -> RepL X.K G' xs ds -> B.H l = none -> Nw X.K G' H' σ ρ' l -> Q (.ref l) H') -> tLC (capσ cap t) wi tg' tt te σ H Q := by
 intro B G H σ ρ ds ρ' Q I hm k
 obtain ⟨⟨items, ρ1⟩, e1, hm⟩ := zaf hm
 refine si B G H σ ρ items ρ1 _ I e1 fun J G1 H1 I1 f1 IT DD hD => ?_
 dsimp only at hm
 split at hm
 ·rename_i hlen
  obtain ⟨⟨all, ρf⟩, e2, e3⟩ := zay hm
  obtain ⟨rfl, rfl⟩ := Prod.mk.inj e3
  obtain ⟨G2, I2, f2⟩ := SI.fzL cap I1
  have hDG : G2 DD = none := I2.fz.free hD
  refine ⟨fun i m σc Hc => m = items.length - i /\ i <= items.length /\ ∃ Gc ρc acc xs rest ρe, LcV X.K g mt me items all G2 H1 DD i σc Hc Gc ρc acc xs rest ρe,
   ⟨items.length, by simp, Nat.zero_le _, G2, capR cap t (M.fzL cap ρ1), [], [], all, ρf, { fc := Fz.refl _, fcH := I2.fz.right hDG _, nw := fun b o e => .inl (by rw [e]; simp), kp := fun b o e => by rw [zaw (zaP e hD)]; exact e, gD := hDG, hDc := zaI, ra := .nil, hx := Nat.le_refl _, vs := cap_vs I2 cap t, ec := by simpa using e2, eall := rfl }⟩, ?_⟩
  rintro i m σc Hc ⟨rfl, hi, Gc, ρc, acc, xs, rest, ρe, J0⟩
  obtain ⟨fc, fcH, nw, kp, gD, hDc, ra, hx, vs, ec, eall⟩ := J0
  by_cases hlt : i < items.length
  ·refine .inr ⟨IT.go Hc i (f2.trans (fc.trans fcH)) hlt, fun C s₀ H₀ fp x H' y => ?_⟩
   rw [List.drop_eq_getElem_cons hlt] at ec
   simp only [zft] at ec
   obtain ⟨⟨o, ρ3⟩, h3, ec⟩ := zaf ec
   obtain ⟨⟨rest2, ρ4⟩, h4, ec⟩ := zay ec
   obtain ⟨rfl, rfl⟩ := Prod.mk.inj ec
   dsimp only at h4
   unfold znw at h3
   obtain ⟨ρ5, h5, h3⟩ := zaf h3
   obtain ⟨⟨ok, ρ6⟩, h6, h3⟩ := zaf h3
   dsimp only at h3
   have Ic : SI X.K ⟨Gc, Hc, []⟩ Gc Hc σc ρc := vs.si fcH
   have fz2 : Fz G1 Hc := f2.trans (fc.trans fcH)
   have yy := IT.yld Hc i x H' fz2 y items[i] (List.getElem?_eq_getElem hlt)
   have yy2 : (H' = Hc /\ RepD X.K Gc x items[i]) \/ ∃ p xs es, Hc p = none /\ H' = upd Hc p (.tup xs) /\ x = .ref p /\ items[i] = .tup es /\ RepL X.K Gc xs es := by
    rcases yy with ⟨a, b⟩ | ⟨p, xs, es, a, b, c, d, e⟩
    ·exact .inl ⟨a, b.mono (f2.trans fc)⟩
    ·exact .inr ⟨p, xs, es, a, b, c, d, e.mono (f2.trans fc)⟩
   obtain ⟨G3, I3, f3, r3⟩ := Ic.yld yy2
   refine sg C s₀ H₀ fp _ G3 H' σc ρc x items[i] ρ5 _ I3 r3 h5 fun G4 H4 σ4 I4 f4 => st C s₀ H₀ fp _ G4 H4 σ4 ρ5 ok ρ6 _ I4 h6 fun G5 H5 I5 f5 => ?_
   have facts : ∀ (G' H' : Hp) (σ' : St) (ρ' : R), SI X.K ⟨Gc, Hc, []⟩ G' H' σ' ρ' -> (∀ b o, G' b = some o -> G2 b ≠ none \/ H1 b = none) /\ (∀ b o, H1 b = some o -> H' b = some o) /\ G' DD = none /\ H' DD = some (.lst xs) := fun G' H' σ' ρ' I' => by
    refine ⟨fun b o e => ?_, fun b o e => I'.keep b o (kp b o e) (by simp), ?_, I'.keep DD _ hDc (by simp)⟩
    ·rcases I'.new b o e with h | h
     ·have h : Gc b ≠ none := h
      cases q : Gc b with
      | none => exact absurd q h
      | some u => exact nw b u q
     ·refine .inr ?_
      cases q : H1 b with
      | none => rfl
      | some u => have := kp b u q; rw [show Hc b = none from h] at this; cases this
    ·cases q : G' DD with
     | none => rfl
     | some u =>
      rcases I'.new DD u q with h | h
      ·exact absurd gD h
      ·rw [show Hc DD = none from h] at hDc; cases hDc
   cases ok with
   | false =>
    simp only [Bool.false_eq_true, if_false] at h3
    split at h3
    ·rename_i hno
     cases h3
     obtain ⟨a1, a2, a3, a4⟩ := facts G5 H5 σ4 _ I5
     exact ⟨items.length - (i + 1), by omega, rfl, hlt, G5, _, acc, xs, rest2, ρ4, { fc := fc.trans (f3.trans (f4.trans f5)), fcH := I5.fz, nw := a1, kp := a2, gD := a3, hDc := a4, ra := ra.mono (f3.trans (f4.trans f5)), hx := by omega, vs := VS.of I5 hno, ec := h4, eall := by simpa using eall }⟩
    ·cases h3
   | true =>
    simp only [if_true] at h3 ⊢
    obtain ⟨⟨dv, ρ7⟩, h7, h3⟩ := zaf h3
    dsimp only at h3
    split at h3
    ·rename_i hno
     cases h3
     refine se C s₀ H₀ fp _ G5 H5 σ4 ρ6 dv _ _ I5 h7 fun G6 H6 v I6 f6 r6 => ?_
     obtain ⟨a1, a2, a3, a4⟩ := facts G6 H6 σ4 _ I6
     have ff : Fz Gc G6 := f3.trans (f4.trans (f5.trans f6))
     exact ⟨xs, a4, by rw [sizeLine_eq]; omega, items.length - (i + 1), by omega, rfl, hlt, G6, _, acc ++ [dv], xs ++ [v], rest2, ρ4, { fc := fc.trans ff, fcH := I6.fz.right a3 _, nw := a1, kp := fun b o e => by rw [zaw (zaP e hD)]; exact a2 b o e, gD := a3, hDc := zaI, ra := (ra.mono ff).snoc r6, hx := by rw [List.length_append, List.length_singleton]; omega, vs := VS.of I6 hno, ec := h4, eall := by rw [eall]; simp }⟩
    ·cases h3
  ·have e : i = items.length := by omega
   subst e
   rw [List.drop_length] at ec
   cases ec
   have hall : all = acc := by rw [eall, List.append_nil]
   refine .inl ⟨IT.stop Hc _ (f2.trans (fc.trans fcH)) (Nat.le_refl _), ?_⟩
   rw [<- hall] at ra
   exact k Gc Hc DD xs (I2.grow fc fcH nw kp) (f1.trans (f2.trans fc)) gD hDc ra (I2.there DD hD) (I2.own_ne hD nw kp)
 ·cases hm
theorem zcO (cap : List Nat) (t : Nat) (N : List Str) (hc : X.calm = true) (hi : SIt X tg iter mi) (hg : ∀ C s H fp, SG (cxC X N scope C s H fp) tg g) (ht : ∀ C s H fp, STs (cxC X N scope C s H fp) ifs mt) (he : ∀ C s H fp, SE (cxC X N scope C s H fp) elt me)
    (hk : scope.kind = .function := by rfl) (hb : blkB X.env scope = true := by kernel_rfl) (hcap : capB scope.names N X.N cap t = true := by kernel_rfl)
    (hs : ∀ x, foldedSetIterable iter X.env x = pure x := by exact fun _ => rfl) : SO X (.ListComp elt [⟨tg, iter, ifs, 0⟩] scope pos) (oLC cap t mi g mt me) := by
  obtain ⟨wi, pi, si⟩ := hi
  exact ⟨_, pe_lc hc (zlo hk hb) (zlB hcap) pi (fun C s H fp => (hg C s H fp).choose_spec.1) (fun C s H fp => (ht C s H fp).choose_spec.1) (fun C s H fp => (he C s H fp).choose_spec.1) hs,
    znf si (fun C s H fp => (hg C s H fp).choose_spec.2) (fun C s H fp => (ht C s H fp).choose_spec.2) (fun C s H fp => (he C s H fp).choose_spec.2)⟩
end
section
variable {X : Cx} {elt iter tg : Expr} {ifs : List Expr} {scope : Scope} {pos lpos pos' : Pos} {N : List Str} {cap : List Nat} {t : Nat} {mi : MA} {g : D -> R -> Option R} {mt : MT} {me : ME}
theorem zj2 {σ0 : St -> St} (hN : X.N.Nodup) (hxi : X.N[i]? = some x) (hx : Loc X.env.scope x) (hf : X.fn x = true \/ X.env.scope.names.lookup x = some .local)
  (hsw : swapsWith (.ListComp elt [⟨tg, iter, ifs, 0⟩] scope lpos) (some (.Name x pos')) pos.line X.env = pure true) (hc : X.calm = true) (b : BlkOk X scope) (cap : Cap X scope N σ0) (hi : PI X tg iter wi) (hg : ∀ C s H fp, PG (cxC X N scope C s H fp) tg (tg' C s H fp)) (ht : ∀ C s H fp, PTs (cxC X N scope C s H fp) ifs (tt C s H fp)) (he : ∀ C s H fp, PE (cxC X N scope C s H fp) elt (te C s H fp))
  (hs : ∀ x, foldedSetIterable iter X.env x = pure x) : PS X (.Assign [.Name x pos'] (.ListComp elt [⟨tg, iter, ifs, 0⟩] scope lpos) pos) (fun E σ H => tLC σ0 wi tg' tt te σ H fun v H' => E.nx (σ.set i (some v)) H') := by
 intro pins s σ H E I h
 rw [exec_Assign_Name_used _ _ _ _ hsw]
 refine wpAny_bind (wpAny_standAt (wpAny_bind ?_))
 show wpAny _ _ (do let _ <- comprehension (.ListComp elt [⟨tg, iter, ifs, 0⟩] scope lpos) scope X.env _ (newList []) false (eval iter X.env) (some (assign (.Name x pos') X.env))) _ _ s
 refine wpAny_bind (thn (zoi (use := some (assign (.Name x pos') X.env)) (QQ := fun _ s' => SP X pins E .next s') (E := X.xe) hc b cap hi hg ht he I h hs ?_) fun _ s' hq => wpAny_pure (wpAny_pure hq))
 intro D fp C H1 H' σc s1 s' I1 f1 eC J q
 subst eC
 have I2 : Inv X pins σ H' s' := by
  have z := zol (h' := s'.heap) I1 f1 J (Heap.SameBut.refl _ _)
  exact z
 obtain ⟨m, ⟨o, es, ep, ho, hd, hrest⟩, _⟩ := J.loc
 have fpk : FpOk X pins H' s1.heap.objs.size := I1.fpOk (Nat.le_refl _) J.free
 have I3 : Inv X (pins ++ [(s1.heap.objs.size, o)]) σ H' s' := I2.pins_of fun p hp => by
  rcases List.mem_append.mp hp with hp | hp
  ·exact I2.pin p (List.mem_append_right _ hp)
  ·have e : p = (s1.heap.objs.size, o) := by simpa using hp
   subst e
   exact ⟨ho, fpk.1, fpk.2.1, fpk.2.2.1, fun v z => by rw [hd] at z; cases z⟩
 refine thn (zok hN hxi hx hf (pins ++ [(s1.heap.objs.size, o)]) s' σ H' (.ref D) (.ref D) (fun σ2 H2 => E.nx σ2 H2) I3 rfl q) fun _ s'' ⟨σ2, H2, I4, q4⟩ => ?_
 have pC := I4.pin (s1.heap.objs.size, o) (List.mem_append_right _ (List.mem_append_right _ (by simp)))
 refine ⟨m, ⟨o, es, ep, pC.1, hd, hrest⟩, fun h' hs' => ?_⟩
 have I5 : Inv X pins σ2 H2 s'' := I4.unpinned
 have fp2 : FpOk X pins H2 s1.heap.objs.size := I1.fpOk (Nat.le_refl _) pC.2.1
 have I6 := I5.turned (t' := s''.toks) (h' := h') (it := s1.heap.objs.size) (fun b' o' hb e => hs'.extBut b' o' hb e) fp2.1 fp2.2.1 fp2.2.2.2.1 fp2.2.2.2.2.1 fp2.2.2.2.2.2
 exact ⟨σ2, H2, I6, q4⟩
end
section
variable {X : Cx} {pins : List (Addr × Obj)} {σ : St} {H : Hp} {s : Shared}
theorem zhc {A : Around} {p : Addr} (hh : A.handled = none) (I : Inv X pins σ H s) (hq : SqL X.K H p ys \/ SqT X.K H p ys)
  (k : ∀ (its : List Value) (s₂ : Shared) (St : Nat -> Heap -> Prop), Vals ys its -> Walks X.prog X.w A s.heap.objs.size [s.heap.objs.size, p] [s.heap.objs.size] its.length (fun i v => its[i]? = some v) St -> St 0 s₂.heap -> (∀ b ∈ [s.heap.objs.size, p], b < s₂.heap.objs.size) ->
   (∀ h' tk, (∀ b o, b ∉ [s.heap.objs.size] -> s₂.heap.get? b = some o -> h'.get? b = some o) -> Inv X pins σ H { s₂ with heap := h', toks := tk }) -> Q (.ref s.heap.objs.size) s₂) : wpAny (model X.prog X.w) A (pyIter (.ref p)) Q E s := by
 have fin : ∀ (o : Obj), ∀ h' tk, (∀ b o', b ∉ [s.heap.objs.size] -> (s.heap.push o).get? b = some o' -> h'.get? b = some o') -> Inv X pins σ H { ({ s with heap := s.heap.push o } : Shared) with heap := h', toks := tk } := fun o h' tk hk => by
  have z := I.kept (h' := h') (t' := tk) fun b o' e => hk b o' (by simpa using Nat.ne_of_lt (Heap.lt_size e)) (Heap.get?_push_of_some _ e)
  exact z
 rcases hq with hq | hq
 ·obtain ⟨its, r, pl, hz⟩ := I.list hq
  have hlt : p < s.heap.objs.size := by obtain ⟨_, _, e, _⟩ := pl; exact Heap.lt_size e
  refine wpAny_pyIter_list pl.isList (k its _ (fun i h => h.IsListIter s.heap.objs.size p i /\ h.IsList p its.toArray) r ?_ ⟨⟨_, Heap.get?_push_size _ rfl, rfl, rfl⟩, pl.isList.push _⟩ (fun b hb => ?_) (fin _))
  ·have w := Walks.list (prog := X.prog) (w := X.w) (A := A) hh s.heap.objs.size p (Nat.ne_of_lt hlt) its.toArray
   simpa using w
  ·show b < (s.heap.push _).objs.size
   rw [Heap.size_push]
   simp at hb
   rcases hb with z | z
   ·rw [z]; exact Nat.lt_succ_self _
   ·rw [z]; exact Nat.lt_succ_of_lt hlt
 ·obtain ⟨its, r, pl, hz⟩ := I.tuple hq
  have hlt : p < s.heap.objs.size := pl.lt
  refine wpAny_pyIter_tuple (show s.heap.IsTuple p its.toArray from pl) (k its _ (fun i h => h.IsTupleIter s.heap.objs.size p i /\ h.IsTuple p its.toArray) r ?_ ⟨⟨_, Heap.get?_push_size _ rfl, rfl, rfl⟩, (show s.heap.IsTuple p its.toArray from pl).push _⟩ (fun b hb => ?_) (fin _))
  ·have w := Walks.tuple (prog := X.prog) (w := X.w) (A := A) hh s.heap.objs.size p (Nat.ne_of_lt hlt) its.toArray
   simpa using w
  ·show b < (s.heap.push _).objs.size
   rw [Heap.size_push]
   simp at hb
   rcases hb with z | z
   ·rw [z]; exact Nat.lt_succ_self _
   ·rw [z]; exact Nat.lt_succ_of_lt hlt
end
theorem zjE (ns : List Int) : ∀ j, preSum (fun i => ns.getD i 0) j = (ns.take j).sum
 | 0 => by simp [preSum]
 | j + 1 => by
  rw [preSum, zjE ns j]
  by_cases h : j < ns.length
  ·rw [List.take_succ_eq_append_getElem h, List.sum_append]
   simp [h]
  ·rw [List.take_of_length_le (by omega), List.take_of_length_le (by omega)]
   simp [List.getElem?_eq_none (by omega : ns.length <= j)]
theorem zhs (r : Vals (ns.map V.int) its) {v : Value} (e : its[i]? = some v) : ∃ t, v = .int (ns.getD i 0) t := by
 have hl := r.length
 have hi : i < its.length := (List.getElem?_eq_some_iff.mp e).1
 rw [List.length_map] at hl
 have e2 : (ns.map V.int)[i]? = some (.int ns[i]) := by rw [List.getElem?_map, List.getElem?_eq_getElem (by omega)]; rfl
 obtain ⟨u, h1, t, h2⟩ := r.get e2
 rw [e] at h1; cases h1
 exact ⟨t, by rw [h2]; simp [show i < ns.length by omega]⟩
def rSum (K : W.Frag) : List V -> Hp -> VK -> Prop := fun xs H Q => ∃ (p : Addr) (ns : List Int), xs = [.ref p] /\ (SqL K H p (ns.map V.int) \/ SqT K H p (ns.map V.int)) /\ Q (.int ns.sum) H
theorem zpJ (hc : X.calm = true) : zgq X (.builtin "sum") (rSum X.K) := by
 intro pins s σ H xs us Q I r h
 obtain ⟨p, ns, rfl, hq, q⟩ := h
 obtain ⟨u, rfl, ru⟩ := zjn r
 cases ru
 refine call_sum_walkG (zhc (A := X.A.in1) (I.ok.hd hc) I hq fun its s₂ St rv W st hfp fin => ?_)
 refine ⟨_, _, _, _, _, _, fun i => ns.getD i 0, rfl, W, st, hfp, fun i v e => zhs rv e, fun h' tk t' hk => ⟨.int ns.sum, H, fin h' tk hk, ⟨t', ?_⟩, q⟩⟩
 have hl := rv.length
 rw [List.length_map] at hl
 rw [zjE, <- hl, List.take_of_length_le (Nat.le_refl _)]
noncomputable def zcz : List D -> Option (List Int)
 | [] => some []
 | .int i :: ds => (zcz ds).map (i :: ·)
 | _ => none
theorem zhj : ∀ {ds : List D} {ns : List Int}, zcz ds = some ns -> ds = ns.map .int
 | [], ns, h => by cases h; rfl
 | d :: ds, ns, h => by
  cases d <;> simp only [zcz] at h <;> try cases h
  obtain ⟨ms, e1, e2⟩ := zay h
  subst e2
  rw [zhj e1]; rfl
@[simp] theorem intsOf_map : ∀ (ns : List Int), zcz (ns.map .int) = some ns
 | [] => rfl
 | n :: ns => by simp [zcz, intsOf_map ns]
noncomputable def dSum : List D -> Option D
 | [d] => (zaW [d]).bind fun ds => (zcz ds).map fun ns => .int ns.sum
 | _ => none
theorem ziF (I : SI K B G H σ ρ) {x : V} (r : RepD K G x d) (e : zaW [d] = some ds) : ∃ p ys, x = .ref p /\ (SqL K H p ys \/ SqT K H p ys) /\ RepL K G ys ds := by
 cases d <;> simp only [zaW] at e <;> try cases e
 ·obtain ⟨p, ys, ex, hp, q⟩ := I.lst r
  exact ⟨p, ys, ex, .inl (SqL.of hp), q⟩
 ·obtain ⟨p, ys, ex, hp, q⟩ := I.tup r
  exact ⟨p, ys, ex, .inr (SqT.of hp), q⟩
 ·obtain ⟨p, ex, hp⟩ := r
  exact ⟨p, _, ex, .inl (I.fz.sql hp), RepL.ints _⟩
theorem vc_sum : VC X (rSum X.K) dSum := by
 intro B G H σ ρ xs ds d Q I r hf k
 match ds, hf with
 | [a], hf =>
  obtain ⟨es, e1, hf⟩ := zaf hf
  obtain ⟨ns, e2, e3⟩ := zay hf
  subst e3
  obtain ⟨x, rfl, ra⟩ := r.one
  obtain ⟨p, ys, rfl, hq, ry⟩ := ziF I ra e1
  rw [zhj e2] at ry
  rw [RepL.ints_eq ry] at hq
  exact ⟨p, ns, rfl, hq, k G H _ I (Fz.refl G) rfl⟩
 | [], hf => cases hf
 | _ :: _ :: _, hf => cases hf
theorem zd2 (hc : X.calm = true) (ml : X.mg "sum" = none) (ha : SA X [e] ma) (hg : Gl X "sum" := by rfl) (he : starEach [e] X.env = (false, eval e X.env) :: starEach [] X.env := by rfl) : SE X (.Call (.Name "sum" p) [e] [] pos) (mC dSum ma) :=
 zd8 (zpJ hc) vc_sum (by decide +kernel) ml ha hg (by decide) (by decide) he rfl
noncomputable def zeV : List D -> Option (List Bool)
 | [] => some []
 | .bl b :: ds => (zeV ds).map (b :: ·)
 | _ => none
theorem zjO : ∀ {ds : List D} {bs : List Bool}, zeV ds = some bs -> ds = bs.map .bl
 | [], ns, h => by cases h; rfl
 | d :: ds, ns, h => by
  cases d <;> simp only [zeV] at h <;> try cases h
  obtain ⟨ms, e1, e2⟩ := zay h
  subst e2
  rw [zjO e1]; rfl
@[simp] theorem boolsOf_map : ∀ (bs : List Bool), zeV (bs.map .bl) = some bs
 | [] => rfl
 | n :: ns => by simp [zeV, boolsOf_map ns]
theorem RepL.bools_eq : ∀ {bs : List Bool} {xs : List V}, RepL K G xs (bs.map D.bl) -> xs = bs.map V.bl
 | [], _, e => e
 | n :: ns, _, ⟨x, ys, e, q, r⟩ => by subst e; cases (show x = V.bl n from q); rw [RepL.bools_eq r]; rfl
theorem zlD {bs : List Bool} (r : Vals (bs.map V.bl) its) {v : Value} (e : its[i]? = some v) : ∃ b, bs[i]? = some b /\ v = .bool b := by
 have hl := r.length
 have hi : i < its.length := (List.getElem?_eq_some_iff.mp e).1
 rw [List.length_map] at hl
 have e2 : (bs.map V.bl)[i]? = some (.bl bs[i]) := by rw [List.getElem?_map, List.getElem?_eq_getElem (by omega)]; rfl
 obtain ⟨u, h1, h2⟩ := r.get e2
 rw [e] at h1; cases h1
 exact ⟨bs[i], List.getElem?_eq_getElem (by omega), h2⟩
def rAll (K : W.Frag) (f : List Bool -> Bool) : List V -> Hp -> VK -> Prop := fun xs H Q => ∃ (p : Addr) (bs : List Bool), xs = [.ref p] /\ (SqL K H p (bs.map V.bl) \/ SqT K H p (bs.map V.bl)) /\ Q (.bl (f bs)) H
theorem zoj (hc : X.calm = true) : zgq X (.builtin "all") (rAll X.K fun bs => bs.all id) := by
 intro pins s σ H xs us Q I r h
 obtain ⟨p, bs, rfl, hq, q⟩ := h
 obtain ⟨u, rfl, ru⟩ := zjn r
 cases ru
 refine call_all_walk (zhc (A := X.A.in1) (I.ok.hd hc) I hq fun its s₂ St rv W st hfp fin => ?_)
 have hl := rv.length
 rw [List.length_map] at hl
 refine ⟨_, _, _, _, _, _, fun i => (bs[i]?).getD true, rfl, W, st, fun i v s' Q' E' hP hQ => ?_, fun h' tk hk => ⟨.bl (bs.all id), H, fin h' tk hk, ?_, q⟩⟩
 ·obtain ⟨b, e, rfl⟩ := zlD rv hP
  simp only [e, Option.getD_some] at hQ
  exact wpAny_truthy_bool hQ
 ·rw [<- hl, LSm.range_all]; rfl
theorem zoh (hc : X.calm = true) : zgq X (.builtin "any") (rAll X.K fun bs => bs.any id) := by
 intro pins s σ H xs us Q I r h
 obtain ⟨p, bs, rfl, hq, q⟩ := h
 obtain ⟨u, rfl, ru⟩ := zjn r
 cases ru
 refine call_any_walk (zhc (A := X.A.in1) (I.ok.hd hc) I hq fun its s₂ St rv W st hfp fin => ?_)
 have hl := rv.length
 rw [List.length_map] at hl
 refine ⟨_, _, _, _, _, _, fun i => (bs[i]?).getD false, rfl, W, st, fun i v s' Q' E' hP hQ => ?_, fun h' tk hk => ⟨.bl (bs.any id), H, fin h' tk hk, ?_, q⟩⟩
 ·obtain ⟨b, e, rfl⟩ := zlD rv hP
  simp only [e, Option.getD_some] at hQ
  exact wpAny_truthy_bool hQ
 ·rw [<- hl, LSm.range_any]; rfl
noncomputable def dAll (f : List Bool -> Bool) : List D -> Option D
 | [d] => (zaW [d]).bind fun ds => (zeV ds).map fun bs => .bl (f bs)
 | _ => none
theorem vc_all (f : List Bool -> Bool) : VC X (rAll X.K f) (dAll f) := by
 intro B G H σ ρ xs ds d Q I r hf k
 match ds, hf with
 | [a], hf =>
  obtain ⟨es, e1, hf⟩ := zaf hf
  obtain ⟨ns, e2, e3⟩ := zay hf
  subst e3
  obtain ⟨x, rfl, ra⟩ := r.one
  obtain ⟨p, ys, rfl, hq, ry⟩ := ziF I ra e1
  rw [zjO e2] at ry
  rw [RepL.bools_eq ry] at hq
  exact ⟨p, ns, rfl, hq, k G H _ I (Fz.refl G) rfl⟩
 | [], hf => cases hf
 | _ :: _ :: _, hf => cases hf
theorem zlJ (hc : X.calm = true) (ml : X.mg "all" = none) (ha : SA X [e] ma) (hg : Gl X "all" := by rfl) (he : starEach [e] X.env = (false, eval e X.env) :: starEach [] X.env := by rfl) : SE X (.Call (.Name "all" p) [e] [] pos) (mC (dAll fun bs => bs.all id) ma) :=
 zd8 (zoj hc) (vc_all _) (by decide +kernel) ml ha hg (by decide) (by decide) he rfl
theorem se_any (hc : X.calm = true) (ml : X.mg "any" = none) (ha : SA X [e] ma) (hg : Gl X "any" := by rfl) (he : starEach [e] X.env = (false, eval e X.env) :: starEach [] X.env := by rfl) : SE X (.Call (.Name "any" p) [e] [] pos) (mC (dAll fun bs => bs.any id) ma) :=
 zd8 (zoh hc) (vc_all _) (by decide +kernel) ml ha hg (by decide) (by decide) he rfl
noncomputable def d2I (g : Int -> Int -> Int) : List D -> Option D
 | [.int i, .int j] => some (.int (g i j))
 | _ => none
theorem vc_2I (g : Int -> Int -> Int) : VC X (fun xs H Q => ∃ i j, xs = [.int i, .int j] /\ Q (.int (g i j)) H) (d2I g) := by
 intro B G H σ ρ xs ds d Q I r hf k
 unfold d2I at hf
 split at hf
 ·rename_i i j
  cases hf
  obtain ⟨x, y, rfl, rx, ry⟩ := r.two
  cases (show x = V.int i from rx)
  cases (show y = V.int j from ry)
  exact ⟨i, j, rfl, k G H _ I (Fz.refl G) rfl⟩
 ·cases hf
def max2 (i j : Int) : Int := if j > i then j else i
def min2 (i j : Int) : Int := if j < i then j else i
theorem zoA (hc : X.calm = true) (ml : X.mg "max" = none) (ha : SA X [a, b] ma) (hg : Gl X "max" := by rfl) (he : starEach [a, b] X.env = (false, eval a X.env) :: starEach [b] X.env := by rfl) (hpl : (backTo pos (starEach [b] X.env)).any (·.1) = false := by rfl) : SE X (.Call (.Name "max" p) [a, b] [] pos) (mC (d2I max2) ma) :=
 zd8 (zpS hc) (vc_2I max2) (by decide +kernel) ml ha hg (by decide) (by decide) he hpl
theorem se_min2 (hc : X.calm = true) (ml : X.mg "min" = none) (ha : SA X [a, b] ma) (hg : Gl X "min" := by rfl) (he : starEach [a, b] X.env = (false, eval a X.env) :: starEach [b] X.env := by rfl) (hpl : (backTo pos (starEach [b] X.env)).any (·.1) = false := by rfl) : SE X (.Call (.Name "min" p) [a, b] [] pos) (mC (d2I min2) ma) :=
 zd8 (zo2 hc) (vc_2I min2) (by decide +kernel) ml ha hg (by decide) (by decide) he hpl
theorem ziu (K : W.Frag) : W.kitOne K (.type "NoneType") (.type "int") = some false := by kernel_rfl
theorem zhY (K : W.Frag) : W.kitOne K (.type "NoneType") (.type "bool") = some false := by kernel_rfl
theorem zhr (K : W.Frag) : W.kitOne K (.type "NoneType") (.type "tuple") = some false := by kernel_rfl
theorem zh2 (K : W.Frag) : W.kitOne K (.type "NoneType") (.type "list") = some false := by kernel_rfl
theorem ziy (K : W.Frag) : W.kitOne K (.type "NoneType") (.type "str") = some false := by kernel_rfl
theorem zk4 (K : W.Frag) : W.kitOne K (.type "bool") (.type "int") = some true := by kernel_rfl
theorem zkM (K : W.Frag) : W.kitOne K (.type "bool") (.type "bool") = some true := by kernel_rfl
theorem zjs (K : W.Frag) : W.kitOne K (.type "bool") (.type "tuple") = some false := by kernel_rfl
theorem zj5 (K : W.Frag) : W.kitOne K (.type "bool") (.type "list") = some false := by kernel_rfl
theorem zkW (K : W.Frag) : W.kitOne K (.type "bool") (.type "str") = some false := by kernel_rfl
theorem zmc (K : W.Frag) : W.kitOne K (.type "int") (.type "int") = some true := by kernel_rfl
theorem zla (K : W.Frag) : W.kitOne K (.type "int") (.type "bool") = some false := by kernel_rfl
theorem zkC (K : W.Frag) : W.kitOne K (.type "int") (.type "tuple") = some false := by kernel_rfl
theorem zk3 (K : W.Frag) : W.kitOne K (.type "int") (.type "list") = some false := by kernel_rfl
theorem zmg (K : W.Frag) : W.kitOne K (.type "int") (.type "str") = some false := by kernel_rfl
theorem zml (K : W.Frag) : W.kitOne K (.type "str") (.type "int") = some false := by kernel_rfl
theorem zlH (K : W.Frag) : W.kitOne K (.type "str") (.type "bool") = some false := by kernel_rfl
theorem zkB (K : W.Frag) : W.kitOne K (.type "str") (.type "tuple") = some false := by kernel_rfl
theorem zlI (K : W.Frag) : W.kitOne K (.type "str") (.type "list") = some false := by kernel_rfl
theorem zl2 (K : W.Frag) : W.kitOne K (.type "str") (.type "str") = some true := by kernel_rfl
theorem zlf (K : W.Frag) : W.kitOne K (.type "list") (.type "int") = some false := by kernel_rfl
theorem zkb (K : W.Frag) : W.kitOne K (.type "list") (.type "bool") = some false := by kernel_rfl
theorem zjq (K : W.Frag) : W.kitOne K (.type "list") (.type "tuple") = some false := by kernel_rfl
theorem zjX (K : W.Frag) : W.kitOne K (.type "list") (.type "list") = some true := by kernel_rfl
theorem zln (K : W.Frag) : W.kitOne K (.type "list") (.type "str") = some false := by kernel_rfl
theorem zkD (K : W.Frag) : W.kitOne K (.type "tuple") (.type "int") = some false := by kernel_rfl
theorem zjw (K : W.Frag) : W.kitOne K (.type "tuple") (.type "bool") = some false := by kernel_rfl
theorem ziT (K : W.Frag) : W.kitOne K (.type "tuple") (.type "tuple") = some true := by kernel_rfl
theorem zju (K : W.Frag) : W.kitOne K (.type "tuple") (.type "list") = some false := by kernel_rfl
theorem zkf (K : W.Frag) : W.kitOne K (.type "tuple") (.type "str") = some false := by kernel_rfl
def isI (T : String) : D -> Bool
 | .non => false
 | .bl _ => T == "bool" || T == "int"
 | .int _ => T == "int"
 | .str _ => T == "str"
 | .lst _ => T == "list"
 | .tup _ => T == "tuple"
 | .scr _ => T == "list"
 | .exc _ => false
 | .dic _ _ => false
 | .dit _ _ => false
def okT (T : String) : Bool := ["int", "bool", "tuple", "list", "str"].contains T
def rIsI (K : W.Frag) (T : String) : List V -> Hp -> VK -> Prop := fun xs H Q => ∃ x t b, xs = [x, .ty T] /\ TyOf K H x t /\ W.kitOne K t (.type T) = some b /\ Q (.bl b) H
theorem call_isI (T : String) : zgq X (.builtin "isinstance") (rIsI X.K T) := by
 intro pins s σ H xs us Q I r h
 obtain ⟨x, t, b, rfl, ty, e, q⟩ := h
 obtain ⟨u, w', rfl, r1, r2⟩ := vals2 r
 cases (show w' = Value.type T from r2)
 exact zoV I r1 ty e fun tk => ⟨.bl b, H, I.tok _, rfl, q⟩
noncomputable def eIsI (T : String) (ma : ME) : ME := fun ρ => (ma ρ).bind fun p => if okT T && noS1 p.1 then some (.bl (isI T p.1), p.2) else none
where noS1 : D -> Bool
 | .scr _ => false
 | .exc _ => false
 | .dic _ _ => false
 | .dit _ _ => false
 | _ => true
theorem kit_all (K : W.Frag) {T : String} (hT : okT T = true) : W.kitOne K (.type "NoneType") (.type T) = some false /\ W.kitOne K (.type "bool") (.type T) = some (T == "bool" || T == "int") /\ W.kitOne K (.type "int") (.type T) = some (T == "int") /\
  W.kitOne K (.type "str") (.type T) = some (T == "str") /\ W.kitOne K (.type "list") (.type T) = some (T == "list") /\ W.kitOne K (.type "tuple") (.type T) = some (T == "tuple") := by
 have h : T = "int" \/ T = "bool" \/ T = "tuple" \/ T = "list" \/ T = "str" := by simpa [okT] using hT
 rcases h with rfl | rfl | rfl | rfl | rfl
 ·exact ⟨ziu K, zk4 K, zmc K, zml K, zlf K, zkD K⟩
 ·exact ⟨zhY K, zkM K, zla K, zlH K, zkb K, zjw K⟩
 ·exact ⟨zhr K, zjs K, zkC K, zkB K, zjq K, ziT K⟩
 ·exact ⟨zh2 K, zj5 K, zk3 K, zlI K, zjX K, zju K⟩
 ·exact ⟨ziy K, zkW K, zmg K, zl2 K, zln K, zkf K⟩
theorem zls {ma : ME} {p q pos : Pos} (T : String) (ml : X.mg "isinstance" = none) (mT : X.mg x = none) (hbT : bootBuiltins x = some (.type T)) (ha : SE X a ma) (hg : Gl X "isinstance" := by rfl) (hgT : Gl X x := by rfl) (hn : x ≠ "__name__" := by decide) (hd : (x == ("__debug__" : Str)) = false := by decide)
  (he : starEach [a, .Name x q] X.env = (false, eval a X.env) :: starEach [.Name x q] X.env := by rfl) (he2 : starEach [.Name x q] X.env = (false, eval (.Name x q) X.env) :: starEach [] X.env := by rfl) (hpl : (backTo pos (starEach [.Name x q] X.env)).any (·.1) = false := by rfl) :
  SE X (.Call (.Name "isinstance" p) [a, .Name x q] [] pos) (eIsI T ma) := by
 obtain ⟨ta, pa, sa⟩ := ha
 refine ⟨_, zkm (call_isI T) hg ml boot_isinstance (zen pa (zen (pe_bltn (v := .ty T) hgT mT hbT rfl hn hd) zjb he2) he) (by decide) (by decide) he hpl, fun B G H σ ρ d ρ' Q I hm k => ?_⟩
 obtain ⟨⟨y, ρ1⟩, e1, hm⟩ := zaf hm
 dsimp only at hm
 split at hm
 ·rename_i hT
  obtain ⟨rfl, rfl⟩ := Prod.mk.inj (Option.some.inj hm)
  rw [Bool.and_eq_true] at hT
  obtain ⟨hT, hS⟩ := hT
  refine sa B G H σ ρ y ρ1 _ I e1 fun G1 H1 v I1 f1 r1 => ?_
  obtain ⟨k0, k1, k2, k3, k4, k5⟩ := kit_all X.K hT
  have fin : ∀ t, TyOf X.K H1 v t -> W.kitOne X.K t (.type T) = some (isI T y) -> rIsI X.K T [v, .ty T] H1 Q := fun t ty e => ⟨v, t, isI T y, rfl, ty, e, k G1 H1 _ I1 f1 rfl⟩
  cases y with
  | non => cases (show v = V.non from r1); exact fin _ .non k0
  | bl c => cases (show v = V.bl c from r1); exact fin _ (.bl c) k1
  | int c => cases (show v = V.int c from r1); exact fin _ (.int c) k2
  | str c => cases (show v = V.str c from r1); exact fin _ (.str c) k3
  | lst ds => obtain ⟨a, xs, e, hp, r⟩ := I1.lst r1; subst e; exact fin _ (.lst hp) k4
  | tup ds => obtain ⟨a, xs, e, hp, r⟩ := I1.tup r1; subst e; exact fin _ (.tup hp) k5
  | scr _ => cases hS
  | exc _ => cases hS
  | dic _ _ => cases hS
  | dit _ _ => cases hS
 ·cases hm
def cutD {α : Type} (xs : List α) (lo hi : Option Int) : List α := (xs.drop (HT.sIx xs.length 0 lo)).take (HT.sIx xs.length xs.length hi - HT.sIx xs.length 0 lo)
theorem RepL.cut (h : RepL K G xs ds) (lo hi : Option Int) : RepL K G (cutV xs lo hi) (cutD ds lo hi) := by
 unfold cutV cutD
 rw [h.length]
 exact (h.drop _).take _
section
variable {prog : Program} {w : World} {A : Around} {E : Value -> Shared -> Prop} {s : Shared}
theorem zg1 {t sl : Addr} {items : Array Value} {vl vu : Value} {lo hi : Option Int} (ht : IsTup s.heap t items) (hs : s.heap.IsSliceOf sl vl vu .none) (pl : IsPart vl lo) (pu : IsPart vu hi)
  (hw : HT.sIx items.size 0 lo = 0 /\ HT.sIx items.size items.size hi = items.size) (h : Q (.ref t) s) : wpAny (model prog w) A (getItem (.ref t) (.ref sl)) Q E s := by
 obtain ⟨os, hos, hcs, hds⟩ := id hs
 have hTs : s.TypeIs (.ref sl) "slice" := ⟨os, hos, hcs⟩
 unfold getItem
 try with_reducible refine wpAny_holding ?_
 first | refine wpAny_bind (wpAny_pure ?_) | skip
 refine wpAny_bind (wpAny_sequenceKey ht.typeIs (by decide) ?_)
 refine wpAny_bind (wpAny_callSpecial?_slot (name := Str.ofString "__getitem__") ht.typeIs PyProof.Rows.slot_tuple_getitem
  (wpAny_call_entry PyProof.Rows.slot_tuple_getitem ht.typeIs entry_tuple_getitem ?_ (args_tuple_getitem _ _)))
 show wpAny _ _ (Builtin.Tuple.tupleItemsOf (.ref t) >>= _) _ _ s
 refine wpAny_bind (tupleItemsOf_ ht ?_)
 refine wpAny_bind (wpAny_typeOf hTs ?_)
 rw [if_pos (by decide)]
 refine wpAny_bind (HT.ze8 hs pl pu ?_)
 have hyes : (((HT.sIx items.size 0 lo : Nat) : Int) == 0 && (1 : Int) == 1 && (HT.sIx items.size items.size hi - HT.sIx items.size 0 lo) == items.size) = true := by
  rw [hw.1, hw.2]; simp
 show wpAny _ _ (if (((HT.sIx items.size 0 lo : Nat) : Int) == 0 && (1 : Int) == 1 && (HT.sIx items.size items.size hi - HT.sIx items.size 0 lo) == items.size) = true then _ else _) _ _ s
 rw [if_pos hyes]
 refine wpAny_bind (m := Builtin.Tuple.tupleIsExact _) ?_
 unfold Builtin.Tuple.tupleIsExact
 refine wpAny_bind (wpAny_typeOf ht.typeIs (wpAny_pure ?_))
 rw [if_pos (by decide)]
 refine wpAny_bind (wpAny_rule ?_)
 exact wpAny_pure ⟨_, rfl, wpAny_pure h⟩
end
def rSlTW (K : W.Frag) : V -> Option Int -> Option Int -> Hp -> VK -> Prop := fun x lo hi H Q => ∃ a xs, x = .ref a /\ SqT K H a xs /\ (HT.sIx xs.length 0 lo = 0 /\ HT.sIx xs.length xs.length hi = xs.length) /\ Q (.ref a) H
theorem sl_tupW : SlR X (rSlTW X.K) := by
 intro pins s σ H x v vl vu lo hi sl Q I rx hs pl pu h
 obtain ⟨a, xs, rfl, hx, hw, q⟩ := h
 cases rx
 obtain ⟨its, r, ht, hz⟩ := I.tuple hx
 have hlen : its.toArray.size = xs.length := by rw [List.size_toArray]; exact r.length.symm
 refine ⟨"tuple", _, PyProof.Rows.slot_tuple_getitem.lookup, ht.typeIs, ?_⟩
 exact zg1 ht hs pl pu (by rw [hlen]; exact hw) ⟨.ref a, H, I, rfl, q⟩
abbrev MP := R -> Option (Option Int × R)
def SPt (X : Cx) (e : Option Expr) (m : MP) : Prop := ∃ t, PO X e t /\ ∀ B G H σ ρ o ρ' (Q : Option Int -> Hp -> Prop), SI X.K B G H σ ρ -> m ρ = some (o, ρ') -> (∀ G' H', SI X.K B G' H' σ ρ' -> Fz G G' -> Q o H') -> t σ H Q
def pNo : MP := fun ρ => some (none, ρ)
noncomputable def zdH (m : ME) : MP := fun ρ => (m ρ).bind fun p => match p.1 with
 | .int i => some (some i, p.2)
 | _ => none
theorem zgE : SPt X none pNo := ⟨_, po_none, fun B G H σ ρ o ρ' Q I hm k => by cases hm; exact k G H I (Fz.refl G)⟩
theorem zbe {m : ME} (h : SE X e m) : SPt X (some e) (zdH m) := by
 obtain ⟨t, p, s⟩ := h
 refine ⟨_, po_some p, fun B G H σ ρ o ρ' Q I hm k => ?_⟩
 obtain ⟨⟨d, ρ1⟩, e1, hm⟩ := zaf hm
 refine s B G H σ ρ d ρ1 _ I e1 fun G1 H1 v I1 f1 r1 => ?_
 cases d <;> try cases hm
 rename_i i
 exact ⟨i, r1, k G1 H1 I1 f1⟩
noncomputable def dCut (d : D) (lo hi : Option Int) : Option D := match d with
 | .lst ds => some (.lst (cutD ds lo hi))
 | .tup ds => some (.tup (cutD ds lo hi))
 | .scr ns => some (.lst ((cutD ns lo hi).map .int))
 | _ => none
noncomputable def eCut (ma : ME) (ml mh : MP) : ME := fun ρ => (ma ρ).bind fun p => (ml p.2).bind fun q => (mh q.2).bind fun r => (dCut p.1 q.1 r.1).map fun d => (d, r.2)
theorem zpI (ns : List Int) (lo hi : Option Int) : cutV (ns.map V.int) lo hi = (cutD ns lo hi).map V.int := by
 unfold cutV cutD
 rw [List.length_map, <- List.map_drop, <- List.map_take]
theorem zd3 {lo hi : Option Expr} {ma : ME} {ml mh : MP} {pos p2 : Pos} (he : SE X e ma) (hl : SPt X lo ml) (hu : SPt X hi mh) : SE X (.Subscript e (.Slice lo hi none p2) pos) (eCut ma ml mh) := by
 obtain ⟨ta, pa, sa⟩ := he
 obtain ⟨tl, pl, sl⟩ := hl
 obtain ⟨th, ph, sh⟩ := hu
 refine ⟨_, pe_slice (sl_list.or (sl_tup.or sl_tupW)) pa pl ph, fun B G H σ ρ d ρ' Q I hm k => ?_⟩
 obtain ⟨⟨x, ρ1⟩, e1, hm⟩ := zaf hm
 obtain ⟨⟨l, ρ2⟩, e2, hm⟩ := zaf hm
 obtain ⟨⟨u, ρ3⟩, e3, hm⟩ := zaf hm
 obtain ⟨c, e4, e5⟩ := zay hm
 obtain ⟨rfl, rfl⟩ := Prod.mk.inj e5
 refine sa B G H σ ρ x ρ1 _ I e1 fun G1 H1 v I1 f1 r1 => sl B G1 H1 σ ρ1 l ρ2 _ I1 e2 fun G2 H2 I2 f2 => sh B G2 H2 σ ρ2 u ρ3 _ I2 e3 fun G3 H3 I3 f3 => ?_
 have r3 := r1.mono (f2.trans f3)
 dsimp only at e4
 cases x with
 | exc _ => cases e4
 | dic _ _ => cases e4
 | dit _ _ => cases e4
 | non => cases e4
 | bl _ => cases e4
 | int _ => cases e4
 | str _ => cases e4
 | lst ds =>
  cases e4
  obtain ⟨a, xs, rfl, ha, r⟩ := I3.lst r3
  refine .inl ⟨a, xs, rfl, SqL.of ha, fun p hp => ?_⟩
  obtain ⟨I4, f4, r4⟩ := I3.newL hp (r.cut l u)
  exact k _ _ _ I4 (f1.trans (f2.trans (f3.trans f4))) r4
 | tup ds =>
  cases e4
  obtain ⟨a, xs, rfl, ha, r⟩ := I3.tup r3
  by_cases hw : HT.sIx xs.length 0 l = 0 /\ HT.sIx xs.length xs.length u = xs.length
  ·refine .inr (.inr ⟨a, xs, rfl, SqT.of ha, hw, ?_⟩)
   have e : cutD ds l u = ds := by
    unfold cutD
    rw [<- r.length, hw.1, hw.2, List.drop_zero, Nat.sub_zero, List.take_of_length_le (by rw [r.length]; exact Nat.le_refl _)]
   rw [e] at k
   exact k G3 H3 _ I3 (f1.trans (f2.trans f3)) r3
  ·refine .inr (.inl ⟨a, xs, rfl, SqT.of ha, hw, fun p hp => ?_⟩)
   obtain ⟨I4, f4, r4⟩ := I3.newT hp (r.cut l u)
   exact k _ _ _ I4 (f1.trans (f2.trans (f3.trans f4))) r4
 | scr ns =>
  cases e4
  obtain ⟨a, rfl, ha⟩ := r3
  refine .inl ⟨a, _, rfl, I3.fz.sql ha, fun p hp => ?_⟩
  rw [zpI]
  obtain ⟨I4, f4, r4⟩ := I3.newL hp (RepL.ints (cutD ns l u))
  exact k _ _ _ I4 (f1.trans (f2.trans (f3.trans f4))) r4
theorem zjx (h : aLen ma n) : ∀ ρ as ρ', ma ρ = some (as, ρ') -> as.length + 1 = n + 1 := fun ρ as ρ' e => congrArg (· + 1) (h ρ as ρ' e)
section
variable {X : Cx} {elt iter tg : Expr} {ifs : List Expr} {scope : Scope} {pos lpos pos' : Pos} {N : List Str} {cap : List Nat} {t : Nat} {mi : MA} {g : D -> R -> Option R} {mt : MT} {me : ME}
theorem zhB (i : Nat) (cap : List Nat) (t : Nat) (N : List Str) (hc : X.calm = true) (hi : SIt X tg iter mi) (hg : ∀ C s H fp, SG (cxC X N scope C s H fp) tg g) (ht : ∀ C s H fp, STs (cxC X N scope C s H fp) ifs mt) (he : ∀ C s H fp, SE (cxC X N scope C s H fp) elt me) (hN : X.N.Nodup)
    (hxi : X.N[i]? = some x := by rfl) (hx : Loc X.env.scope x := by first | exact Or.inl rfl | exact Or.inr rfl) (hf : X.fn x = true \/ X.env.scope.names.lookup x = some .local := by first | exact Or.inl rfl | exact Or.inr rfl)
    (hsw : swapsWith (.ListComp elt [⟨tg, iter, ifs, 0⟩] scope lpos) (some (.Name x pos')) pos.line X.env = pure true := by rfl)
    (hk : scope.kind = .function := by rfl) (hb : blkB X.env scope = true := by kernel_rfl) (hcap : capB scope.names N X.N cap t = true := by kernel_rfl)
    (hs : ∀ x, foldedSetIterable iter X.env x = pure x := by exact fun _ => rfl) : SS X (.Assign [.Name x pos'] (.ListComp elt [⟨tg, iter, ifs, 0⟩] scope lpos) pos) (sSet i (eFz (oLC cap t mi g mt me))) := by
  obtain ⟨wi, pi, si⟩ := hi
  refine ⟨_, zj2 hN hxi hx hf hsw hc (zlo hk hb) (zlB hcap) pi (fun C s H fp => (hg C s H fp).choose_spec.1) (fun C s H fp => (ht C s H fp).choose_spec.1) (fun C s H fp => (he C s H fp).choose_spec.1) hs, fun B G H σ ρ fl ρ' E I hm k => ?_⟩
  obtain ⟨⟨d, ρ1⟩, e1, e3⟩ := zay hm
  obtain ⟨⟨ds, ρ2⟩, e4, e5⟩ := zay e1
  obtain ⟨rfl, rfl⟩ := Prod.mk.inj e5
  obtain ⟨rfl, rfl⟩ := Prod.mk.inj e3
  refine znf si (fun C s H fp => (hg C s H fp).choose_spec.2) (fun C s H fp => (ht C s H fp).choose_spec.2) (fun C s H fp => (he C s H fp).choose_spec.2) B G H σ ρ ds ρ2 _ I e4 fun G1 H1 l xs I1 f1 g1 h1 r1 b1 n1 => ?_
  obtain ⟨I2, f2, r2⟩ := zjD I1 g1 h1 r1 b1 n1
  exact k _ H1 _ (I2.set r2) (f1.trans f2)
end
def rRng1 : List V -> Hp -> VK -> Prop := fun xs H Q => ∃ j, xs = [.int j] /\ ∀ p, H p = none -> Q (.ref p) (upd H p (.rng 0 j))
theorem zpd : zgq X (.type "range") rRng1 := by
 intro pins s σ H xs us Q I r h
 obtain ⟨j, rfl, q⟩ := h
 obtain ⟨u, rfl, t, rfl⟩ := zjn r
 refine call_range_1 ⟨.ref s.heap.objs.size, _, I.laid (o := .rng 0 j) (fun b o e => Heap.get?_push_of_some _ e) (Nat.le_refl _) ⟨_, _, _, Heap.get?_push_size _ rfl⟩, rfl, q _ I.fresh⟩
def rListR : List V -> Hp -> VK -> Prop := fun xs H Q => ∃ p i j, xs = [.ref p] /\ H p = some (.rng i j) /\ (-(2 ^ 62) <= i /\ i < 2 ^ 62 /\ -(2 ^ 62) <= j /\ j < 2 ^ 62) /\ (j - i).toNat <= 16777216 /\ ∀ l, H l = none -> Q (.ref l) (upd H l (.lst ((List.range (j - i).toNat).map fun (k : Nat) => V.int (i + k))))
theorem znH (hc : X.calm = true) : zgq X (.type "list") rListR := by
 intro pins s σ H xs us Q I r h
 obtain ⟨p, i, j, rfl, hp, ⟨h1, h2, h3, h4⟩, hz, q⟩ := h
 obtain ⟨u, rfl, ru⟩ := zjn r
 cases ru
 obtain ⟨t, t', t'', e⟩ := I.hok p _ hp
 refine call_list_range (a := i) (b := j) (c := 1) (t := t) (u := t') (v := t'') (n := (j - i).toNat) (I.ok.hd hc) e (small_one h1 h2 h3 h4) (by rw [rangeSize_one]; split <;> omega) (by omega) fun h' tk acc' c' hk hl ⟨hs1, hs2⟩ => ?_
 refine ⟨.ref s.heap.objs.size, _, I.laid (h' := h') (t' := tk) (o := .lst ((List.range (j - i).toNat).map fun (k : Nat) => V.int (i + k))) hk (Nat.le_refl _) ⟨by rw [List.length_map, List.length_range, sizeLine_eq]; exact hz, acc'.toList, c', ?_, by simpa using hl⟩, rfl, q _ I.fresh⟩
 have key : ∀ (n : Nat) (l : List Value), l.length = n -> (∀ k v, l[k]? = some v -> ∃ t, v = Value.int (i + (k : Nat) * 1) t) -> Vals ((List.range n).map fun (k : Nat) => V.int (i + k)) l := by
  intro n
  induction n with
  | zero => intro l hl _; have : l = [] := List.eq_nil_of_length_eq_zero hl; subst this; exact .nil
  | succ n ih =>
   intro l hl hv
   have e : l = l.take n ++ [l[n]'(by omega)] := by
    rw [<- List.take_succ_eq_append_getElem (by omega), List.take_of_length_le (by omega)]
   rw [List.range_succ, List.map_append, e]
   refine Vals.append (ih (l.take n) (by rw [List.length_take]; omega) fun k v hk => ?_) (.cons ?_ .nil)
   ·have hkn : k < n := by
     have := (List.getElem?_eq_some_iff.mp hk).1
     rw [List.length_take] at this; omega
    rw [List.getElem?_take_of_lt hkn] at hk
    exact hv k v hk
   ·obtain ⟨t, ht⟩ := hv n _ (List.getElem?_eq_getElem (by omega))
    exact ⟨t, by rw [ht, Int.mul_one]⟩
 exact key _ acc'.toList (by rw [Array.length_toList]; exact hs1) fun k v hk => hs2 k v (by simpa using hk)
theorem znW (i : Int) (n : Nat) : RepL K G ((List.range n).map fun (k : Nat) => V.int (i + k)) (zcq i n) := by
 have e1 : ((List.range n).map fun (k : Nat) => V.int (i + k)) = ((List.range n).map fun (k : Nat) => i + (k : Int)).map V.int := by rw [List.map_map]; rfl
 have e2 : zcq i n = ((List.range n).map fun (k : Nat) => i + (k : Int)).map D.int := by unfold zcq; rw [List.map_map]; rfl
 rw [e1, e2]
 exact RepL.ints _
def oR (m : MA) : MO := fun ρ => (m ρ).bind fun p => if p.1.length <= 16777216 then some p else none
end M
namespace M
open L2 PySem
@[simp] theorem atI_nat' {α : Type} (xs : List α) (i : Nat) : atI xs (i : Int) = xs[i]? := by
 unfold atI ixN
 rw [if_pos (by omega)]
 by_cases h : i < xs.length
 ·rw [if_pos (by omega)]; simp
 ·rw [if_neg (by omega)]; simp [List.getElem?_eq_none (by omega : xs.length <= i)]
end M
namespace M
open L2 PyProof.Rows PySem PySem.Spec
noncomputable def zir (i : Nat) (g : Int -> Int -> Int) (me : ME) : MS := fun ρ => match ρ[i]? with
 | some (.val (.int a)) => (me ρ).bind fun p => match p.1 with
  | .int b => some (.next, p.2.set i (.val (.int (g a b))))
  | _ => none
 | _ => none
section
variable {X : Cx} {e : Expr} {me : ME} {pos : Pos}
theorem zpG (i : Nat) {x : Str} {pos' : Pos} {op : Operator} {g : Int -> Int -> Int} (ho : PIp X op (ipI g)) (he : SE X e me) (hN : X.N.Nodup) (hi : X.N[i]? = some x := by rfl) (hx : Loc X.env.scope x := by first | exact Or.inl rfl | exact Or.inr rfl)
    (hf : X.fn x = true \/ X.env.scope.names.lookup x = some .local := by first | exact Or.inl rfl | exact Or.inr rfl) : SS X (.AugAssign (.Name x pos') op e pos) (zir i g me) := by
  obtain ⟨t, p, s⟩ := he
  refine ⟨_, ps_aug hN hi hx p ho hf, fun B G H σ ρ fl ρ' E I hm k => ?_⟩
  unfold zir at hm
  split at hm
  . rename_i a e0
    obtain ⟨⟨d, ρ1⟩, e1, h2⟩ := zaf hm
    dsimp only at h2
    split at h2
    . rename_i b
      cases h2
      obtain ⟨v, h1, hv⟩ := I.slot i _ e0
      cases (show v = V.int a from hv)
      refine ⟨_, h1, s B G H σ ρ (.int b) ρ1 _ I e1 fun G1 H1 w I1 f1 r1 => ?_⟩
      cases (show w = V.int b from r1)
      exact ⟨a, b, rfl, rfl, k G1 H1 _ (I1.set (d := .int (g a b)) rfl) f1⟩
    . cases h2
  . cases hm
theorem zlg (i : Nat) {x : Str} {pos' : Pos} (he : SE X e me) (hN : X.N.Nodup) (hi : X.N[i]? = some x := by rfl) (hx : Loc X.env.scope x := by first | exact Or.inl rfl | exact Or.inr rfl)
  (hf : X.fn x = true \/ X.env.scope.names.lookup x = some .local := by first | exact Or.inl rfl | exact Or.inr rfl) : SS X (.AugAssign (.Name x pos') .Add e pos) (zir i (fun i j => i + j) me) := zpG i ip_add he hN hi hx hf
theorem zfT (i : Nat) {x : Str} {pos' : Pos} (he : SE X e me) (hN : X.N.Nodup) (hi : X.N[i]? = some x := by rfl) (hx : Loc X.env.scope x := by first | exact Or.inl rfl | exact Or.inr rfl)
  (hf : X.fn x = true \/ X.env.scope.names.lookup x = some .local := by first | exact Or.inl rfl | exact Or.inr rfl) : SS X (.AugAssign (.Name x pos') .Sub e pos) (zir i (fun i j => i - j) me) := zpG i ip_sub he hN hi hx hf
end
def zdN {α : Type} (xs : List α) (lo hi st : Option Int) : List α :=
 (sliceRange (sliceBounds lo hi st xs.length).1 (sliceBounds lo hi st xs.length).2.1 (sliceBounds lo hi st xs.length).2.2).filterMap (xs[·]?)
theorem zio (its : List Value) (lo hi st : Option Int) : slicePick its.toArray lo hi st = (zdN its lo hi st).toArray := by
 unfold slicePick zdN
 simp
theorem zld {xs : List V} {its : List Value} (h : xs.length = its.length) (lo hi st : Option Int) : (zdN its lo hi st).length <= xs.length := by
 have := slicePick_size_le its.toArray lo hi st
 rw [zio] at this
 simpa [h] using this
theorem picks {its : List Value} {xs : List V} (r : Vals xs its) : ∀ js : List Nat, Vals (js.filterMap (xs[·]?)) (js.filterMap (its[·]?))
 | [] => .nil
 | j :: js => by
  have hl := r.length
  by_cases h : j < xs.length
  ·have h2 : j < its.length := by omega
   obtain ⟨u, e1, e2⟩ := r.get (List.getElem?_eq_getElem h)
   rw [List.filterMap_cons, List.filterMap_cons, List.getElem?_eq_getElem h, e1]
   exact .cons e2 (picks r js)
  ·rw [List.filterMap_cons, List.filterMap_cons, List.getElem?_eq_none (by omega), List.getElem?_eq_none (by omega)]
   exact picks r js
theorem RepL.pickJ {K : W.Frag} {G : Hp} {xs : List V} {ds : List D} (r : RepL K G xs ds) : ∀ js : List Nat, RepL K G (js.filterMap (xs[·]?)) (js.filterMap (ds[·]?))
 | [] => RepL.nil
 | j :: js => by
  have hl := r.length
  by_cases h : j < xs.length
  ·have h2 : j < ds.length := by omega
   obtain ⟨u, e1, e2⟩ := r.get (List.getElem?_eq_getElem h2)
   rw [List.filterMap_cons, List.filterMap_cons, List.getElem?_eq_getElem h2, e1]
   exact RepL.cons e2 (r.pickJ js)
  ·rw [List.filterMap_cons, List.filterMap_cons, List.getElem?_eq_none (by omega), List.getElem?_eq_none (by omega)]
   exact r.pickJ js
section
variable {X : Cx} {e st : Expr} {lo hi : Option Expr} {te : TE} {tl th ts : TO} {p2 pos : Pos}
theorem znp (he : PE X e te) (hl : PO X lo tl) (hu : PO X hi th) (hst : PO X (some st) ts) : PE X (.Subscript e (.Slice lo hi (some st) p2) pos)
  (fun σ H Q => te σ H fun x H1 => tl σ H1 fun l H2 => th σ H2 fun u H3 => ts σ H3 fun c H4 => ∃ a xs, x = .ref a /\ SqL X.K H4 a xs /\ c ≠ some 0 /\ ∀ p, H4 p = none -> Q (.ref p) (upd H4 p (.lst (zdN xs l u c)))) := by
 intro pins s σ H Q I h
 refine Subscript_ (thn (he pins s σ H _ I h) fun v s1 ⟨x, H1, I1, r1, q1⟩ => ?_)
 refine wpAny_Slice (thn (hl pins s1 σ H1 _ I1 q1) fun vl s2 ⟨l, H2, I2, pl, q2⟩ => thn (hu pins s2 σ H2 _ I2 q2) fun vu s3 ⟨u, H3, I3, pu, q3⟩ => thn (hst pins s3 σ H3 _ I3 q3) fun vs s4 ⟨c, H4, I4, pc, q4⟩ => ?_)
 have I5 : Inv X pins σ H4 { s4 with heap := s4.heap.push { cls := .type "slice", data := .fields #[vl, vu, vs] } } := I4.kept (t' := s4.toks) fun b ob q => Heap.get?_push_of_some _ q
 obtain ⟨a, xs, rfl, hx, h0, q⟩ := q4
 cases r1
 obtain ⟨its, r, ht, hz⟩ := I5.list hx
 have hlen := r.length
 have hg : wpAny (model X.prog X.w) X.A (getItem (.ref a) (.ref s4.heap.objs.size)) (EP X pins σ Q) X.xe { s4 with heap := s4.heap.push { cls := .type "slice", data := .fields #[vl, vu, vs] } } := by
  refine wpAny_getItem_list_slice ht.isList (Heap.IsSliceOf.new ..) pl pu pc h0 ?_ (by rw [List.size_toArray] <;> omega)
  rw [zio]
  refine ⟨.ref _, _, I5.laid (t' := s4.toks) (o := .lst (zdN xs l u c)) (fun b ob q => Heap.get?_push_of_some _ q) (Nat.le_refl _) ?_, rfl, q _ (I5.hok.fresh (Nat.le_refl _))⟩
  refine ⟨?_, _, 0, ?_, Heap.get?_push_size _ rfl⟩
  ·have := zld hlen l u c
   have e2 : (zdN xs l u c).length = (zdN its l u c).length := by
    unfold zdN; rw [hlen]; exact (picks r _).length
   omega
  ·unfold zdN; rw [hlen]; exact picks r _
 show wpAny (model X.prog X.w) X.A (subscriptTail e (.Slice lo hi (some st) p2) (.ref a) (.ref s4.heap.objs.size)) (EP X pins σ Q) X.xe { s4 with heap := s4.heap.push { cls := .type "slice", data := .fields #[vl, vu, vs] } }
 exact tail_any (ops := [.ref a, .ref s4.heap.objs.size]) ht.isList.typeIs slot_list_getitem.lookup hg (by with_unfolding_all rfl)
end
def zon (d : D) (lo hi st : Option Int) : Option D := match d with
 | .lst ds => if st = some 0 then none else some (.lst (zdN ds lo hi st))
 | _ => none
noncomputable def zpm (ma : ME) (ml mh ms : MP) : ME := fun ρ => (ma ρ).bind fun p => (ml p.2).bind fun q => (mh q.2).bind fun r => (ms r.2).bind fun t => (zon p.1 q.1 r.1 t.1).map fun d => (d, t.2)
theorem RepL.pick {K : W.Frag} {G : Hp} {xs : List V} {ds : List D} (r : RepL K G xs ds) (lo hi st : Option Int) : RepL K G (zdN xs lo hi st) (zdN ds lo hi st) := by
 unfold zdN
 rw [r.length]
 exact r.pickJ _
theorem zlZ {X : Cx} {e st : Expr} {lo hi : Option Expr} {ma : ME} {ml mh ms : MP} {pos p2 : Pos} (he : SE X e ma) (hl : SPt X lo ml) (hu : SPt X hi mh) (hs : SPt X (some st) ms) : SE X (.Subscript e (.Slice lo hi (some st) p2) pos) (zpm ma ml mh ms) := by
 obtain ⟨ta, pa, sa⟩ := he
 obtain ⟨tl, pl, sl⟩ := hl
 obtain ⟨th, ph, sh⟩ := hu
 obtain ⟨tc, pc, sc⟩ := hs
 refine ⟨_, znp pa pl ph pc, fun B G H σ ρ d ρ' Q I hm k => ?_⟩
 obtain ⟨⟨x, ρ1⟩, e1, hm⟩ := zaf hm
 obtain ⟨⟨l, ρ2⟩, e2, hm⟩ := zaf hm
 obtain ⟨⟨u, ρ3⟩, e3, hm⟩ := zaf hm
 obtain ⟨⟨c, ρ4⟩, e4, hm⟩ := zaf hm
 obtain ⟨y, e5, e6⟩ := zay hm
 obtain ⟨rfl, rfl⟩ := Prod.mk.inj e6
 refine sa B G H σ ρ x ρ1 _ I e1 fun G1 H1 v I1 f1 r1 => sl B G1 H1 σ ρ1 l ρ2 _ I1 e2 fun G2 H2 I2 f2 => sh B G2 H2 σ ρ2 u ρ3 _ I2 e3 fun G3 H3 I3 f3 => sc B G3 H3 σ ρ3 c ρ4 _ I3 e4 fun G4 H4 I4 f4 => ?_
 have r3 := r1.mono (f2.trans (f3.trans f4))
 dsimp only at e5
 cases x <;> simp only [zon] at e5 <;> try cases e5
 rename_i ds
 split at e5
 ·cases e5
 ·rename_i h0
  cases e5
  obtain ⟨a, xs, rfl, ha, r⟩ := I4.lst r3
  refine ⟨a, xs, rfl, SqL.of ha, h0, fun p hp => ?_⟩
  obtain ⟨I5, f5, r5⟩ := I4.newL hp (r.pick l u c)
  exact k _ _ _ I5 (f1.trans (f2.trans (f3.trans (f4.trans f5)))) r5
end M
namespace M
open L2 PySem PySem.Spec
open PyProof.Rows hiding St
variable {K : W.Frag} {tg a b e : Expr} {pins : List (Addr × Obj)} {s : Shared} {E : Value -> Shared -> Prop} {p pos : Pos} {G : Hp} {j : Int} {X : Cx} {ma : MA} {xs : List V} {ds : List D}
def cntS (lo hi st : Int) : Nat := if lo < hi then ((hi - lo - 1) / st + 1).toNat else 0
def Itrs (lo st : Int) (n : Nat) : It := ⟨fun i _ => i < n, fun i H x H' => H' = H /\ x = .int (lo + i * st), fun i _ => n <= i⟩
theorem zl1 {P : Program} {w : World} (it : Addr) (lo st : Int) (n : Nat) : Turn P w K tg (Itrs lo st n) [it] it (fun i h => IsRangeIter h it (lo + (i : Nat) * st) ((n : Int) - (i : Nat)) st) where
 mem := by simp
 obj := fun i h st b hb => by
  have e : b = it := by simpa using hb
  subst e
  exact ⟨_, st, fun v z => by
   have z' : Data.fields _ = Data.cell v := z
   cases z'⟩
 keep := fun i h h' st k => k it (by simp) _ st
 item := by
  intro X hP hw hK hc i pins s σ H E I hf st' hg
  subst hP hw hK
  obtain ⟨f0, f1, f2, f3, f4, f5⟩ := hf it (by simp)
  have W := Walks.range (prog := X.prog) (w := X.w) (I.ok.hd hc) it lo st n
  refine W.item i s _ _ hg st' fun v h' tk hv st' kk => ?_
  obtain ⟨t, rfl⟩ := hv
  have I1 : Inv X pins σ H { s with heap := h', toks := tk } := I.turned (fun b o hb e => kk b o (by simpa using hb) e) f0 f1 f3 f4 f5
  exact ⟨_, rfl, zoG (s := { s with heap := h', toks := tk }) (n := "range_iterator") st' rfl rfl (by decide) ⟨.int (lo + i * st), H, I1, ⟨t, rfl⟩, ⟨rfl, rfl⟩, st', fun b hb => (hf b hb).1⟩⟩
 done := by
  intro X hP hw hK hc i pins s σ H E I hf st' hg
  subst hP hw hK
  obtain ⟨f0, f1, f2, f3, f4, f5⟩ := hf it (by simp)
  exact wpAny_pyNext_range_end (I.ok.hd hc) st' (by have : n <= i := hg; omega) fun h' eb => ⟨rfl, I.turned (t' := s.toks) (fun b o hb e => eb b o hb e) f0 f1 f3 f4 f5⟩
 self := fun _ _ _ _ _ st h => wpAny_pyIter_rangeiter st h
theorem znb {lo hi st : Int} (h : 0 < st) : ((cntS lo hi st : Nat) : Int) = Builtin.Range.rangeSize lo hi st := by
 unfold cntS Builtin.Range.rangeSize
 rw [if_pos h]
 split
 ·have : 0 <= (hi - lo - 1) / st := Int.ediv_nonneg (by omega) (by omega)
  omega
 ·rfl
theorem small_st {a b c : Int} (ha : -(2 ^ 60) <= a) (ha' : a < 2 ^ 60) (hb : -(2 ^ 60) <= b) (hb' : b < 2 ^ 60) (hc : 0 < c) (hc' : c < 1073741824) : Builtin.Range.small a b c = true := by
 have h1 := znb (lo := a) (hi := b) hc
 have h2 : Builtin.Range.rangeSize a b c <= 2 ^ 62 := by
  unfold Builtin.Range.rangeSize
  rw [if_pos hc]
  split
  ·have : (b - a - 1) / c <= b - a - 1 := Int.ediv_le_self _ (by omega)
   omega
  ·omega
 have h3 : 0 <= Builtin.Range.rangeSize a b c := by rw [<- h1]; omega
 unfold Builtin.Range.small
 simp only [Builtin.Range.rangeFitsLong, Bool.and_eq_true, Bool.or_eq_true, decide_eq_true_eq, beq_iff_eq, show c > 0 from hc, if_true]
 generalize Builtin.Range.rangeSize a b c = z at *
 omega
section
variable {X : Cx} {tg : Expr}
theorem zpQ {σ : St} {H : Hp} {R : It -> Hp -> Prop} {lo hi st : Int} {t u v : Tok} {tk : Nat} (I : Inv X pins σ H s) (h1 : -(2 ^ 60) <= lo) (h2 : lo < 2 ^ 60) (h3 : -(2 ^ 60) <= hi) (h4 : hi < 2 ^ 60) (h5 : 0 < st) (h6 : st < 1073741824)
  (q : R (Itrs lo st (cntS lo hi st)) H) : wpAny (model X.prog X.w) X.A (pyIter (.ref s.heap.objs.size)) (PIE X pins σ tg R) E { s with heap := s.heap.push { cls := .type "range", data := .fields #[.int lo t, .int hi u, .int st v] }, toks := tk } := by
 refine wpAny_pyIter_range (IsRange.new ..) (small_st h1 h2 h3 h4 h5 h6) ?_
 have I1 : Inv X pins σ H { s with heap := s.heap.push { cls := .type "range", data := .fields #[.int lo t, .int hi u, .int st v] }, toks := tk } := I.kept fun b o e => Heap.get?_push_of_some _ e
 refine ⟨(s.heap.push { cls := .type "range", data := .fields #[.int lo t, .int hi u, .int st v] }).objs.size, [(s.heap.push { cls := .type "range", data := .fields #[.int lo t, .int hi u, .int st v] }).objs.size], _, _, H, rfl,
  I1.kept (t' := tk) fun b o e => Heap.get?_push_of_some _ e, zl1 _ lo st (cntS lo hi st), ?_, fun b hb => ?_, q⟩
 ·have e1 : lo + ((0 : Nat) : Int) * st = lo := by simp
  show IsRangeIter _ _ (lo + ((0 : Nat) : Int) * st) (((cntS lo hi st : Nat) : Int) - ((0 : Nat) : Int)) st
  rw [e1, znb h5, show (((0 : Nat) : Int)) = 0 from rfl, Int.sub_zero]
  exact Heap.get?_push_size _ rfl
 ·have e : b = (s.heap.push { cls := .type "range", data := .fields #[.int lo t, .int hi u, .int st v] }).objs.size := by simpa using hb
  subst e
  exact I1.fpOk (Nat.le_refl _) (I1.hok.fresh (Nat.le_refl _))
theorem zoH {a b c : Expr} {ta : TA} (hg : Gl X "range") (hm : X.mg "range" = none) (ha : PA X [a, b, c] ta) (hs : starEach [a, b, c] X.env = (false, eval a X.env) :: starEach [b, c] X.env := by rfl) (hs2 : (backTo pos (starEach [b, c] X.env)).any (·.1) = false := by rfl) :
  PI X tg (.Call (.Name "range" p) [a, b, c] [] pos) (fun σ H R => ta σ H fun vs H1 => ∃ i j k : Int, vs = [.int i, .int j, .int k] /\ (-(2 ^ 60) <= i /\ i < 2 ^ 60 /\ -(2 ^ 60) <= j /\ j < 2 ^ 60 /\ 0 < k /\ k < 1073741824) /\ R (Itrs i k (cntS i j k)) H1) := by
 intro pins s σ H R I h
 refine Call_ (zgX I hg hm boot_range (PyProof.Rows.callWith_type1 (thn (ha pos pins s σ H _ I h) fun us s1 ⟨vs, H1, I1, r1, q1⟩ => ?_) hs hs2))
 obtain ⟨i, j, k, e, ⟨q1, q2, q3, q4, q5, q6⟩, q⟩ := q1
 subst e
 cases r1 with
 | cons r rr =>
  cases rr with
  | cons r' rr =>
   cases rr with
   | cons r'' rr =>
    cases rr
    obtain ⟨t, rfl⟩ := r
    obtain ⟨t', rfl⟩ := r'
    obtain ⟨t'', rfl⟩ := r''
    exact call_range_3 (by omega) (zpQ I1 q1 q2 q3 q4 q5 q6 q) (Or.inl (PyProof.noPylong_small (by omega)))
end
def zlV (lo st : Int) (n : Nat) : List D := (List.range n).map fun (i : Nat) => D.int (lo + (i : Int) * st)
theorem zns (lo st : Int) (n : Nat) : Itm K (Itrs lo st n) G (zlV lo st n) where
 go := fun H i f hi => by show i < n; simpa [zlV] using hi
 yld := fun H i x H' f y d e => by
  obtain ⟨rfl, rfl⟩ := y
  unfold zlV at e
  rw [List.getElem?_map] at e
  cases q : (List.range n)[i]? with
  | none => rw [q] at e; cases e
  | some j =>
   rw [q] at e
   have hj : j = i := by
    have := List.getElem?_eq_some_iff.mp q
    obtain ⟨h1, h2⟩ := this
    simpa using h2.symm
   subst hj
   cases e
   exact .inl ⟨rfl, rfl⟩
 stop := fun H i f hi => by show n <= i; simpa [zlV] using hi
noncomputable def iR3 (ma : MA) : MA := fun ρ => (ma ρ).bind fun p => match p.1 with
 | [.int i, .int j, .int k] => if zch i && zch j && decide (0 < k) && decide (k < 1073741824) then some (zlV i k (cntS i j k), p.2) else none
 | _ => none
theorem zkV (h : zch j = true) : -(2 ^ 60) <= j /\ j < 2 ^ 60 := by
 unfold zch at h
 simp only [Bool.and_eq_true, decide_eq_true_eq] at h
 omega
theorem zlz {tg a b c : Expr} (hm : X.mg "range" = none) (ha : SA X [a, b, c] ma) (hg : Gl X "range" := by rfl) (hs : starEach [a, b, c] X.env = (false, eval a X.env) :: starEach [b, c] X.env := by rfl) (hs2 : (backTo pos (starEach [b, c] X.env)).any (·.1) = false := by rfl) : SIt X tg (.Call (.Name "range" p) [a, b, c] [] pos) (iR3 ma) := by
 obtain ⟨t, pa, sa⟩ := ha
 refine ⟨_, zoH hg hm pa hs hs2, fun B G H σ ρ ds ρ' Q I hm k => ?_⟩
 obtain ⟨⟨es, ρ1⟩, e1, h2⟩ := zaf hm
 dsimp only at h2
 refine sa B G H σ ρ es ρ1 _ I e1 fun G1 H1 vs I1 f1 r1 => ?_
 split at h2
 ·rename_i i j l
  split at h2
  ·rename_i hj
   simp only [Bool.and_eq_true, decide_eq_true_eq] at hj
   cases h2
   obtain ⟨x, xs, rfl, rx, r2⟩ := r1
   obtain ⟨y, ys, rfl, ry, r3⟩ := r2
   obtain ⟨z, zs, rfl, rz, r4⟩ := r3
   cases (show x = V.int i from rx)
   cases (show y = V.int j from ry)
   cases (show z = V.int l from rz)
   cases (show zs = [] from r4)
   have a1 := zkV hj.1.1.1
   have a2 := zkV hj.1.1.2
   exact ⟨i, j, l, rfl, ⟨a1.1, a1.2, a2.1, a2.2, hj.1.2, hj.2⟩, k _ G1 H1 I1 f1 (zns i l _)⟩
  ·cases h2
 ·cases h2
def zje (lt : Int -> Int -> Bool) (ns : List Int) : Int := ns.getD (argBest (fun i j => lt (ns.getD i 0) (ns.getD j 0)) (ns.length - 1)) 0
def rBest (K : W.Frag) (lt : Int -> Int -> Bool) : List V -> Hp -> VK -> Prop := fun xs H Q => ∃ (p : Addr) (ns : List Int), xs = [.ref p] /\ ns ≠ [] /\ (SqL K H p (ns.map V.int) \/ SqT K H p (ns.map V.int)) /\ Q (.int (zje lt ns)) H
theorem zpb (hc : X.calm = true) : zgq X (.builtin "max") (rBest X.K fun i j => decide (i > j)) := by
 intro pins s σ H xs us Q I r h
 obtain ⟨p, ns, rfl, ne, hq, q⟩ := h
 obtain ⟨u, rfl, ru⟩ := zjn r
 cases ru
 refine call_max_walk (zhc (A := X.A.in1) (I.ok.hd hc) I hq fun its s₂ St rv W st hfp fin => ?_)
 have hl := rv.length
 rw [List.length_map] at hl
 have hp : 0 < its.length := by rw [<- hl]; exact List.length_pos_iff.mpr ne
 refine ⟨_, _, _, _, _, _, _, rfl, W, st, hfp, hp, CmpOf.ints_gt (fun i => ns.getD i 0) (fun i v e => zhs rv e), fun v h' tk hP hk => ?_⟩
 obtain ⟨t, rfl⟩ := zhs rv hP
 refine ⟨.int (zje _ ns), H, fin h' tk hk, ⟨t, ?_⟩, q⟩
 unfold zje
 rw [hl]
theorem zpl (hc : X.calm = true) : zgq X (.builtin "min") (rBest X.K fun i j => decide (i < j)) := by
 intro pins s σ H xs us Q I r h
 obtain ⟨p, ns, rfl, ne, hq, q⟩ := h
 obtain ⟨u, rfl, ru⟩ := zjn r
 cases ru
 refine call_min_walk (zhc (A := X.A.in1) (I.ok.hd hc) I hq fun its s₂ St rv W st hfp fin => ?_)
 have hl := rv.length
 rw [List.length_map] at hl
 have hp : 0 < its.length := by rw [<- hl]; exact List.length_pos_iff.mpr ne
 refine ⟨_, _, _, _, _, _, _, rfl, W, st, hfp, hp, CmpOf.ints_lt (fun i => ns.getD i 0) (fun i v e => zhs rv e), fun v h' tk hP hk => ?_⟩
 obtain ⟨t, rfl⟩ := zhs rv hP
 refine ⟨.int (zje _ ns), H, fin h' tk hk, ⟨t, ?_⟩, q⟩
 unfold zje
 rw [hl]
noncomputable def zof (lt : Int -> Int -> Bool) : List D -> Option D
 | [d] => (zaW [d]).bind fun ds => (zcz ds).bind fun ns => if ns.isEmpty then none else some (.int (zje lt ns))
 | _ => none
theorem zpi (lt : Int -> Int -> Bool) : VC X (rBest X.K lt) (zof lt) := by
 intro B G H σ ρ xs ds d Q I r hf k
 match ds, hf with
 | [a], hf =>
  obtain ⟨es, e1, hf⟩ := zaf hf
  obtain ⟨ns, e2, hf⟩ := zaf hf
  split at hf
  ·cases hf
  ·rename_i ne
   cases hf
   obtain ⟨x, rfl, ra⟩ := r.one
   obtain ⟨p, ys, rfl, hq, ry⟩ := ziF I ra e1
   rw [zhj e2] at ry
   rw [RepL.ints_eq ry] at hq
   exact ⟨p, ns, rfl, fun z => ne (by rw [z]; rfl), hq, k G H _ I (Fz.refl G) rfl⟩
 | [], hf => cases hf
 | _ :: _ :: _, hf => cases hf
def zfE : List D -> Option D := zof fun i j => decide (i > j)
def zhH : List D -> Option D := zof fun i j => decide (i < j)
theorem zi5 (hc : X.calm = true) (ml : X.mg "max" = none) (ha : SA X [e] ma) (hg : Gl X "max" := by rfl) (he : starEach [e] X.env = (false, eval e X.env) :: starEach [] X.env := by rfl) : SE X (.Call (.Name "max" p) [e] [] pos) (mC zfE ma) :=
 zd8 (zpb hc) (zpi _) (by decide +kernel) ml ha hg (by decide) (by decide) he rfl
theorem zkh (hc : X.calm = true) (ml : X.mg "min" = none) (ha : SA X [e] ma) (hg : Gl X "min" := by rfl) (he : starEach [e] X.env = (false, eval e X.env) :: starEach [] X.env := by rfl) : SE X (.Call (.Name "min" p) [e] [] pos) (mC zhH ma) :=
 zd8 (zpl hc) (zpi _) (by decide +kernel) ml ha hg (by decide) (by decide) he rfl
noncomputable def oRep (ma mb : ME) : MO := fun ρ => (ma ρ).bind fun p => (mb p.2).bind fun q => match p.1, q.1 with
 | .lst xs, .int k => if zch k && decide (xs.length * k.toNat <= 16777216) then some ((List.replicate k.toNat xs).flatten, q.2) else none
 | _, _ => none
theorem RepL.times (h : RepL K G xs ds) : ∀ n : Nat, RepL K G (List.replicate n xs).flatten (List.replicate n ds).flatten
 | 0 => RepL.nil
 | n + 1 => by
  rw [List.replicate_succ, List.flatten_cons, List.replicate_succ, List.flatten_cons]
  exact h.append (h.times n)
theorem so_rep {ma mb : ME} (ha : SE X a ma) (hb : SE X b mb) : SO X (.BinOp a .Mult b pos) (oRep ma mb) := by
 obtain ⟨ta, pa, sa⟩ := ha
 obtain ⟨tb, pb, sb⟩ := hb
 refine ⟨_, pe_op op_rep pa pb, fun B G H σ ρ d ρ' Q I hm k => ?_⟩
 obtain ⟨⟨x, ρ1⟩, e1, hm⟩ := zaf hm
 obtain ⟨⟨y, ρ2⟩, e2, hm⟩ := zaf hm
 refine sa B G H σ ρ x ρ1 _ I e1 fun G1 H1 v I1 f1 r1 => sb B G1 H1 σ ρ1 y ρ2 _ I1 e2 fun G2 H2 u I2 f2 r2 => ?_
 dsimp only at hm
 split at hm
 ·rename_i xs n _
  split at hm
  ·rename_i hs
   cases hm
   simp only [Bool.and_eq_true, decide_eq_true_eq] at hs
   cases (show u = V.int n from r2)
   obtain ⟨l, ys, rfl, hl, r⟩ := I2.lst (r1.mono f2)
   have a1 := zcu hs.1
   refine ⟨l, n, ys, rfl, rfl, hl, by omega, by omega, by rw [r.length, sizeLine_eq]; exact hs.2, fun p hp => ?_⟩
   obtain ⟨I3, g3, h3, b3, n3⟩ := I2.newO hp (List.replicate n.toNat ys).flatten
   exact k G2 _ p _ I3 (f1.trans f2) g3 h3 (r.times _) b3 n3
  ·cases hm
 ·cases hm
noncomputable def flV : D -> Option V
 | .non => some .non
 | .bl b => some (.bl b)
 | .int i => some (.int i)
 | .str x => some (.str x)
 | _ => none
noncomputable def flAll : List D -> Option (List V)
 | [] => some []
 | d :: ds => (flV d).bind fun v => (flAll ds).map (v :: ·)
theorem flV_ok {x v : V} {d : D} (r : RepD K G x d) (e : flV d = some v) : x = v /\ zjj v = true := by
 cases d <;> simp only [flV] at e <;> cases e <;> exact ⟨r, rfl⟩
theorem zmM : ∀ {ys xs : List V} {ds : List D}, RepL K G ys ds -> flAll ds = some xs -> ys = xs /\ xs.all zjj = true
 | ys, xs, [], r, e => by cases e; cases (show ys = [] from r); exact ⟨rfl, rfl⟩
 | ys, xs, d :: ds, r, e => by
  obtain ⟨y, zs, rfl, ry, rz⟩ := r
  obtain ⟨v, e1, e⟩ := zaf e
  obtain ⟨vs, e2, rfl⟩ := zay e
  obtain ⟨rfl, f1⟩ := flV_ok ry e1
  obtain ⟨rfl, f2⟩ := zmM rz e2
  exact ⟨rfl, by rw [List.all_cons, f1, f2]; rfl⟩
noncomputable def dInB (neg : Bool) (a b : D) : Option D := (flV a).bind fun x => (zaW [b]).bind fun ds => (flAll ds).map fun xs => .bl (if neg then !inV x xs else inV x xs)
def dIn : D -> D -> Option D := dInB false
theorem v2_in (neg : Bool) : V2 X (rIn X.K neg) (dInB neg) := by
 intro B G H σ ρ x y a b d Q I ra rb hf k
 obtain ⟨v, e1, hf⟩ := zaf hf
 obtain ⟨ds, e2, hf⟩ := zaf hf
 obtain ⟨xs, e3, rfl⟩ := zay hf
 obtain ⟨rfl, f1⟩ := flV_ok ra e1
 obtain ⟨p, ys, rfl, hq, ry⟩ := ziF I rb e2
 obtain ⟨rfl, f2⟩ := zmM ry e3
 exact ⟨p, ys, rfl, hq, f1, f2, k G H _ I (Fz.refl G) rfl⟩
theorem bl_in (neg : Bool) : ∀ x y d, dInB neg x y = some d -> ∃ t, d = .bl t := by
 intro x y d hf
 obtain ⟨v, e1, hf⟩ := zaf hf
 obtain ⟨ds, e2, hf⟩ := zaf hf
 obtain ⟨xs, e3, rfl⟩ := zay hf
 exact ⟨_, rfl⟩
theorem st_in {ma mb : ME} (ha : SE X a ma) (hb : SE X b mb) (hm : behindInMarks .In b = false := by rfl) : STt X (.Compare a [.In] [b] pos) (tTru (m2 dIn ma mb)) := zig zob (v2_in false) (bl_in false) ha hb hm
end M
namespace M
open L2 PySem PySem.Spec
open PyProof.Rows hiding St
open Sem (wp)
variable {b N i : Nat} {a it l : Addr} {t : Bool} {h h' : Heap} {is xs ys : Array Value} {Q : Value -> Shared -> Prop}
theorem nin2 {b x y z : Nat} (h : b ∈ [x, y]) (h1 : x ≠ z) (h2 : y ≠ z) : b ≠ z := by
 simp at h
 rcases h with rfl | rfl <;> assumption
theorem nA {N a b : Nat} (h : a ≠ b) : N + a ≠ N + b := fun e => h (Nat.add_left_cancel e)
theorem nB (h : 0 ≠ b) : N ≠ N + b := fun e => h (Nat.add_left_cancel (show N + 0 = N + b from e))
theorem nC (h : b ≠ 0) : N + b ≠ N := fun e => h (Nat.add_left_cancel (show N + b = N + 0 from e))
theorem nL {a N b : Nat} (h : a < N) : a ≠ N + b := Nat.ne_of_lt (Nat.lt_of_lt_of_le h (Nat.le_add_right _ _))
theorem ne_ {a b : Nat} (h : a ≠ b) : a ≠ b := h
local macro_rules | `(tactic| ac_rfl) => `(tactic| first | exact M.nA (by decide) | exact M.nB (by decide) | exact M.nC (by decide) | exact M.nL (by assumption) | exact Nat.ne_of_lt (by assumption) | omega)
def SrcIt : Bool -> Heap -> Addr -> Addr -> Nat -> Prop
 | true, h, it, a, i => h.IsTupleIter it a i
 | false, h, it, a, i => h.IsListIter it a i
def SrcH : Bool -> Heap -> Addr -> Array Value -> Prop
 | true, h, a, its => h.IsTuple a its
 | false, h, a, its => h.IsList a its
theorem SrcIt.at (x : SrcIt t h it a i) (e : ∀ o, h.get? it = some o -> h'.get? it = some o) : SrcIt t h' it a i := by
 cases t
 ·exact Heap.IsListIter.at x e
 ·exact Heap.IsTupleIter.at x e
theorem SrcH.at (x : SrcH t h a is) (e : ∀ o, h.get? a = some o -> h'.get? a = some o) : SrcH t h' a is := by
 cases t
 ·exact Heap.IsList.at x e
 ·obtain ⟨o, ho, r⟩ := x; exact ⟨o, e _ ho, r⟩
theorem SrcIt.obj (x : SrcIt t h it a i) : ∃ o, h.get? it = some o /\ ∀ v, o.data ≠ .cell v := by
 cases t <;> (obtain ⟨o, e, c, d⟩ := x; exact ⟨o, e, fun v z => by rw [d] at z; cases z⟩)
theorem SrcH.lt (x : SrcH t h a is) : a < h.objs.size := by
 cases t <;> (obtain ⟨o, e, _⟩ := x; exact Heap.lt_size e)
section
variable {prog : Program} {w : World} {A : Around} {E : Value -> Shared -> Prop} {s : Shared}
theorem zm9 {items} (hit : s.heap.IsTupleIter it l i) (hl : s.heap.IsTuple l items)
  (k : (∃ x, items[i]? = some x /\ ∀ h', h'.IsTupleIter it l (i + 1) -> Heap.SameBut it s.heap h' -> Q x { s with heap := h' }) \/
   (items[i]? = none /\ A.handled = none /\ ∀ h' e, Heap.ExtBut it s.heap h' -> (∃ o, h'.get? e = some o /\ o.cls = .type "StopIteration") -> E (.ref e) { s with heap := h' })) :
  wpAny (model prog w) A (Builtin.SmallTypes.nextOf (.ref it)) Q E s := by
 obtain ⟨o, ho, hc, hd⟩ := id hit
 obtain ⟨ol, hol, -, nl, hdl⟩ := hl
 have ne : ¬ ((Value.ref l == Value.none) = true) := Bool.false_ne_true
 unfold Builtin.SmallTypes.nextOf
 refine wpAny_bind (wpAny_callSpecial?_slot (name := Str.ofString "__next__") hit.typeIs slot_tupleiter_next (wpAny_call_entry slot_tupleiter_next hit.typeIs entry_tupleiter_next ?_ (args_tupleiter_next _)))
 refine (?_ : wpAny _ _ (field (.ref it) 0 >>= _) _ _ s)
 refine wpAny_bind (wpAny_field ho hd (x := .ref l) rfl (?_ : wpAny _ _ (if (Value.ref l == Value.none) = true then _ else _) _ _ s))
 rw [if_neg ne]
 refine (?_ : wpAny _ _ (field (.ref it) 1 >>= _) _ _ s)
 refine wpAny_bind (wpAny_field ho hd (x := .int i 0) rfl (?_ : wpAny _ _ (seqItems? (.ref l) >>= _) _ _ s))
 refine wpAny_bind (wpAny_seqItems hol hdl ?_)
 rcases k with ⟨x, hx, k⟩ | ⟨hx, hh, k⟩ <;> simp only [Int.toNat_natCast, hx]
 ·have upd : ∀ h' : Heap, h'.get? it = some (o.mapFields fun a => a.setIfInBounds 1 (rawInt (((i : Nat) : Int) + 1))) -> h'.IsTupleIter it l (i + 1) := fun h' e => ⟨_, e, (Obj.cls_mapFields ..).trans hc, by rw [Obj.data_mapFields hd]; simp [rawInt]⟩
  refine wpAny_bind (wpAny_setField ho hd (by simp) (wpAny_pure ⟨x, rfl, wpAny_pure (k _ ?_ (Heap.SameBut.update ..))⟩))
  refine ⟨_, Heap.get?_update_self _ ho (Obj.isFreed_of_fields (Obj.data_mapFields hd _)), (Obj.cls_mapFields ..).trans hc, ?_⟩
  rw [Obj.data_mapFields hd]
  simp [rawInt]
 ·refine wpAny_bind (wpAny_rule (wpAny_bind (wpAny_setField ho hd (by simp) (?_ : wpAny _ _ (newExc (.type "StopIteration") [] >>= _) _ _ _))))
  refine wpAny_bind ?_
  simp only [newExc, newTuple]
  refine wpAny_bind (wpAny_newObj_type (wpAny_bind (m := firstArgMember _ _) (wpAny_of_eq (a := Value.none) (by first | rfl | (simp only [firstArgMember]; rfl)) (wpAny_newObj_type ?_ (by size_fits)))) (by size_fits))
  simp only [raiseNew]
  refine wpAny_bind (wpAny_handled ?_)
  first | rw [show A.in1.handled = none from hh] | rw [hh]
  exact wpAny_bind (wpAny_pure (wpAny_throw (k _ _ (((Heap.SameBut.update ..).extBut.push _).push _) ⟨_, Heap.get?_push_size _ rfl, rfl⟩)))
theorem zbs (hh : A.handled = none) (it l : Addr) (hne : l ≠ it) (items : Array Value) : Draws prog w A it [it, l] items.size (fun i v => items[i]? = some v) (fun i h => SrcIt t h it l i /\ SrcH t h l items) := by
 cases t
 ·exact Draws.list hh it l hne items
 ·refine ⟨fun _ _ st => ?_, fun _ _ _ st hk => ⟨SrcIt.at st.1 fun o e => hk it (by simp) o e, SrcH.at st.2 fun o e => hk l (by simp) o e⟩, fun i s Q E hi st hQ => ?_, fun s Q E st hE => zm9 st.1 st.2 (.inr ⟨by simp, hh, hE⟩)⟩
  ·obtain ⟨o, e, -⟩ := SrcIt.obj st.1
   exact ⟨o, e⟩
  ·exact zm9 st.1 st.2 (.inl ⟨items[i], by simp [hi], fun h' a b => hQ _ h' s.toks (by simp [hi]) ⟨a, SrcH.at st.2 fun o e => (b.2 l hne).trans e⟩ b⟩)
def srcO (t : Bool) (a : Addr) : Obj := { cls := .type (if t then "tuple_iterator" else "list_iterator"), data := .fields #[.ref a, .int 0 0] }
theorem zh6 (e : h.get? it = some (srcO t a)) : SrcIt t h it a 0 := by
 cases t <;> exact ⟨_, e, rfl, rfl⟩
theorem zeM (t : Bool) (a : Addr) : (srcO t a).isFreed = false := by cases t <;> rfl
theorem zcH {items} (hl : SrcH t s.heap a items) (hQ : Q (.ref s.heap.objs.size) { s with heap := s.heap.push (srcO t a) }) :
  wpAny (model prog w) A (pyIter (.ref a)) Q E s := by
 cases t
 ·exact wpAny_pyIter_list hl hQ
 ·exact wpAny_pyIter_tuple hl hQ
abbrev zek (h : Heap) (T : Addr) (a b c : Value) : Prop := h.get? T = some { cls := .type "tuple", data := .seq #[a, b, c] }
theorem zjc {T : Addr} {a b c x : Value} {k : Nat} {Q : Unit -> Shared -> Prop} (hT : zek s.heap T a b c)
  (h : ∀ h', h'.get? T = some { cls := .type "tuple", data := .seq ((#[a, b, c] : Array Value).setIfInBounds k x) } -> Heap.SameBut T s.heap h' -> Q () { s with heap := h' }) :
  wpAny (model prog w) A (updateSeq T (·.setIfInBounds k x)) Q E s :=
 wpAny_updateSeq hT rfl (h _ (by rw [Heap.get?_update_self _ hT rfl]; simp [Obj.mapSeq]) (Heap.SameBut.update ..))
section
variable {N a1 a2 a3 : Nat} {n1 n2 n3 : Nat} {P1 P2 P3 : Nat -> Value -> Prop} {S1 S2 S3 : Nat -> Heap -> Prop}
theorem zoF {a b c : Value} (D1 : Draws prog w A N [N, a1] n1 P1 S1) (D2 : Draws prog w A (N + 1) [N + 1, a2] n2 P2 S2) (D3 : Draws prog w A (N + 2) [N + 2, a3] n3 P3 S3) (l1 : a1 < N) (l2 : a2 < N) (l3 : a3 < N)
  (hz : IsZip s.heap (N + 5) (N + 3) (N + 4) .none) (hTI : zek s.heap (N + 3) (.ref N) (.ref (N + 1)) (.ref (N + 2))) (hTO : zek s.heap (N + 4) a b c) (h1 : S1 i s.heap) (h2 : S2 i s.heap) (h3 : S3 i s.heap) (i1 : i < n1) (i2 : i < n2) (i3 : i < n3)
  (k : ∀ x y z h' tk, P1 i x -> P2 i y -> P3 i z -> IsZip h' (N + 5) (N + 3) (N + 4) (rawInt s.heap.objs.size) -> zek h' (N + 4) x y z -> S1 (i + 1) h' -> S2 (i + 1) h' -> S3 (i + 1) h' -> zek h' s.heap.objs.size x y z ->
   (∀ c o, c ≠ N -> c ≠ N + 1 -> c ≠ N + 2 -> c ≠ N + 4 -> c ≠ N + 5 -> s.heap.get? c = some o -> h'.get? c = some o) -> Q (.ref s.heap.objs.size) { s with heap := h', toks := tk }) :
  wpAny (model prog w) A (Builtin.«zip.__next__» ⟨[.ref (N + 5)], []⟩) (fun fin s' => ∃ v, fin = .done (.ret v) /\ Q v s') E s := by
 refine (?_ : wpAny _ _ (field (.ref (N + 5)) 2 >>= _) _ _ _)
 refine wpAny_bind (wpAny_field hz rfl (x := .bool false) rfl (?_ : wpAny _ _ (field (.ref (N + 5)) 3 >>= _) _ _ _))
 refine wpAny_bind (wpAny_field hz rfl (x := .ref (N + 3)) rfl (wpAny_bind (wpAny_seqItems hTI rfl (?_ : wpAny _ _ (Builtin.SmallTypes.ownedTupleIsFree (.ref (N + 5)) >>= _) _ _ _))))
 refine wpAny_bind ?_
 unfold Builtin.SmallTypes.ownedTupleIsFree
 refine wpAny_bind (wpAny_field hz rfl (x := .none) rfl (wpAny_pure ?_))
 simp only [if_true]
 refine wpAny_bind (wpAny_rule (wpAny_bind (wpAny_field hz rfl (x := .ref (N + 4)) rfl (wpAny_bind (wpAny_setField_rec hz (by simp) fun g1 z1 s1 => wpAny_bind ?_)))))
 replace z1 : IsZip g1 (N + 5) (N + 3) (N + 4) .ellipsis := z1
 simp only [List.zipIdx_cons, List.zipIdx_nil, List.forIn_cons, List.forIn_nil]
 refine wpAny_bind (wpAny_bind (wpAny_onRaise (?_ : wpAny _ _ (Builtin.SmallTypes.nextOf (.ref N) >>= _) _ _ _)))
 have e1 : S1 i g1 := D1.frame _ _ _ h1 fun b hb o e => (s1.2 b (nin2 hb (by ac_rfl) (by ac_rfl))).trans e
 refine wpAny_bind (D1.item i _ _ _ i1 e1 fun x g2 t2 p1 f2 s2 => wpAny_pure ?_)
 have q2 : zek g2 (N + 4) a b c := (s2.2 _ (ne_ (by ac_rfl))).trans ((s1.2 _ (ne_ (by ac_rfl))).trans hTO)
 refine wpAny_bind (wpAny_seqItems q2 rfl (wpAny_bind (zjc q2 fun g3 q3 s3 => wpAny_bind (wpAny_letGo (wpAny_pure ?_)))))
 replace q3 : zek g3 (N + 4) x b c := q3
 have k3 : ∀ d o, d ≠ N -> d ≠ N + 4 -> d ≠ N + 5 -> s.heap.get? d = some o -> g3.get? d = some o := fun d o c1 c2 c3 e => (s3.2 d c2).trans ((s2.2 d c1).trans ((s1.2 d c3).trans e))
 refine wpAny_bind (wpAny_bind (wpAny_onRaise (?_ : wpAny _ _ (Builtin.SmallTypes.nextOf (.ref (N + 1)) >>= _) _ _ _)))
 have e3 : S2 i g3 := D2.frame _ _ _ h2 fun b hb o e => k3 b o (nin2 hb (by ac_rfl) (by ac_rfl)) (nin2 hb (by ac_rfl) (by ac_rfl)) (nin2 hb (by ac_rfl) (by ac_rfl)) e
 refine wpAny_bind (D2.item i _ _ _ i2 e3 fun y g4 t4 p2 f4 s4 => wpAny_pure ?_)
 have q4 : zek g4 (N + 4) x b c := (s4.2 _ (ne_ (by ac_rfl))).trans q3
 refine wpAny_bind (wpAny_seqItems q4 rfl (wpAny_bind (zjc q4 fun g5 q5 s5 => wpAny_bind (wpAny_letGo (wpAny_pure ?_)))))
 replace q5 : zek g5 (N + 4) x y c := q5
 refine wpAny_bind (wpAny_bind (wpAny_onRaise (?_ : wpAny _ _ (Builtin.SmallTypes.nextOf (.ref (N + 2)) >>= _) _ _ _)))
 have e5 : S3 i g5 := D3.frame _ _ _ h3 fun b hb o e => (s5.2 b (nin2 hb (by ac_rfl) (by ac_rfl))).trans ((s4.2 b (nin2 hb (by ac_rfl) (by ac_rfl))).trans (k3 b o (nin2 hb (by ac_rfl) (by ac_rfl)) (nin2 hb (by ac_rfl) (by ac_rfl)) (nin2 hb (by ac_rfl) (by ac_rfl)) e))
 refine wpAny_bind (D3.item i _ _ _ i3 e5 fun z g6 t6 p3 f6 s6 => wpAny_pure ?_)
 have q6 : zek g6 (N + 4) x y c := (s6.2 _ (ne_ (by ac_rfl))).trans q5
 refine wpAny_bind (wpAny_seqItems q6 rfl (wpAny_bind (zjc q6 fun g7 q7 s7 => wpAny_bind (wpAny_letGo (wpAny_pure (wpAny_pure ?_))))))
 replace q7 : zek g7 (N + 4) x y z := q7
 have sz : g7.objs.size = s.heap.objs.size := by rw [s7.1, s6.1, s5.1, s4.1, s3.1, s2.1, s1.1]
 have z7 : IsZip g7 (N + 5) (N + 3) (N + 4) .ellipsis := (s7.2 _ (ne_ (by ac_rfl))).trans ((s6.2 _ (ne_ (by ac_rfl))).trans ((s5.2 _ (ne_ (by ac_rfl))).trans ((s4.2 _ (ne_ (by ac_rfl))).trans ((s3.2 _ (ne_ (by ac_rfl))).trans ((s2.2 _ (ne_ (by ac_rfl))).trans z1)))))
 have zl : (N + 5 : Nat) < g7.objs.size := Heap.lt_size z7
 have k7 : ∀ d o, d ≠ N -> d ≠ N + 1 -> d ≠ N + 2 -> d ≠ N + 4 -> d ≠ N + 5 -> s.heap.get? d = some o -> g7.get? d = some o := fun d o c1 c2 c3 c4 c5 e => (s7.2 d c4).trans ((s6.2 d c3).trans ((s5.2 d c4).trans ((s4.2 d c2).trans (k3 d o c1 c4 c5 e))))
 have f7 : S1 (i + 1) g7 := D1.frame _ _ _ f2 fun b hb o e => (s7.2 b (nin2 hb (by ac_rfl) (by ac_rfl))).trans ((s6.2 b (nin2 hb (by ac_rfl) (by ac_rfl))).trans ((s5.2 b (nin2 hb (by ac_rfl) (by ac_rfl))).trans ((s4.2 b (nin2 hb (by ac_rfl) (by ac_rfl))).trans ((s3.2 b (nin2 hb (by ac_rfl) (by ac_rfl))).trans e))))
 have f7' : S2 (i + 1) g7 := D2.frame _ _ _ f4 fun b hb o e => (s7.2 b (nin2 hb (by ac_rfl) (by ac_rfl))).trans ((s6.2 b (nin2 hb (by ac_rfl) (by ac_rfl))).trans ((s5.2 b (nin2 hb (by ac_rfl) (by ac_rfl))).trans e))
 have f7'' : S3 (i + 1) g7 := D3.frame _ _ _ f6 fun b hb o e => (s7.2 b (nin2 hb (by ac_rfl) (by ac_rfl))).trans e
 refine wpAny_bind (wpAny_seqItems q7 rfl (wpAny_bind (wpAny_newTuple (?_ : wpAny _ _ (Builtin.SmallTypes.ownedTupleHandOut (.ref (N + 5)) (.ref g7.objs.size) >>= _) _ _ _))))
 refine wpAny_bind ?_
 unfold Builtin.SmallTypes.ownedTupleHandOut
 refine wpAny_bind (wpAny_setField_rec (show IsZip (g7.push { cls := .type "tuple", data := .seq #[x, y, z] }) (N + 5) (N + 3) (N + 4) .ellipsis from Heap.get?_push_of_some _ z7) (by simp) fun g9 z9 s9 => ?_)
 replace z9 : IsZip g9 (N + 5) (N + 3) (N + 4) (rawInt g7.objs.size) := z9
 refine wpAny_setField_rec z9 (by simp) fun g8 z8 s8 => wpAny_pure ⟨_, rfl, ?_⟩
 replace z8 : IsZip g8 (N + 5) (N + 3) (N + 4) (rawInt g7.objs.size) := z8
 have up : ∀ c o, c ≠ N + 5 -> g7.get? c = some o -> g8.get? c = some o := fun c o c1 e => (s8.2 c c1).trans ((s9.2 c c1).trans (Heap.get?_push_of_some _ e))
 have T8 : zek g8 g7.objs.size x y z := (s8.2 _ (ne_ (by ac_rfl))).trans ((s9.2 _ (ne_ (by ac_rfl))).trans (Heap.get?_push_size _ rfl))
 rw [sz] at z8 T8
 refine (?_ : Q (.ref g7.objs.size) _)
 rw [sz]
 exact k x y z g8 _ p1 p2 p3 z8 (up _ _ (ne_ (by ac_rfl)) q7) (D1.frame _ _ _ f7 fun b hb o e => up b o (nin2 hb (by ac_rfl) (by ac_rfl)) e) (D2.frame _ _ _ f7' fun b hb o e => up b o (nin2 hb (by ac_rfl) (by ac_rfl)) e) (D3.frame _ _ _ f7'' fun b hb o e => up b o (nin2 hb (by ac_rfl) (by ac_rfl)) e) T8 fun c o c1 c2 c3 c4 c5 e => up c o c5 (k7 c o c1 c2 c3 c4 c5 e)
theorem zip3_end {a b c : Value} {Q : Fin -> Shared -> Prop} (D1 : Draws prog w A N [N, a1] n1 P1 S1) (D2 : Draws prog w A (N + 1) [N + 1, a2] n2 P2 S2) (D3 : Draws prog w A (N + 2) [N + 2, a3] n3 P3 S3) (l1 : a1 < N) (l2 : a2 < N) (l3 : a3 < N)
  (hz : IsZip s.heap (N + 5) (N + 3) (N + 4) .none) (hTI : zek s.heap (N + 3) (.ref N) (.ref (N + 1)) (.ref (N + 2))) (hTO : zek s.heap (N + 4) a b c) (h1 : S1 i s.heap) (h2 : S2 i s.heap) (h3 : S3 i s.heap) (hi : i = n1 \/ (i < n1 /\ (i = n2 \/ (i < n2 /\ i = n3))))
  (k : ∀ h' e tk, (∀ c o, c ≠ N -> c ≠ N + 1 -> c ≠ N + 2 -> c ≠ N + 4 -> c ≠ N + 5 -> s.heap.get? c = some o -> h'.get? c = some o) -> (∃ o, h'.get? e = some o /\ o.cls = .type "StopIteration") -> E (.ref e) { s with heap := h', toks := tk }) :
  wpAny (model prog w) A (Builtin.«zip.__next__» ⟨[.ref (N + 5)], []⟩) Q E s := by
 refine (?_ : wpAny _ _ (field (.ref (N + 5)) 2 >>= _) _ _ _)
 refine wpAny_bind (wpAny_field hz rfl (x := .bool false) rfl (?_ : wpAny _ _ (field (.ref (N + 5)) 3 >>= _) _ _ _))
 refine wpAny_bind (wpAny_field hz rfl (x := .ref (N + 3)) rfl (wpAny_bind (wpAny_seqItems hTI rfl (?_ : wpAny _ _ (Builtin.SmallTypes.ownedTupleIsFree (.ref (N + 5)) >>= _) _ _ _))))
 refine wpAny_bind ?_
 unfold Builtin.SmallTypes.ownedTupleIsFree
 refine wpAny_bind (wpAny_field hz rfl (x := .none) rfl (wpAny_pure ?_))
 simp only [if_true]
 refine wpAny_bind (wpAny_rule (wpAny_bind (wpAny_field hz rfl (x := .ref (N + 4)) rfl (wpAny_bind (wpAny_setField_rec hz (by simp) fun g1 z1 s1 => wpAny_bind ?_)))))
 replace z1 : IsZip g1 (N + 5) (N + 3) (N + 4) .ellipsis := z1
 simp only [List.zipIdx_cons, List.zipIdx_nil, List.forIn_cons, List.forIn_nil]
 refine wpAny_bind (wpAny_bind (wpAny_onRaise (?_ : wpAny _ _ (Builtin.SmallTypes.nextOf (.ref N) >>= _) _ _ _)))
 have e1 : S1 i g1 := D1.frame _ _ _ h1 fun b hb o e => (s1.2 b (nin2 hb (by ac_rfl) (by ac_rfl))).trans e
 rcases hi with rfl | ⟨i1, hi⟩
 ·refine wpAny_bind (D1.done _ _ _ e1 fun g2 e x2 he => ?_)
  obtain ⟨oe, hoe, hce⟩ := he
  have z2 : IsZip g2 (N + 5) (N + 3) (N + 4) .ellipsis := x2 _ _ (ne_ (by ac_rfl)) z1
  have hez : e ≠ N + 5 := fun x => by subst x; rw [z2] at hoe; cases hoe; simp at hce
  exact wpAny_setField_rec z2 (by simp) fun g3 _ s3 => k g3 e _ (fun c o c1 c2 c3 c4 c5 x => (s3.2 c c5).trans (x2 c o c1 ((s1.2 c c5).trans x))) ⟨oe, (s3.2 _ hez).trans hoe, hce⟩
 refine wpAny_bind (D1.item i _ _ _ i1 e1 fun x g2 t2 p1 f2 s2 => wpAny_pure ?_)
 have q2 : zek g2 (N + 4) a b c := (s2.2 _ (ne_ (by ac_rfl))).trans ((s1.2 _ (ne_ (by ac_rfl))).trans hTO)
 refine wpAny_bind (wpAny_seqItems q2 rfl (wpAny_bind (zjc q2 fun g3 q3 s3 => wpAny_bind (wpAny_letGo (wpAny_pure ?_)))))
 replace q3 : zek g3 (N + 4) x b c := q3
 have k3 : ∀ d o, d ≠ N -> d ≠ N + 4 -> d ≠ N + 5 -> s.heap.get? d = some o -> g3.get? d = some o := fun d o c1 c2 c3 e => (s3.2 d c2).trans ((s2.2 d c1).trans ((s1.2 d c3).trans e))
 have z3 : IsZip g3 (N + 5) (N + 3) (N + 4) .ellipsis := (s3.2 _ (ne_ (by ac_rfl))).trans ((s2.2 _ (ne_ (by ac_rfl))).trans z1)
 refine wpAny_bind (wpAny_bind (wpAny_onRaise (?_ : wpAny _ _ (Builtin.SmallTypes.nextOf (.ref (N + 1)) >>= _) _ _ _)))
 have e3 : S2 i g3 := D2.frame _ _ _ h2 fun b hb o e => k3 b o (nin2 hb (by ac_rfl) (by ac_rfl)) (nin2 hb (by ac_rfl) (by ac_rfl)) (nin2 hb (by ac_rfl) (by ac_rfl)) e
 rcases hi with rfl | ⟨i2, rfl⟩
 ·refine wpAny_bind (D2.done _ _ _ e3 fun g4 e x4 he => ?_)
  obtain ⟨oe, hoe, hce⟩ := he
  have z4 : IsZip g4 (N + 5) (N + 3) (N + 4) .ellipsis := x4 _ _ (ne_ (by ac_rfl)) z3
  have hez : e ≠ N + 5 := fun x => by subst x; rw [z4] at hoe; cases hoe; simp at hce
  exact wpAny_setField_rec z4 (by simp) fun g5 _ s5 => k g5 e _ (fun c o c1 c2 c3 c4 c5 x => (s5.2 c c5).trans (x4 c o c2 (k3 c o c1 c4 c5 x))) ⟨oe, (s5.2 _ hez).trans hoe, hce⟩
 refine wpAny_bind (D2.item i _ _ _ i2 e3 fun y g4 t4 p2 f4 s4 => wpAny_pure ?_)
 have q4 : zek g4 (N + 4) x b c := (s4.2 _ (ne_ (by ac_rfl))).trans q3
 refine wpAny_bind (wpAny_seqItems q4 rfl (wpAny_bind (zjc q4 fun g5 q5 s5 => wpAny_bind (wpAny_letGo (wpAny_pure ?_)))))
 have z5 : IsZip g5 (N + 5) (N + 3) (N + 4) .ellipsis := (s5.2 _ (ne_ (by ac_rfl))).trans ((s4.2 _ (ne_ (by ac_rfl))).trans z3)
 refine wpAny_bind (wpAny_bind (wpAny_onRaise (?_ : wpAny _ _ (Builtin.SmallTypes.nextOf (.ref (N + 2)) >>= _) _ _ _)))
 have e5 : S3 i g5 := D3.frame _ _ _ h3 fun b hb o e => (s5.2 b (nin2 hb (by ac_rfl) (by ac_rfl))).trans ((s4.2 b (nin2 hb (by ac_rfl) (by ac_rfl))).trans (k3 b o (nin2 hb (by ac_rfl) (by ac_rfl)) (nin2 hb (by ac_rfl) (by ac_rfl)) (nin2 hb (by ac_rfl) (by ac_rfl)) e))
 refine wpAny_bind (D3.done _ _ _ e5 fun g6 e x6 he => ?_)
 obtain ⟨oe, hoe, hce⟩ := he
 have z6 : IsZip g6 (N + 5) (N + 3) (N + 4) .ellipsis := x6 _ _ (ne_ (by ac_rfl)) z5
 have hez : e ≠ N + 5 := fun x => by subst x; rw [z6] at hoe; cases hoe; simp at hce
 exact wpAny_setField_rec z6 (by simp) fun g7 _ s7 => k g7 e _ (fun c o c1 c2 c3 c4 c5 x => (s7.2 c c5).trans (x6 c o c3 ((s5.2 c c4).trans ((s4.2 c c2).trans (k3 c o c1 c4 c5 x))))) ⟨oe, (s7.2 _ hez).trans hoe, hce⟩
end
end
abbrev tup_ (vs : Array Value) : Obj := { cls := .type "tuple", data := .seq vs }
abbrev zip_ (ti to : Addr) : Obj := { cls := .type "zip", data := .fields #[.none, .bool false, .bool false, .ref ti, .ref to] }
abbrev z2a (h : Heap) (t1 t2 : Bool) (l1 l2 : Addr) : Heap := (h.push (srcO t1 l1)).push (srcO t2 l2)
abbrev z2b (h : Heap) (t1 t2 : Bool) (l1 l2 : Addr) : Heap := (z2a h t1 t2 l1 l2).push (tup_ #[.ref h.objs.size, .ref (h.push (srcO t1 l1)).objs.size])
abbrev z2c (h : Heap) (t1 t2 : Bool) (l1 l2 : Addr) : Heap := (z2b h t1 t2 l1 l2).push (tup_ #[.none, .none])
abbrev z2d (h : Heap) (t1 t2 : Bool) (l1 l2 : Addr) : Heap := (z2c h t1 t2 l1 l2).push (zip_ (z2a h t1 t2 l1 l2).objs.size (z2b h t1 t2 l1 l2).objs.size)
theorem znn (t1 t2 : Bool) (l1 l2 : Addr) (xs ys : Array Value) : Meets (Builtin.«zip.__new__» ⟨[.type "zip", .ref l1, .ref l2], []⟩) (fun _ R s => SrcH t1 s.heap l1 xs /\ SrcH t2 s.heap l2 ys /\
   R (.ok (.ret (.ref (z2c s.heap t1 t2 l1 l2).objs.size))) { s with heap := z2d s.heap t1 t2 l1 l2 }) :=
 .of_wp fun prog w A R s h => by
  obtain ⟨hp, g, d, tk, os⟩ := s
  obtain ⟨b1, b2, h⟩ := h
  have hsub := sub_zip
  have L1 : SrcH t1 (Shared.heap ⟨hp, g, d, tk, os⟩) l1 xs := b1
  have L2 : SrcH t2 (Shared.heap ⟨hp.push (srcO t1 l1), g, d, tk, os⟩) l2 ys := SrcH.at b2 fun o e => Heap.get?_push_of_some _ e
  wp_walk using zcH L1, zcH L2
  exact ⟨_, rfl, h⟩
abbrev z3a (h : Heap) (t1 t2 t3 : Bool) (l1 l2 l3 : Addr) : Heap := ((h.push (srcO t1 l1)).push (srcO t2 l2)).push (srcO t3 l3)
abbrev z3b (h : Heap) (t1 t2 t3 : Bool) (l1 l2 l3 : Addr) : Heap := (z3a h t1 t2 t3 l1 l2 l3).push (tup_ #[.ref h.objs.size, .ref (h.push (srcO t1 l1)).objs.size, .ref ((h.push (srcO t1 l1)).push (srcO t2 l2)).objs.size])
abbrev z3c (h : Heap) (t1 t2 t3 : Bool) (l1 l2 l3 : Addr) : Heap := (z3b h t1 t2 t3 l1 l2 l3).push (tup_ #[.none, .none, .none])
abbrev z3d (h : Heap) (t1 t2 t3 : Bool) (l1 l2 l3 : Addr) : Heap := (z3c h t1 t2 t3 l1 l2 l3).push (zip_ (z3a h t1 t2 t3 l1 l2 l3).objs.size (z3b h t1 t2 t3 l1 l2 l3).objs.size)
set_option maxHeartbeats 4000000 in
theorem znC (t1 t2 t3 : Bool) (l1 l2 l3 : Addr) (xs ys zs : Array Value) : Meets (Builtin.«zip.__new__» ⟨[.type "zip", .ref l1, .ref l2, .ref l3], []⟩) (fun _ R s => SrcH t1 s.heap l1 xs /\ SrcH t2 s.heap l2 ys /\ SrcH t3 s.heap l3 zs /\
   R (.ok (.ret (.ref (z3c s.heap t1 t2 t3 l1 l2 l3).objs.size))) { s with heap := z3d s.heap t1 t2 t3 l1 l2 l3 }) :=
 .of_wp fun prog w A R s h => by
  obtain ⟨hp, g, d, tk, os⟩ := s
  obtain ⟨b1, b2, b3, h⟩ := h
  have hsub := sub_zip
  have L1 : SrcH t1 (Shared.heap ⟨hp, g, d, tk, os⟩) l1 xs := b1
  have L2 : SrcH t2 (Shared.heap ⟨hp.push (srcO t1 l1), g, d, tk, os⟩) l2 ys := SrcH.at b2 fun o e => Heap.get?_push_of_some _ e
  have L3 : SrcH t3 (Shared.heap ⟨(hp.push (srcO t1 l1)).push (srcO t2 l2), g, d, tk, os⟩) l3 zs := SrcH.at b3 fun o e => Heap.get?_push_of_some _ (Heap.get?_push_of_some _ e)
  wp_walk using zcH L1, zcH L2, zcH L3
  exact ⟨_, rfl, h⟩
theorem zj8 (a b c : Value) : checkTypeCall "zip" ⟨[a, b, c], []⟩ = pure () := by kernel_rfl
theorem zlj (a b c : Value) : checkBuiltinCall "zip.__new__" ⟨[.type "zip", a, b, c], []⟩ = pure () := by kernel_rfl
theorem znG (a b c d : Value) : argsOk "object.__init__" ⟨[a, b, c, d], []⟩ := by
 unfold argsOk; rw [signature?_of (id := "object.__init__") (n := ['_', '_', 't', 'i', 'n', 'i', '_', '_']) (o := ['t', 'c', 'e', 'j', 'b', 'o']) (by kernel_rfl) F.owner_object]; kernel_rfl
section
variable {prog : Program} {w : World} {A : Around} {E : Value -> Shared -> Prop} {s : Shared}
theorem zod {t1 t2 : Bool} {l1 l2 : Addr} (h1 : SrcH t1 s.heap l1 xs) (h2 : SrcH t2 s.heap l2 ys)
  (k : ∀ h', IsZip h' (s.heap.objs.size + 4) (s.heap.objs.size + 2) (s.heap.objs.size + 3) .none -> IsPair h' (s.heap.objs.size + 2) (.ref s.heap.objs.size) (.ref (s.heap.objs.size + 1)) ->
   IsPair h' (s.heap.objs.size + 3) .none .none -> SrcIt t1 h' s.heap.objs.size l1 0 -> SrcIt t2 h' (s.heap.objs.size + 1) l2 0 ->
   (∀ c o, s.heap.get? c = some o -> h'.get? c = some o) -> Q (.ref (s.heap.objs.size + 4)) { s with heap := h' }) : wpAny (model prog w) A (call (.type "zip") [.ref l1, .ref l2]) Q E s := by
 refine callType_new F.called_zip (by decide) (F.typeCall_zip_2 _ _) (F.newCall_zip_2 _ _) (fun obj => F.args_object_init_3 obj _ _) F.entry_zip_new (znn t1 t2 l1 l2 xs ys) ⟨h1, h2, (?_ : _ /\ _)⟩
 have y1 : (s.heap.push (srcO t1 l1)).objs.size = s.heap.objs.size + 1 := Heap.size_push ..
 have y2 : (z2a s.heap t1 t2 l1 l2).objs.size = s.heap.objs.size + 2 := by rw [Heap.size_push, y1]
 have y3 : (z2b s.heap t1 t2 l1 l2).objs.size = s.heap.objs.size + 3 := by rw [Heap.size_push, y2]
 have y4 : (z2c s.heap t1 t2 l1 l2).objs.size = s.heap.objs.size + 4 := by rw [Heap.size_push, y3]
 have g5 : (z2d s.heap t1 t2 l1 l2).get? (z2c s.heap t1 t2 l1 l2).objs.size = some _ := Heap.get?_push_size _ rfl
 have g4 : (z2d s.heap t1 t2 l1 l2).get? (z2b s.heap t1 t2 l1 l2).objs.size = some _ := Heap.get?_push_of_some _ (Heap.get?_push_size _ rfl)
 have g3 : (z2d s.heap t1 t2 l1 l2).get? (z2a s.heap t1 t2 l1 l2).objs.size = some _ := Heap.get?_push_of_some _ (Heap.get?_push_of_some _ (Heap.get?_push_size _ rfl))
 have g2 : (z2d s.heap t1 t2 l1 l2).get? (s.heap.push (srcO t1 l1)).objs.size = some (srcO t2 l2) := Heap.get?_push_of_some _ (Heap.get?_push_of_some _ (Heap.get?_push_of_some _ (Heap.get?_push_size _ (zeM ..))))
 have g1 : (z2d s.heap t1 t2 l1 l2).get? s.heap.objs.size = some (srcO t1 l1) := Heap.get?_push_of_some _ (Heap.get?_push_of_some _ (Heap.get?_push_of_some _ (Heap.get?_push_of_some _ (Heap.get?_push_size _ (zeM ..)))))
 rw [y2, y3, y4] at g5
 rw [y1, y2] at g3
 rw [y3] at g4
 rw [y1] at g2
 rw [y4]
 exact ⟨⟨_, g5, rfl⟩, k _ g5 g3 g4 (zh6 g1) (zh6 g2) fun c o x => Heap.get?_push_of_some _ (Heap.get?_push_of_some _ (Heap.get?_push_of_some _ (Heap.get?_push_of_some _ (Heap.get?_push_of_some _ x))))⟩
theorem zov {t1 t2 t3 : Bool} {l1 l2 l3 : Addr} {xs ys zs : Array Value} (h1 : SrcH t1 s.heap l1 xs) (h2 : SrcH t2 s.heap l2 ys) (h3 : SrcH t3 s.heap l3 zs)
  (k : ∀ h', IsZip h' (s.heap.objs.size + 5) (s.heap.objs.size + 3) (s.heap.objs.size + 4) .none -> zek h' (s.heap.objs.size + 3) (.ref s.heap.objs.size) (.ref (s.heap.objs.size + 1)) (.ref (s.heap.objs.size + 2)) ->
   zek h' (s.heap.objs.size + 4) .none .none .none -> SrcIt t1 h' s.heap.objs.size l1 0 -> SrcIt t2 h' (s.heap.objs.size + 1) l2 0 -> SrcIt t3 h' (s.heap.objs.size + 2) l3 0 ->
   (∀ c o, s.heap.get? c = some o -> h'.get? c = some o) -> Q (.ref (s.heap.objs.size + 5)) { s with heap := h' }) : wpAny (model prog w) A (call (.type "zip") [.ref l1, .ref l2, .ref l3]) Q E s := by
 refine callType_new F.called_zip (by decide) (zj8 _ _ _) (zlj _ _ _) (fun obj => znG obj _ _ _) F.entry_zip_new (znC t1 t2 t3 l1 l2 l3 xs ys zs) ⟨h1, h2, h3, (?_ : _ /\ _)⟩
 have y1 : (s.heap.push (srcO t1 l1)).objs.size = s.heap.objs.size + 1 := Heap.size_push ..
 have y2 : ((s.heap.push (srcO t1 l1)).push (srcO t2 l2)).objs.size = s.heap.objs.size + 2 := by rw [Heap.size_push, y1]
 have y3 : (z3a s.heap t1 t2 t3 l1 l2 l3).objs.size = s.heap.objs.size + 3 := by rw [Heap.size_push, y2]
 have y4 : (z3b s.heap t1 t2 t3 l1 l2 l3).objs.size = s.heap.objs.size + 4 := by rw [Heap.size_push, y3]
 have y5 : (z3c s.heap t1 t2 t3 l1 l2 l3).objs.size = s.heap.objs.size + 5 := by rw [Heap.size_push, y4]
 have g6 : (z3d s.heap t1 t2 t3 l1 l2 l3).get? (z3c s.heap t1 t2 t3 l1 l2 l3).objs.size = some _ := Heap.get?_push_size _ rfl
 have g5 : (z3d s.heap t1 t2 t3 l1 l2 l3).get? (z3b s.heap t1 t2 t3 l1 l2 l3).objs.size = some _ := Heap.get?_push_of_some _ (Heap.get?_push_size _ rfl)
 have g4 : (z3d s.heap t1 t2 t3 l1 l2 l3).get? (z3a s.heap t1 t2 t3 l1 l2 l3).objs.size = some _ := Heap.get?_push_of_some _ (Heap.get?_push_of_some _ (Heap.get?_push_size _ rfl))
 have g3 : (z3d s.heap t1 t2 t3 l1 l2 l3).get? ((s.heap.push (srcO t1 l1)).push (srcO t2 l2)).objs.size = some (srcO t3 l3) := Heap.get?_push_of_some _ (Heap.get?_push_of_some _ (Heap.get?_push_of_some _ (Heap.get?_push_size _ (zeM ..))))
 have g2 : (z3d s.heap t1 t2 t3 l1 l2 l3).get? (s.heap.push (srcO t1 l1)).objs.size = some (srcO t2 l2) := Heap.get?_push_of_some _ (Heap.get?_push_of_some _ (Heap.get?_push_of_some _ (Heap.get?_push_of_some _ (Heap.get?_push_size _ (zeM ..)))))
 have g1 : (z3d s.heap t1 t2 t3 l1 l2 l3).get? s.heap.objs.size = some (srcO t1 l1) := Heap.get?_push_of_some _ (Heap.get?_push_of_some _ (Heap.get?_push_of_some _ (Heap.get?_push_of_some _ (Heap.get?_push_of_some _ (Heap.get?_push_size _ (zeM ..))))))
 rw [y3, y4, y5] at g6
 rw [y1, y2, y3] at g4
 rw [y4] at g5
 rw [y2] at g3
 rw [y1] at g2
 rw [y5]
 exact ⟨⟨_, g6, rfl⟩, k _ g6 g4 g5 (zh6 g1) (zh6 g2) (zh6 g3) fun c o x => Heap.get?_push_of_some _ (Heap.get?_push_of_some _ (Heap.get?_push_of_some _ (Heap.get?_push_of_some _ (Heap.get?_push_of_some _ (Heap.get?_push_of_some _ x)))))⟩
abbrev en_ (it : Addr) : Obj := { cls := .type "enumerate", data := .fields #[.none, .bool false, .ref it, rawInt 0, .none, .none] }
theorem znD (t : Bool) (l : Addr) (o : Obj) (xs : Array Value) : Meets (Builtin.«enumerate.__new__» ⟨[.type "enumerate", .ref l], []⟩) (fun _ R s => s.heap.get? l = some o /\ SrcH t s.heap l xs /\
   R (.ok (.ret (.ref (s.heap.push (srcO t l)).objs.size))) { s with heap := (s.heap.push (srcO t l)).push (en_ s.heap.objs.size) }) :=
 .of_wp fun prog w A R s h => by
  obtain ⟨hp, g, d, tk, os⟩ := s
  obtain ⟨hl, b, h⟩ := h
  have hsub := sub_enumerate
  have hL : SrcH t (Shared.heap ⟨hp, g, d, tk, os⟩) l xs := b
  wp_walk using AutoSeq1.wpAny_loadPart' hl
  refine wpAny_stack_any fun st => wpAny_pure ?_
  split
  ·rename_i c _ _ _ _ _
   cases (c == Value.type "enumerate") <;> (wp_walk using AutoSeq1.wpAny_loadPart' hl, zcH hL; exact ⟨_, rfl, h⟩)
  ·wp_walk using AutoSeq1.wpAny_loadPart' hl, zcH hL
   exact ⟨_, rfl, h⟩
theorem zpv (h1 : SrcH t s.heap l xs)
  (k : ∀ h', IsEnum h' (s.heap.objs.size + 1) s.heap.objs.size 0 .none -> SrcIt t h' s.heap.objs.size l 0 -> (∀ b o, s.heap.get? b = some o -> h'.get? b = some o) -> Q (.ref (s.heap.objs.size + 1)) { s with heap := h' }) :
  wpAny (model prog w) A (call (.type "enumerate") [.ref l]) Q E s := by
 have ⟨o, ho⟩ : ∃ o, s.heap.get? l = some o := by cases t <;> (obtain ⟨o, e, -⟩ := h1; exact ⟨o, e⟩)
 refine callType_new F.called_enumerate (by decide) (F.typeCall_enumerate_1 _) (F.newCall_enumerate_1 _) (fun obj => F.args_object_init_2 obj _) F.entry_enumerate_new (znD t l o xs) ⟨ho, h1, (?_ : _ /\ _)⟩
 have y1 : (s.heap.push (srcO t l)).objs.size = s.heap.objs.size + 1 := Heap.size_push ..
 have g2 : ((s.heap.push (srcO t l)).push (en_ s.heap.objs.size)).get? (s.heap.push (srcO t l)).objs.size = some _ := Heap.get?_push_size _ rfl
 have g1 : ((s.heap.push (srcO t l)).push (en_ s.heap.objs.size)).get? s.heap.objs.size = some (srcO t l) := Heap.get?_push_of_some _ (Heap.get?_push_size _ (zeM ..))
 rw [y1] at g2
 rw [y1]
 exact ⟨⟨_, g2, rfl⟩, k _ g2 (zh6 g1) fun b o x => Heap.get?_push_of_some _ (Heap.get?_push_of_some _ x)⟩
end
end M
namespace M
local macro_rules | `(tactic| ac_rfl) => `(tactic| first | exact M.nA (by decide) | exact M.nB (by decide) | exact M.nC (by decide) | exact M.nL (by assumption) | exact Nat.ne_of_lt (by assumption) | omega)
open L2 PySem PySem.Spec
open PyProof.Rows hiding St
open Sem (wp)
variable {t' ek : Nat} {h' : Heap} {fp : List Addr} {vs xs : List V} {its : List Value} {t : Bool} {X : Cx} {pins : List (Addr × Obj)} {σ : St} {H : Hp} {s : Shared} {a : Expr} {K : W.Frag} {elts : List Expr} {ep p pos : Pos} {ta : TA} {es : List D} {ma : MA}
section
variable {X : Cx} {pins : List (Addr × Obj)} {σ : St} {H : Hp} {s : Shared}
theorem zj4 (I : Inv X pins σ H s) (k : ∀ b o, b ∉ fp -> s.heap.get? b = some o -> h'.get? b = some o) (hf : ∀ b ∈ fp, FpOk X pins H b) : Inv X pins σ H { s with heap := h', toks := t' } := by
 have nit : ∀ b u, H b = some u -> b ∉ fp := fun b u e z => by rw [(hf b z).1] at e; cases e
 refine I.step (g' := s.gens) (d' := s.drawn) (ch := fp) (fun b hb => ?_) (fun b o _ _ hc e _ => k b o hc e) (fun b o _ _ hc e _ => ⟨o.slots, k b o hc e⟩) (fun _ _ _ _ n => n)
  (fun b o hc e => ⟨o, k b o hc e⟩) (fun _ _ e => e) (fun _ _ _ e => e) (fun b ps e => ⟨#[], by rw [e]; simp⟩) (fun m hm => ?_) (fun b u e => ?_) I.bare
 ·obtain ⟨f0, f1, f2, f3, f4, f5⟩ := hf b hb
  exact ⟨f3, f1, f4, f5⟩
 ·obtain ⟨o, es, ep, ho, r⟩ := hm
  exact ⟨o, es, ep, k _ o (fun z => (hf _ z).2.1 rfl) ho, r⟩
 ·refine (I.hok b u e).stay (fun c v hc q => k c v ?_ q) (fun _ q => q) fun _ _ q => q
  rcases hc with z | z
  ·rw [z]; exact nit b u e
  ·exact nit c _ z
theorem zmb {t' : Nat} {h' : Heap} {fp : List Addr} (I : Inv X pins σ H s) (k : ∀ b o, b ∉ fp -> s.heap.get? b = some o -> h'.get? b = some o) (hf : ∀ b ∈ fp, FpOk X pins H b) (hl : ∀ b ∈ fp, b < s.heap.objs.size)
  (hT : h'.get? s.heap.objs.size = some (tup_ its.toArray)) (hz : vs.length <= sizeLine) (r : Vals vs its) : Inv X pins σ (upd H s.heap.objs.size (.tup vs)) { s with heap := h', toks := t' } := by
 have I1 := I.laid (t' := s.toks) (a := s.heap.objs.size) (o := .tup vs) (h' := s.heap.push (tup_ its.toArray)) (fun b u q => Heap.get?_push_of_some _ q) (Nat.le_refl _) ⟨hz, its, r, IsTup.new _ _⟩
 refine zj4 (s := { s with heap := s.heap.push (tup_ its.toArray), toks := s.toks }) (t' := t') (fp := fp) I1 (fun b o hb e => ?_) fun b hb => ?_
 ·have e' : (s.heap.push (tup_ its.toArray)).get? b = some o := e
  rcases Heap.get?_push_cases e' with ⟨rfl, rfl⟩ | q
  ·exact hT
  ·exact k b o hb q
 ·obtain ⟨f0, fr⟩ := hf b hb
  refine ⟨?_, fr⟩
  rw [zaw (Nat.ne_of_lt (hl b hb))]
  exact f0
end
def SrcSq (t : Bool) (K : W.Frag) (H : Hp) (a : Addr) (xs : List V) : Prop := match t with
 | true => SqT K H a xs
 | false => SqL K H a xs
theorem SrcSq.heap {a : Addr} (I : Inv X pins σ H s) (h : SrcSq t X.K H a xs) : ∃ its : List Value, Vals xs its /\ SrcH t s.heap a its.toArray /\ xs.length <= sizeLine := by
 cases t
 ·obtain ⟨its, r, p, z⟩ := I.list h
  exact ⟨its, r, p.isList, z⟩
 ·obtain ⟨its, r, p, z⟩ := I.tuple h
  exact ⟨its, r, p, z⟩
theorem SrcSq.inj {a : Addr} {xs ys : List V} (I : Inv X pins σ H s) (h : SrcSq t X.K H a xs) (h' : SrcSq t X.K H a ys) : xs = ys := by
 cases t
 ·exact I.list_inj h h'
 ·exact I.tuple_inj h h'
def Itz2 (K : W.Frag) (t1 : Bool) (a1 : Addr) (t2 : Bool) (a2 : Addr) (n : Nat) : It where
 go := fun i H => i < n /\ ∃ xs ys, SrcSq t1 K H a1 xs /\ SrcSq t2 K H a2 ys /\ n = min xs.length ys.length
 yld := fun i H x H' => ∃ p x1 x2, H p = none /\ H' = upd H p (.tup [x1, x2]) /\ x = .ref p /\ ∀ xs ys, SrcSq t1 K H a1 xs -> SrcSq t2 K H a2 ys -> xs[i]? = some x1 /\ ys[i]? = some x2
 stop := fun i H => n <= i /\ ∃ xs ys, SrcSq t1 K H a1 xs /\ SrcSq t2 K H a2 ys /\ n = min xs.length ys.length
theorem nin4 {c N : Nat} (h : c ∉ ([N, N + 1, N + 2, N + 3, N + 4] : List Nat)) : c ≠ N /\ c ≠ N + 1 /\ c ≠ N + 3 /\ c ≠ N + 4 :=
 ⟨fun e => h (e ▸ .head _), fun e => h (e ▸ .tail _ (.head _)), fun e => h (e ▸ .tail _ (.tail _ (.tail _ (.head _)))), fun e => h (e ▸ .tail _ (.tail _ (.tail _ (.tail _ (.head _)))))⟩
theorem nin5 {c N : Nat} (h : c ∉ ([N, N + 1, N + 2, N + 3, N + 4, N + 5] : List Nat)) : c ≠ N /\ c ≠ N + 1 /\ c ≠ N + 2 /\ c ≠ N + 4 /\ c ≠ N + 5 :=
 ⟨fun e => h (e ▸ .head _), fun e => h (e ▸ .tail _ (.head _)), fun e => h (e ▸ .tail _ (.tail _ (.head _))), fun e => h (e ▸ .tail _ (.tail _ (.tail _ (.tail _ (.head _))))), fun e => h (e ▸ .tail _ (.tail _ (.tail _ (.tail _ (.tail _ (.head _))))))⟩
def Itz3 (K : W.Frag) (t1 : Bool) (a1 : Addr) (t2 : Bool) (a2 : Addr) (t3 : Bool) (a3 : Addr) (n : Nat) : It where
 go := fun i H => i < n /\ ∃ xs ys zs, SrcSq t1 K H a1 xs /\ SrcSq t2 K H a2 ys /\ SrcSq t3 K H a3 zs /\ n = min xs.length (min ys.length zs.length)
 yld := fun i H x H' => ∃ p x1 x2 x3, H p = none /\ H' = upd H p (.tup [x1, x2, x3]) /\ x = .ref p /\ ∀ xs ys zs, SrcSq t1 K H a1 xs -> SrcSq t2 K H a2 ys -> SrcSq t3 K H a3 zs -> xs[i]? = some x1 /\ ys[i]? = some x2 /\ zs[i]? = some x3
 stop := fun i H => n <= i /\ ∃ xs ys zs, SrcSq t1 K H a1 xs /\ SrcSq t2 K H a2 ys /\ SrcSq t3 K H a3 zs /\ n = min xs.length (min ys.length zs.length)
theorem zo1 {P : Program} {w : World} (t1 : Bool) (a1 : Nat) (t2 : Bool) (a2 : Nat) (t3 : Bool) (a3 : Nat) (n N : Nat) (l1 : a1 < N) (l2 : a2 < N) (l3 : a3 < N) :
  Turn P w K (.Tuple elts ek ep) (Itz3 K t1 a1 t2 a2 t3 a3 n) ([N, N + 1, N + 2, N + 3, N + 4, N + 5] : List Nat) (N + 5 : Nat)
   (fun i h => i <= n /\ IsZip h (N + 5 : Nat) (N + 3 : Nat) (N + 4 : Nat) .none /\ zek h (N + 3 : Nat) (.ref N) (.ref (N + 1 : Nat)) (.ref (N + 2 : Nat)) /\ (∃ a b c, zek h (N + 4 : Nat) a b c) /\ SrcIt t1 h N a1 i /\ SrcIt t2 h (N + 1 : Nat) a2 i /\ SrcIt t3 h (N + 2 : Nat) a3 i) where
 mem := by simp
 obj := fun i h st b hb => by
  obtain ⟨-, h5, h3, ⟨a, c, d, h4⟩, h0, h1, h2⟩ := st
  simp only [List.mem_cons, List.not_mem_nil, or_false] at hb
  rcases hb with rfl | rfl | rfl | rfl | rfl | rfl
  ·exact h0.obj
  ·exact h1.obj
  ·exact h2.obj
  ·exact ⟨_, h3, fun v z => by cases z⟩
  ·exact ⟨_, h4, fun v z => by cases z⟩
  ·exact ⟨_, h5, fun v z => by cases z⟩
 keep := fun i h h' st k => by
  obtain ⟨hi, h5, h3, ⟨a, c, d, h4⟩, h0, h1, h2⟩ := st
  exact ⟨hi, k _ (by simp) _ h5, k _ (by simp) _ h3, ⟨a, c, d, k _ (by simp) _ h4⟩, h0.at fun o e => k _ (by simp) o e, h1.at fun o e => k _ (by simp) o e, h2.at fun o e => k _ (by simp) o e⟩
 item := by
  intro X hP hw hK hc i pins s σ H E I hf st hg
  subst hP hw hK
  obtain ⟨hi, h5, h3, ⟨a, c, d, h4⟩, h0, h1, h2⟩ := st
  obtain ⟨hn, xs, ys, zs, q1, q2, q3, en⟩ := hg
  obtain ⟨us, ru, hu, zu⟩ := q1.heap I
  obtain ⟨ws, rw', hw', zw⟩ := q2.heap I
  obtain ⟨os, ro, ho', zo⟩ := q3.heap I
  have lu := ru.length
  have lw := rw'.length
  have lo := ro.length
  have D1 := zbs (prog := X.prog) (w := X.w) (A := X.A.in1) (t := t1) (I.ok.hd hc) N a1 (ne_ (by ac_rfl)) us.toArray
  have D2 := zbs (prog := X.prog) (w := X.w) (A := X.A.in1) (t := t2) (I.ok.hd hc) (N + 1) a2 (ne_ (by ac_rfl)) ws.toArray
  have D3 := zbs (prog := X.prog) (w := X.w) (A := X.A.in1) (t := t3) (I.ok.hd hc) (N + 2) a3 (ne_ (by ac_rfl)) os.toArray
  have hT : s.TypeIs (.ref (N + 5 : Nat)) "zip" := ⟨_, h5, rfl⟩
  unfold pyNext
  refine wpAny_bind (wpAny_attempt (wpAny_callSpecial?_slot (name := Str.ofString "__next__") hT F.slot_zip_next (wpAny_call_entry F.slot_zip_next hT F.entry_zip_next
   (zoF D1 D2 D3 l1 l2 l3 h5 h3 h4 ⟨h0, hu⟩ ⟨h1, hw'⟩ ⟨h2, ho'⟩ (by simp; omega) (by simp; omega) (by simp; omega) fun x y z h' tk p1 p2 p3 g5 g4 g0 g1 g2 gT kk => wpAny_pure ?_) (F.args_zip_next_1 _))))
  obtain ⟨x1, hx1⟩ : ∃ x1, xs[i]? = some x1 := ⟨xs[i]'(by omega), List.getElem?_eq_getElem _⟩
  obtain ⟨x2, hx2⟩ : ∃ x2, ys[i]? = some x2 := ⟨ys[i]'(by omega), List.getElem?_eq_getElem _⟩
  obtain ⟨x3, hx3⟩ : ∃ x3, zs[i]? = some x3 := ⟨zs[i]'(by omega), List.getElem?_eq_getElem _⟩
  obtain ⟨u1, hu1, r1⟩ := ru.get hx1
  obtain ⟨u2, hu2, r2⟩ := rw'.get hx2
  obtain ⟨u3, hu3, r3⟩ := ro.get hx3
  have e1 : u1 = x := by
   have : us[i]? = some x := by simpa using p1
   rw [hu1] at this; cases this; rfl
  have e2 : u2 = y := by
   have : ws[i]? = some y := by simpa using p2
   rw [hu2] at this; cases this; rfl
  have e3 : u3 = z := by
   have : os[i]? = some z := by simpa using p3
   rw [hu3] at this; cases this; rfl
  subst e1 e2 e3
  refine ⟨_, rfl, wpAny_letOwnedTupleGo_zip (s := { s with heap := h', toks := tk }) g5 fun h'' g5' sb => ?_⟩
  replace sb : Heap.SameBut (N + 5 : Nat) h' h'' := sb
  have lz : N + 5 < s.heap.objs.size := Heap.lt_size h5
  have kk' : ∀ b o, b ∉ ([N, N + 1, N + 2, N + 3, N + 4, N + 5] : List Nat) -> s.heap.get? b = some o -> h''.get? b = some o := fun b o hb e => by
   obtain ⟨c1, c2, c3, c4, c5⟩ := nin5 hb
   exact (sb.2 b c5).trans (kk b o c1 c2 c3 c4 c5 e)
  have I1 := zmb (t' := tk) (vs := [x1, x2, x3]) (its := [u1, u2, u3]) I kk' hf (fun b hb => by
   have : b = N \/ b = N + 1 \/ b = N + 2 \/ b = N + 3 \/ b = N + 4 \/ b = N + 5 := by simpa using hb
   exact Nat.lt_of_le_of_lt (show (b : Nat) <= N + 5 by rcases this with h | h | h | h | h | h <;> rw [h] <;> simp) lz) ((sb.2 _ (ne_ (by ac_rfl))).trans gT) (by simp; rw [sizeLine_eq]; decide) (.cons r1 (.cons r2 (.cons r3 .nil)))
  refine ⟨.ref s.heap.objs.size, _, I1, rfl, ⟨_, x1, x2, x3, I.hok.fresh (Nat.le_refl _), rfl, rfl, fun xs' ys' zs' b1 b2 b3 => ?_⟩, ⟨hn, g5', (sb.2 _ (ne_ (by ac_rfl))).trans (kk _ _ (ne_ (by ac_rfl)) (ne_ (by ac_rfl)) (ne_ (by ac_rfl)) (ne_ (by ac_rfl)) (ne_ (by ac_rfl)) h3), ⟨_, _, _, (sb.2 _ (ne_ (by ac_rfl))).trans g4⟩, SrcIt.at g0.1 fun o e => (sb.2 _ (ne_ (by ac_rfl))).trans e, SrcIt.at g1.1 fun o e => (sb.2 _ (ne_ (by ac_rfl))).trans e, SrcIt.at g2.1 fun o e => (sb.2 _ (ne_ (by ac_rfl))).trans e⟩, fun b hb => ?_⟩
  ·rw [SrcSq.inj I b1 q1, SrcSq.inj I b2 q2, SrcSq.inj I b3 q3]
   exact ⟨hx1, hx2, hx3⟩
  ·have : b = N \/ b = N + 1 \/ b = N + 2 \/ b = N + 3 \/ b = N + 4 \/ b = N + 5 := by simpa using hb
   rw [zaw (Nat.ne_of_lt (Nat.lt_of_le_of_lt (show (b : Nat) <= N + 5 by rcases this with h | h | h | h | h | h <;> rw [h] <;> simp) lz))]
   exact (hf b hb).1
 done := by
  intro X hP hw hK hc i pins s σ H E I hf st hg
  subst hP hw hK
  obtain ⟨hi, h5, h3, ⟨a, c, d, h4⟩, h0, h1, h2⟩ := st
  obtain ⟨hn, xs, ys, zs, q1, q2, q3, en⟩ := hg
  obtain ⟨us, ru, hu, zu⟩ := q1.heap I
  obtain ⟨ws, rw', hw', zw⟩ := q2.heap I
  obtain ⟨os, ro, ho', zo⟩ := q3.heap I
  have lu := ru.length
  have lw := rw'.length
  have lo := ro.length
  have D1 := zbs (prog := X.prog) (w := X.w) (A := X.A.in1) (t := t1) (I.ok.hd hc) N a1 (ne_ (by ac_rfl)) us.toArray
  have D2 := zbs (prog := X.prog) (w := X.w) (A := X.A.in1) (t := t2) (I.ok.hd hc) (N + 1) a2 (ne_ (by ac_rfl)) ws.toArray
  have D3 := zbs (prog := X.prog) (w := X.w) (A := X.A.in1) (t := t3) (I.ok.hd hc) (N + 2) a3 (ne_ (by ac_rfl)) os.toArray
  have hT : s.TypeIs (.ref (N + 5 : Nat)) "zip" := ⟨_, h5, rfl⟩
  unfold pyNext
  refine wpAny_bind (wpAny_attempt (wpAny_callSpecial?_slot (name := Str.ofString "__next__") hT F.slot_zip_next (wpAny_call_entry F.slot_zip_next hT F.entry_zip_next
   (zip3_end D1 D2 D3 l1 l2 l3 h5 h3 h4 ⟨h0, hu⟩ ⟨h1, hw'⟩ ⟨h2, ho'⟩ (by simp; omega) fun h' e tk kk he => ?_) (F.args_zip_next_1 _))))
  obtain ⟨o, ho, hce⟩ := he
  refine wpAny_bind (wpAny_isInstance (T := "StopIteration") (b := true) ⟨o, ho, hce⟩ isSubtype_stop (wpAny_pure ⟨rfl, zj4 I (fun b o hb e => ?_) hf⟩))
  obtain ⟨c1, c2, c3, c4, c5⟩ := nin5 hb
  exact kk b o c1 c2 c3 c4 c5 e
 self := fun _ _ _ _ _ st h => wpAny_pyIter_zip st.2.1 h
def Ite (K : W.Frag) (t1 : Bool) (a1 : Addr) (n : Nat) : It where
 go := fun i H => i < n /\ ∃ xs, SrcSq t1 K H a1 xs /\ n = xs.length
 yld := fun i H x H' => ∃ p x1, H p = none /\ H' = upd H p (.tup [.int i, x1]) /\ x = .ref p /\ ∀ xs, SrcSq t1 K H a1 xs -> xs[i]? = some x1
 stop := fun i H => n <= i /\ ∃ xs, SrcSq t1 K H a1 xs /\ n = xs.length
theorem zpO {P : Program} {w : World} (t1 : Bool) (a1 : Nat) (n N : Nat) (l1 : a1 < N) :
  Turn P w K (.Tuple elts ek ep) (Ite K t1 a1 n) ([N + 1, N] : List Nat) (N + 1 : Nat) (fun i h => i <= n /\ (∃ old, IsEnum h (N + 1 : Nat) N i old) /\ SrcIt t1 h N a1 i) where
 mem := by simp
 obj := fun i h st b hb => by
  obtain ⟨-, ⟨old, h1⟩, h0⟩ := st
  simp only [List.mem_cons, List.not_mem_nil, or_false] at hb
  rcases hb with rfl | rfl
  ·exact ⟨_, h1, fun v z => by cases z⟩
  ·exact h0.obj
 keep := fun i h h' st k => by
  obtain ⟨hi, ⟨old, h1⟩, h0⟩ := st
  exact ⟨hi, ⟨old, k _ (by simp) _ h1⟩, h0.at fun o e => k _ (by simp) o e⟩
 item := by
  intro X hP hw hK hc i pins s σ H E I hf st hg
  subst hP hw hK
  obtain ⟨hi, ⟨old, h1⟩, h0⟩ := st
  obtain ⟨hn, xs, q1, en⟩ := hg
  obtain ⟨us, ru, hu, zu⟩ := q1.heap I
  have lu := ru.length
  have D1 := zbs (prog := X.prog) (w := X.w) (A := X.A.in1) (t := t1) (I.ok.hd hc) N a1 (ne_ (by ac_rfl)) us.toArray
  refine wpAny_pyNext_enum_itemD D1 h1 ⟨h0, hu⟩ (by simp; omega) (ne_ (by ac_rfl)) (fun z => nin2 (z := N + 1) z (by omega) (by omega) rfl) fun x h' tk p1 ho g0 gT gz kk => ?_
  obtain ⟨x1, hx1⟩ : ∃ x1, xs[i]? = some x1 := ⟨xs[i]'(by omega), List.getElem?_eq_getElem _⟩
  obtain ⟨u1, hu1, r1⟩ := ru.get hx1
  have e1 : u1 = x := by
   have : us[i]? = some x := by simpa using p1
   rw [hu1] at this; cases this; rfl
  subst e1
  refine ⟨_, rfl, wpAny_letOwnedTupleGo_enum (s := { s with heap := h', toks := tk + 1 }) ho fun h'' he' sb => ?_⟩
  replace sb : Heap.SameBut (N + 1 : Nat) h' h'' := sb
  have lz : N + 1 < s.heap.objs.size := Heap.lt_size h1
  have kk' : ∀ b o, b ∉ ([N + 1, N] : List Nat) -> s.heap.get? b = some o -> h''.get? b = some o := fun b o hb e =>
   (sb.2 b fun z => hb (by simp [z])).trans (kk b o (fun z => hb (by simp [z])) (fun z => hb (by simp [z])) e)
  have I1 := zmb (t' := tk + 1) (vs := [.int i, x1]) (its := [.int i tk, u1]) I kk' hf (fun b hb => by
   have : b = N + 1 \/ b = N := by simpa using hb
   exact Nat.lt_of_le_of_lt (show (b : Nat) <= N + 1 by rcases this with h | h <;> rw [h] <;> simp) lz) ((sb.2 _ (ne_ (by ac_rfl))).trans gT) (by simp; rw [sizeLine_eq]; decide) (.cons ⟨_, rfl⟩ (.cons r1 .nil))
  refine ⟨.ref s.heap.objs.size, _, I1, rfl, ⟨_, x1, I.hok.fresh (Nat.le_refl _), rfl, rfl, fun xs' b1 => ?_⟩, ⟨hn, ⟨_, by simpa using he'⟩, SrcIt.at g0.1 fun o e => (sb.2 _ (ne_ (by ac_rfl))).trans e⟩, fun b hb => ?_⟩
  ·rw [SrcSq.inj I b1 q1]
   exact hx1
  ·have : b = N + 1 \/ b = N := by simpa using hb
   rw [zaw (Nat.ne_of_lt (Nat.lt_of_le_of_lt (show (b : Nat) <= N + 1 by rcases this with h | h <;> rw [h] <;> simp) lz))]
   exact (hf b hb).1
 done := by
  intro X hP hw hK hc i pins s σ H E I hf st hg
  subst hP hw hK
  obtain ⟨hi, ⟨old, h1⟩, h0⟩ := st
  obtain ⟨hn, xs, q1, en⟩ := hg
  obtain ⟨us, ru, hu, zu⟩ := q1.heap I
  have lu := ru.length
  have D1 := zbs (prog := X.prog) (w := X.w) (A := X.A.in1) (t := t1) (I.ok.hd hc) N a1 (ne_ (by ac_rfl)) us.toArray
  have W := WalksT.enumerateD D1 (N + 1 : Nat) (ne_ (by ac_rfl)) (fun z => nin2 (z := N + 1) z (by omega) (by omega) rfl) (by simp)
  have ei : i = us.toArray.size := by simp; omega
  subst ei
  exact W.done s _ _ ⟨⟨old, h1⟩, h0, hu⟩ fun h' tk kk => ⟨rfl, zj4 I kk hf⟩
 self := fun _ _ _ _ _ st h => by
  obtain ⟨hi, ⟨old, h1⟩, h0⟩ := st
  exact wpAny_pyIter_enum h1 h
theorem zm3 : bootBuiltins "zip" = some (.type "zip") := by decide +kernel
theorem zjz : bootBuiltins "enumerate" = some (.type "enumerate") := by decide +kernel
section
variable {X : Cx} {elts : List Expr} {ek : Nat} {ep : Pos}
theorem pi_zip3 {a b c : Expr} (hg : Gl X "zip") (hm : X.mg "zip" = none) (ha : PA X [a, b, c] ta) (hs : starEach [a, b, c] X.env = (false, eval a X.env) :: starEach [b, c] X.env := by rfl) (hs2 : (backTo pos (starEach [b, c] X.env)).any (·.1) = false := by rfl) :
  PI X (.Tuple elts ek ep) (.Call (.Name "zip" p) [a, b, c] [] pos) (fun σ H R => ta σ H fun vs H1 => ∃ t1 a1 xs t2 a2 ys t3 a3 zs, vs = [.ref a1, .ref a2, .ref a3] /\ SrcSq t1 X.K H1 a1 xs /\ SrcSq t2 X.K H1 a2 ys /\ SrcSq t3 X.K H1 a3 zs /\ R (Itz3 X.K t1 a1 t2 a2 t3 a3 (min xs.length (min ys.length zs.length))) H1) := by
 intro pins s σ H R I h
 refine Call_ (zgX I hg hm zm3 (PyProof.Rows.callWith_type1 (thn (ha pos pins s σ H _ I h) fun us s1 ⟨vs, H1, I1, r1, q1⟩ => ?_) hs hs2))
 obtain ⟨t1, a1, xs, t2, a2, ys, t3, a3, zs, e, q1, q2, q3, q⟩ := q1
 subst e
 cases r1 with
 | cons r rr =>
  cases rr with
  | cons r' rr =>
   cases rr with
   | cons r'' rr =>
    cases rr
    cases r
    cases r'
    cases r''
    obtain ⟨us, ru, hu, -⟩ := q1.heap I1
    obtain ⟨ws, rw', hw', -⟩ := q2.heap I1
    obtain ⟨os, ro, ho', -⟩ := q3.heap I1
    refine zov hu hw' ho' fun h' g5 g3 g4 g0 g1 g2 kk => wpAny_pyIter_zip g5 ⟨_, _, _, _, H1, rfl, I1.kept (t' := s1.toks) kk, zo1 t1 a1 t2 a2 t3 a3 (min xs.length (min ys.length zs.length)) s1.heap.objs.size hu.lt hw'.lt ho'.lt, ⟨Nat.zero_le _, g5, g3, ⟨_, _, _, g4⟩, g0, g1, g2⟩, fun b hb => ?_, q⟩
    have : b = s1.heap.objs.size \/ b = s1.heap.objs.size + 1 \/ b = s1.heap.objs.size + 2 \/ b = s1.heap.objs.size + 3 \/ b = s1.heap.objs.size + 4 \/ b = s1.heap.objs.size + 5 := by simpa using hb
    have le : s1.heap.objs.size <= b := by rcases this with h | h | h | h | h | h <;> rw [h] <;> simp
    exact I1.fpOk le (I1.hok.fresh le)
theorem pi_enum (hg : Gl X "enumerate") (hm : X.mg "enumerate" = none) (ha : PA X [a] ta) (hs : starEach [a] X.env = (false, eval a X.env) :: starEach [] X.env := by rfl) (hs2 : (backTo pos (starEach [] X.env)).any (·.1) = false := by rfl) :
  PI X (.Tuple elts ek ep) (.Call (.Name "enumerate" p) [a] [] pos) (fun σ H R => ta σ H fun vs H1 => ∃ t1 a1 xs, vs = [.ref a1] /\ SrcSq t1 X.K H1 a1 xs /\ R (Ite X.K t1 a1 xs.length) H1) := by
 intro pins s σ H R I h
 refine Call_ (zgX I hg hm zjz (PyProof.Rows.callWith_type1 (thn (ha pos pins s σ H _ I h) fun us s1 ⟨vs, H1, I1, r1, q1⟩ => ?_) hs hs2))
 obtain ⟨t1, a1, xs, e, q1, q⟩ := q1
 subst e
 cases r1 with
 | cons r rr =>
  cases rr
  cases r
  obtain ⟨us, ru, hu, -⟩ := q1.heap I1
  refine zpv hu fun h' g1 g0 kk => wpAny_pyIter_enum g1 ⟨_, _, _, _, H1, rfl, I1.kept (t' := s1.toks) kk, zpO t1 a1 xs.length s1.heap.objs.size hu.lt, ⟨Nat.zero_le _, ⟨_, g1⟩, g0⟩, fun b hb => ?_, q⟩
  have : b = s1.heap.objs.size + 1 \/ b = s1.heap.objs.size := by simpa using hb
  have le : s1.heap.objs.size <= b := by rcases this with h | h <;> rw [h] <;> simp
  exact I1.fpOk le (I1.hok.fresh le)
end
theorem zjR {G : Hp} {x : V} {d : D} (r : RepD K G x d) (e : zaW [d] = some es) : ∃ t a xs, x = .ref a /\ (∀ H, Fz G H -> SrcSq t K H a xs) /\ RepL K G xs es := by
 cases d <;> simp only [zaW] at e <;> try cases e
 ·obtain ⟨a, xs, rfl, ha, r⟩ := r
  exact ⟨false, a, xs, rfl, fun H f => SqL.of (f _ _ ha), r⟩
 ·obtain ⟨a, xs, rfl, ha, r⟩ := r
  exact ⟨true, a, xs, rfl, fun H f => SqT.of (f _ _ ha), r⟩
 ·obtain ⟨a, rfl, ha⟩ := r
  exact ⟨false, a, _, rfl, fun H f => f.sql ha, RepL.ints _⟩
def zmd (xs ys : List D) : List D := List.zipWith (fun x y => D.tup [x, y]) xs ys
def zl4 (xs ys zs : List D) : List D := List.zipWith (fun x (p : D × D) => D.tup [x, p.1, p.2]) xs (List.zip ys zs)
def zmn (xs : List D) : List D := List.zipWith (fun x (i : Nat) => D.tup [.int i, x]) xs (List.range xs.length)
noncomputable def iZ2 (ma : MA) : MA := fun ρ => (ma ρ).bind fun p => match p.1 with
 | [a, b] => (zaW [a]).bind fun xs => (zaW [b]).bind fun ys => some (zmd xs ys, p.2)
 | _ => none
noncomputable def iZ3 (ma : MA) : MA := fun ρ => (ma ρ).bind fun p => match p.1 with
 | [a, b, c] => (zaW [a]).bind fun xs => (zaW [b]).bind fun ys => (zaW [c]).bind fun zs => some (zl4 xs ys zs, p.2)
 | _ => none
noncomputable def iEn (ma : MA) : MA := fun ρ => (ma ρ).bind fun p => (zaW p.1).map fun xs => (zmn xs, p.2)
theorem it_zip3 {a b c : Expr} (hm : X.mg "zip" = none) (ha : SA X [a, b, c] ma) (hg : Gl X "zip" := by rfl) (hs : starEach [a, b, c] X.env = (false, eval a X.env) :: starEach [b, c] X.env := by rfl) (hs2 : (backTo pos (starEach [b, c] X.env)).any (·.1) = false := by rfl) :
  SIt X (.Tuple elts ek ep) (.Call (.Name "zip" p) [a, b, c] [] pos) (iZ3 ma) := by
 obtain ⟨t, pa, sa⟩ := ha
 refine ⟨_, pi_zip3 hg hm pa hs hs2, fun B G H σ ρ ds ρ' Q I hm k => ?_⟩
 obtain ⟨⟨es, ρ1⟩, e1, h2⟩ := zaf hm
 dsimp only at h2
 refine sa B G H σ ρ es ρ1 _ I e1 fun G1 H1 vs I1 f1 r1 => ?_
 split at h2
 ·obtain ⟨xs, ex, h2⟩ := zaf h2
  obtain ⟨ys, ey, h2⟩ := zaf h2
  obtain ⟨zs, ez, h2⟩ := zaf h2
  cases h2
  obtain ⟨x, us, rfl, rx, r2⟩ := r1
  obtain ⟨y, ws, rfl, ry, r3⟩ := r2
  obtain ⟨z, os, rfl, rz, r4⟩ := r3
  cases (show os = [] from r4)
  obtain ⟨t1, a1, us, rfl, s1, c1⟩ := zjR rx ex
  obtain ⟨t2, a2, ws, rfl, s2, c2⟩ := zjR ry ey
  obtain ⟨t3, a3, os, rfl, s3, c3⟩ := zjR rz ez
  have n1 := c1.length
  have n2 := c2.length
  have n3 := c3.length
  refine ⟨t1, a1, us, t2, a2, ws, t3, a3, os, rfl, s1 _ I1.fz, s2 _ I1.fz, s3 _ I1.fz, k _ G1 H1 I1 f1 ⟨fun H i f hi => ?_, fun H i x H' f y d e => ?_, fun H i f hi => ?_⟩⟩
  ·exact ⟨by simp [zl4] at hi; omega, us, ws, os, s1 _ f, s2 _ f, s3 _ f, rfl⟩
  ·obtain ⟨p, x1, x2, x3, hp, eh, ex', q⟩ := y
   obtain ⟨q1, q2, q3⟩ := q us ws os (s1 _ f) (s2 _ f) (s3 _ f)
   simp only [zl4, List.zip, List.getElem?_zipWith] at e
   have hi : i < us.length /\ i < ws.length /\ i < os.length := ⟨(List.getElem?_eq_some_iff.mp q1).1, (List.getElem?_eq_some_iff.mp q2).1, (List.getElem?_eq_some_iff.mp q3).1⟩
   have g1 : xs[i]? = some (xs[i]'(by omega)) := List.getElem?_eq_getElem _
   have g2 : ys[i]? = some (ys[i]'(by omega)) := List.getElem?_eq_getElem _
   have g3 : zs[i]? = some (zs[i]'(by omega)) := List.getElem?_eq_getElem _
   rw [g1, g2, g3] at e
   cases e
   obtain ⟨v1, b1, r1⟩ := c1.get g1
   obtain ⟨v2, b2, r2⟩ := c2.get g2
   obtain ⟨v3, b3, r3⟩ := c3.get g3
   rw [q1] at b1; cases b1
   rw [q2] at b2; cases b2
   rw [q3] at b3; cases b3
   exact .inr ⟨p, _, _, hp, eh, ex', rfl, ⟨_, _, rfl, r1, _, _, rfl, r2, _, _, rfl, r3, rfl⟩⟩
  ·exact ⟨by simp [zl4] at hi; omega, us, ws, os, s1 _ f, s2 _ f, s3 _ f, rfl⟩
 ·cases h2
theorem zjZ (hm : X.mg "enumerate" = none) (ha : SA X [a] ma) (hg : Gl X "enumerate" := by rfl) (hs : starEach [a] X.env = (false, eval a X.env) :: starEach [] X.env := by rfl) (hs2 : (backTo pos (starEach [] X.env)).any (·.1) = false := by rfl) :
  SIt X (.Tuple elts ek ep) (.Call (.Name "enumerate" p) [a] [] pos) (iEn ma) := by
 obtain ⟨t, pa, sa⟩ := ha
 refine ⟨_, pi_enum hg hm pa hs hs2, fun B G H σ ρ ds ρ' Q I hm k => ?_⟩
 obtain ⟨⟨es, ρ1⟩, e1, h2⟩ := zaf hm
 obtain ⟨xs, ex, h2⟩ := zay h2
 cases h2
 refine sa B G H σ ρ es ρ1 _ I e1 fun G1 H1 vs I1 f1 r1 => ?_
 match es, ex, r1 with
 | [], ex, _ => cases ex
 | _ :: _ :: _, ex, _ => exact absurd ex (by simp [zaW])
 | [d], ex, r1 =>
  obtain ⟨x, rfl, rx⟩ := r1.one
  obtain ⟨t1, a1, us, rfl, s1, c1⟩ := zjR rx ex
  have n1 := c1.length
  refine ⟨t1, a1, us, rfl, s1 _ I1.fz, k _ G1 H1 I1 f1 ⟨fun H i f hi => ?_, fun H i x H' f y d e => ?_, fun H i f hi => ?_⟩⟩
  ·exact ⟨by simp [zmn] at hi; omega, us, s1 _ f, rfl⟩
  ·obtain ⟨p, x1, hp, eh, ex', q⟩ := y
   have q1 := q us (s1 _ f)
   have hi : i < us.length := (List.getElem?_eq_some_iff.mp q1).1
   have g1 : xs[i]? = some (xs[i]'(by omega)) := List.getElem?_eq_getElem _
   simp only [zmn, List.getElem?_zipWith] at e
   rw [g1, show (List.range xs.length)[i]? = some i from by rw [List.getElem?_range (by omega)]] at e
   cases e
   obtain ⟨v1, b1, r1⟩ := c1.get g1
   rw [q1] at b1; cases b1
   exact .inr ⟨p, _, _, hp, eh, ex', rfl, ⟨_, _, rfl, rfl, _, _, rfl, r1, rfl⟩⟩
  ·exact ⟨by simp [zmn] at hi; omega, us, s1 _ f, rfl⟩
end M
namespace M
open L2 PySem PySem.Spec
open PyProof.Rows hiding St
variable {X : Cx} {K : W.Frag} {G H : Hp} {x : Str} {a : Expr} {pos' lpos : Pos} {σ : St} {ρ : R} {b : Nat} {cs : List D} {l : Addr} {ys : List V} {tg' : Addr -> Shared -> Hp -> List Addr -> TG} {tt : Addr -> Shared -> Hp -> List Addr -> TT} {te : Addr -> Shared -> Hp -> List Addr -> TE}
theorem zmx {st : Stmt} : SS X st (fun _ => none) := ⟨_, ps_never, fun B G H σ ρ fl ρ' E I hm k => by cases hm⟩
def rIndex (K : W.Frag) : V -> List V -> Hp -> VK -> Prop := fun x vs H Q => ∃ (l : Addr) (ns : List Int) (k : Int), x = .ref l /\ vs = [.int k] /\ SqL K H l (ns.map V.int) /\ k ∈ ns /\ Q (.int (ns.idxOf k : Nat)) H
theorem mt_index : MtR X "list.index" (rIndex X.K) := by
 intro pins s σ H x vs v us Q I rx rv h
 obtain ⟨l, ns, k, rfl, rfl, hq, hk, q⟩ := h
 cases rx
 obtain ⟨u, rfl, t, rfl⟩ := rv.one
 obtain ⟨its, r, p, hz⟩ := I.list hq
 have hi := znN r
 have hlen := hi.length
 have hj : ns.idxOf k < ns.length := List.idxOf_lt_length_iff.mpr hk
 have hb : ns.length <= sizeLine := by simpa using hz
 rw [sizeLine_eq] at hb
 obtain ⟨⟨cls, dd, data, sl⟩, ho, hc, n, hd⟩ := p.isList
 simp only at hc hd
 subst hc hd
 refine call_meets PySem.F.slot_list_index ⟨_, ho, rfl⟩ PySem.F.entry_list_index (PySem.F.args_list_index_2 _ _)
  (PySem.SeqAt.list_indexAt l its.toArray n dd sl (.int k t) (isInt k) (ns.idxOf k) (by simpa [hlen] using hj) (by omega) ?_ ?_) ⟨ho, fun y hy => (eq_isInt k t hi y (by simpa using hy)).at _ _, ⟨.int (ns.idxOf k : Nat), H, I.tok _, ⟨_, rfl⟩, q⟩⟩
 ·show isInt k its[ns.idxOf k] = true
  rw [isInt_at k hi _ (by omega) hj]
  simpa using List.getElem_idxOf hj
 ·intro j hjs hlt
  show isInt k its[j] = false
  rw [isInt_at k hi j (by simpa using hjs) (by omega)]
  exact ne_of_lt_idxOf hlt _
noncomputable def zlK : D -> D -> Option D
 | .lst ds, .int k => (zcz ds).bind fun ns => if k ∈ ns then some (.int (ns.idxOf k : Nat)) else none
 | _, _ => none
theorem se_index {o e : Expr} {mo me : ME} {apos cpos : Pos} (ho : SE X o mo) (he : SE X e me)
  (hbase : attributeBase o "index" X.env (eval o X.env) = eval o X.env := by rfl)
  (hfew : ((backTo cpos (starEach [e] X.env)).all (fun x => !x.1) && (backToKw cpos (keywordEach [] X.env)).all (fun x => x.1.isSome)
   && decide ([e].length + ([] : List Keyword).length + (if ([] : List Keyword).isEmpty then 0 else 1) < 30)) = true := by rfl)
  (hline : (apos.endLine == cpos.line) = true := by rfl) (hs : starEach [e] X.env = (false, eval e X.env) :: starEach [] X.env := by rfl) : SE X (.Call (.Attribute o "index" apos) [e] [] cpos) (m2 zlK mo me) := by
 obtain ⟨to, po, so⟩ := ho
 obtain ⟨te, pe, se⟩ := he
 refine ⟨_, pe_bm PySem.F.plainAttrs_list PySem.F.slot_list_index PySem.F.type_list_index mt_index po (zen pe zjb hs) hbase hfew hline hs rfl, fun B G H σ ρ d ρ' Q I hm k => ?_⟩
 obtain ⟨⟨d1, ρ1⟩, e1, hm⟩ := zaf hm
 obtain ⟨⟨d2, ρ2⟩, e2, hm⟩ := zaf hm
 obtain ⟨d3, e3, hm⟩ := zay hm
 cases hm
 refine so B G H σ ρ d1 ρ1 _ I e1 fun G1 H1 v I1 f1 r1 => ?_
 cases d1 with
 | lst ds =>
  cases d2 with
  | int i =>
   obtain ⟨ns, e4, e3⟩ := zaf e3
   obtain ⟨a, xs, rfl, ha, rr⟩ := r1
   refine ⟨.inl ⟨rfl, xs, SqL.of (I1.fz _ _ ha)⟩, ?_⟩
   refine se B G1 H1 σ ρ1 _ ρ2 _ I1 e2 fun G2 H2 u I2 f2 r2 => ?_
   cases (show u = V.int i from r2)
   split at e3
   ·rename_i hk
    cases e3
    cases zhj e4
    have rl := rr.mono f2
    have ex : xs = ns.map V.int := RepL.ints_eq rl
    subst ex
    exact ⟨a, ns, i, rfl, rfl, SqL.of (I2.fz _ _ (f2 _ _ ha)), hk, k G2 H2 _ I2 (f1.trans f2) rfl⟩
   ·cases e3
  | _ => cases e3
 | _ => cases e3
def isN : D -> Bool
 | .non => true
 | _ => false
theorem isN_ok {x : V} {d : D} (r : RepD K G x d) : decide (x = .non) = isN d := by
 cases d with
 | non => cases (show x = V.non from r); rfl
 | bl b => cases (show x = V.bl b from r); rfl
 | int i => cases (show x = V.int i from r); rfl
 | str s => cases (show x = V.str s from r); rfl
 | lst ds => obtain ⟨a, xs, rfl, -⟩ := r; rfl
 | tup ds => obtain ⟨a, xs, rfl, -⟩ := r; rfl
 | scr ns => obtain ⟨a, rfl, -⟩ := r; rfl
 | exc c => obtain ⟨a, C, rfl, -⟩ := r; rfl
 | dic _ _ => obtain ⟨a, ys, rfl, -⟩ := r; rfl
 | dit _ _ => obtain ⟨a, ys, rfl, -⟩ := r; rfl
def dIsN : D -> D -> Option D
 | a, .non => some (.bl (isN a))
 | _, _ => none
def zlp : D -> D -> Option D
 | a, .non => some (.bl (!isN a))
 | _, _ => none
theorem v2_isN : V2 X (fun x y H Q => y = .non /\ Q (.bl (decide (x = .non))) H) dIsN := by
 intro B G H σ ρ x y a b d Q I ra rb hf k
 cases b <;> simp only [dIsN] at hf <;> cases hf
 exact ⟨rb, k G H _ I (Fz.refl G) (by rw [isN_ok ra]; rfl)⟩
theorem v2_notN : V2 X (fun x y H Q => y = .non /\ Q (.bl (!decide (x = .non))) H) zlp := by
 intro B G H σ ρ x y a b d Q I ra rb hf k
 cases b <;> simp only [zlp] at hf <;> cases hf
 exact ⟨rb, k G H _ I (Fz.refl G) (by rw [isN_ok ra]; rfl)⟩
theorem bl_isN : ∀ x y d, dIsN x y = some d -> ∃ t, d = .bl t := by
 intro x y d hf
 cases y <;> simp only [dIsN] at hf <;> cases hf
 exact ⟨_, rfl⟩
theorem bl_notN : ∀ x y d, zlp x y = some d -> ∃ t, d = .bl t := by
 intro x y d hf
 cases y <;> simp only [zlp] at hf <;> cases hf
 exact ⟨_, rfl⟩
section
variable {X : Cx} {a b : Expr} {ma mb : ME} {pos : Pos}
theorem st_is (ha : SE X a ma) (hb : SE X b mb) (hm : behindInMarks .Is b = false := by rfl) : STt X (.Compare a [.Is] [b] pos) (tTru (m2 dIsN ma mb)) := zig op_isN v2_isN bl_isN ha hb hm
theorem zm7 (ha : SE X a ma) (hb : SE X b mb) (hm : behindInMarks .IsNot b = false := by rfl) : STt X (.Compare a [.IsNot] [b] pos) (tTru (m2 zlp ma mb)) := zig op_notN v2_notN bl_notN ha hb hm
end
theorem zpC {ma : MA} {p q pos pos' : Pos} (ml : X.mg "list" = none) (mr : X.mg "range" = none) (ha : SA X [a] ma) (hc : X.calm = true := by rfl) (hg : Gl X "list" := by rfl) (hgr : Gl X "range" := by rfl)
  (he : starEach [a] X.env = (false, eval a X.env) :: starEach [] X.env := by rfl) (hpl : (backTo pos' (starEach [] X.env)).any (·.1) = false := by rfl)
  (he2 : starEach [.Call (.Name "range" q) [a] [] pos'] X.env = (false, eval (.Call (.Name "range" q) [a] [] pos') X.env) :: starEach [] X.env := by rfl) :
  SO X (.Call (.Name "list" p) [.Call (.Name "range" q) [a] [] pos'] [] pos) (oR (iR1 ma)) := by
 obtain ⟨t, pa, sa⟩ := ha
 refine ⟨_, zhb (znH hc) hg ml (by decide +kernel) (zen (zhb zpd hgr mr (by decide +kernel) pa (by decide) (by decide) he hpl) zjb he2) (by decide) (by decide) he2 rfl, fun B G H σ ρ ds ρ' Q I hm k => ?_⟩
 obtain ⟨⟨items, ρ1⟩, e1, hm⟩ := zaf hm
 obtain ⟨⟨es, ρ2⟩, e2, h2⟩ := zaf e1
 dsimp only at hm h2
 split at hm
 ·rename_i hlen
  obtain ⟨rfl, rfl⟩ := Prod.mk.inj (Option.some.inj hm)
  refine sa B G H σ ρ es ρ2 _ I e2 fun G1 H1 vs I1 f1 r1 => ?_
  split at h2
  ·rename_i j
   split at h2
   ·rename_i hj
    obtain ⟨rfl, rfl⟩ := Prod.mk.inj (Option.some.inj h2)
    obtain ⟨x, rfl, rx⟩ := r1.one
    cases (show x = V.int j from rx)
    refine ⟨j, rfl, fun p hp => ⟨p, 0, j, rfl, zaI, ⟨by decide, by decide, (zcu hj).1, (zcu hj).2⟩, by simpa [zcq] using hlen, fun l hl => ?_⟩⟩
    have I2 := I1.allocO hp (.rng 0 j)
    have ej : (j - 0).toNat = j.toNat := by rw [Int.sub_zero]
    rw [ej] at *
    obtain ⟨I3, g3, h3, b3, n3⟩ := I2.newO hl ((List.range j.toNat).map fun (k : Nat) => V.int (0 + k))
    exact k G1 _ l _ I3 f1 g3 h3 (znW 0 _) b3 n3
   ·cases h2
  ·cases h2
 ·cases hm
def zl5 (b : Nat) (ρ : R) : Bool := match ρ[b]? with
 | some (.par _) => zgC (ρ.set b .emp)
 | _ => false
def zpu (b : Nat) (ρ : R) : List D := match ρ[b]? with
 | some (.par cs) => cs
 | _ => []
noncomputable def znE (b : Nat) (g : D -> R -> Option R) (mt : MT) (me : ME) : D -> R -> Option (Option D × R) := fun d ρ => (g d ρ).bind fun ρ1 => (mt ρ1).bind fun p => if p.1 then (me p.2).bind fun q => if zl5 b q.2 then some (some q.1, q.2) else none else if zl5 b p.2 then some (none, p.2) else none
noncomputable def oLCM (cap : List Nat) (t b w : Nat) (mi : MA) (g : D -> R -> Option R) (mt : MT) (me : ME) : MO := fun ρ => (mi ρ).bind fun p => if p.1.length <= 16777216 then
    ((fzL (cap.filter (· != w)) p.2)[w]?).bind fun s => s.items.bind fun cs => (zft (znE b g mt me) p.1 ((capR cap t (fzL (cap.filter (· != w)) p.2)).set b (.par cs))).map fun q => (q.1, (fzL (cap.filter (· != w)) p.2).set w (s.put (zpu b q.2)))
  else none
theorem VS.setEmp (h : VS K G σ ρ) (b : Nat) : VS K G σ (ρ.set b .emp) where
 len := by rw [List.length_set]; exact h.len
 no := by
  have h0 := h.no
  unfold zgC at *
  rw [List.all_eq_true] at *
  intro s hs
  rcases List.mem_or_eq_of_mem_set hs with z | z
  ·exact h0 s z
  ·rw [z]
 val := fun i d e => by
  rw [List.getElem?_set] at e
  split at e
  ·split at e
   ·cases e
   ·cases e
  ·exact h.val i d e
theorem VS.siP (h : VS K G σ (ρ.set b .emp)) (fz : Fz G H) (hb : ρ[b]? = some (.par cs)) (hs : σ[b]? = some (some (.ref l))) (gl : G l = none) (hl : H l = some (.lst ys)) (r : RepL K G ys cs) : SI K ⟨G, H, [(b, l)]⟩ G H σ ρ where
 fz := fz
 g0 := Fz.refl G
 new := fun b o e => .inl (by show G b ≠ none; rw [e]; simp)
 keep := fun b o e _ => e
 there := fun b e => e
 ob := fun i c m => by
  have : i = b /\ c = l := by simpa using m
  rw [this.2]
  show H l ≠ none
  rw [hl]; simp
 len := by rw [h.len, List.length_set]
 slot := fun i s e => by
  by_cases z : i = b
  ·subst z
   rw [hb] at e; cases e
   exact ⟨l, ys, hs, gl, hl, r, by simp⟩
  ·have e' : (ρ.set b .emp)[i]? = some s := by rw [List.getElem?_set_ne (Ne.symm z)]; exact e
   cases s with
   | emp => trivial
   | two _ _ => trivial
   | tre t => exact absurd rfl ((ziH h.no e').1 t)
   | ptr t => exact absurd rfl ((ziH h.no e').2 t)
   | val d => exact h.val i d e'
   | own ds => exact absurd ⟨_, ds, e', rfl⟩ (ziB h.no (i := i))
   | par ds => exact absurd ⟨_, ds, e', rfl⟩ (ziB h.no (i := i))
 dis := fun i j s t a hij e1 e2 w1 w2 => by
  have key : ∀ (i : Nat) (s : Sl) ov, ρ[i]? = some s -> OwS K G H ov a s -> i = b := fun i s ov e w => by
   by_cases z : i = b
   ·exact z
   ·exact absurd w (zmB h.no (show (ρ.set b .emp)[i]? = some s by rw [List.getElem?_set_ne (Ne.symm z)]; exact e))
  exact hij ((key i s _ e1 w1).trans (key j t _ e2 w2).symm)
theorem VS.ofP {B : Bs} (I : SI K B G H σ ρ) (hO : B.O = [(b, l)]) (h : zl5 b ρ = true) : ∃ cs ys, ρ[b]? = some (.par cs) /\ σ[b]? = some (some (.ref l)) /\ G l = none /\ H l = some (.lst ys) /\ RepL K G ys cs /\ VS K G σ (ρ.set b .emp) := by
 unfold zl5 at h
 split at h
 ·rename_i cs e
  obtain ⟨l', ys, h1, h2, h3, h4, h5⟩ := I.slot b _ e
  have hl : l' = l := by rw [hO] at h5; simpa using h5
  subst hl
  refine ⟨cs, ys, e, h1, h2, h3, h4, ⟨by rw [List.length_set]; exact I.len, h, fun i d e' => ?_⟩⟩
  rw [List.getElem?_set] at e'
  split at e'
  ·split at e'
   ·cases e'
   ·cases e'
  ·exact I.slot i _ e'
 ·cases h
structure LcP (K : W.Frag) (bk : Nat) (g : D -> R -> Option R) (mt : MT) (me : ME) (items all : List D) (ρf : R) (G2 H1 : Hp) (DD l : Addr) (i : Nat) (σc : St) (Hc Gc : Hp) (ρc : R) (acc : List D) (xs : List V) (rest cs : List D) (ys : List V) : Prop where
 fc : Fz G2 Gc
 fcH : Fz Gc Hc
 nw : ∀ b o, Gc b = some o -> G2 b ≠ none \/ H1 b = none
 kp : ∀ b o, b ≠ l -> H1 b = some o -> Hc b = some o
 gD : Gc DD = none
 hDc : Hc DD = some (.lst xs)
 ra : RepL K Gc xs acc
 hx : xs.length <= i
 eb : ρc[bk]? = some (.par cs)
 sb : σc[bk]? = some (some (.ref l))
 glc : Gc l = none
 hlc : Hc l = some (.lst ys)
 rlc : RepL K Gc ys cs
 vs : VS K Gc σc (ρc.set bk .emp)
 ec : zft (znE bk g mt me) (items.drop i) ρc = some (rest, ρf)
 eall : all = acc ++ rest
section
variable {X : Cx} {elt iter tg : Expr} {ifs : List Expr} {scope : Scope} {pos : Pos} {N : List Str} {cap : List Nat} {t bk wk : Nat} {mi : MA} {g : D -> R -> Option R} {mt : MT} {me : ME}
theorem zi8 (hbw : cap[bk]? = some wk) {wi : TI} 
    (si : ∀ B G H σ ρ ds ρ' (Q : It -> Hp -> Prop), SI X.K B G H σ ρ -> mi ρ = some (ds, ρ') -> (∀ J G' H', SI X.K B G' H' σ ρ' -> Fz G G' -> Itm X.K J G' ds -> Q J H') -> wi σ H Q)
    (sg : ∀ C s H₀ fp B G H σ ρ v d ρ' (Q : St -> Hp -> Prop), SI X.K B G H σ ρ -> RepD X.K G v d -> g d ρ = some ρ' -> (∀ G' H' σ', SI X.K B G' H' σ' ρ' -> Fz G G' -> Q σ' H') -> tg' C s H₀ fp v σ H Q)
    (st : ∀ C s H₀ fp B G H σ ρ d ρ' (Q : Bool -> Hp -> Prop), SI X.K B G H σ ρ -> mt ρ = some (d, ρ') -> (∀ G' H', SI X.K B G' H' σ ρ' -> Fz G G' -> Q d H') -> tt C s H₀ fp σ H Q)
    (se : ∀ C s H₀ fp B G H σ ρ d ρ' (Q : VK), SI X.K B G H σ ρ -> me ρ = some (d, ρ') -> (∀ G' H' v, SI X.K B G' H' σ ρ' -> Fz G G' -> RepD X.K G' v d -> Q v H') -> te C s H₀ fp σ H Q) :
    ∀ B G H σ ρ ds ρ' (Q : VK), SI X.K B G H σ ρ -> oLCM cap t bk wk mi g mt me ρ = some (ds, ρ') ->
      (∀ G' H' l xs, SI X.K B G' H' σ ρ' -> Fz G G' -> G' l = none -> H' l = some (.lst xs) -> RepL X.K G' xs ds -> B.H l = none -> Nw X.K G' H' σ ρ' l -> Q (.ref l) H') -> tLC (capσ cap t) wi tg' tt te σ H Q := by
  intro B G H σ ρ ds ρ' Q I hm k
  obtain ⟨⟨items, ρ1⟩, e1, hm⟩ := zaf hm
  refine si B G H σ ρ items ρ1 _ I e1 fun J G1 H1 I1 f1 IT DD hD => ?_
  dsimp only at hm
  split at hm
  . rename_i hlen
    obtain ⟨sw, ew, hm⟩ := zaf hm
    obtain ⟨cs0, qw, hm⟩ := zaf hm
    obtain ⟨⟨all, ρf⟩, e2, e3⟩ := zay hm
    obtain ⟨rfl, rfl⟩ := Prod.mk.inj e3
    obtain ⟨G2, I2, f2⟩ := SI.fzL (cap.filter (· != wk)) I1
    have hDG : G2 DD = none := I2.fz.free hD
    obtain ⟨l, ys0, hσ, gl0, hl0, rl0⟩ := I2.wr ew qw
    have hlD : DD ≠ l := (zaP hl0 hD).symm
    have hb : bk < cap.length := (List.getElem?_eq_some_iff.mp hbw).1
    have hbe : cap[bk] = wk := (List.getElem?_eq_some_iff.mp hbw).2
    have hσb : (capσ cap t σ)[bk]? = some (some (.ref l)) := by
      unfold capσ
      rw [List.getElem?_append_left (by simpa using hb), List.getElem?_map, List.getElem?_eq_getElem hb, hbe]
      simp [hσ]
    have hcl : bk < (capR cap t (M.fzL (cap.filter (· != wk)) ρ1)).length := by unfold capR; simp; omega
    refine ⟨fun i m σc Hc => m = items.length - i /\ i <= items.length /\ ∃ Gc ρc acc xs rest cs ys, LcP X.K bk g mt me items all ρf G2 H1 DD l i σc Hc Gc ρc acc xs rest cs ys,
      ⟨items.length, by simp, Nat.zero_le _, G2, (capR cap t (M.fzL (cap.filter (· != wk)) ρ1)).set bk (.par cs0), [], [], all, cs0, ys0, { fc := Fz.refl _, fcH := I2.fz.right hDG _, nw := fun b o e => .inl (by rw [e]; simp), kp := fun b o _ e => by rw [zaw (zaP e hD)]; exact e, gD := hDG, hDc := zaI, ra := .nil, hx := Nat.le_refl _, eb := by rw [List.getElem?_set]; simp [hcl], sb := hσb, glc := gl0, hlc := by rw [zaw (zaP hl0 hD)]; exact hl0, rlc := rl0, vs := by rw [List.set_set]; exact (cap_vs I2 cap t).setEmp bk, ec := by simpa using e2, eall := rfl }⟩, ?_⟩
    rintro i m σc Hc ⟨rfl, hi, Gc, ρc, acc, xs, rest, cs, ys, J0⟩
    obtain ⟨fc, fcH, nw, kp, gD, hDc, ra, hx, eb, sb, glc, hlc, rlc, vs, ec, eall⟩ := J0
    by_cases hlt : i < items.length
    . refine .inr ⟨IT.go Hc i (f2.trans (fc.trans fcH)) hlt, fun C s₀ H₀ fp x H' y => ?_⟩
      rw [List.drop_eq_getElem_cons hlt] at ec
      simp only [zft] at ec
      obtain ⟨⟨o, ρ3⟩, h3, ec⟩ := zaf ec
      obtain ⟨⟨rest2, ρ4⟩, h4, ec⟩ := zay ec
      obtain ⟨rfl, rfl⟩ := Prod.mk.inj ec
      dsimp only at h4
      unfold znE at h3
      obtain ⟨ρ5, h5, h3⟩ := zaf h3
      obtain ⟨⟨ok, ρ6⟩, h6, h3⟩ := zaf h3
      dsimp only at h3
      have Ic : SI X.K ⟨Gc, Hc, [(bk, l)]⟩ Gc Hc σc ρc := vs.siP fcH eb sb glc hlc rlc
      have fz2 : Fz G1 Hc := f2.trans (fc.trans fcH)
      have yy := IT.yld Hc i x H' fz2 y items[i] (List.getElem?_eq_getElem hlt)
      have yy2 : (H' = Hc /\ RepD X.K Gc x items[i]) \/ ∃ p xs es, Hc p = none /\ H' = upd Hc p (.tup xs) /\ x = .ref p /\ items[i] = .tup es /\ RepL X.K Gc xs es := by
        rcases yy with ⟨a, b⟩ | ⟨p, xs, es, a, b, c, d, e⟩
        . exact .inl ⟨a, b.mono (f2.trans fc)⟩
        . exact .inr ⟨p, xs, es, a, b, c, d, e.mono (f2.trans fc)⟩
      obtain ⟨G3, I3, f3, r3⟩ := Ic.yld yy2
      refine sg C s₀ H₀ fp _ G3 H' σc ρc x items[i] ρ5 _ I3 r3 h5 fun G4 H4 σ4 I4 f4 => st C s₀ H₀ fp _ G4 H4 σ4 ρ5 ok ρ6 _ I4 h6 fun G5 H5 I5 f5 => ?_
      have facts : ∀ (G' H' : Hp) (σ' : St) (ρ' : R), SI X.K ⟨Gc, Hc, [(bk, l)]⟩ G' H' σ' ρ' -> (∀ b o, G' b = some o -> G2 b ≠ none \/ H1 b = none) /\ (∀ b o, b ≠ l -> H1 b = some o -> H' b = some o) /\ G' DD = none /\ H' DD = some (.lst xs) := fun G' H' σ' ρ' I' => by
        refine ⟨fun b o e => ?_, fun b o ne e => I'.keep b o (kp b o ne e) (by simp; exact ne), ?_, I'.keep DD _ hDc (by simp; exact hlD)⟩
        . rcases I'.new b o e with h | h
          . have h : Gc b ≠ none := h
            cases q : Gc b with
            | none => exact absurd q h
            | some u => exact nw b u q
          . refine .inr ?_
            cases q : H1 b with
            | none => rfl
            | some u =>
              have hn : Hc b = none := h
              have nb : b ≠ l := fun z => by rw [z, hlc] at hn; cases hn
              have := kp b u nb q
              rw [hn] at this; cases this
        . cases q : G' DD with
          | none => rfl
          | some u =>
            rcases I'.new DD u q with h | h
            . exact absurd gD h
            . rw [show Hc DD = none from h] at hDc; cases hDc
      cases ok with
      | false =>
        simp only [Bool.false_eq_true, if_false] at h3
        split at h3
        . rename_i hno
          cases h3
          obtain ⟨a1, a2, a3, a4⟩ := facts G5 H5 σ4 _ I5
          obtain ⟨cs', ys', w1, w2, w3, w4, w5, w6⟩ := VS.ofP I5 rfl hno
          exact ⟨items.length - (i + 1), by omega, rfl, hlt, G5, _, acc, xs, rest2, cs', ys', { fc := fc.trans (f3.trans (f4.trans f5)), fcH := I5.fz, nw := a1, kp := a2, gD := a3, hDc := a4, ra := ra.mono (f3.trans (f4.trans f5)), hx := by omega, eb := w1, sb := w2, glc := w3, hlc := w4, rlc := w5, vs := w6, ec := h4, eall := by simpa using eall }⟩
        . cases h3
      | true =>
        simp only [if_true] at h3 ⊢
        obtain ⟨⟨dv, ρ7⟩, h7, h3⟩ := zaf h3
        dsimp only at h3
        split at h3
        . rename_i hno
          cases h3
          refine se C s₀ H₀ fp _ G5 H5 σ4 ρ6 dv _ _ I5 h7 fun G6 H6 v I6 f6 r6 => ?_
          obtain ⟨a1, a2, a3, a4⟩ := facts G6 H6 σ4 _ I6
          obtain ⟨cs', ys', w1, w2, w3, w4, w5, w6⟩ := VS.ofP I6 rfl hno
          have ff : Fz Gc G6 := f3.trans (f4.trans (f5.trans f6))
          exact ⟨xs, a4, by rw [sizeLine_eq]; omega, items.length - (i + 1), by omega, rfl, hlt, G6, _, acc ++ [dv], xs ++ [v], rest2, cs', ys', { fc := fc.trans ff, fcH := I6.fz.right a3 _, nw := a1, kp := fun b o ne e => by rw [zaw (zaP e hD)]; exact a2 b o ne e, gD := a3, hDc := zaI, ra := (ra.mono ff).snoc r6, hx := by rw [List.length_append, List.length_singleton]; omega, eb := w1, sb := w2, glc := w3, hlc := by rw [zaw (Ne.symm hlD)]; exact w4, rlc := w5, vs := w6, ec := h4, eall := by rw [eall]; simp }⟩
        . cases h3
    . have e : i = items.length := by omega
      subst e
      rw [List.drop_length] at ec
      obtain ⟨rfl, rfl⟩ := Prod.mk.inj (Option.some.inj ec)
      have hall : all = acc := by rw [eall, List.append_nil]
      refine .inl ⟨IT.stop Hc _ (f2.trans (fc.trans fcH)) (Nat.le_refl _), ?_⟩
      rw [<- hall] at ra
      have hp : zpu bk ρc = cs := by unfold zpu; rw [eb]
      rw [hp] at k
      exact k Gc Hc DD xs (I2.growW ew qw hσ fc fcH nw kp glc hlc rlc) (f1.trans (f2.trans fc)) gD hDc ra (I2.there DD hD) (I2.own_neW ew qw hσ hD nw kp)
  . cases hm
theorem so_lcM (cap : List Nat) (t bk wk : Nat) (N : List Str) (hc : X.calm = true) (hi : SIt X tg iter mi) (hg : ∀ C s H fp, SG (cxC X N scope C s H fp) tg g) (ht : ∀ C s H fp, STs (cxC X N scope C s H fp) ifs mt) (he : ∀ C s H fp, SE (cxC X N scope C s H fp) elt me) (hbw : cap[bk]? = some wk := by rfl)
    (hk : scope.kind = .function := by rfl) (hb : blkB X.env scope = true := by kernel_rfl) (hcap : capB scope.names N X.N cap t = true := by kernel_rfl)
    (hs : ∀ x, foldedSetIterable iter X.env x = pure x := by exact fun _ => rfl) : SO X (.ListComp elt [⟨tg, iter, ifs, 0⟩] scope pos) (oLCM cap t bk wk mi g mt me) := by
  obtain ⟨wi, pi, si⟩ := hi
  exact ⟨_, pe_lc hc (zlo hk hb) (zlB hcap) pi (fun C s H fp => (hg C s H fp).choose_spec.1) (fun C s H fp => (ht C s H fp).choose_spec.1) (fun C s H fp => (he C s H fp).choose_spec.1) hs,
    zi8 hbw si (fun C s H fp => (hg C s H fp).choose_spec.2) (fun C s H fp => (ht C s H fp).choose_spec.2) (fun C s H fp => (he C s H fp).choose_spec.2)⟩
theorem zph (i : Nat) (cap : List Nat) (t bk wk : Nat) (N : List Str) (hc : X.calm = true) (hi : SIt X tg iter mi) (hg : ∀ C s H fp, SG (cxC X N scope C s H fp) tg g) (ht : ∀ C s H fp, STs (cxC X N scope C s H fp) ifs mt) (he : ∀ C s H fp, SE (cxC X N scope C s H fp) elt me) (hN : X.N.Nodup) (hbw : cap[bk]? = some wk := by rfl)
    (hxi : X.N[i]? = some x := by rfl) (hx : Loc X.env.scope x := by first | exact Or.inl rfl | exact Or.inr rfl) (hf : X.fn x = true \/ X.env.scope.names.lookup x = some .local := by first | exact Or.inl rfl | exact Or.inr rfl)
    (hsw : swapsWith (.ListComp elt [⟨tg, iter, ifs, 0⟩] scope lpos) (some (.Name x pos')) pos.line X.env = pure true := by rfl)
    (hk : scope.kind = .function := by rfl) (hb : blkB X.env scope = true := by kernel_rfl) (hcap : capB scope.names N X.N cap t = true := by kernel_rfl)
    (hs : ∀ x, foldedSetIterable iter X.env x = pure x := by exact fun _ => rfl) : SS X (.Assign [.Name x pos'] (.ListComp elt [⟨tg, iter, ifs, 0⟩] scope lpos) pos) (zh3 i (oLCM cap t bk wk mi g mt me)) := by
  obtain ⟨wi, pi, si⟩ := hi
  refine ⟨_, zj2 hN hxi hx hf hsw hc (zlo hk hb) (zlB hcap) pi (fun C s H fp => (hg C s H fp).choose_spec.1) (fun C s H fp => (ht C s H fp).choose_spec.1) (fun C s H fp => (he C s H fp).choose_spec.1) hs, fun B G H σ ρ fl ρ' E I hm k => ?_⟩
  obtain ⟨⟨d, ρ1⟩, e1, e3⟩ := zay hm
  obtain ⟨rfl, rfl⟩ := Prod.mk.inj e3
  exact zi8 hbw si (fun C s H fp => (hg C s H fp).choose_spec.2) (fun C s H fp => (ht C s H fp).choose_spec.2) (fun C s H fp => (he C s H fp).choose_spec.2) B G H σ ρ d ρ1 _ I e1 fun G1 H1 l xs I1 f1 g1 h1 r1 b1 n1 => k G1 H1 _ (I1.setO g1 h1 r1 b1 n1) f1
theorem zhW (i : Nat) (cap : List Nat) (t bk wk : Nat) (N : List Str) (hc : X.calm = true) (hi : SIt X tg iter mi) (hg : ∀ C s H fp, SG (cxC X N scope C s H fp) tg g) (ht : ∀ C s H fp, STs (cxC X N scope C s H fp) ifs mt) (he : ∀ C s H fp, SE (cxC X N scope C s H fp) elt me) (hN : X.N.Nodup) (hbw : cap[bk]? = some wk := by rfl)
    (hxi : X.N[i]? = some x := by rfl) (hx : Loc X.env.scope x := by first | exact Or.inl rfl | exact Or.inr rfl) (hf : X.fn x = true \/ X.env.scope.names.lookup x = some .local := by first | exact Or.inl rfl | exact Or.inr rfl)
    (hsw : swapsWith (.ListComp elt [⟨tg, iter, ifs, 0⟩] scope lpos) (some (.Name x pos')) pos.line X.env = pure true := by rfl)
    (hk : scope.kind = .function := by rfl) (hb : blkB X.env scope = true := by kernel_rfl) (hcap : capB scope.names N X.N cap t = true := by kernel_rfl)
    (hs : ∀ x, foldedSetIterable iter X.env x = pure x := by exact fun _ => rfl) : SS X (.Assign [.Name x pos'] (.ListComp elt [⟨tg, iter, ifs, 0⟩] scope lpos) pos) (sSet i (eFz (oLCM cap t bk wk mi g mt me))) := by
  obtain ⟨wi, pi, si⟩ := hi
  refine ⟨_, zj2 hN hxi hx hf hsw hc (zlo hk hb) (zlB hcap) pi (fun C s H fp => (hg C s H fp).choose_spec.1) (fun C s H fp => (ht C s H fp).choose_spec.1) (fun C s H fp => (he C s H fp).choose_spec.1) hs, fun B G H σ ρ fl ρ' E I hm k => ?_⟩
  obtain ⟨⟨d, ρ1⟩, e1, e3⟩ := zay hm
  obtain ⟨⟨ds, ρ2⟩, e4, e5⟩ := zay e1
  obtain ⟨rfl, rfl⟩ := Prod.mk.inj e5
  obtain ⟨rfl, rfl⟩ := Prod.mk.inj e3
  refine zi8 hbw si (fun C s H fp => (hg C s H fp).choose_spec.2) (fun C s H fp => (ht C s H fp).choose_spec.2) (fun C s H fp => (he C s H fp).choose_spec.2) B G H σ ρ ds ρ2 _ I e4 fun G1 H1 l xs I1 f1 g1 h1 r1 b1 n1 => ?_
  obtain ⟨I2, f2, r2⟩ := zjD I1 g1 h1 r1 b1 n1
  exact k _ H1 _ (I2.set r2) (f1.trans f2)
end
end M
namespace M
open L2 PySem
noncomputable def sExt (i : Nat) (m : ME) : MS := fun ρ => if (ρ[i]?.bind Sl.items).isSome then (m ρ).bind fun p => p.2[i]?.bind fun s => s.items.bind fun ds => match p.1 with
 | .lst es => if ds.length + es.length <= 16777216 then some (.next, p.2.set i (s.put (ds ++ es))) else none
 | _ => none else none
section
variable {X : Cx} {e : Expr} {me : ME} {pos : Pos}
theorem ss_ext (i : Nat) {x : Str} {pos' apos cpos : Pos} (he : SE X e me) (hN : X.N[i]? = some x := by rfl) (hv : Vis X.env.scope x := by first | exact Or.inl rfl | exact Or.inr (Or.inl rfl) | exact Or.inr (Or.inr rfl)) (hd : (x == ("__debug__" : Str)) = false := by decide)
  (hcd : (x == ("__classdict__" : Str)) = false := by decide)
  (hbase : attributeBase (.Name x pos') "extend" X.env (eval (.Name x pos') X.env) = eval (.Name x pos') X.env := by rfl)
  (hfew : ((backTo cpos (starEach [e] X.env)).all (fun x => !x.1) && (backToKw cpos (keywordEach [] X.env)).all (fun x => x.1.isSome)
   && decide ([e].length + ([] : List Keyword).length + (if ([] : List Keyword).isEmpty then 0 else 1) < 30)) = true := by rfl)
  (hline : (apos.endLine == cpos.line) = true := by rfl) (hs : starEach [e] X.env = (false, eval e X.env) :: starEach [] X.env := by rfl) : SS X (.Expr (.Call (.Attribute (.Name x pos') "extend" apos) [e] [] cpos) pos) (sExt i me) := by
 obtain ⟨t, p, s⟩ := he
 refine ⟨_, zpW (pe_bm PySem.F.plainAttrs_list PySem.F.slot_list_extend PySem.F.type_list_extend zn7 (zfB hN hv hd hcd) (zen p zjb hs) hbase hfew hline hs rfl) (by rfl), fun B G H σ ρ fl ρ' E I hm k => ?_⟩
 unfold sExt at hm
 split at hm
 ·rename_i hso
  obtain ⟨ds0, hso⟩ := Option.isSome_iff_exists.mp hso
  obtain ⟨s0, e0, q0⟩ := zaf hso
  obtain ⟨l, xs0, h1, h2, h3, h4⟩ := I.wr e0 q0
  obtain ⟨⟨d, ρ1⟩, e1, hm⟩ := zaf hm
  obtain ⟨s1, e2, hm⟩ := zaf hm
  obtain ⟨ds, e3, hm⟩ := zaf hm
  cases d with
  | lst es =>
   dsimp only at hm
   split at hm
   ·rename_i hl
    cases hm
    refine ⟨.ref l, h1, .inl ⟨rfl, _, SqL.of h3⟩, s B G H σ ρ (.lst es) ρ1 _ I e1 fun G1 H1 v I1 f1 r1 => ?_⟩
    obtain ⟨l', xs, k1, k2, k3, k4⟩ := I1.wr e2 e3
    rw [h1] at k1; cases k1
    obtain ⟨b, zs, rfl, hb, rb⟩ := r1
    refine ⟨l, b, xs, zs, rfl, rfl, k3, I1.fz _ _ hb, by rw [k4.length, rb.length, sizeLine_eq]; exact hl, ?_⟩
    exact k G1 _ σ (I1.write e2 e3 h1 (k4.append rb)) f1
   ·cases hm
  | _ => cases hm
 ·cases hm
end
end M
namespace L2
open PyProof.Rows PySem PySem.Spec
theorem zn8 {P : Program} {w : World} {K : W.Frag} {tg : Expr} (it : Addr) (lo : Int) (n : Nat) : Turn P w K tg (Itr lo n) [it] it (fun i h => IsLongIter h it (lo + (i : Nat) * 1) ((n : Int) - (i : Nat)) 1) where
 mem := by simp
 obj := fun i h st b hb => by
  have e : b = it := by simpa using hb
  subst e
  exact ⟨_, st, fun v z => by
   have z' : Data.fields _ = Data.cell v := z
   cases z'⟩
 keep := fun i h h' st k => k it (by simp) _ st
 item := by
  intro X hP hw hK hc i pins s σ H E I hf st hg
  subst hP hw hK
  obtain ⟨f0, f1, f2, f3, f4, f5⟩ := hf it (by simp)
  refine (Walks.longrange (prog := X.prog) (w := X.w) (I.ok.hd hc) it lo 1 n).item i s _ _ hg st fun v h' tk hv st' kk => ?_
  obtain ⟨t, rfl⟩ := hv
  have I1 : Inv X pins σ H { s with heap := h', toks := tk } := I.turned (fun b o hb e => kk b o (by simpa using hb) e) f0 f1 f3 f4 f5
  refine ⟨_, rfl, zoG (s := { s with heap := h', toks := tk }) (n := "longrange_iterator") st' rfl rfl (by decide) ⟨.int (lo + i), H, I1, ⟨t, ?_⟩, ⟨rfl, rfl⟩, st', fun b hb => (hf b hb).1⟩⟩
  rw [Int.mul_one]
 done := by
  intro X hP hw hK hc i pins s σ H E I hf st hg
  subst hP hw hK
  obtain ⟨f0, f1, f2, f3, f4, f5⟩ := hf it (by simp)
  exact wpAny_pyNext_long_end (I.ok.hd hc) st (by have : n <= i := hg; omega) fun h' eb => ⟨rfl, I.turned (t' := s.toks) (fun b o hb e => eb b o hb e) f0 f1 f3 f4 f5⟩
 self := fun _ _ _ _ _ st h => wpAny_pyIter_longiter st h
section
variable {X : Cx} {tg : Expr}
theorem zm8 (lo hi : Int) : (((hi - lo).toNat : Nat) : Int) - ((0 : Nat) : Int) = Builtin.Range.rangeSize lo hi 1 := by rw [rangeSize_one]; split <;> omega
theorem zo5 {pins : List (Addr × Obj)} {σ : St} {H : Hp} {s : Shared} {R : It -> Hp -> Prop} {E : Value -> Shared -> Prop} {lo hi : Int} {t u v : Tok} {tk : Nat} (I : Inv X pins σ H s)
  (q : R (Itr lo (hi - lo).toNat) H) : wpAny (model X.prog X.w) X.A (pyIter (.ref s.heap.objs.size)) (PIE X pins σ tg R) E { s with heap := s.heap.push { cls := .type "range", data := .fields #[.int lo t, .int hi u, .int 1 v] }, toks := tk } := by
 have I1 : Inv X pins σ H { s with heap := s.heap.push { cls := .type "range", data := .fields #[.int lo t, .int hi u, .int 1 v] }, toks := tk } := I.kept fun b o e => Heap.get?_push_of_some _ e
 have e1 : lo + ((0 : Nat) : Int) * 1 = lo := by simp
 have fp : ∀ b ∈ [(s.heap.push { cls := .type "range", data := .fields #[.int lo t, .int hi u, .int 1 v] }).objs.size], FpOk X pins H b := fun b hb => by
  have e : b = (s.heap.push { cls := .type "range", data := .fields #[.int lo t, .int hi u, .int 1 v] }).objs.size := by simpa using hb
  subst e
  exact I1.fpOk (Nat.le_refl _) (I1.hok.fresh (Nat.le_refl _))
 by_cases hsm : Builtin.Range.small lo hi 1 = true
 ·refine wpAny_pyIter_range (IsRange.new ..) hsm ⟨_, _, _, _, H, rfl, I1.kept (t' := tk) fun b o e => Heap.get?_push_of_some _ e, zjG _ lo (hi - lo).toNat, ?_, fp, q⟩
  show IsRangeIter _ _ (lo + ((0 : Nat) : Int) * 1) ((((hi - lo).toNat : Nat) : Int) - ((0 : Nat) : Int)) 1
  rw [e1, zm8]
  exact Heap.get?_push_size _ rfl
 ·refine wpAny_pyIter_longrange (IsRange.new ..) (by simpa using hsm) ⟨_, _, _, _, H, rfl, I1.kept (t' := tk) fun b o e => Heap.get?_push_of_some _ e, zn8 _ lo (hi - lo).toNat, ?_, fp, q⟩
  show IsLongIter _ _ (lo + ((0 : Nat) : Int) * 1) ((((hi - lo).toNat : Nat) : Int) - ((0 : Nat) : Int)) 1
  rw [e1, zm8]
  exact Heap.get?_push_size _ rfl
def iRng2L (ta : TA) : TI := fun σ H R => ta σ H fun vs H1 => ∃ i j : Int, vs = [.int i, .int j] /\ R (Itr i (j - i).toNat) H1
theorem znP {a b : Expr} {ta : TA} {p pos : Pos} (hg : Gl X "range") (hm : X.mg "range" = none) (ha : PA X [a, b] ta) (hs : starEach [a, b] X.env = [(false, eval a X.env), (false, eval b X.env)] := by rfl) (hs2 : starEach [b] X.env = [(false, eval b X.env)] := by rfl) :
  PI X tg (.Call (.Name "range" p) [a, b] [] pos) (iRng2L ta) := by
 intro pins s σ H R I h
 refine Call_ (zgX I hg hm boot_range (PyProof.Rows.callWith_type1 (thn (ha pos pins s σ H _ I h) fun us s1 ⟨vs, H1, I1, r1, q1⟩ => ?_) (by rw [hs, hs2]) (by rw [hs2]; rfl)))
 obtain ⟨i, j, e, q⟩ := q1
 subst e
 cases r1 with
 | cons r rr =>
  cases rr with
  | cons r' rr =>
   cases rr
   obtain ⟨t, rfl⟩ := r
   obtain ⟨t', rfl⟩ := r'
   exact call_range_2 (zo5 I1 q)
end
end L2
namespace M
open L2 PySem PySem.Spec
open PyProof.Rows hiding St
noncomputable def iR2L (ma : MA) : MA := fun ρ => (ma ρ).bind fun p => match p.1 with
 | [.int i, .int j] => some (zcq i (j - i).toNat, p.2)
 | _ => none
theorem znt {X : Cx} {tg a b : Expr} {ma : MA} {p pos : Pos} (hm : X.mg "range" = none) (ha : SA X [a, b] ma) (hg : Gl X "range" := by rfl) (hs : starEach [a, b] X.env = [(false, eval a X.env), (false, eval b X.env)] := by rfl) (hs2 : starEach [b] X.env = [(false, eval b X.env)] := by rfl) : SIt X tg (.Call (.Name "range" p) [a, b] [] pos) (iR2L ma) := by
 obtain ⟨t, pa, sa⟩ := ha
 refine ⟨_, znP hg hm pa hs hs2, fun B G H σ ρ ds ρ' Q I hm k => ?_⟩
 obtain ⟨⟨es, ρ1⟩, e1, h2⟩ := zaf hm
 dsimp only at h2
 refine sa B G H σ ρ es ρ1 _ I e1 fun G1 H1 vs I1 f1 r1 => ?_
 split at h2
 ·rename_i i j
  cases h2
  obtain ⟨x, y, rfl, rx, ry⟩ := r1.two
  cases (show x = V.int i from rx)
  cases (show y = V.int j from ry)
  exact ⟨i, j, rfl, k _ G1 H1 I1 f1 (ziU i _)⟩
 ·cases h2
theorem nn {α : Type} {o : Option α} {x : α} (e : o = some x) : o ≠ none := by rw [e]; exact fun z => by cases z
abbrev MX := R -> Option Str
noncomputable def zgG (mc : MT) (mb : MS) : Nat -> MS
 | 0, _ => none
 | n + 1, ρ => (mc ρ).bind fun p => if p.1 then (mb p.2).bind fun q => match q.1 with
  | .next => zgG mc mb n q.2
  | .cont => zgG mc mb n q.2
  | .brk => some (.next, q.2)
  | .ret r => some (.ret r, q.2)
  else some (.next, p.2)
theorem zku {X : Cx} {c : Expr} {body : List Stmt} {mc : MT} {mb : MS} {pos : Pos} (fuel : Nat) (hp : PassesOwn (model X.prog X.w) X.A X.env X.xe) (hc : STt X c mc) (hb : SSs X body mb) : SS X (.While c body [] pos) (zgG mc mb fuel) := by
 obtain ⟨tc, pc, sc⟩ := hc
 obtain ⟨tb, pb, sb⟩ := hb
 refine ⟨_, ps_while hp pc pb, fun B G H σ ρ fl ρ' E I hm k => ?_⟩
 refine ⟨fun m σ' H' => ∃ G' ρ1, SI X.K B G' H' σ' ρ1 /\ Fz G G' /\ zgG mc mb m ρ1 = some (fl, ρ'), ⟨fuel, G, ρ, I, Fz.refl G, hm⟩, fun m σ1 H1 w => ?_⟩
 obtain ⟨G1, ρ1, I1, f1, e1⟩ := w
 cases m with
 | zero => cases e1
 | succ m =>
  obtain ⟨⟨b, ρ2⟩, e2, e1⟩ := zaf e1
  refine sc B G1 H1 σ1 ρ1 b ρ2 _ I1 e2 fun G2 H2 I2 f2 => ?_
  dsimp only at e1
  cases b with
  | false =>
   rw [if_neg (by simp)] at e1 ⊢
   cases e1
   exact k G2 H2 σ1 I2 (f1.trans f2)
  | true =>
   rw [if_pos rfl] at e1 ⊢
   obtain ⟨⟨f, ρ3⟩, e3, e1⟩ := zaf e1
   refine ⟨fun σ' H' => ∃ G' ρ1, SI X.K B G' H' σ' ρ1 /\ Fz G G' /\ zgG mc mb m ρ1 = some (fl, ρ'), fun σ' H' h => ⟨m, Nat.lt_succ_self m, h⟩, ?_⟩
   refine sb B G2 H2 σ1 ρ2 f ρ3 _ I2 e3 ?_
   have ff := f1.trans f2
   cases f with
   | next => exact fun G' H' σ' I3 f3 => ⟨G', ρ3, I3, ff.trans f3, e1⟩
   | cont => exact fun G' H' σ' I3 f3 => ⟨G', ρ3, I3, ff.trans f3, e1⟩
   | brk => cases e1; exact fun G' H' σ' I3 f3 => k G' H' σ' I3 (ff.trans f3)
   | ret r => cases e1; exact fun G' H' σ' v I3 f3 rr => k G' H' σ' v I3 (ff.trans f3) rr
end M
namespace M
open L2 PySem
noncomputable def likeS : Sl -> Sl -> Bool
 | .own ds, .own es => match zcz ds, zcz es with
  | some a, some b => a == b
  | _, _ => false
 | .par ds, .par es => match zcz ds, zcz es with
  | some a, some b => a == b
  | _, _ => false
 | .own _, _ => false
 | .par _, _ => false
 | .tre _, _ => false
 | .ptr _, _ => false
 | _, _ => true
end M
namespace M
open L2 PySem PySem.Spec
open PyProof.Rows hiding St
variable {s : Sl} {t : T} {ov : Option (Option V)} {a b : Addr} {i j : Nat} {v : V} {A : List Addr} {o : HO} {σ' σ : St} {ρ' ρ : R} {ds : List D} {K : W.Frag} {B : Bs} {G H : Hp} {q : List Int × List D} {X : Cx} {e : Expr}
def Sl.putT (s : Sl) (t : T) : Sl := match s with
 | .tre _ => .tre t
 | .ptr _ => .ptr t
 | s => s
def Sl.tree : Sl -> Option T
 | .tre t => some t
 | .ptr t => some t
 | _ => none
section
variable {K : W.Frag} {B : Bs} {G G' H H' : Hp} {σ : St} {ρ : R}
theorem znd (q : s.tree = some t) : OwS K G H ov a s ↔ ∃ v A, ov = some (some v) /\ RepT K G H v t A /\ a ∈ A := by
 cases s with
 | tre _ => cases q; exact Iff.rfl
 | ptr _ => cases q; exact Iff.rfl
 | _ => cases q
theorem zn2 (q : s.tree = some t) (t' : T) : (s.putT t').tree = some t' := by
 cases s with
 | tre _ => rfl
 | ptr _ => rfl
 | _ => cases q
theorem SI.tree (I : SI K B G H σ ρ) (e : ρ[i]? = some s) (q : s.tree = some t) : ∃ v A, σ[i]? = some (some v) /\ RepT K G H v t A /\ A.Nodup /\ (∀ a ∈ A, G a = none) /\ ∀ a ∈ A, B.H a = none \/ (i, a) ∈ B.O := by
 have h := I.slot i s e
 cases s with
 | tre _ => cases q; obtain ⟨v, A, h1, h2, h3, h4⟩ := h; exact ⟨v, A, h1, h2, h3, fun a m => (h4 a m).1, fun a m => .inl (h4 a m).2⟩
 | ptr _ => cases q; obtain ⟨v, A, h1, h2, h3, h4⟩ := h; exact ⟨v, A, h1, h2, h3, fun a m => (h4 a m).1, fun a m => (h4 a m).2⟩
 | _ => cases q
theorem SI.chT (I : SI K B G H σ ρ) {i : Nat} {t t' : T} {A A' : List Addr} (e : ρ[i]? = some s) (q : s.tree = some t) (hv : σ[i]? = some (some v)) (r : RepT K G H v t A) (fz : Fz G H') (kp : ∀ b o, b ∉ A -> H b = some o -> H' b = some o) (th : ∀ b, H' b = none -> H b = none)
  (r' : RepT K G H' v t' A') (nd : A'.Nodup) (sub : ∀ a ∈ A', a ∈ A \/ H a = none) : SI K B G H' σ (ρ.set i (s.putT t')) := by
 obtain ⟨v1, A1, h1, h2, h3, h4, h5⟩ := I.tree e q
 rw [hv] at h1; cases h1
 have : A1 = A := h2.det r fun _ _ => rfl
 subst this
 have g' : ∀ a ∈ A', G a = none := fun a m => by
  rcases sub a m with z | z
  ·exact h4 a z
  ·exact I.fz.free z
 have b' : ∀ a ∈ A', B.H a = none \/ (i, a) ∈ B.O := fun a m => by
  rcases sub a m with z | z
  ·exact h5 a z
  ·exact .inl (I.there a z)
 have h := I.chg (i := i) (ov := some v) (s' := s.putT t') (G' := G) (H' := H') fz (Fz.refl G) I.new (fun b o k1 k2 => kp b o (fun m => ?_) (I.keep b o k1 k2)) (fun b k => I.there b (th b k)) (fun j u a z ej w g ha => ?_) ?_
 ·rwa [zkX hv] at h
 ·rcases h5 b m with z | z
  ·rw [k1] at z; cases z
  ·exact k2 i z
 ·have na : a ∉ A1 := fun m => I.dis j i u s a z ej e w ((znd q).mpr ⟨v, A1, hv, h2, m⟩)
  obtain ⟨x, hx⟩ := Option.ne_none_iff_exists'.mp ha
  refine ⟨g, (kp a x na hx).trans hx.symm, fun w' => ?_⟩
  obtain ⟨v2, A2, k1, k2, k3⟩ := (znd (zn2 q t')).mp w'
  cases k1
  rw [k2.det r' fun _ _ => rfl] at k3
  rcases sub a k3 with z | z
  ·exact na z
  ·exact ha z
 ·have sl := I.slot i s e
  cases s with
  | tre _ =>
   obtain ⟨v2, A2, k1, k2, k3, k4⟩ := sl
   rw [hv] at k1; cases k1
   cases q
   have : A2 = A1 := k2.det h2 fun _ _ => rfl
   subst this
   refine ⟨v, A', rfl, r', nd, fun a m => ⟨g' a m, ?_⟩⟩
   rcases sub a m with z | z
   ·exact (k4 a z).2
   ·exact I.there a z
  | ptr _ => exact ⟨v, A', rfl, r', nd, fun a m => ⟨g' a m, b' a m⟩⟩
  | _ => cases q
theorem SI.setT (I : SI K B G H σ ρ) (r : RepT K G H v t A) (nd : A.Nodup) (hA : ∀ a ∈ A, G a = none /\ B.H a = none /\ Nw K G H σ ρ a) : SI K B G H (σ.set i (some v)) (ρ.set i (.tre t)) :=
 I.chg I.fz (Fz.refl G) I.new I.keep I.there (fun j s a _ e w g _ => ⟨g, rfl, fun ⟨v2, A2, k1, k2, k3⟩ => by
  cases k1
  rw [k2.det r fun _ _ => rfl] at k3
  exact (hA a k3).2.2 j s e w⟩) ⟨v, A, rfl, r, nd, fun a m => ⟨(hA a m).1, (hA a m).2.1⟩⟩
open Classical in
def Bs.re (B : Bs) (K : W.Frag) (G H : Hp) (σ : St) (ρ : R) : Bs := ⟨G, fun b => if (∃ (i : Nat) (s : Sl), ρ[i]? = some s /\ OwS K G H σ[i]? b s) /\ B.H b = none then none else H b, B.O⟩
theorem zjf (I : SI K B G H σ ρ) (h : (B.re K G H σ ρ).H b = none) : B.H b = none := by
 unfold Bs.re at h
 dsimp only at h
 split at h
 ·rename_i w; exact w.2
 ·exact I.there b h
theorem zoT (e : ρ[i]? = some s) (w : OwS K G H σ[i]? b s) (n : B.H b = none) : (B.re K G H σ ρ).H b = none := by
 unfold Bs.re
 dsimp only
 rw [if_pos ⟨⟨i, s, e, w⟩, n⟩]
theorem re_some (h : H b = some o) (n : Nw K G H σ ρ b) : (B.re K G H σ ρ).H b = some o := by
 unfold Bs.re
 dsimp only
 rw [if_neg fun w => by obtain ⟨⟨i, s, e, w⟩, _⟩ := w; exact n i s e w]
 exact h
theorem SI.re (I : SI K B G H σ ρ) : SI K (B.re K G H σ ρ) G H σ ρ where
 fz := I.fz
 g0 := Fz.refl G
 new := fun b o e => .inl (by show G b ≠ none; rw [e]; simp)
 keep := fun b o e _ => by
  unfold Bs.re at e
  dsimp only at e
  split at e
  ·cases e
  ·exact e
 there := fun b e => by
  unfold Bs.re
  dsimp only
  split
  ·rfl
  ·exact e
 ob := fun i b m => by
  have hb := I.ob i b m
  unfold Bs.re
  dsimp only
  rw [if_neg fun w => hb w.2]
  exact fun z => hb (I.there b z)
 len := I.len
 slot := fun i s e => by
  have h := I.slot i s e
  cases s with
  | emp => trivial
  | two _ _ => trivial
  | val d => exact h
  | own ds => obtain ⟨l, xs, k1, k2, k3, k4, k5⟩ := h; exact ⟨l, xs, k1, k2, k3, k4, zoT e k1 k5⟩
  | par ds => exact h
  | tre t => obtain ⟨v, A, k1, k2, k3, k4⟩ := h; exact ⟨v, A, k1, k2, k3, fun a m => ⟨(k4 a m).1, zoT e ⟨v, A, k1, k2, m⟩ (k4 a m).2⟩⟩
  | ptr t =>
   obtain ⟨v, A, k1, k2, k3, k4⟩ := h
   refine ⟨v, A, k1, k2, k3, fun a m => ⟨(k4 a m).1, ?_⟩⟩
   rcases (k4 a m).2 with z | z
   ·exact .inl (zoT e ⟨v, A, k1, k2, m⟩ z)
   ·exact .inr z
 dis := I.dis
theorem SI.unre (I : SI K B G H σ ρ) (J : SI K (B.re K G H σ ρ) G' H' σ' ρ') : SI K B G' H' σ' ρ' where
 fz := J.fz
 g0 := I.g0.trans J.g0
 new := fun b o e => by
  rcases J.new b o e with z | z
  ·cases q : G b with
   | none => exact absurd q z
   | some u => exact I.new b u q
  ·exact .inr (zjf I z)
 keep := fun b o e n => J.keep b o (by
  unfold Bs.re
  dsimp only
  rw [if_neg fun w => by rw [w.2] at e; cases e]
  exact I.keep b o e n) n
 there := fun b e => zjf I (J.there b e)
 ob := I.ob
 len := J.len
 slot := fun i s e => by
  have h := J.slot i s e
  cases s with
  | emp => trivial
  | two _ _ => trivial
  | val d => exact h
  | own ds => obtain ⟨l, xs, k1, k2, k3, k4, k5⟩ := h; exact ⟨l, xs, k1, k2, k3, k4, zjf I k5⟩
  | par ds => exact h
  | tre t => obtain ⟨v, A, k1, k2, k3, k4⟩ := h; exact ⟨v, A, k1, k2, k3, fun a m => ⟨(k4 a m).1, zjf I (k4 a m).2⟩⟩
  | ptr t =>
   obtain ⟨v, A, k1, k2, k3, k4⟩ := h
   refine ⟨v, A, k1, k2, k3, fun a m => ⟨(k4 a m).1, ?_⟩⟩
   rcases (k4 a m).2 with z | z
   ·exact .inl (zjf I z)
   ·exact .inr z
 dis := J.dis
theorem SI.re_stays (I : SI K B G H σ ρ) (J : SI K (B.re K G H σ ρ) G' H' σ' ρ') (h : H b = some o) (n : Nw K G H σ ρ b) (hg : G b = none) (hB : B.H b = none) : H' b = some o /\ G' b = none /\ Nw K G' H' σ' ρ' b := by
 have hb : (B.re K G H σ ρ).H b = some o := re_some h n
 have hO : ∀ i, (i, b) ∉ B.O := fun i m => I.ob i b m hB
 refine ⟨J.keep b o hb hO, ?_, fun i s e w => ?_⟩
 ·cases q : G' b with
  | none => rfl
  | some u =>
   rcases J.new b u q with z | z
   ·exact absurd hg z
   ·rw [hb] at z; cases z
 ·rcases ((J.slot i s e).own w).2.2 with z | z
  ·rw [hb] at z; cases z
  ·exact hO i z
end
section
variable {J κ : Type} [DecidableEq J] [DecidableEq κ]
noncomputable def lkD : List J -> List D -> J -> Option D
 | k :: ks, d :: ds, j => if k = j then some d else lkD ks ds j
 | _, _, _ => none
noncomputable def ptD (ks : List J) (ds : List D) (j : J) (d : D) : List J × List D := if ks.contains j then (ks, List.zipWith (fun k x => if k = j then d else x) ks ds) else (ks ++ [j], ds ++ [d])
variable {K : W.Frag} {G : Hp} {em : J -> κ}
theorem zmo (inj : ∀ a b, em a = em b -> a = b) : ∀ {ks : List J} {ds : List D} {ys : List (κ × V)} {j : J} {d : D}, ys.map (·.1) = ks.map em -> RepL K G (ys.map (·.2)) ds -> lkD ks ds j = some d -> ∃ v, valV ys (em j) = some v /\ RepD K G v d
 | [], _, _, _, _, _, _, h => by cases h
 | _ :: _, [], _, _, _, _, _, h => by cases h
 | k :: ks, x :: ds, [], j, d, e, _, _ => by cases e
 | k :: ks, x :: ds, y :: ys, j, d, e, ⟨z, zs, e1, r1, r2⟩, h => by
  cases e1
  have e2 := List.cons.inj e
  unfold lkD at h
  by_cases q : k = j
  ·rw [if_pos q] at h; cases h
   subst q
   exact ⟨y.2, zeU e2.1, r1⟩
  ·rw [if_neg q] at h
   obtain ⟨v, h1, h2⟩ := zmo inj e2.2 r2 h
   refine ⟨v, ?_, h2⟩
   rw [zcp fun z => q (inj _ _ (e2.1.symm.trans z)), h1]
theorem zpq (inj : ∀ a b, em a = em b -> a = b) : ∀ {ks : List J} {ds : List D} {ys : List (κ × V)} {j : J}, ys.map (·.1) = ks.map em -> RepL K G (ys.map (·.2)) ds -> lkD ks ds j = none -> valV ys (em j) = none
 | [], _, [], _, _, _, _ => rfl
 | [], _, _ :: _, _, e, _, _ => by cases e
 | _ :: _, _, [], _, e, _, _ => by cases e
 | k :: ks, [], y :: ys, _, _, r, _ => by cases r
 | k :: ks, x :: ds, y :: ys, j, e, ⟨z, zs, e1, r1, r2⟩, h => by
  cases e1
  have e2 := List.cons.inj e
  unfold lkD at h
  by_cases q : k = j
  ·rw [if_pos q] at h; cases h
  ·rw [if_neg q] at h
   rw [zcp fun z => q (inj _ _ (e2.1.symm.trans z)), zpq inj e2.2 r2 h]
theorem zpE (inj : ∀ a b, em a = em b -> a = b) {ks : List J} {ys : List (κ × V)} {j : J} (e : ys.map (·.1) = ks.map em) (r : RepL K G (ys.map (·.2)) ds) : (valV ys (em j)).isSome = (lkD ks ds j).isSome := by
 cases h : lkD ks ds j with
 | none => rw [zpq inj e r h]; rfl
 | some d => obtain ⟨v, h1, _⟩ := zmo inj e r h; rw [h1]; rfl
theorem pt_rep (inj : ∀ a b, em a = em b -> a = b) {ks : List J} {ys : List (κ × V)} {j : J} {d : D} (e : ys.map (·.1) = ks.map em) (r : RepL K G (ys.map (·.2)) ds) (rv : RepD K G v d) :
  (putK ys (em j) v).map (·.1) = (ptD ks ds j d).1.map em /\ RepL K G ((putK ys (em j) v).map (·.2)) (ptD ks ds j d).2 := by
 have any : (ys.any fun kv => decide (kv.1 = em j)) = ks.contains j := by
  clear r
  induction ys generalizing ks with
  | nil => cases ks with
   | nil => rfl
   | cons _ _ => cases e
  | cons y ys ih => cases ks with
   | nil => cases e
   | cons k ks =>
    have e2 := List.cons.inj e
    rw [List.any_cons, ih e2.2, List.contains_cons]
    congr 1
    by_cases q : j = k
    ·subst q; simp [e2.1]
    ·rw [decide_eq_false (fun z => q (inj _ _ (e2.1.symm.trans z)).symm)]
     simp [q]
 unfold putK ptD
 rw [any]
 by_cases q : ks.contains j = true
 ·rw [if_pos q, if_pos q]
  constructor
  ·rw [List.map_map, <- e]
   apply List.map_congr_left
   intro a _
   simp only [Function.comp]
   split <;> rfl
  ·clear any q
   rw [List.map_map]
   induction ys generalizing ks ds with
   | nil => cases ks with
    | nil => exact RepL.nil
    | cons _ _ => cases e
   | cons y ys ih => cases ks with
    | nil => cases e
    | cons k ks =>
     have e2 := List.cons.inj e
     cases ds with
     | nil => cases r
     | cons x ds =>
      obtain ⟨z, zs, e1, r1, r2⟩ := r
      cases e1
      refine RepL.cons ?_ (ih e2.2 r2)
      simp only [Function.comp]
      by_cases q : k = j
      ·rw [if_pos q, if_pos (by rw [<- q]; exact e2.1)]; exact rv
      ·rw [if_neg q, if_neg fun z => q (inj _ _ (e2.1.symm.trans z))]; exact r1
 ·rw [if_neg q, if_neg q]
  rw [List.map_append, List.map_append, List.map_append, e]
  exact ⟨rfl, r.append (.cons rv .nil)⟩
end
theorem zoe (a b : Int) (h : kI a = kI b) : a = b := by cases h; rfl
def Sl.dic : Sl -> Option (List Int × List D)
 | .tre (.dic ks ds) => some (ks, ds)
 | .ptr (.dic ks ds) => some (ks, ds)
 | .val (.dic ks ds) => some (ks, ds)
 | _ => none
theorem SI.dic (I : SI K B G H σ ρ) (e : ρ[j]? = some s) (h : s.dic = some q) : ∃ p ys, σ[j]? = some (some (.ref p)) /\ Rd H p (.dK ys) /\ ys.map (·.1) = q.1.map kI /\ RepL K G (ys.map (·.2)) q.2 := by
 have tr : ∀ {t : T}, s.tree = some t -> t = .dic q.1 q.2 -> ∃ p ys, σ[j]? = some (some (.ref p)) /\ Rd H p (.dK ys) /\ ys.map (·.1) = q.1.map kI /\ RepL K G (ys.map (·.2)) q.2 := fun {t} h1 h2 => by
  subst h2
  obtain ⟨v, A, k1, k2, _⟩ := I.tree e h1
  obtain ⟨p, ys, rfl, e2, e3, e4, -⟩ := k2
  exact ⟨p, ys, k1, .inl e2, e3, e4⟩
 cases s with
 | tre t => cases t with
  | dic ks ds => cases h; exact tr rfl rfl
  | _ => cases h
 | ptr t => cases t with
  | dic ks ds => cases h; exact tr rfl rfl
  | _ => cases h
 | val d => cases d with
  | dic ks ds =>
   cases h
   obtain ⟨v, k1, a, ys, rfl, e2, e3, e4⟩ := I.slot j _ e
   exact ⟨a, ys, k1, e2.imp (I.fz _ _) fun ⟨o, z⟩ => ⟨o, I.fz _ _ z⟩, e3, e4⟩
  | _ => cases h
 | _ => cases h
noncomputable def tDI (j : Nat) (neg : Bool) (mk : ME) : MT := fun ρ => (mk ρ).bind fun p => match p.1 with
 | .int k => (p.2[j]?.bind Sl.dic).map fun q => (((lkD q.1 q.2 k).isSome != neg), p.2)
 | _ => none
noncomputable def eDG (j : Nat) (mk : ME) : ME := fun ρ => if (ρ[j]?.bind Sl.dic).isSome then (mk ρ).bind fun p => match p.1 with
 | .int k => (p.2[j]?.bind Sl.dic).bind fun q => (lkD q.1 q.2 k).map fun d => (d, p.2)
 | _ => none else none
noncomputable def sDP (j : Nat) (mk me : ME) : MS := fun ρ => (me ρ).bind fun p => if (p.2[j]?.bind Sl.dic).isSome then (mk p.2).bind fun q => match q.1 with
 | .int k => q.2[j]?.bind fun s => match s.tree with
  | some (.dic ks ds) => if ks.length < 16777216 then some (.next, q.2.set j (s.putT (.dic (ptD ks ds k p.1).1 (ptD ks ds k p.1).2))) else none
  | _ => none
 | _ => none else none
def sDN (i : Nat) : MS := fun ρ => some (.next, ρ.set i (.tre (.dic [] [])))
section
variable {X : Cx} {x : Str} {a e : Expr} {mk me : ME} {pos p' tpos : Pos}
theorem zpz (j : Nat) (hu : X.A.units + 64 < cLine) (ha : SE X a mk) (hN : X.N[j]? = some x := by rfl) (hv : Vis X.env.scope x := by first | exact Or.inl rfl | exact Or.inr (Or.inl rfl) | exact Or.inr (Or.inr rfl)) (hd : (x == ("__debug__" : Str)) = false := by decide)
  (hcd : (x == ("__classdict__" : Str)) = false := by decide) (hm : behindInMarks .NotIn (.Name x p') = false := by rfl) : STt X (.Compare a [.NotIn] [.Name x p'] pos) (tDI j true mk) := by
 obtain ⟨t, pa, sa⟩ := ha
 refine ⟨_, pt_cmp (zoz (by omega) pa (zfB hN hv hd hcd)) hm, fun B G H σ ρ b ρ' Q I hm k => ?_⟩
 obtain ⟨⟨y, ρ1⟩, e1, hm⟩ := zaf hm
 refine sa B G H σ ρ y ρ1 _ I e1 fun G1 H1 v I1 f1 r1 => ?_
 cases y <;> try cases hm
 rename_i n
 obtain ⟨q, e2, e3⟩ := zay hm
 cases e3
 obtain ⟨s, e4, e5⟩ := zaf e2
 obtain ⟨p, ys, k1, k2, k3, k4⟩ := I1.dic e4 e5
 refine ⟨.ref p, k1, p, valV ys (kI n), rfl, by rw [show v = kV (kI n) from r1]; exact .inl ⟨ys, kI n, k2, rfl, rfl⟩, _, rfl, ?_⟩
 rw [zpE zoe k3 k4]
 have := k G1 H1 I1 f1
 simpa using this
theorem se_dGet (j : Nat) (hu : X.A.units + 64 < cLine) (ha : SE X a mk) (hs : NoSl a := by exact fun _ _ => rfl) (hN : X.N[j]? = some x := by rfl) (hv : Vis X.env.scope x := by first | exact Or.inl rfl | exact Or.inr (Or.inl rfl) | exact Or.inr (Or.inr rfl)) (hd : (x == ("__debug__" : Str)) = false := by decide)
  (hcd : (x == ("__classdict__" : Str)) = false := by decide) : SE X (.Subscript (.Name x p') a pos) (eDG j mk) := by
 obtain ⟨t, pa, sa⟩ := ha
 refine ⟨_, pe_dget (by omega) (zfB hN hv hd hcd) pa hs, fun B G H σ ρ d ρ' Q I hm k => ?_⟩
 unfold eDG at hm
 split at hm
 ·rename_i hso
  obtain ⟨q0, hso⟩ := Option.isSome_iff_exists.mp hso
  obtain ⟨s0, e0, d0⟩ := zaf hso
  obtain ⟨p, ys, k1, _⟩ := I.dic e0 d0
  obtain ⟨⟨y, ρ1⟩, e1, hm⟩ := zaf hm
  refine ⟨.ref p, k1, sa B G H σ ρ y ρ1 _ I e1 fun G1 H1 v I1 f1 r1 => ?_⟩
  cases y <;> try cases hm
  rename_i n
  obtain ⟨q, e2, hm⟩ := zaf hm
  obtain ⟨d', e3, e4⟩ := zay hm
  cases e4
  obtain ⟨s, e5, e6⟩ := zaf e2
  obtain ⟨p', ys, m1, m2, m3, m4⟩ := I1.dic e5 e6
  rw [k1] at m1; cases m1
  obtain ⟨w, h1, h2⟩ := zmo zoe m3 m4 e3
  exact ⟨p, w, rfl, by rw [show v = kV (kI n) from r1, <- h1]; exact .inl ⟨ys, kI n, m2, rfl, rfl⟩, k G1 H1 w I1 f1 h2⟩
 ·cases hm
theorem ss_dPut (j : Nat) (hu : X.A.units + 64 < cLine) (he : SE X e me) (ha : SE X a mk) (hN : X.N[j]? = some x := by rfl) (hv : Vis X.env.scope x := by first | exact Or.inl rfl | exact Or.inr (Or.inl rfl) | exact Or.inr (Or.inr rfl)) (hd : (x == ("__debug__" : Str)) = false := by decide)
    (hcd : (x == ("__classdict__" : Str)) = false := by decide) (hs : swapsWith e (some (.Subscript (.Name x p') a tpos)) pos.line X.env = pure false := by rfl) : SS X (.Assign [.Subscript (.Name x p') a tpos] e pos) (sDP j mk me) := by
  obtain ⟨t, pa, sa⟩ := ha
  obtain ⟨u, pe, se⟩ := he
  refine ⟨_, ps_dput (by omega) (zfB hN hv hd hcd) pa pe hs, fun B G H σ ρ fl ρ' E I hm k => ?_⟩
  obtain ⟨⟨d, ρ1⟩, e1, hm⟩ := zaf hm
  refine se B G H σ ρ d ρ1 _ I e1 fun G1 H1 v I1 f1 r1 => ?_
  split at hm
  . rename_i hso
    obtain ⟨q0, hso⟩ := Option.isSome_iff_exists.mp hso
    obtain ⟨s0, e0, d0⟩ := zaf hso
    obtain ⟨p, ys0, k1, _⟩ := I1.dic e0 d0
    obtain ⟨⟨y, ρ2⟩, e2, hm⟩ := zaf hm
    refine ⟨.ref p, k1, sa B G1 H1 σ ρ1 y ρ2 _ I1 e2 fun G2 H2 w I2 f2 r2 => ?_⟩
    cases y <;> try cases hm
    rename_i n
    obtain ⟨s, e3, hm⟩ := zaf hm
    split at hm
    . rename_i ks ds q
      split at hm
      . rename_i hl
        cases hm
        obtain ⟨v2, A, h1, h2, h3, h4, h5⟩ := I2.tree e3 q
        rw [k1] at h1; cases h1
        obtain ⟨p2, ys, z, g2, g3, g4, rfl⟩ := h2
        cases z
        have len : ys.length = ks.length := by have := congrArg List.length g3; simpa using this
        obtain ⟨m1, m2⟩ := pt_rep zoe (j := n) g3 g4 (r1.mono f2)
        have rep : RepT X.K G2 (upd H2 p (.dK (putK ys (kI n) v))) (.ref p) (.dic (ptD ks ds n d).1 (ptD ks ds n d).2) [p] := ⟨p, _, rfl, zaI, m1, m2, rfl⟩
        refine ⟨p, _, rfl, by rw [show w = kV (kI n) from r2]; exact DPut.k g2 (by rw [len, sizeLine_eq]; exact hl), ?_⟩
        exact k G2 _ σ (I2.chT e3 q k1 ⟨p, ys, rfl, g2, g3, g4, rfl⟩ (I2.fz.right (h4 p (by simp)) _) (fun b o n h => by rw [zaw (fun z => n (by simp [z]))]; exact h) (fun b h => by
          by_cases z : b = p
          . subst z; rw [zaI] at h; cases h
          . rw [zaw z] at h; exact h) rep (by simp) (fun a m => .inl m)) (f1.trans f2)
      . cases hm
    . cases hm
  . cases hm
theorem ss_dNew (i : Nat) (hN : X.N.Nodup) (hi : X.N[i]? = some x := by rfl) (hx : Loc X.env.scope x := by first | exact Or.inl rfl | exact Or.inr rfl) (hs : swapsWith (.Dict [] [] tpos) (some (.Name x p')) pos.line X.env = pure false := by rfl)
    (hf : X.fn x = true \/ X.env.scope.names.lookup x = some .local := by first | exact Or.inl rfl | exact Or.inr rfl) : SS X (.Assign [.Name x p'] (.Dict [] [] tpos) pos) (sDN i) := by
  refine ⟨_, zpc hN hi hx pe_dnewK hs hf, fun B G H σ ρ fl ρ' E I hm k => ?_⟩
  cases hm
  intro p hp
  have nw : Nw X.K G (upd H p (.dK [])) σ ρ p := I.nw_move (I.nw hp) fun i s a _ _ g h => ⟨g, zaw fun z => h (by rw [z]; exact hp)⟩
  exact k G _ _ ((I.allocO hp _).setT (A := [p]) ⟨p, [], rfl, zaI, rfl, RepL.nil, rfl⟩ (by simp) (fun a m => by
    have : a = p := by simpa using m
    subst this
    exact ⟨I.fz.free hp, I.there a hp, nw⟩)) (Fz.refl G)
end
noncomputable def fzD (j : Nat) (ρ : R) : R := match ρ[j]? with
 | some (.tre (.dic ks ds)) => ρ.set j (.val (.dic ks ds))
 | _ => ρ
def sFzD (j : Nat) (m : MS) : MS := fun ρ => m (fzD j ρ)
theorem SI.fzD (I : SI K B G H σ ρ) (j : Nat) : ∃ G', SI K B G' H σ (fzD j ρ) /\ Fz G G' := by
 unfold M.fzD
 split
 ·rename_i ks ds e
  obtain ⟨v, A, h1, ⟨p, ys, rfl, h2, h3, h4, rfl⟩, h5, h6⟩ := I.slot j _ e
  have g := (h6 p (by simp)).1
  have fz := Fz.new g (.dK ys)
  refine ⟨upd G p (.dK ys), ?_, fz⟩
  have h := I.chg (i := j) (ov := some (.ref p)) (s' := .val (.dic ks ds)) (G' := upd G p (.dK ys)) (H' := H) (fun a u q => ?_) fz (fun b u q => ?_) I.keep I.there (fun i t a z ei w g _ => ⟨?_, rfl, id⟩) ⟨.ref p, rfl, p, ys, rfl, .inl zaI, h3, h4.mono fz⟩
  ·rwa [zkX h1] at h
  ·by_cases z : a = p
   ·subst z; rw [zaI] at q; cases q; exact h2
   ·rw [zaw z] at q; exact I.fz a u q
  ·by_cases z : b = p
   ·subst z; exact .inr (h6 b (by simp)).2
   ·rw [zaw z] at q; exact I.new b u q
  ·rw [zaw (fun q => by subst q; exact I.dis i j t _ a z ei e w ⟨_, _, h1, ⟨a, ys, rfl, h2, h3, h4, rfl⟩, by simp⟩)]; exact g
 ·exact ⟨G, I, Fz.refl G⟩
theorem ss_fzD {st : Stmt} {m : MS} (j : Nat) (h : SS X st m) : SS X st (sFzD j m) := by
 obtain ⟨t, p, s⟩ := h
 refine ⟨t, p, fun B G H σ ρ fl ρ' E I hm k => ?_⟩
 obtain ⟨G', I', f⟩ := I.fzD j
 exact s B G' H σ _ fl ρ' E I' hm (k.mono f)
noncomputable def zl0 (F : List D -> List D -> Option (Sl × List D)) (mo : MO) (ma : MA) : ME := fun ρ => (mo ρ).bind fun p => (ma p.2).bind fun q => (F p.1 q.1).bind fun r => match r.1 with
 | .val d => some (d, q.2)
 | .own ds => some (.lst ds, q.2)
 | _ => none
section
variable {X : Cx} {x : Str} {p pos : Pos} {e : Expr} {es : List Expr} {mo : MO} {ma : MA} {k k' n : Nat} {F : List D -> List D -> Option (Sl × List D)}
theorem zn1 (fd : FD X.prog X.w X.K X.mg X.base k x (spM X.K n F)) (hr : Room k' X.A) (h0 : SO X e mo) (ha : SA X es ma) (hlen : ∀ ρ as ρ', ma ρ = some (as, ρ') -> as.length + 1 = n) (hk : k <= k' := by decide) (hg : Gl X x := by rfl) (hdb : (x == ("__debug__" : Str)) = false := by decide)
  (he : starEach (e :: es) X.env = (false, eval e X.env) :: starEach es X.env := by rfl) (hpl : (backTo pos (starEach es X.env)).any (·.1) = false := by rfl) : SE X (.Call (.Name x p) (e :: es) [] pos) (zl0 F mo ma) := by
 obtain ⟨f, fdd, ps, G0, h1, h2, h3⟩ := fd.ex
 obtain ⟨t0, p0, s0⟩ := h0
 obtain ⟨t, pa, sa⟩ := ha
 refine ⟨_, zjT G0 (hr.mono hk) hg h1 h2 h3 .nil pass0 (zen p0 pa he) hdb he hpl, fun B G H σ ρ d ρ' Q I hm kk => ?_⟩
 obtain ⟨⟨cs, ρ1⟩, e1, hm⟩ := zaf hm
 obtain ⟨⟨as, ρ2⟩, e2, hm⟩ := zaf hm
 obtain ⟨⟨r, out⟩, e3, hm⟩ := zaf hm
 refine s0 B G H σ ρ cs ρ1 _ I e1 fun G1 H1 l xs I1 f1 g1 hl1 r1 b1 n1 => ?_
 refine sa (B.re X.K G1 H1 σ ρ1) G1 H1 σ ρ1 as ρ2 _ I1.re e2 fun G2 H2 vs J f2 r2 => ?_
 obtain ⟨hl2, g2, n2⟩ := I1.re_stays J hl1 n1 g1 b1
 have I2 := I1.unre J
 show spM X.K n F ((.ref l :: vs) ++ []) H2 Q E0
 rw [List.append_nil]
 refine ⟨G2, l, xs, cs, vs, as, r, out, rfl, e3, hlen ρ1 as ρ2 e2, I2.fz, g2, hl2, r1.mono f2, r2, fun G3 H3 v ys f3 fz3 nw kp gl hl r3 rr => ?_⟩
 have ow : ∀ (i : Nat) (s : Sl) (a : Addr), ρ2[i]? = some s -> OwS X.K G2 H2 σ[i]? a s -> G2 a = none -> H2 a ≠ none -> G3 a = none /\ H3 a = H2 a := fun i s a e w g h => by
  have na : a ≠ l := fun z => by subst z; exact n2 i s e w
  obtain ⟨u, hu⟩ := Option.ne_none_iff_exists'.mp h
  refine ⟨?_, (kp a u na hu).trans hu.symm⟩
  cases q : G3 a with
  | none => rfl
  | some u =>
   rcases nw a u q with z | z
   ·exact absurd g z
   ·exact absurd z h
 have I3 : SI X.K B G3 H3 σ ρ2 := I2.move fz3 f3 (fun b o q => by
  rcases nw b o q with z | z
  ·cases q2 : G2 b with
   | none => exact absurd q2 z
   | some u => exact I2.new b u q2
  ·exact .inr (I2.there b z)) (fun b o q1 q2 => kp b o (fun z => by subst z; rw [b1] at q1; cases q1) (I2.keep b o q1 q2)) (fun b q => by
  by_cases z : b = l
  ·subst z; rw [hl] at q; cases q
  ·refine I2.there b ?_
   cases q2 : H2 b with
   | none => rfl
   | some u => rw [kp b u z q2] at q; cases q) ow
 cases r with
 | val d' => cases hm; exact kk G3 H3 v I3 (f1.trans (f2.trans f3)) rr
 | own ds =>
  cases hm
  obtain ⟨l', xs', rfl, g4, h4, r4, b4⟩ := rr
  obtain ⟨I4, f4, r5⟩ := zjD I3 g4 h4 r4 (I2.there l' b4) (I2.nw_move (I2.nw b4) ow)
  exact kk _ H3 _ I4 (f1.trans (f2.trans (f3.trans f4))) r5
 | emp => cases hm
 | two _ _ => cases hm
 | tre _ => cases hm
 | ptr _ => cases hm
 | par _ => cases hm
end
noncomputable def eSG (tab : List (Str × Int)) (df : Int) (me : ME) : ME := fun ρ => (me ρ).bind fun p => match p.1 with
 | .str s => some (.int ((tab.lookup s).getD df), p.2)
 | _ => none
set_option maxHeartbeats 4000000 in
theorem znx {X : Cx} {me : ME} {k1 k2 k3 : Str} {v1 v2 v3 c : Int} {j1 j2 j3 j4 j5 j6 j7} {p1 p2 p3 p4 p5 p6 p7 pd apos cpos : Pos} (hu : X.A.units + 64 < cLine) (he : SE X e me) (hn : decide (k1 ≠ k2 /\ k1 ≠ k3 /\ k2 ≠ k3) = true)
  (m : M2 X (.Dict [some (.Constant (.str k1) j1 p1), some (.Constant (.str k2) j2 p2), some (.Constant (.str k3) j3 p3)] [.Constant (.int v1) j4 p4, .Constant (.int v2) j5 p5, .Constant (.int v3) j6 p6] pd) "get" apos e (.Constant (.int c) j7 p7) cpos) :
  SE X (.Call (.Attribute (.Dict [some (.Constant (.str k1) j1 p1), some (.Constant (.str k2) j2 p2), some (.Constant (.str k3) j3 p3)] [.Constant (.int v1) j4 p4, .Constant (.int v2) j5 p5, .Constant (.int v3) j6 p6] pd) "get" apos) [e, .Constant (.int c) j7 p7] [] cpos) (eSG [(k1, v1), (k2, v2), (k3, v3)] c me) := by
 obtain ⟨t, pe, se⟩ := he
 have pd := pe_disp (X := X) (pos := pd) (zkr (k := .Constant (.str k1) j1 p1) (v := .Constant (.int v1) j4 p4) znc zlE (zkr (k := .Constant (.str k2) j2 p2) (v := .Constant (.int v2) j5 p5) znc zlE (zkr (k := .Constant (.str k3) j3 p3) (v := .Constant (.int v3) j6 p6) znc zlE pps_nil))) rfl rfl (by simp) (by simp)
 have pg := pe_dget2 (show X.A.units + 1 < cLine by omega) pd pe (zlE (i := c) (j := j7) (pos := p7)) m
 refine ⟨_, pg, fun B G H σ ρ d ρ' Q I hm k => ?_⟩
 obtain ⟨⟨y, ρ1⟩, e1, hm⟩ := zaf hm
 intro p hp
 have hn := of_decide_eq_true hn
 let kvs : List (Key × V) := [(.inr k1, .int v1), (.inr k2, .int v2), (.inr k3, .int v3)]
 have mk : zjC [] kvs = kvs := by
  show putK (putK (putK [] (Sum.inr k1 : Key) (.int v1)) (Sum.inr k2 : Key) (.int v2)) (Sum.inr k3 : Key) (.int v3) = _
  have h1 : (Sum.inr k1 : Key) ≠ .inr k2 := fun z => hn.1 (Sum.inr.inj z)
  have h2 : (Sum.inr k1 : Key) ≠ .inr k3 := fun z => hn.2.1 (Sum.inr.inj z)
  have h3 : (Sum.inr k2 : Key) ≠ .inr k3 := fun z => hn.2.2 (Sum.inr.inj z)
  rw [zka (kvs := []) (V.int v1) rfl, List.nil_append, zka (V.int v2) (by rw [zcp h1]; rfl), List.singleton_append, zka (V.int v3) (by rw [zcp h2, zcp h3]; rfl)]
  rfl
 refine ⟨zaI, kvs, rfl, by simp [kvs], ?_⟩
 rw [mk, upd_upd]
 have I1 := I.allocO hp (.dK kvs)
 have h1 : upd H p (.dK kvs) p = some (.dK kvs) := zaI
 have n1 : Nw X.K G (upd H p (.dK kvs)) σ ρ p := I.nw_move (I.nw hp) fun i s a _ _ g h => ⟨g, zaw fun z => h (by rw [z]; exact hp)⟩
 refine ⟨p, rfl, .inl ⟨kvs, .inl h1⟩, se (B.re X.K G (upd H p (.dK kvs)) σ ρ) G _ σ ρ y ρ1 _ I1.re e1 fun G1 H1 v J f1 r1 => ?_⟩
 obtain ⟨h2, g2, n2⟩ := I1.re_stays J h1 n1 (I.fz.free hp) (I.there p hp)
 have I2 := I1.unre J
 cases y <;> try cases hm
 rename_i s
 refine ⟨valV kvs (.inr s), by rw [show v = kV (.inr s) from r1]; exact DGet.k h2, ?_⟩
 have e2 : (valV kvs (.inr s)).getD (.int c) = .int (([(k1, v1), (k2, v2), (k3, v3)].lookup s).getD c) := by
  have nil : valV ([] : List (Key × V)) (.inr s) = none := rfl
  have lc : ∀ (k : Str) (v : Int) (r : List (Str × Int)), ((k, v) :: r).lookup s = if k = s then some v else r.lookup s := fun k v r => by
   by_cases q : k = s
   ·subst q; simp [List.lookup]
   ·have : (s == k) = false := beq_eq_false_iff_ne.mpr (Ne.symm q)
    rw [if_neg q, List.lookup, this]
  rw [lc, lc, lc]
  by_cases q1 : k1 = s
  ·rw [if_pos q1, zeU (by rw [q1])]; rfl
  ·rw [if_neg q1, zcp fun z => q1 (Sum.inr.inj z)]
   by_cases q2 : k2 = s
   ·rw [if_pos q2, zeU (by rw [q2])]; rfl
   ·rw [if_neg q2, zcp fun z => q2 (Sum.inr.inj z)]
    by_cases q3 : k3 = s
    ·rw [if_pos q3, zeU (by rw [q3])]; rfl
    ·rw [if_neg q3, zcp fun z => q3 (Sum.inr.inj z), nil]; rfl
 rw [e2]
 exact k G1 H1 _ I2 f1 rfl
def Ch.sl : Ch -> Sl
 | .d x => .val x
 | .l ds => .own ds
def putCs : List Nat -> List Ch -> R -> R
 | i :: is, c :: cs, ρ => putCs is cs (ρ.set i c.sl)
 | _, _, ρ => ρ
end M
namespace M
open L2 PySem PySem.Spec
open PyProof.Rows hiding St
open Classical in
noncomputable def fMT (N : Nat) (m : MS) : List D -> T -> List D -> Option (Sl × List D) := fun cs t ds => (m (.par cs :: .tre t :: (ds.map .val ++ List.replicate (N - (ds.length + 2)) .emp))).bind fun p => match p.1, (p.2[0]? : Option Sl) with
 | Fl.ret r, some (Sl.par out) => some (r, out)
 | Fl.next, some (Sl.par out) => some (.val .non, out)
 | _, _ => none
abbrev MP' := R -> Option (List Ch × R)
end M
namespace M
open L2 PySem PySem.Spec
open PyProof.Rows hiding St
def Ch.D : Ch -> M.D
 | .d x => x
 | .l ds => .lst ds
noncomputable def sTA (i j : Nat) : MS := fun ρ => match ρ[i]?, ρ[j]? with
 | some (.tre (.lst cs)), some (.own ds) => if cs.length < 16777216 then some (.next, (ρ.set j .emp).set i (.tre (.lst (cs ++ [.l ds])))) else none
 | _, _ => none
abbrev MQ := R -> Option D
noncomputable def fzT (j : Nat) (ρ : R) : R := match ρ[j]? with
 | some (.tre (.lst cs)) => ρ.set j (.val (.lst (cs.map Ch.D)))
 | _ => ρ
section
variable {X : Cx} {x y : Str} {pos p' q' tpos : Pos}
variable {e : Expr} {es : List Expr} {ma : MA} {k k' n : Nat} {F : List D -> Option Sl}
variable {a b : Expr} {mi mk : MQ}
noncomputable def sPar (i j : Nat) (ma : MA) : MS := fun ρ => (ma ρ).bind fun p => match p.1 with
 | [c, d] => some (.next, (p.2.set i (.val c)).set j (.val d))
 | _ => none
theorem ss_par (i j : Nat) {kt k2 : Nat} {pt pt2 : Pos} (hij : i ≠ j) (hc : X.calm = true) (ha : SA X [a, b] ma) (hN : X.N.Nodup) (hi : X.N[i]? = some x := by rfl) (hj : X.N[j]? = some y := by rfl) (hx : X.env.scope.names.lookup x = some .local := by rfl) (hy : X.env.scope.names.lookup y = some .local := by rfl)
  (hw : swappedStores [.Tuple [.Name x p', .Name y q'] kt pt] (.Tuple [a, b] k2 pt2) X.env = pure (some [x, y]) := by rfl) (hs : swapsWithSole [.Tuple [.Name x p', .Name y q'] kt pt] (.Tuple [a, b] k2 pt2) pos.line X.env = pure false := by rfl) :
  SS X (.Assign [.Tuple [.Name x p', .Name y q'] kt pt] (.Tuple [a, b] k2 pt2) pos) (sPar i j ma) := by
 obtain ⟨t, pa, sa⟩ := ha
 refine ⟨_, ps_par hc hN hi hj hij hx hy pa hw hs, fun B G H σ ρ fl ρ' E I hm k => ?_⟩
 obtain ⟨⟨as, ρ1⟩, e1, hm⟩ := zaf hm
 refine sa B G H σ ρ as ρ1 _ I e1 fun G1 H1 vs I1 f1 r1 => ?_
 dsimp only at hm
 split at hm
 ·rename_i c d
  cases hm
  obtain ⟨v, w, rfl, rv, rw'⟩ := r1.two
  exact ⟨v, w, rfl, k G1 H1 _ ((I1.set rv).set rw') f1⟩
 ·cases hm
end
end M
namespace M
local macro_rules | `(tactic| ac_rfl) => `(tactic| first | exact M.nA (by decide) | exact M.nB (by decide) | exact M.nC (by decide) | exact M.nL (by assumption) | exact Nat.ne_of_lt (by assumption) | omega)
open L2 PySem PySem.Spec
open PyProof.Rows hiding St
open Sem (wp)
variable {a b u : Value} {Q E : Value -> Shared -> Prop} {i : Nat} {prog : Program} {w : World} {A : Around} {s : Shared} {tg : Expr} {K : W.Frag} {X : Cx} {p pos : Pos}
abbrev zeE (h : Heap) (z TI TO : Addr) (f0 : Value) (b : Bool) : Prop := h.get? z = some { cls := .type "zip", data := .fields #[f0, .bool b, .bool false, .ref TI, .ref TO] }
def ZipAt (h : Heap) (z TI TO : Addr) : Prop := ∃ f0 b, zeE h z TI TO f0 b /\ (f0 = .none \/ ∃ T : Nat, f0 = rawInt T)
section
variable {prog : Program} {w : World} {A : Around} {E : Value -> Shared -> Prop} {s : Shared}
theorem zoc {a : Addr} {Q : Option Obj -> Shared -> Prop} (h : Q (s.heap.get? a) s) : wpAny (model prog w) A (loadIfAlive a) Q E s := fun Γ p hΓ => by
 show Sem.wp _ _ (Sem.loadIfAlive a Sem.pure) _ _ p s
 rw [Sem.wp_loadIfAlive]
 exact (wpAny_pure (M := model prog w) (A := A) (E := E) h) Γ p hΓ
theorem zoZ {z TI TO : Addr} {f0 : Value} {b : Bool} (hz : zeE s.heap z TI TO f0 b) (hf : f0 = .none \/ ∃ T : Nat, f0 = rawInt T) {Q : Bool -> Shared -> Prop} (h1 : Q true s)
  (h2 : ∀ h', zeE h' z TI TO f0 true -> Heap.SameBut z s.heap h' -> Q false { s with heap := h' }) : wpAny (model prog w) A (Builtin.SmallTypes.ownedTupleIsFree (.ref z)) Q E s := by
 unfold Builtin.SmallTypes.ownedTupleIsFree
 refine wpAny_bind (wpAny_field hz rfl (x := f0) rfl ?_)
 rcases hf with rfl | ⟨T, rfl⟩
 ·exact wpAny_pure h1
 ·refine (?_ : wpAny _ _ (loadIfAlive _ >>= _) _ _ _)
  refine wpAny_bind (zoc ?_)
  cases e : s.heap.get? (T : Int).toNat with
  | none => exact wpAny_pure h1
  | some o =>
   refine (?_ : wpAny _ _ (field (.ref z) 1 >>= _) _ _ _)
   refine wpAny_bind (wpAny_field hz rfl (x := .bool b) rfl ?_)
   cases b
   ·refine (?_ : wpAny _ _ (setField (.ref z) 1 (.bool true) >>= _) _ _ _)
    exact wpAny_bind (wpAny_setField_rec hz (by simp) fun g1 z1 s1 => wpAny_pure (h2 g1 z1 s1))
   ·exact wpAny_pure (h2 s.heap hz ⟨rfl, fun _ _ => rfl⟩)
variable {N a1 a2 : Nat} {n1 n2 : Nat} {P1 P2 : Nat -> Value -> Prop} {S1 S2 : Nat -> Heap -> Prop}
theorem znr (D1 : Draws prog w A N [N, a1] n1 P1 S1) (D2 : Draws prog w A (N + 1) [N + 1, a2] n2 P2 S2) (l1 : a1 < N) (l2 : a2 < N)
  (hz' : ZipAt s.heap (N + 4) (N + 2) (N + 3)) (hTI : IsPair s.heap (N + 2) (.ref N) (.ref (N + 1))) (hTO : IsPair s.heap (N + 3) a b) (h1 : S1 i s.heap) (h2 : S2 i s.heap) (i1 : i < n1) (i2 : i < n2)
  (k : ∀ x y h' tk, P1 i x -> P2 i y -> ZipAt h' (N + 4) (N + 2) (N + 3) -> (∃ a b, IsPair h' (N + 3) a b) -> S1 (i + 1) h' -> S2 (i + 1) h' -> IsPair h' s.heap.objs.size x y ->
   (∀ c o, c ≠ N -> c ≠ N + 1 -> c ≠ N + 3 -> c ≠ N + 4 -> s.heap.get? c = some o -> h'.get? c = some o) -> Q (.ref s.heap.objs.size) { s with heap := h', toks := tk }) :
  wpAny (model prog w) A (Builtin.«zip.__next__» ⟨[.ref (N + 4)], []⟩) (fun fin s' => ∃ v, fin = .done (.ret v) /\ Q v s') E s := by
 obtain ⟨f0, bb, hz, hf⟩ := hz'
 refine (?_ : wpAny _ _ (field (.ref (N + 4)) 2 >>= _) _ _ _)
 refine wpAny_bind (wpAny_field hz rfl (x := .bool false) rfl (?_ : wpAny _ _ (field (.ref (N + 4)) 3 >>= _) _ _ _))
 refine wpAny_bind (wpAny_field hz rfl (x := .ref (N + 2)) rfl (wpAny_bind (wpAny_seqItems hTI rfl (?_ : wpAny _ _ (Builtin.SmallTypes.ownedTupleIsFree (.ref (N + 4)) >>= _) _ _ _))))
 refine wpAny_bind (zoZ hz hf ?_ fun g0 z0 s0 => ?_)
 ·simp only [if_true]
  refine wpAny_bind (wpAny_rule (wpAny_bind (wpAny_field hz rfl (x := .ref (N + 3)) rfl (wpAny_bind (wpAny_setField_rec hz (by simp) fun g1 z1 s1 => wpAny_bind ?_)))))
  replace z1 : zeE g1 (N + 4) (N + 2) (N + 3) .ellipsis bb := z1
  simp only [List.zipIdx_cons, List.zipIdx_nil, List.forIn_cons, List.forIn_nil]
  refine wpAny_bind (wpAny_bind (wpAny_onRaise (?_ : wpAny _ _ (Builtin.SmallTypes.nextOf (.ref N) >>= _) _ _ _)))
  have e1 : S1 i g1 := D1.frame _ _ _ h1 fun b hb o e => (s1.2 b (nin2 hb (by ac_rfl) (by ac_rfl))).trans e
  refine wpAny_bind (D1.item i _ _ _ i1 e1 fun x g2 t2 p1 f2 s2 => wpAny_pure ?_)
  have q2 : IsPair g2 (N + 3) a b := (s2.2 _ (ne_ (by ac_rfl))).trans ((s1.2 _ (ne_ (by ac_rfl))).trans hTO)
  refine wpAny_bind (wpAny_seqItems q2 rfl (wpAny_bind (wpAny_updateSeq_pair q2 fun g3 q3 s3 => wpAny_bind (wpAny_letGo (wpAny_pure ?_)))))
  replace q3 : IsPair g3 (N + 3) x b := q3
  refine wpAny_bind (wpAny_bind (wpAny_onRaise (?_ : wpAny _ _ (Builtin.SmallTypes.nextOf (.ref (N + 1)) >>= _) _ _ _)))
  have e3 : S2 i g3 := D2.frame _ _ _ h2 fun b hb o e => (s3.2 b (nin2 hb (by ac_rfl) (by ac_rfl))).trans ((s2.2 b (nin2 hb (by ac_rfl) (by ac_rfl))).trans ((s1.2 b (nin2 hb (by ac_rfl) (by ac_rfl))).trans e))
  refine wpAny_bind (D2.item i _ _ _ i2 e3 fun y g4 t4 p2 f4 s4 => wpAny_pure ?_)
  have q4 : IsPair g4 (N + 3) x b := (s4.2 _ (ne_ (by ac_rfl))).trans q3
  refine wpAny_bind (wpAny_seqItems q4 rfl (wpAny_bind (wpAny_updateSeq_pair q4 fun g5 q5 s5 => wpAny_bind (wpAny_letGo (wpAny_pure (wpAny_pure ?_))))))
  replace q5 : IsPair g5 (N + 3) x y := q5
  have sz : g5.objs.size = s.heap.objs.size := by rw [s5.1, s4.1, s3.1, s2.1, s1.1]
  have z5 : zeE g5 (N + 4) (N + 2) (N + 3) .ellipsis bb := (s5.2 _ (ne_ (by ac_rfl))).trans ((s4.2 _ (ne_ (by ac_rfl))).trans ((s3.2 _ (ne_ (by ac_rfl))).trans ((s2.2 _ (ne_ (by ac_rfl))).trans z1)))
  have zl : (N + 4 : Nat) < g5.objs.size := Heap.lt_size z5
  have k5 : ∀ c o, c ≠ N -> c ≠ N + 1 -> c ≠ N + 3 -> c ≠ N + 4 -> s.heap.get? c = some o -> g5.get? c = some o := fun c o c1 c2 c3 c4 e => (s5.2 c c3).trans ((s4.2 c c2).trans ((s3.2 c c3).trans ((s2.2 c c1).trans ((s1.2 c c4).trans e))))
  have f5 : S1 (i + 1) g5 := D1.frame _ _ _ f2 fun b hb o e => (s5.2 b (nin2 hb (by ac_rfl) (by ac_rfl))).trans ((s4.2 b (nin2 hb (by ac_rfl) (by ac_rfl))).trans ((s3.2 b (nin2 hb (by ac_rfl) (by ac_rfl))).trans e))
  have f5' : S2 (i + 1) g5 := D2.frame _ _ _ f4 fun b hb o e => (s5.2 b (nin2 hb (by ac_rfl) (by ac_rfl))).trans e
  refine wpAny_bind (wpAny_seqItems q5 rfl (wpAny_bind (wpAny_newTuple (?_ : wpAny _ _ (Builtin.SmallTypes.ownedTupleHandOut (.ref (N + 4)) (.ref g5.objs.size) >>= _) _ _ _))))
  refine wpAny_bind ?_
  unfold Builtin.SmallTypes.ownedTupleHandOut
  refine wpAny_bind (wpAny_setField_rec (show zeE (g5.push { cls := .type "tuple", data := .seq #[x, y] }) (N + 4) (N + 2) (N + 3) .ellipsis bb from Heap.get?_push_of_some _ z5) (by simp) fun g7 z7 s7 => ?_)
  replace z7 : zeE g7 (N + 4) (N + 2) (N + 3) (rawInt g5.objs.size) bb := z7
  refine wpAny_setField_rec z7 (by simp) fun g8 z8 s8 => wpAny_pure ⟨_, rfl, ?_⟩
  replace z8 : zeE g8 (N + 4) (N + 2) (N + 3) (rawInt g5.objs.size) false := z8
  have up : ∀ c o, c ≠ N + 4 -> g5.get? c = some o -> g8.get? c = some o := fun c o c1 e => (s8.2 c c1).trans ((s7.2 c c1).trans (Heap.get?_push_of_some _ e))
  have T8 : IsPair g8 g5.objs.size x y := (s8.2 _ (ne_ (by ac_rfl))).trans ((s7.2 _ (ne_ (by ac_rfl))).trans (Heap.get?_push_size _ rfl))
  rw [sz] at z8 T8
  refine (?_ : Q (.ref g5.objs.size) _)
  rw [sz]
  exact k x y g8 _ p1 p2 ⟨_, _, z8, .inr ⟨_, rfl⟩⟩ ⟨_, _, up _ _ (ne_ (by ac_rfl)) q5⟩ (D1.frame _ _ _ f5 fun b hb o e => up b o (nin2 hb (by ac_rfl) (by ac_rfl)) e) (D2.frame _ _ _ f5' fun b hb o e => up b o (nin2 hb (by ac_rfl) (by ac_rfl)) e) T8 fun c o c1 c2 c3 c4 e => up c o c4 (k5 c o c1 c2 c3 c4 e)
 ·simp only [Bool.false_eq_true, if_false]
  simp only [List.forIn_toArray, List.forIn_cons, List.forIn_nil]
  have e0 : S1 i g0 := D1.frame _ _ _ h1 fun b hb o e => (s0.2 b (nin2 hb (by ac_rfl) (by ac_rfl))).trans e
  refine wpAny_bind (wpAny_bind (wpAny_bind (wpAny_holding (?_ : wpAny _ _ (Builtin.SmallTypes.nextOf (.ref N) >>= _) _ _ _))))
  refine wpAny_bind (D1.item i _ _ _ i1 e0 fun x g2 t2 p1 f2 s2 => wpAny_pure (wpAny_pure ?_))
  refine wpAny_bind (wpAny_bind (wpAny_holding (?_ : wpAny _ _ (Builtin.SmallTypes.nextOf (.ref (N + 1)) >>= _) _ _ _)))
  have e3 : S2 i g2 := D2.frame _ _ _ h2 fun b hb o e => (s2.2 b (nin2 hb (by ac_rfl) (by ac_rfl))).trans ((s0.2 b (nin2 hb (by ac_rfl) (by ac_rfl))).trans e)
  refine wpAny_bind (D2.item i _ _ _ i2 e3 fun y g4 t4 p2 f4 s4 => wpAny_pure (wpAny_pure (wpAny_pure ?_)))
  have sz : g4.objs.size = s.heap.objs.size := by rw [s4.1, s2.1, s0.1]
  have z4 : zeE g4 (N + 4) (N + 2) (N + 3) f0 true := (s4.2 _ (ne_ (by ac_rfl))).trans ((s2.2 _ (ne_ (by ac_rfl))).trans z0)
  have f4' : S1 (i + 1) g4 := D1.frame _ _ _ f2 fun b hb o e => (s4.2 b (nin2 hb (by ac_rfl) (by ac_rfl))).trans e
  refine (?_ : wpAny _ _ (newTuple [x, y] >>= _) _ _ _)
  refine wpAny_bind (wpAny_newTuple (wpAny_pure ⟨_, rfl, ?_⟩))
  have k5 : ∀ c o, c ≠ N -> c ≠ N + 1 -> c ≠ N + 3 -> c ≠ N + 4 -> s.heap.get? c = some o -> g4.get? c = some o := fun c o c1 c2 c3 c4 e => (s4.2 c c2).trans ((s2.2 c c1).trans ((s0.2 c c4).trans e))
  have q4 : IsPair g4 (N + 3) a b := (s4.2 _ (ne_ (by ac_rfl))).trans ((s2.2 _ (ne_ (by ac_rfl))).trans ((s0.2 _ (ne_ (by ac_rfl))).trans hTO))
  have T8 : IsPair (g4.push { cls := .type "tuple", data := .seq #[x, y] }) g4.objs.size x y := Heap.get?_push_size _ rfl
  rw [sz] at T8
  refine (?_ : Q (.ref g4.objs.size) _)
  rw [sz]
  exact k x y _ _ p1 p2 ⟨_, _, Heap.get?_push_of_some _ z4, hf⟩ ⟨_, _, Heap.get?_push_of_some _ q4⟩ (D1.frame _ _ _ f4' fun b hb o e => Heap.get?_push_of_some _ e) (D2.frame _ _ _ f4 fun b hb o e => Heap.get?_push_of_some _ e) T8 fun c o c1 c2 c3 c4 e => Heap.get?_push_of_some _ (k5 c o c1 c2 c3 c4 e)
theorem zoJ {Q : Fin -> Shared -> Prop} (D1 : Draws prog w A N [N, a1] n1 P1 S1) (D2 : Draws prog w A (N + 1) [N + 1, a2] n2 P2 S2) (l1 : a1 < N) (l2 : a2 < N)
  (hz' : ZipAt s.heap (N + 4) (N + 2) (N + 3)) (hTI : IsPair s.heap (N + 2) (.ref N) (.ref (N + 1))) (hTO : IsPair s.heap (N + 3) a b) (h1 : S1 i s.heap) (h2 : S2 i s.heap) (hi : i = n1 \/ (i < n1 /\ i = n2))
  (k : ∀ h' e tk, (∀ c o, c ≠ N -> c ≠ N + 1 -> c ≠ N + 3 -> c ≠ N + 4 -> s.heap.get? c = some o -> h'.get? c = some o) -> (∃ o, h'.get? e = some o /\ o.cls = .type "StopIteration") -> E (.ref e) { s with heap := h', toks := tk }) :
  wpAny (model prog w) A (Builtin.«zip.__next__» ⟨[.ref (N + 4)], []⟩) Q E s := by
 obtain ⟨f0, bb, hz, hf⟩ := hz'
 refine (?_ : wpAny _ _ (field (.ref (N + 4)) 2 >>= _) _ _ _)
 refine wpAny_bind (wpAny_field hz rfl (x := .bool false) rfl (?_ : wpAny _ _ (field (.ref (N + 4)) 3 >>= _) _ _ _))
 refine wpAny_bind (wpAny_field hz rfl (x := .ref (N + 2)) rfl (wpAny_bind (wpAny_seqItems hTI rfl (?_ : wpAny _ _ (Builtin.SmallTypes.ownedTupleIsFree (.ref (N + 4)) >>= _) _ _ _))))
 refine wpAny_bind (zoZ hz hf ?_ fun g0 z0 s0 => ?_)
 ·simp only [if_true]
  refine wpAny_bind (wpAny_rule (wpAny_bind (wpAny_field hz rfl (x := .ref (N + 3)) rfl (wpAny_bind (wpAny_setField_rec hz (by simp) fun g1 z1 s1 => wpAny_bind ?_)))))
  replace z1 : zeE g1 (N + 4) (N + 2) (N + 3) .ellipsis bb := z1
  simp only [List.zipIdx_cons, List.zipIdx_nil, List.forIn_cons, List.forIn_nil]
  refine wpAny_bind (wpAny_bind (wpAny_onRaise (?_ : wpAny _ _ (Builtin.SmallTypes.nextOf (.ref N) >>= _) _ _ _)))
  have e1 : S1 i g1 := D1.frame _ _ _ h1 fun b hb o e => (s1.2 b (nin2 hb (by ac_rfl) (by ac_rfl))).trans e
  rcases hi with rfl | ⟨i1, rfl⟩
  ·refine wpAny_bind (D1.done _ _ _ e1 fun g2 e x2 he => ?_)
   obtain ⟨oe, hoe, hce⟩ := he
   have z2 : zeE g2 (N + 4) (N + 2) (N + 3) .ellipsis bb := x2 _ _ (ne_ (by ac_rfl)) z1
   have hez : e ≠ N + 4 := fun x => by subst x; rw [z2] at hoe; cases hoe; simp at hce
   exact wpAny_setField_rec z2 (by simp) fun g3 _ s3 => k g3 e _ (fun c o c1 c2 c3 c4 x => (s3.2 c c4).trans (x2 c o c1 ((s1.2 c c4).trans x))) ⟨oe, (s3.2 _ hez).trans hoe, hce⟩
  ·refine wpAny_bind (D1.item i _ _ _ i1 e1 fun x g2 t2 p1 f2 s2 => wpAny_pure ?_)
   have q2 : IsPair g2 (N + 3) a b := (s2.2 _ (ne_ (by ac_rfl))).trans ((s1.2 _ (ne_ (by ac_rfl))).trans hTO)
   refine wpAny_bind (wpAny_seqItems q2 rfl (wpAny_bind (wpAny_updateSeq_pair q2 fun g3 q3 s3 => wpAny_bind (wpAny_letGo (wpAny_pure ?_)))))
   replace q3 : IsPair g3 (N + 3) x b := q3
   refine wpAny_bind (wpAny_bind (wpAny_onRaise (?_ : wpAny _ _ (Builtin.SmallTypes.nextOf (.ref (N + 1)) >>= _) _ _ _)))
   have e3 : S2 i g3 := D2.frame _ _ _ h2 fun b hb o e => (s3.2 b (nin2 hb (by ac_rfl) (by ac_rfl))).trans ((s2.2 b (nin2 hb (by ac_rfl) (by ac_rfl))).trans ((s1.2 b (nin2 hb (by ac_rfl) (by ac_rfl))).trans e))
   refine wpAny_bind (D2.done _ _ _ e3 fun g4 e x4 he => ?_)
   obtain ⟨oe, hoe, hce⟩ := he
   have z3 : zeE g3 (N + 4) (N + 2) (N + 3) .ellipsis bb := (s3.2 _ (ne_ (by ac_rfl))).trans ((s2.2 _ (ne_ (by ac_rfl))).trans z1)
   have z4 : zeE g4 (N + 4) (N + 2) (N + 3) .ellipsis bb := x4 _ _ (ne_ (by ac_rfl)) z3
   have hez : e ≠ N + 4 := fun x => by subst x; rw [z4] at hoe; cases hoe; simp at hce
   exact wpAny_setField_rec z4 (by simp) fun g5 _ s5 => k g5 e _ (fun c o c1 c2 c3 c4 x => (s5.2 c c4).trans (x4 c o c2 ((s3.2 c c3).trans ((s2.2 c c1).trans ((s1.2 c c4).trans x))))) ⟨oe, (s5.2 _ hez).trans hoe, hce⟩
 ·simp only [Bool.false_eq_true, if_false, List.forIn_toArray, List.forIn_cons, List.forIn_nil]
  have e0 : S1 i g0 := D1.frame _ _ _ h1 fun b hb o e => (s0.2 b (nin2 hb (by ac_rfl) (by ac_rfl))).trans e
  refine wpAny_bind (wpAny_bind (wpAny_bind (wpAny_holding (?_ : wpAny _ _ (Builtin.SmallTypes.nextOf (.ref N) >>= _) _ _ _))))
  rcases hi with rfl | ⟨i1, rfl⟩
  ·refine wpAny_bind (D1.done _ _ _ e0 fun g2 e x2 he => ?_)
   exact k g2 e _ (fun c o c1 c2 c3 c4 x => x2 c o c1 ((s0.2 c c4).trans x)) he
  ·refine wpAny_bind (D1.item i _ _ _ i1 e0 fun x g2 t2 p1 f2 s2 => wpAny_pure (wpAny_pure ?_))
   refine wpAny_bind (wpAny_bind (wpAny_holding (?_ : wpAny _ _ (Builtin.SmallTypes.nextOf (.ref (N + 1)) >>= _) _ _ _)))
   have e3 : S2 i g2 := D2.frame _ _ _ h2 fun b hb o e => (s2.2 b (nin2 hb (by ac_rfl) (by ac_rfl))).trans ((s0.2 b (nin2 hb (by ac_rfl) (by ac_rfl))).trans e)
   refine wpAny_bind (D2.done _ _ _ e3 fun g4 e x4 he => ?_)
   exact k g4 e _ (fun c o c1 c2 c3 c4 x => x4 c o c2 ((s2.2 c c1).trans ((s0.2 c c4).trans x))) he
end
theorem ZipAt.at {h h' : Heap} {z TI TO : Addr} (x : ZipAt h z TI TO) (e : ∀ o, h.get? z = some o -> h'.get? z = some o) : ZipAt h' z TI TO := by
 obtain ⟨f0, b, q, r⟩ := x
 exact ⟨f0, b, e _ q, r⟩
theorem zmq {z TI TO : Addr} (hz : ZipAt s.heap z TI TO) (h : Q (.ref z) s) : wpAny (model prog w) A (pyIter (.ref z)) Q E s := by
 obtain ⟨f0, b, q, r⟩ := hz
 have hT : s.TypeIs (.ref z) "zip" := ⟨_, q, rfl⟩
 exact wpAny_pyIter_slot hT F.slot_zip_iter (wpAny_call_entry F.slot_zip_iter hT F.entry_zip_iter (wpAny_pure ⟨.ref z, rfl, "zip", .builtin "zip.__next__", hT, F.slot_zip_next.lookup, h⟩) (F.args_zip_iter_1 (.ref z)))
theorem letGoZ {z TI TO : Addr} {Q : Unit -> Shared -> Prop} (hz : ZipAt s.heap z TI TO) (h1 : Q () s)
  (h2 : ∀ h', ZipAt h' z TI TO -> Heap.SameBut z s.heap h' -> Q () { s with heap := h' }) : wpAny (model prog w) A (letOwnedTupleGo tg (.ref z) u) Q E s := by
 obtain ⟨f0, b, q, r⟩ := hz
 have core : ∀ a : Addr, wpAny (model prog w) A (do
   let o <- load z
   match o.cls, o.data with
    | Value.type n, Data.fields vs =>
     if (["enumerate", "zip", "dict_itemiterator", "dict_reverseitemiterator", "odict_iterator", "itertools.zip_longest", "itertools.pairwise"].contains n && vs[0]? == some (rawInt ↑a)) = true then do
      rule "for.unpacks-the-owned-tuple"
      updateField z 0 Value.none
     else pure ()
    | x, x_1 => pure ()) Q E s := fun a => by
  refine wpAny_bind (wpAny_load q ?_)
  dsimp only
  split
  ·refine wpAny_bind (wpAny_rule ?_)
   refine (?_ : wpAny _ _ (setField (.ref z) 0 .none) _ _ _)
   exact wpAny_setField_rec q (by simp) fun g1 z1 s1 => h2 g1 ⟨_, _, z1, .inl rfl⟩ s1
  ·exact wpAny_pure h1
 unfold letOwnedTupleGo
 cases tg <;> first | exact wpAny_pure h1 | (cases u <;> first | exact wpAny_pure h1 | exact core _)
theorem znq {P : Program} {w : World} (t1 : Bool) (a1 : Nat) (t2 : Bool) (a2 : Nat) (n N : Nat) (l1 : a1 < N) (l2 : a2 < N) :
  Turn P w K tg (Itz2 K t1 a1 t2 a2 n) ([N, N + 1, N + 2, N + 3, N + 4] : List Nat) (N + 4 : Nat)
   (fun i h => i <= n /\ ZipAt h (N + 4 : Nat) (N + 2 : Nat) (N + 3 : Nat) /\ IsPair h (N + 2 : Nat) (.ref N) (.ref (N + 1 : Nat)) /\ (∃ a b, IsPair h (N + 3 : Nat) a b) /\ SrcIt t1 h N a1 i /\ SrcIt t2 h (N + 1 : Nat) a2 i) where
 mem := by simp
 obj := fun i h st b hb => by
  obtain ⟨-, h4, h2, ⟨a, c, h3⟩, h0, h1⟩ := st
  simp only [List.mem_cons, List.not_mem_nil, or_false] at hb
  rcases hb with rfl | rfl | rfl | rfl | rfl
  ·exact h0.obj
  ·exact h1.obj
  ·exact ⟨_, h2, fun v z => by cases z⟩
  ·exact ⟨_, h3, fun v z => by cases z⟩
  ·obtain ⟨f0, bb, z4, -⟩ := h4
   exact ⟨_, z4, fun v z => by cases z⟩
 keep := fun i h h' st k => by
  obtain ⟨hi, h4, h2, ⟨a, c, h3⟩, h0, h1⟩ := st
  exact ⟨hi, h4.at fun o e => k _ (by simp) o e, k _ (by simp) _ h2, ⟨a, c, k _ (by simp) _ h3⟩, h0.at fun o e => k _ (by simp) o e, h1.at fun o e => k _ (by simp) o e⟩
 item := by
  intro X hP hw hK hc i pins s σ H E I hf st hg
  subst hP hw hK
  obtain ⟨hi, h4, h2, ⟨a, c, h3⟩, h0, h1⟩ := st
  obtain ⟨hn, xs, ys, q1, q2, en⟩ := hg
  obtain ⟨us, ru, hu, zu⟩ := q1.heap I
  obtain ⟨ws, rw', hw', zw⟩ := q2.heap I
  have lu := ru.length
  have lw := rw'.length
  have D1 := zbs (prog := X.prog) (w := X.w) (A := X.A.in1) (t := t1) (I.ok.hd hc) N a1 (ne_ (by ac_rfl)) us.toArray
  have D2 := zbs (prog := X.prog) (w := X.w) (A := X.A.in1) (t := t2) (I.ok.hd hc) (N + 1) a2 (ne_ (by ac_rfl)) ws.toArray
  have z4 := h4
  obtain ⟨f0, bb, z4, -⟩ := z4
  have hT : s.TypeIs (.ref (N + 4 : Nat)) "zip" := ⟨_, z4, rfl⟩
  unfold pyNext
  refine wpAny_bind (wpAny_attempt (wpAny_callSpecial?_slot (name := Str.ofString "__next__") hT F.slot_zip_next (wpAny_call_entry F.slot_zip_next hT F.entry_zip_next
   (znr D1 D2 l1 l2 h4 h2 h3 ⟨h0, hu⟩ ⟨h1, hw'⟩ (by simp; omega) (by simp; omega) fun x y h' tk p1 p2 g4 g3 g0 g1 gT kk => wpAny_pure ?_) (F.args_zip_next_1 _))))
  obtain ⟨x1, hx1⟩ : ∃ x1, xs[i]? = some x1 := ⟨xs[i]'(by omega), List.getElem?_eq_getElem _⟩
  obtain ⟨x2, hx2⟩ : ∃ x2, ys[i]? = some x2 := ⟨ys[i]'(by omega), List.getElem?_eq_getElem _⟩
  obtain ⟨u1, hu1, r1⟩ := ru.get hx1
  obtain ⟨u2, hu2, r2⟩ := rw'.get hx2
  have e1 : u1 = x := by
   have : us[i]? = some x := by simpa using p1
   rw [hu1] at this; cases this; rfl
  have e2 : u2 = y := by
   have : ws[i]? = some y := by simpa using p2
   rw [hu2] at this; cases this; rfl
  subst e1 e2
  refine ⟨_, rfl, ?_⟩
  have fin : ∀ h'', ZipAt h'' (N + 4 : Nat) (N + 2 : Nat) (N + 3 : Nat) -> Heap.SameBut (N + 4 : Nat) h' h'' -> ∃ x H', L2.Inv X pins σ H' { s with heap := h'', toks := tk } /\ RelV x (.ref s.heap.objs.size) /\ (Itz2 X.K t1 a1 t2 a2 n).yld i H x H' /\ (i + 1 <= n /\ ZipAt h'' (N + 4 : Nat) (N + 2 : Nat) (N + 3 : Nat) /\ IsPair h'' (N + 2 : Nat) (.ref N) (.ref (N + 1 : Nat)) /\ (∃ a b, IsPair h'' (N + 3 : Nat) a b) /\ SrcIt t1 h'' N a1 (i + 1) /\ SrcIt t2 h'' (N + 1 : Nat) a2 (i + 1)) /\ ∀ b ∈ ([N, N + 1, N + 2, N + 3, N + 4] : List Nat), H' b = none := fun h'' z'' sb => by
   have lz : N + 4 < s.heap.objs.size := Heap.lt_size z4
   have kk' : ∀ b o, b ∉ ([N, N + 1, N + 2, N + 3, N + 4] : List Nat) -> s.heap.get? b = some o -> h''.get? b = some o := fun b o hb e => by
    obtain ⟨c1, c2, c3, c4⟩ := nin4 hb
    exact (sb.2 b c4).trans (kk b o c1 c2 c3 c4 e)
   have I1 := zmb (t' := tk) (vs := [x1, x2]) (its := [u1, u2]) I kk' hf (fun b hb => by
    have : b = N \/ b = N + 1 \/ b = N + 2 \/ b = N + 3 \/ b = N + 4 := by simpa using hb
    exact Nat.lt_of_le_of_lt (show (b : Nat) <= N + 4 by rcases this with h | h | h | h | h <;> rw [h] <;> simp) lz) ((sb.2 _ (ne_ (by ac_rfl))).trans gT) (by simp; rw [sizeLine_eq]; decide) (.cons r1 (.cons r2 .nil))
   refine ⟨.ref s.heap.objs.size, _, I1, rfl, ⟨_, x1, x2, I.hok.fresh (Nat.le_refl _), rfl, rfl, fun xs' ys' b1 b2 => ?_⟩, ⟨hn, z'', (sb.2 _ (ne_ (by ac_rfl))).trans (kk _ _ (ne_ (by ac_rfl)) (ne_ (by ac_rfl)) (ne_ (by ac_rfl)) (ne_ (by ac_rfl)) h2), (let ⟨a', b', e'⟩ := g3; ⟨a', b', (sb.2 _ (ne_ (by ac_rfl))).trans e'⟩), SrcIt.at g0.1 fun o e => (sb.2 _ (ne_ (by ac_rfl))).trans e, SrcIt.at g1.1 fun o e => (sb.2 _ (ne_ (by ac_rfl))).trans e⟩, fun b hb => ?_⟩
   ·rw [SrcSq.inj I b1 q1, SrcSq.inj I b2 q2]
    exact ⟨hx1, hx2⟩
   ·have : b = N \/ b = N + 1 \/ b = N + 2 \/ b = N + 3 \/ b = N + 4 := by simpa using hb
    rw [zaw (Nat.ne_of_lt (Nat.lt_of_le_of_lt (show (b : Nat) <= N + 4 by rcases this with h | h | h | h | h <;> rw [h] <;> simp) lz))]
    exact (hf b hb).1
  exact letGoZ (s := { s with heap := h', toks := tk }) g4 (fin h' g4 ⟨rfl, fun _ _ => rfl⟩) fun h'' z'' sb => fin h'' z'' sb
 done := by
  intro X hP hw hK hc i pins s σ H E I hf st hg
  subst hP hw hK
  obtain ⟨hi, h4, h2, ⟨a, c, h3⟩, h0, h1⟩ := st
  obtain ⟨hn, xs, ys, q1, q2, en⟩ := hg
  obtain ⟨us, ru, hu, zu⟩ := q1.heap I
  obtain ⟨ws, rw', hw', zw⟩ := q2.heap I
  have lu := ru.length
  have lw := rw'.length
  have D1 := zbs (prog := X.prog) (w := X.w) (A := X.A.in1) (t := t1) (I.ok.hd hc) N a1 (ne_ (by ac_rfl)) us.toArray
  have D2 := zbs (prog := X.prog) (w := X.w) (A := X.A.in1) (t := t2) (I.ok.hd hc) (N + 1) a2 (ne_ (by ac_rfl)) ws.toArray
  have z4 := h4
  obtain ⟨f0, bb, z4, -⟩ := z4
  have hT : s.TypeIs (.ref (N + 4 : Nat)) "zip" := ⟨_, z4, rfl⟩
  unfold pyNext
  refine wpAny_bind (wpAny_attempt (wpAny_callSpecial?_slot (name := Str.ofString "__next__") hT F.slot_zip_next (wpAny_call_entry F.slot_zip_next hT F.entry_zip_next
   (zoJ D1 D2 l1 l2 h4 h2 h3 ⟨h0, hu⟩ ⟨h1, hw'⟩ (by simp; omega) fun h' e tk kk he => ?_) (F.args_zip_next_1 _))))
  obtain ⟨o, ho, hce⟩ := he
  refine wpAny_bind (wpAny_isInstance (T := "StopIteration") (b := true) ⟨o, ho, hce⟩ isSubtype_stop (wpAny_pure ⟨rfl, zj4 I (fun b o hb e => ?_) hf⟩))
  obtain ⟨c1, c2, c3, c4⟩ := nin4 hb
  exact kk b o c1 c2 c3 c4 e
 self := fun _ _ _ _ _ st h => zmq st.2.1 h
theorem pi_zip2N {a b : Expr} {ta : TA} (hg : Gl X "zip") (hm : X.mg "zip" = none) (ha : PA X [a, b] ta) (hs : starEach [a, b] X.env = (false, eval a X.env) :: starEach [b] X.env := by rfl) (hs2 : (backTo pos (starEach [b] X.env)).any (·.1) = false := by rfl) :
  PI X tg (.Call (.Name "zip" p) [a, b] [] pos) (fun σ H R => ta σ H fun vs H1 => ∃ t1 a1 xs t2 a2 ys, vs = [.ref a1, .ref a2] /\ SrcSq t1 X.K H1 a1 xs /\ SrcSq t2 X.K H1 a2 ys /\ R (Itz2 X.K t1 a1 t2 a2 (min xs.length ys.length)) H1) := by
 intro pins s σ H R I h
 refine Call_ (zgX I hg hm zm3 (PyProof.Rows.callWith_type1 (thn (ha pos pins s σ H _ I h) fun us s1 ⟨vs, H1, I1, r1, q1⟩ => ?_) hs hs2))
 obtain ⟨t1, a1, xs, t2, a2, ys, e, q1, q2, q⟩ := q1
 subst e
 cases r1 with
 | cons r rr =>
  cases rr with
  | cons r' rr =>
   cases rr
   cases r
   cases r'
   obtain ⟨us, ru, hu, -⟩ := q1.heap I1
   obtain ⟨ws, rw', hw', -⟩ := q2.heap I1
   refine zod hu hw' fun h' g4 g2 g3 g0 g1 kk => wpAny_pyIter_zip g4 ⟨_, _, _, _, H1, rfl, I1.kept (t' := s1.toks) kk, znq t1 a1 t2 a2 (min xs.length ys.length) s1.heap.objs.size hu.lt hw'.lt, ⟨Nat.zero_le _, ⟨_, _, g4, .inl rfl⟩, g2, ⟨_, _, g3⟩, g0, g1⟩, fun b hb => ?_, q⟩
   have : b = s1.heap.objs.size \/ b = s1.heap.objs.size + 1 \/ b = s1.heap.objs.size + 2 \/ b = s1.heap.objs.size + 3 \/ b = s1.heap.objs.size + 4 := by simpa using hb
   have le : s1.heap.objs.size <= b := by rcases this with h | h | h | h | h <;> rw [h] <;> simp
   exact I1.fpOk le (I1.hok.fresh le)
theorem zjY {a b : Expr} {ma : MA} (hm : X.mg "zip" = none) (ha : SA X [a, b] ma) (hg : Gl X "zip" := by rfl) (hs : starEach [a, b] X.env = (false, eval a X.env) :: starEach [b] X.env := by rfl) (hs2 : (backTo pos (starEach [b] X.env)).any (·.1) = false := by rfl) :
  SIt X tg (.Call (.Name "zip" p) [a, b] [] pos) (iZ2 ma) := by
 obtain ⟨t, pa, sa⟩ := ha
 refine ⟨_, pi_zip2N hg hm pa hs hs2, fun B G H σ ρ ds ρ' Q I hm k => ?_⟩
 obtain ⟨⟨es, ρ1⟩, e1, h2⟩ := zaf hm
 dsimp only at h2
 refine sa B G H σ ρ es ρ1 _ I e1 fun G1 H1 vs I1 f1 r1 => ?_
 split at h2
 ·obtain ⟨xs, ex, h2⟩ := zaf h2
  obtain ⟨ys, ey, h2⟩ := zaf h2
  cases h2
  obtain ⟨x, y, rfl, rx, ry⟩ := r1.two
  obtain ⟨t1, a1, us, rfl, s1, c1⟩ := zjR rx ex
  obtain ⟨t2, a2, ws, rfl, s2, c2⟩ := zjR ry ey
  have n1 := c1.length
  have n2 := c2.length
  refine ⟨t1, a1, us, t2, a2, ws, rfl, s1 _ I1.fz, s2 _ I1.fz, k _ G1 H1 I1 f1 ⟨fun H i f hi => ?_, fun H i x H' f y d e => ?_, fun H i f hi => ?_⟩⟩
  ·exact ⟨by simp [zmd] at hi; omega, us, ws, s1 _ f, s2 _ f, rfl⟩
  ·obtain ⟨p, x1, x2, hp, eh, ex', q⟩ := y
   obtain ⟨q1, q2⟩ := q us ws (s1 _ f) (s2 _ f)
   simp only [zmd, List.getElem?_zipWith] at e
   split at e
   ·rename_i d1 d2 g1 g2
    cases e
    obtain ⟨v1, b1, r1⟩ := c1.get g1
    obtain ⟨v2, b2, r2⟩ := c2.get g2
    rw [q1] at b1; cases b1
    rw [q2] at b2; cases b2
    exact .inr ⟨p, _, _, hp, eh, ex', rfl, ⟨_, _, rfl, r1, _, _, rfl, r2, rfl⟩⟩
   ·cases e
  ·exact ⟨by simp [zmd] at hi; omega, us, ws, s1 _ f, s2 _ f, rfl⟩
 ·cases h2
end M
namespace M
open L2 PySem PySem.Spec
open PyProof.Rows hiding St
theorem ndk {l : List Str} (h : decide l.Nodup = true := by kernel_rfl) : l.Nodup := of_decide_eq_true h
theorem us_0 {p : List Value -> Prop} (h : p []) : ∀ us : List Value, us.length = 0 -> p us := fun us e => by
 cases us with
 | nil => exact h
 | cons => cases e
theorem us_s {p : List Value -> Prop} {n : Nat} (h : ∀ (a : Value) (us : List Value), us.length = n -> p (a :: us)) : ∀ us : List Value, us.length = n + 1 -> p us := fun us e => by
 cases us with
 | nil => cases e
 | cons a us => exact h a us (Nat.succ.inj e)
section
variable {P : Program} {w : World} {K : W.Frag} {mg : Str -> Option Value} {base hp : Heap} {x : Str} {st : Stmt} {f : Addr}
def FnAt (K : W.Frag) (x : Str) (st : Stmt) : Prop := ∃ f fd, W.nsIn K mainGlobals x = some (some (.ref f)) /\ Fun K x x st f fd
theorem FnAt.mk {oc : Value} {od an : Option Addr} {osl : Array (Option Value)} {kV doc pm cdv ct : Value} (a : W.nsIn K mainGlobals x = some (some (.ref f))) (l : K.lookup f = some ⟨oc, od, .func (W.fnOf x x (zfR st) (zcV st) (zaX st) .none kV doc pm an cdv ct), osl⟩)
  (c : W.codeIn K cdv x = true) (k : W.keepIn K (.ref f) = true) : FnAt K x st := ⟨f, _, a, fun_mk l c k⟩
abbrev BindsAt (x : Str) (st : Stmt) (ps : List Str) : Prop := ∀ (kV doc pm : Value) (an : Option Addr) (cdv ct : Value) (us : List Value), us.length = ps.length -> bindArgs (W.fnOf x x (zfR st) (zcV st) (zaX st) .none kV doc pm an cdv ct) ⟨us, []⟩ = pure (ps.zip us)
theorem FnAt.law (h : FnAt K x st) (X : K.In hp) (G : hp.Ns mainGlobals mg) (hf : mg x = some (.ref f)) : ∃ kV doc pm an cdv ct, Fun K x x st f (W.fnOf x x (zfR st) (zcV st) (zaX st) .none kV doc pm an cdv ct) := by
 obtain ⟨f', fd, a, T⟩ := h
 have e := hf.symm.trans (W.mg_of X G a)
 cases e
 obtain ⟨oc, od, kV, doc, pm, an, cdv, ct, osl, rfl, lk, hcd⟩ := id T.ex
 exact ⟨kV, doc, pm, an, cdv, ct, T⟩
variable {N : List Str} {k n : Nat} {m : MS}
abbrev Bd (P : Program) (w : World) (K : W.Frag) (mg : Str -> Option Value) (base : Heap) (x : Str) (st : Stmt) (N : List Str) (k : Nat) (m : MS) : Prop := ∀ (f : Addr) (cdv : Value) (A : Around) (outer : List Env) (s : Shared) (H : Hp) (E : XK), Room k (A.deeper (PyProof.Rows.envOfC x (zaX st) s.heap.objs.size f cdv)) -> N.Nodup -> SSs (cxOf CX0 P w K mg base N x (zaX st) f cdv A outer s H E).nox (zcV st) m
structure DefOk (x : Str) (st : Stmt) (N : List Str) (n : Nat) : Prop where
 sc : FnScope N (N.take n) (zaX st)
 len : (N.take n).length = n
 le : n <= N.length
 bs : BindsAt x st (N.take n)
theorem lawP {fd : FuncData} (F : Fun K x x st f fd) (b : Bd P w K mg base x st N k m) (d : DefOk x st N n := by exact ⟨⟨rfl, rfl, rfl, by decide +kernel, rfl, by decide +kernel, by decide +kernel⟩, rfl, by decide, fun _ _ _ _ _ _ => by first | exact us_s fun _ => us_0 rfl | exact us_s fun _ => us_s fun _ => us_0 rfl | exact us_s fun _ => us_s fun _ => us_s fun _ => us_0 rfl | exact us_s fun _ => us_s fun _ => us_s fun _ => us_s fun _ => us_0 rfl | exact us_0 rfl | exact us_s fun _ => us_s fun _ => us_s fun _ => us_s fun _ => us_s fun _ => us_0 rfl⟩) : FnOk P w K mg base CX0 (k + 1) f fd (N.take n) (spP K n (fP N.length m)) := fnP_ok F d.sc d.len d.le fun cdv A outer s H E hr => b _ cdv A outer s H E hr d.sc.nd
theorem fdP (X : K.In hp) (G : hp.Ns mainGlobals mg) (h : FnAt K x st) (b : Bd P w K mg base x st N k m) (d : DefOk x st N n := by exact ⟨⟨rfl, rfl, rfl, by decide +kernel, rfl, by decide +kernel, by decide +kernel⟩, rfl, by decide, fun _ _ _ _ _ _ => by first | exact us_s fun _ => us_0 rfl | exact us_s fun _ => us_s fun _ => us_0 rfl | exact us_s fun _ => us_s fun _ => us_s fun _ => us_0 rfl | exact us_s fun _ => us_s fun _ => us_s fun _ => us_s fun _ => us_0 rfl | exact us_0 rfl | exact us_s fun _ => us_s fun _ => us_s fun _ => us_s fun _ => us_s fun _ => us_0 rfl⟩) : FD P w K mg base (k + 1) x (spP K n (fP N.length m)) :=
 let ⟨f, fd, a, T⟩ := h
 ⟨⟨f, fd, _, fnP_ok T d.sc d.len d.le fun cdv A outer s H E hr => b _ cdv A outer s H E hr d.sc.nd, W.mg_of X G a, T.kp, T.binds d.bs⟩⟩
theorem fdM (X : K.In hp) (G : hp.Ns mainGlobals mg) (h : FnAt K x st) (b : Bd P w K mg base x st N k m) (d : DefOk x st N n := by exact ⟨⟨rfl, rfl, rfl, by decide +kernel, rfl, by decide +kernel, by decide +kernel⟩, rfl, by decide, fun _ _ _ _ _ _ => by first | exact us_s fun _ => us_0 rfl | exact us_s fun _ => us_s fun _ => us_0 rfl | exact us_s fun _ => us_s fun _ => us_s fun _ => us_0 rfl | exact us_s fun _ => us_s fun _ => us_s fun _ => us_s fun _ => us_0 rfl | exact us_0 rfl | exact us_s fun _ => us_s fun _ => us_s fun _ => us_s fun _ => us_s fun _ => us_0 rfl⟩) : FD P w K mg base (k + 1) x (spM K n (fM N.length m)) :=
 let ⟨f, fd, a, T⟩ := h
 ⟨⟨f, fd, _, fnM_ok T d.sc d.len d.le fun cdv A outer s H E hr => b _ cdv A outer s H E hr d.sc.nd, W.mg_of X G a, T.kp, T.binds d.bs⟩⟩
end
end M
namespace M
open L2 PySem
variable {c : Prop} {z : Bool} {Q : List D × R -> Prop} {me m : ME} {b : MS} {f : D -> R -> Option (Option D × R)} {g : D -> R -> Option R} {mt : MT} {d : D} {ρ : R} {r : Sl} {i n j t N : Nat} {h : List D -> R -> Option R} {ds : List D} {mi ma : MA} {F : List D -> Option Sl} {cap : List Nat} {I : R -> Prop} {ns : List Int}
structure Lock {α : Type} (Q : α -> Prop) : Type where
def Ok {α : Type} (o : Option α) (Q : α -> Prop) (l : Lock Q := ⟨⟩) : Prop := ∃ a, o = some a /\ Q a
section
variable {α β : Type} {o : Option α} {Q Q' : α -> Prop}
theorem ok_some {a : α} : Ok (some a) Q ↔ Q a := ⟨fun ⟨_, e, q⟩ => by cases e; exact q, fun q => ⟨a, rfl, q⟩⟩
theorem ok_none : Ok (none : Option α) Q ↔ False := ⟨fun ⟨_, e, _⟩ => (by cases e), False.elim⟩
theorem ok_bind {f : α -> Option β} {Q : β -> Prop} : Ok (o.bind f) Q ↔ Ok o fun a => Ok (f a) Q := by
 cases o with
 | none => exact ⟨fun ⟨_, e, _⟩ => (by cases e), fun ⟨_, e, _⟩ => (by cases e)⟩
 | some a => exact ⟨fun h => ⟨a, rfl, h⟩, fun ⟨_, e, h⟩ => by cases e; exact h⟩
theorem ok_map {f : α -> β} {Q : β -> Prop} : Ok (o.map f) Q ↔ Ok o fun a => Q (f a) := by
 cases o with
 | none => exact ⟨fun ⟨_, e, _⟩ => (by cases e), fun ⟨_, e, _⟩ => (by cases e)⟩
 | some a => exact ⟨fun h => ⟨a, rfl, ok_some.mp h⟩, fun ⟨_, e, h⟩ => by cases e; exact ok_some.mpr h⟩
theorem ziK [Decidable c] : Ok (if c then o else none) Q ↔ c /\ Ok o Q := by
 by_cases h : c
 ·rw [if_pos h]; exact ⟨fun k => ⟨h, k⟩, fun k => k.2⟩
 ·rw [if_neg h]; exact ⟨fun k => (ok_none.mp k).elim, fun k => absurd k.1 h⟩
theorem Ok.mono (h : Ok o Q) (k : ∀ a, Q a -> Q' a) : Ok o Q' := by obtain ⟨a, e, q⟩ := h; exact ⟨a, e, k a q⟩
theorem zbi {Q' : α -> Prop} (h : ∀ a, Q a ↔ Q' a) : Ok o Q ↔ Ok o Q' := ⟨fun ⟨a, e, q⟩ => ⟨a, e, (h a).mp q⟩, fun ⟨a, e, q⟩ => ⟨a, e, (h a).mpr q⟩⟩
end
section
variable {c : MT} {a b : MS} {ρ : R}
theorem znF {α : Type} {o u : Option α} {Q : α -> Prop} : Ok (if z then o else u) Q ↔ (z = true -> Ok o Q) /\ (z = false -> Ok u Q) := by cases z <;> simp
theorem ok_sIf {Q : Fl × R -> Prop} : Ok (sIf c a b ρ) Q ↔ Ok (c ρ) fun p => (p.1 = true -> Ok (a p.2) Q) /\ (p.1 = false -> Ok (b p.2) Q) := by
 unfold sIf; rw [ok_bind]; exact zbi fun p => znF
theorem ok_eIf {a b : ME} {Q : D × R -> Prop} : Ok (eIf c a b ρ) Q ↔ Ok (c ρ) fun p => (p.1 = true -> Ok (a p.2) Q) /\ (p.1 = false -> Ok (b p.2) Q) := by
 unfold eIf; rw [ok_bind]; exact zbi fun p => znF
theorem ok_tAnd {a b : MT} {Q : Bool × R -> Prop} : Ok (znX a b ρ) Q ↔ Ok (a ρ) fun p => (p.1 = true -> Ok (b p.2) Q) /\ (p.1 = false -> Q (false, p.2)) := by
 unfold znX; rw [ok_bind]; exact zbi fun p => by rw [znF, ok_some]
theorem ok_tOr {a b : MT} {Q : Bool × R -> Prop} : Ok (tOrM a b ρ) Q ↔ Ok (a ρ) fun p => (p.1 = true -> Q (true, p.2)) /\ (p.1 = false -> Ok (b p.2) Q) := by
 unfold tOrM; rw [ok_bind]; exact zbi fun p => by rw [znF, ok_some]
theorem ok_eAnd {a b : ME} {Q : D × R -> Prop} : Ok (eAnd a b ρ) Q ↔ Ok (a ρ) fun p => ∃ z, p.1 = .bl z /\ (z = true -> Ok (b p.2) Q) /\ (z = false -> Q (.bl false, p.2)) := by
 unfold eAnd; rw [ok_bind]
 have : ∀ p : D × R, Ok (match p.1 with
  | .bl true => b p.2
  | .bl false => some (.bl false, p.2)
  | _ => none) Q ↔ ∃ z, p.1 = .bl z /\ (z = true -> Ok (b p.2) Q) /\ (z = false -> Q (.bl false, p.2)) := by
  rintro ⟨d, ρ⟩
  cases d with
  | bl z => cases z <;> simp [ok_some]
  | _ => simp [ok_none]
 exact zbi this
theorem ok_eOr {a b : ME} {Q : D × R -> Prop} : Ok (eOr a b ρ) Q ↔ Ok (a ρ) fun p => ∃ z, p.1 = .bl z /\ (z = true -> Q (.bl true, p.2)) /\ (z = false -> Ok (b p.2) Q) := by
 unfold eOr; rw [ok_bind]
 have : ∀ p : D × R, Ok (match p.1 with
  | .bl true => some (.bl true, p.2)
  | .bl false => b p.2
  | _ => none) Q ↔ ∃ z, p.1 = .bl z /\ (z = true -> Q (.bl true, p.2)) /\ (z = false -> Ok (b p.2) Q) := by
  rintro ⟨d, ρ⟩
  cases d with
  | bl z => cases z <;> simp [ok_some]
  | _ => simp [ok_none]
 exact zbi this
theorem ok_chain {f g : D -> D -> Option D} {a b c : ME} {Q : D × R -> Prop} : Ok (zfh f g a b c ρ) Q ↔ Ok (a ρ) fun p => Ok (b p.2) fun q => Ok (f p.1 q.1) fun t => ∃ z, t = .bl z /\ (z = true -> Ok (c q.2) fun r => Ok (g q.1 r.1) fun d => Q (d, r.2)) /\ (z = false -> Q (.bl false, q.2)) := by
 unfold zfh; rw [ok_bind]
 have : ∀ (p q : D × R) (t : D), Ok (match t with
  | .bl true => (c q.2).bind fun r => (g q.1 r.1).map fun d => (d, r.2)
  | .bl false => some (.bl false, q.2)
  | _ => none) Q ↔ ∃ z, t = .bl z /\ (z = true -> Ok (c q.2) fun r => Ok (g q.1 r.1) fun d => Q (d, r.2)) /\ (z = false -> Q (.bl false, q.2)) := by
  intro p q t
  cases t with
  | bl z =>
   cases z
   ·simp [ok_some]
   ·simp only [ok_bind, D.bl.injEq, exists_eq_left', forall_const, reduceCtorEq, false_implies, and_true]
    exact zbi fun r => ok_map
  | _ => simp [ok_none]
 exact zbi fun p => by rw [ok_bind]; exact zbi fun q => by rw [ok_bind]; exact zbi fun t => this p q t
theorem ok_turnM {Q : Option D × R -> Prop} : Ok (znw g mt me d ρ) Q ↔ Ok (g d ρ) fun ρ1 => Ok (mt ρ1) fun p => (p.1 = true -> Ok (me p.2) fun q => zgC q.2 = true /\ Q (some q.1, q.2)) /\ (p.1 = false -> zgC p.2 = true /\ Q (none, p.2)) := by
 unfold znw; rw [ok_bind]; exact zbi fun ρ1 => by rw [ok_bind]; exact zbi fun p => by rw [znF, ok_bind, ziK, ok_some]; exact and_congr (imp_congr Iff.rfl (zbi fun q => by rw [ziK, ok_some])) Iff.rfl
theorem ok_turnP {bk : Nat} {Q : Option D × R -> Prop} : Ok (znE bk g mt me d ρ) Q ↔ Ok (g d ρ) fun ρ1 => Ok (mt ρ1) fun p => (p.1 = true -> Ok (me p.2) fun q => zl5 bk q.2 = true /\ Q (some q.1, q.2)) /\ (p.1 = false -> zl5 bk p.2 = true /\ Q (none, p.2)) := by
 unfold znE; rw [ok_bind]; exact zbi fun ρ1 => by rw [ok_bind]; exact zbi fun p => by rw [znF, ok_bind, ziK, ok_some]; exact and_congr (imp_congr Iff.rfl (zbi fun q => by rw [ziK, ok_some])) Iff.rfl
theorem zny (n : Nat) : Int.natAbs (no_index (OfNat.ofNat n)) = n := rfl
end
section
theorem ok_sNext {Q : Fl × R -> Prop} : Ok (zby ρ) Q ↔ Q (.next, ρ) := ok_some
def SeqK (b : MS) (Q : Fl × R -> Prop) (p : Fl × R) : Prop := Ok (match p.1 with
 | .next => b p.2
 | f => some (f, p.2)) Q
theorem zpK {Q : Fl × R -> Prop} : SeqK b Q (.next, ρ) ↔ Ok (b ρ) Q := Iff.rfl
theorem seqK_ret {Q : Fl × R -> Prop} : SeqK b Q (.ret r, ρ) ↔ Q (.ret r, ρ) := ok_some
theorem seqK_brk {Q : Fl × R -> Prop} : SeqK b Q (.brk, ρ) ↔ Q (.brk, ρ) := ok_some
theorem zo3 {Q : Fl × R -> Prop} : SeqK b Q (.cont, ρ) ↔ Q (.cont, ρ) := ok_some
theorem ok_sSeq {a b : MS} {Q : Fl × R -> Prop} : Ok (sSeq a b ρ) Q ↔ Ok (a ρ) (SeqK b Q) := ok_bind
theorem ok_sRet {Q : Fl × R -> Prop} : Ok (sRet m ρ) Q ↔ Ok (m ρ) fun p => Q (.ret (.val p.1), p.2) := ok_map
theorem ok_sRetO {m : MO} {Q : Fl × R -> Prop} : Ok (zjm m ρ) Q ↔ Ok (m ρ) fun p => Q (.ret (.own p.1), p.2) := ok_map
theorem ok_sRetV {Q : Fl × R -> Prop} : Ok (zhN i ρ) Q = Ok (match ρ[i]? with
 | some (.val d) => some (.ret (.val d), ρ)
 | some (.own ds) => some (.ret (.own ds), ρ.set i .emp)
 | _ => none) Q := rfl
theorem ok_gN {Q : R -> Prop} : Ok (gN i d ρ) Q ↔ Q (ρ.set i (.val d)) := ok_some
theorem ok_gsNil  {ds : List D} {ρ : R} {Q : R -> Prop} : Ok (zdW ds ρ) Q = Ok (match ds with
 | [] => some ρ
 | _ => none) Q := rfl
theorem zot {Q : R -> Prop} : Ok (zaz g h ds ρ) Q = Ok (match ds with
 | d :: ds => (g d ρ).bind fun ρ1 => h ds ρ1
 | [] => none) Q := rfl
theorem ok_gT {g : List D -> R -> Option R} {Q : R -> Prop} : Ok (gT n g d ρ) Q = Ok (match d with
 | .tup ds => if ds.length = n then g ds ρ else none
 | _ => none) Q := rfl
theorem ok_sAsg {Q : Fl × R -> Prop} : Ok (sAsg m g ρ) Q ↔ Ok (m ρ) fun p => Ok (g p.1 p.2) fun ρ' => Q (.next, ρ') := ok_bind.trans (zbi fun _ => ok_map)
theorem ok_sSet {Q : Fl × R -> Prop} : Ok (sSet i m ρ) Q ↔ Ok (m ρ) fun p => Q (.next, p.2.set i (.val p.1)) := ok_map
theorem ok_sSetO {m : MO} {Q : Fl × R -> Prop} : Ok (zh3 i m ρ) Q ↔ Ok (m ρ) fun p => Q (.next, p.2.set i (.own p.1)) := ok_map
theorem ok_sApp {Q : Fl × R -> Prop} : Ok (sApp i m ρ) Q = Ok (if (ρ[i]?.bind Sl.items).isSome then (m ρ).bind fun p => p.2[i]?.bind fun s => s.items.bind fun ds => if ds.length < 16777216 then some (.next, p.2.set i (s.put (ds ++ [p.1]))) else none else none) Q := rfl
theorem ok_sPut {mi me : ME} {Q : Fl × R -> Prop} : Ok (sPut j mi me ρ) Q = Ok ((me ρ).bind fun p => if hasV p.2 j then (mi p.2).bind fun q => match q.1 with
 | .int k => q.2[j]?.bind fun s => s.items.bind fun ds => (ixN ds.length k).bind fun n => some (.next, q.2.set j (s.put (ds.set n p.1)))
 | _ => none else none) Q := rfl
theorem ok_eC {Q : D × R -> Prop} : Ok (eC d ρ) Q ↔ Q (d, ρ) := ok_some
theorem ok_eVar {Q : D × R -> Prop} : Ok (eVar i ρ) Q = Ok (match ρ[i]? with
 | some (.val d) => some (d, ρ)
 | some (.own ds) => some (.lst ds, ρ.set i (.val (.lst ds)))
 | _ => none) Q := rfl
theorem ok_aNil : Ok (aNil ρ) Q ↔ Q ([], ρ) := ok_some
theorem ok_aCons {r : MA} : Ok (zag m r ρ) Q ↔ Ok (m ρ) fun p => Ok (r p.2) fun q => Q (p.1 :: q.1, q.2) := ok_bind.trans (zbi fun _ => ok_map)
theorem ok_m2 {f : D -> D -> Option D} {ma mb : ME} {Q : D × R -> Prop} : Ok (m2 f ma mb ρ) Q ↔ Ok (ma ρ) fun p => Ok (mb p.2) fun q => Ok (f p.1 q.1) fun d => Q (d, q.2) := ok_bind.trans (zbi fun _ => ok_bind.trans (zbi fun _ => ok_map))
theorem ok_m1 {f : D -> Option D} {ma : ME} {Q : D × R -> Prop} : Ok (m1 f ma ρ) Q ↔ Ok (ma ρ) fun p => Ok (f p.1) fun d => Q (d, p.2) := ok_bind.trans (zbi fun _ => ok_map)
theorem ok_mC {f : List D -> Option D} {Q : D × R -> Prop} : Ok (mC f ma ρ) Q ↔ Ok (ma ρ) fun p => Ok (f p.1) fun d => Q (d, p.2) := ok_bind.trans (zbi fun _ => ok_map)
theorem ok_eIxV {mi : ME} {Q : D × R -> Prop} : Ok (eIxV j mi ρ) Q = Ok (if hasV ρ j then (mi ρ).bind fun p => (p.2[j]?.bind Sl.read).bind fun d => (dIx d p.1).map fun e => (e, p.2) else none) Q := rfl
theorem ok_eLenV {Q : D × R -> Prop} : Ok (zbv j ρ) Q = Ok ((ρ[j]?.bind Sl.read).bind fun d => (dLen [d]).map fun e => (e, ρ)) Q := rfl
theorem ok_oC {f : List D -> Option (List D)} : Ok (oC f ma ρ) Q ↔ Ok (ma ρ) fun p => Ok (f p.1) fun d => Q (d, p.2) := ok_bind.trans (zbi fun _ => ok_map)
theorem ok_eTup {Q : D × R -> Prop} : Ok (eTup ma ρ) Q ↔ Ok (ma ρ) fun p => p.1.length <= 16777216 /\ Q (.tup p.1, p.2) := ok_bind.trans (zbi fun _ => by rw [ziK, ok_some])
theorem ok_oLst : Ok (oLst ma ρ) Q ↔ Ok (ma ρ) fun p => p.1.length <= 16777216 /\ Q (p.1, p.2) := ok_bind.trans (zbi fun _ => by rw [ziK, ok_some])
theorem ok_tTru {ma : ME} {Q : Bool × R -> Prop} : Ok (tTru ma ρ) Q ↔ Ok (ma ρ) fun p => Ok (dTru p.1) fun b => Q (b, p.2) := ok_bind.trans (zbi fun _ => ok_map)
theorem ok_tNotM {a : MT} {Q : Bool × R -> Prop} : Ok (zhZ a ρ) Q ↔ Ok (a ρ) fun p => Q (!p.1, p.2) := ok_map
theorem ok_eCall {Q : D × R -> Prop} : Ok (zax F ma ρ) Q = Ok ((ma ρ).bind fun p => (F p.1).bind fun r => match r with
 | .val d => some (d, p.2)
 | .own ds => some (.lst ds, p.2)
 | _ => none) Q := rfl
theorem ok_oCall : Ok (znm F ma ρ) Q = Ok ((ma ρ).bind fun p => (F p.1).bind fun r => match r with
 | .own ds => some (ds, p.2)
 | _ => none) Q := rfl
theorem zpf {F : List D -> List D -> Option (Sl × List D)} {Q : D × R -> Prop} : Ok (zfp F j ma ρ) Q = Ok (if (ρ[j]?.bind Sl.items).isSome then (ma ρ).bind fun p => p.2[j]?.bind fun s => s.items.bind fun cs => (F cs p.1).bind fun r => match r.1 with
 | .val d => some (d, p.2.set j (s.put r.2))
 | .own ds => some (.lst ds, p.2.set j (s.put r.2))
 | _ => none else none) Q := rfl
theorem ok_iR2L : Ok (iR2L ma ρ) Q = Ok ((ma ρ).bind fun p => match p.1 with
 | [.int i, .int j] => some (zcq i (j - i).toNat, p.2)
 | _ => none) Q := rfl
theorem ok_eFz {m : MO} {Q : D × R -> Prop} : Ok (eFz m ρ) Q ↔ Ok (m ρ) fun p => Q (.lst p.1, p.2) := ok_map
theorem ok_eCut {ma : ME} {ml mh : MP} {Q : D × R -> Prop} : Ok (eCut ma ml mh ρ) Q = Ok ((ma ρ).bind fun p => (ml p.2).bind fun q => (mh q.2).bind fun r => (dCut p.1 q.1 r.1).map fun d => (d, r.2)) Q := rfl
theorem ok_pNo {Q : Option Int × R -> Prop} : Ok (pNo ρ) Q ↔ Q (none, ρ) := ok_some
theorem ok_pSome {Q : Option Int × R -> Prop} : Ok (zdH m ρ) Q = Ok ((m ρ).bind fun p => match p.1 with
 | .int i => some (some i, p.2)
 | _ => none) Q := rfl
theorem ok_iSeq : Ok (iSeq m ρ) Q ↔ Ok (m ρ) fun p => Ok (zaW [p.1]) fun ds => Q (ds, p.2) := ok_bind.trans (zbi fun _ => ok_map)
theorem ok_iR1 : Ok (iR1 ma ρ) Q = Ok ((ma ρ).bind fun p => match p.1 with
 | [.int j] => if zch j then some (zcq 0 j.toNat, p.2) else none
 | _ => none) Q := rfl
theorem ok_iR2 : Ok (iR2 ma ρ) Q = Ok ((ma ρ).bind fun p => match p.1 with
 | [.int i, .int j] => if zch i && zch j then some (zcq i (j - i).toNat, p.2) else none
 | _ => none) Q := rfl
theorem ok_sFor {mb : MS} {Q : Fl × R -> Prop} : Ok (sFor mi g mb ρ) Q ↔ Ok (mi ρ) fun p => Ok (forM (fun d ρ => (g d ρ).bind fun ρ' => mb ρ') p.1 p.2) Q := ok_bind
theorem ok_oLC : Ok (oLC cap t mi g mt me ρ) Q = Ok ((mi ρ).bind fun p => if p.1.length <= 16777216 then (zft (znw g mt me) p.1 (capR cap t (fzL cap p.2))).map fun q => (q.1, fzL cap p.2) else none) Q := rfl
theorem ok_oR {m : MA} : Ok (oR m ρ) Q = Ok ((m ρ).bind fun p => if p.1.length <= 16777216 then some p else none) Q := rfl
theorem ok_tTrue {Q : Bool × R -> Prop} : Ok (zbM ρ) Q ↔ Q (true, ρ) := ok_some
theorem ok_eIsI {T : String} {ma : ME} {Q : D × R -> Prop} : Ok (eIsI T ma ρ) Q = Ok ((ma ρ).bind fun p => if okT T && eIsI.noS1 p.1 then some (.bl (isI T p.1), p.2) else none) Q := rfl
theorem ok_sAugI {g : Int -> Int -> Int} {Q : Fl × R -> Prop} : Ok (zir i g me ρ) Q = Ok (match ρ[i]? with
 | some (.val (.int a)) => (me ρ).bind fun p => match p.1 with
  | .int b => some (.next, p.2.set i (.val (.int (g a b))))
  | _ => none
 | _ => none) Q := rfl
theorem ok_eCutS {ma : ME} {ml mh ms : MP} {Q : D × R -> Prop} : Ok (zpm ma ml mh ms ρ) Q = Ok ((ma ρ).bind fun p => (ml p.2).bind fun q => (mh q.2).bind fun r => (ms r.2).bind fun t => (zon p.1 q.1 r.1 t.1).map fun d => (d, t.2)) Q := rfl
theorem ok_iR3 : Ok (iR3 ma ρ) Q = Ok ((ma ρ).bind fun p => match p.1 with
 | [.int i, .int j, .int k] => if zch i && zch j && decide (0 < k) && decide (k < 1073741824) then some (zlV i k (cntS i j k), p.2) else none
 | _ => none) Q := rfl
theorem ok_oRep {ma mb : ME} : Ok (oRep ma mb ρ) Q = Ok ((ma ρ).bind fun p => (mb p.2).bind fun q => match p.1, q.1 with
 | .lst xs, .int k => if zch k && decide (xs.length * k.toNat <= 16777216) then some ((List.replicate k.toNat xs).flatten, q.2) else none
 | _, _ => none) Q := rfl
theorem ok_iZ2 : Ok (iZ2 ma ρ) Q = Ok ((ma ρ).bind fun p => match p.1 with
 | [a, b] => (zaW [a]).bind fun xs => (zaW [b]).bind fun ys => some (zmd xs ys, p.2)
 | _ => none) Q := rfl
theorem ok_iZ3 : Ok (iZ3 ma ρ) Q = Ok ((ma ρ).bind fun p => match p.1 with
 | [a, b, c] => (zaW [a]).bind fun xs => (zaW [b]).bind fun ys => (zaW [c]).bind fun zs => some (zl4 xs ys zs, p.2)
 | _ => none) Q := rfl
theorem ok_iEn : Ok (iEn ma ρ) Q = Ok ((ma ρ).bind fun p => (zaW p.1).map fun xs => (zmn xs, p.2)) Q := rfl
theorem ok_oLCM {t b w : Nat} : Ok (oLCM cap t b w mi g mt me ρ) Q = Ok ((mi ρ).bind fun p => if p.1.length <= 16777216 then
    ((fzL (cap.filter (· != w)) p.2)[w]?).bind fun s => s.items.bind fun cs => (zft (znE b g mt me) p.1 ((capR cap t (fzL (cap.filter (· != w)) p.2)).set b (.par cs))).map fun q => (q.1, (fzL (cap.filter (· != w)) p.2).set w (s.put (zpu b q.2)))
  else none) Q := rfl
theorem ok_fP {m : MS} {Q : Sl -> Prop} : Ok (fP N m ds) Q = Ok ((m (ds.map .val ++ List.replicate (N - ds.length) .emp)).bind fun p => match p.1 with
 | .ret r => some r
 | .next => some (.val .non)
 | _ => none) Q := rfl
theorem ok_fM {m : MS} {cs : List D} {Q : Sl × List D -> Prop} : Ok (fM N m cs ds) Q = Ok ((m (.par cs :: (ds.map .val ++ List.replicate (N - (ds.length + 1)) .emp))).bind fun p => match p.1, (p.2[0]? : Option Sl) with
 | Fl.ret r, some (Sl.par out) => some (r, out)
 | Fl.next, some (Sl.par out) => some (.val .non, out)
 | _, _ => none) Q := rfl
end
def Turn (I : R -> Prop) (Q : Fl × R -> Prop) (p : Fl × R) : Prop := match p.1 with
 | .next => I p.2
 | .cont => I p.2
 | .brk => Q (.next, p.2)
 | .ret r => Q (.ret r, p.2)
theorem zn9 {Q : Fl × R -> Prop} : Turn I Q (.next, ρ) ↔ I ρ := Iff.rfl
theorem zpy {Q : Fl × R -> Prop} : Turn I Q (.cont, ρ) ↔ I ρ := Iff.rfl
theorem turn_brk {Q : Fl × R -> Prop} : Turn I Q (.brk, ρ) ↔ Q (.next, ρ) := Iff.rfl
theorem turn_ret {Q : Fl × R -> Prop} : Turn I Q (.ret r, ρ) ↔ Q (.ret r, ρ) := Iff.rfl
theorem zpa {α : Type} {f : D -> R -> Option (Fl × R)} (enc : α -> D) {Q : Fl × R -> Prop} (I : Nat -> R -> Prop) : ∀ (l : List α) (b : Nat) (ρ : R), I b ρ ->
  (∀ i a ρ, l[i]? = some a -> I (b + i) ρ -> Ok (f (enc a) ρ) (Turn (I (b + i + 1)) Q)) -> (∀ ρ, I (b + l.length) ρ -> Q (.next, ρ)) -> Ok (forM f (l.map enc) ρ) Q
 | [], b, ρ, h0, _, hq => ok_some.mpr (hq ρ h0)
 | a :: l, b, ρ, h0, hs, hq => by
  obtain ⟨p, e, t⟩ := hs 0 a ρ rfl h0
  obtain ⟨fl, ρ1⟩ := p
  have go : ∀ ρ1, I (b + 1) ρ1 -> Ok (forM f (l.map enc) ρ1) Q := fun ρ1 h1 => zpa enc I l (b + 1) ρ1 h1 (fun i a' ρ' hi hp => by
   have := hs (i + 1) a' ρ' (by simpa using hi) (by rw [show b + (i + 1) = b + 1 + i by omega]; exact hp)
   rw [show b + (i + 1) + 1 = b + 1 + i + 1 by omega] at this
   exact this) (fun ρ h => hq ρ (by rw [List.length_cons, show b + (l.length + 1) = b + 1 + l.length by omega]; exact h))
  have e' : forM f ((a :: l).map enc) ρ = (f (enc a) ρ).bind fun p => match p.1 with
   | .next => forM f (l.map enc) p.2
   | .cont => forM f (l.map enc) p.2
   | .brk => some (.next, p.2)
   | .ret r => some (.ret r, p.2) := rfl
  rw [e', e]
  cases fl with
  | next => exact go ρ1 t
  | cont => exact go ρ1 t
  | brk => exact ok_some.mpr t
  | ret r => exact ok_some.mpr t
theorem zpR {α : Type} {f : D -> R -> Option (Fl × R)} {enc : α -> D} {l : List α} {Q : Fl × R -> Prop} (I : Nat -> R -> Prop) (h0 : I 0 ρ)
  (hs : ∀ i a ρ, l[i]? = some a -> I i ρ -> Ok (f (enc a) ρ) (Turn (I (i + 1)) Q)) (hq : ∀ ρ, I l.length ρ -> Q (.next, ρ)) : Ok (forM f (l.map enc) ρ) Q :=
 zpa enc I l 0 ρ h0 (fun i a ρ hi h => by rw [Nat.zero_add] at h ⊢; exact hs i a ρ hi h) (fun ρ h => hq ρ (by rw [Nat.zero_add] at h; exact h))
theorem zlb {α : Type} (enc : α -> D) {Q : List D × R -> Prop} (I : Nat -> List D -> R -> Prop) : ∀ (l : List α) (b : Nat) (acc : List D) (ρ : R), I b acc ρ ->
  (∀ i a acc ρ, l[i]? = some a -> I (b + i) acc ρ -> Ok (f (enc a) ρ) fun p => I (b + i + 1) (acc ++ p.1.toList) p.2) -> (∀ ds ρ, I (b + l.length) (acc ++ ds) ρ -> Q (ds, ρ)) -> Ok (zft f (l.map enc) ρ) Q
 | [], b, acc, ρ, h0, _, hq => ok_some.mpr (hq [] ρ (by rw [List.append_nil]; exact h0))
 | a :: l, b, acc, ρ, h0, hs, hq => by
  obtain ⟨p, e, t⟩ := hs 0 a acc ρ rfl h0
  have go := zlb enc (Q := fun q => Q (p.1.toList ++ q.1, q.2)) I l (b + 1) (acc ++ p.1.toList) p.2 t (fun i a' acc' ρ' hi hp => by
   have := hs (i + 1) a' acc' ρ' (by simpa using hi) (by rw [show b + (i + 1) = b + 1 + i by omega]; exact hp)
   rw [show b + (i + 1) + 1 = b + 1 + i + 1 by omega] at this
   exact this) (fun ds ρ h => hq _ ρ (by rw [List.length_cons, show b + (l.length + 1) = b + 1 + l.length by omega, <- List.append_assoc]; exact h))
  have e' : zft f ((a :: l).map enc) ρ = (f (enc a) ρ).bind fun p => (zft f (l.map enc) p.2).map fun q => (p.1.toList ++ q.1, q.2) := rfl
  rw [e', e]
  exact ok_map.mpr go
theorem zmS {α : Type} {enc : α -> D} {l : List α} (I : Nat -> List D -> R -> Prop) (h0 : I 0 [] ρ)
  (hs : ∀ i a acc ρ, l[i]? = some a -> I i acc ρ -> Ok (f (enc a) ρ) fun p => I (i + 1) (acc ++ p.1.toList) p.2) (hq : ∀ ds ρ, I l.length ds ρ -> Q (ds, ρ)) : Ok (zft f (l.map enc) ρ) Q :=
 zlb enc I l 0 [] ρ h0 (fun i a acc ρ hi h => by rw [Nat.zero_add] at h ⊢; exact hs i a acc ρ hi h) (fun ds ρ h => hq ds ρ (by rw [Nat.zero_add] at h; exact h))
theorem zfo {α β : Type} {f g : α -> Option β} : ∀ (l : List α), (∀ a ∈ l, f a = g a) -> l.filterMap f = l.filterMap g
 | [], _ => rfl
 | a :: l, h => by rw [List.filterMap_cons, List.filterMap_cons, h a List.mem_cons_self, zfo l fun b hb => h b (List.mem_cons_of_mem _ hb)]
theorem ziG {α : Type} {enc : α -> D} {l : List α} (P : R -> Prop) (g : α -> Option D) (h0 : P ρ)
  (hs : ∀ a ρ, a ∈ l -> P ρ -> Ok (f (enc a) ρ) fun p => p.1 = g a /\ P p.2) (hq : ∀ ρ, P ρ -> Q (l.filterMap g, ρ)) : Ok (zft f (l.map enc) ρ) Q :=
 zmS (fun i ds ρ => ds = (l.take i).filterMap g /\ P ρ) ⟨rfl, h0⟩ (fun i a acc ρ hi ⟨e, p⟩ => by
  refine (hs a ρ (List.mem_of_getElem? hi) p).mono fun r h => ⟨?_, h.2⟩
  obtain ⟨h1, h2⟩ := List.getElem?_eq_some_iff.mp hi
  rw [h.1, e, List.take_add_one, hi, List.filterMap_append]
  cases q : g a <;> simp [q]) (fun ds ρ ⟨e, p⟩ => by rw [List.take_length] at e; rw [e]; exact hq ρ p)
theorem zlR {α : Type} {enc : α -> D} {l : List α} (P : R -> Prop) (g : α -> D) (h0 : P ρ)
  (hs : ∀ a ρ, a ∈ l -> P ρ -> Ok (f (enc a) ρ) fun p => p.1 = some (g a) /\ P p.2) (hq : ∀ ρ, P ρ -> Q (l.map g, ρ)) : Ok (zft f (l.map enc) ρ) Q :=
 ziG P (fun a => some (g a)) h0 hs (fun ρ p => by rw [<- Function.comp_def some g, List.filterMap_eq_map]; exact hq ρ p)
theorem dEq_int (i j : Int) : dEq (.int i) (.int j) = some (.bl (i == j)) := by
 unfold dEq
 rw [show noS (.int i) = true from rfl, show noS (.int j) = true from rfl, show depth (.int i) = 0 from rfl]
 rfl
theorem dNe_int (i j : Int) : dNe (.int i) (.int j) = some (.bl (i != j)) := by
 unfold dNe
 rw [show noS (.int i) = true from rfl, show noS (.int j) = true from rfl, show depth (.int i) = 0 from rfl]
 rfl
theorem atI_n {α : Type} (xs : List α) (i : Nat) : atI xs (i : Int) = xs[i]? := by
 unfold atI ixN
 rw [if_pos (by omega)]
 by_cases h : i < xs.length
 ·rw [if_pos (by omega)]; simp
 ·rw [if_neg (by omega)]; simp [List.getElem?_eq_none (by omega : xs.length <= i)]
theorem atI_lit {α : Type} (xs : List α) (n : Nat) : atI xs (no_index (@OfNat.ofNat Int n _)) = xs[n]? := atI_n xs n
theorem atI_n1 {α : Type} (xs : List α) (i : Nat) : atI xs ((i : Int) + 1) = xs[i + 1]? := atI_n xs (i + 1)
theorem ixN_n (n i : Nat) : ixN n (i : Int) = if i < n then some i else none := by
 unfold ixN
 rw [if_pos (by omega)]
 by_cases h : i < n
 ·rw [if_pos (by omega), if_pos h]; simp
 ·rw [if_neg (by omega), if_neg h]
theorem ixN_lit (n i : Nat) : ixN n (no_index (@OfNat.ofNat Int i _)) = if i < n then some i else none := ixN_n n i
theorem zmH {α : Type} (xs : List α) (x : α) : atI (xs ++ [x]) (-1) = some x := by
 unfold atI ixN
 rw [if_neg (by omega), if_pos (by simp; omega)]
 have : (-1 + ((xs ++ [x]).length : Int)).toNat = xs.length := by simp; omega
 simp only [Option.bind_some, this]
 simp
theorem zh8 {i j : Int} (h : i.natAbs < 18446744073709551616) : zkk i j = true := by
 unfold zkk
 have : decide (i.natAbs < 2 ^ 64) = true := decide_eq_true h
 rw [this]; rfl
theorem mulOk_r {i j : Int} (h : j.natAbs < 18446744073709551616) : zkk i j = true := by
 unfold zkk
 have : decide (j.natAbs < 2 ^ 64) = true := decide_eq_true h
 rw [this]; simp
theorem zbg {j : Int} (h1 : -1000000000000 <= j) (h2 : j <= 1000000000000) : zch j = true := by
 unfold zch; rw [decide_eq_true h1, decide_eq_true h2]; rfl
def wL (n : Nat) (f : Nat -> D) : List D := (List.range n).map f
abbrev wI (n : Nat) (f : Nat -> Int) : List D := wL n fun i => .int (f i)
theorem zaM (n : Nat) (f : Nat -> D) : (wL n f).length = n := by simp [wL]
theorem zar (f : Nat -> D) (h : i < n) : (wL n f)[i]? = some (f i) := by simp [wL, h]
theorem zeO (n : Nat) (f : Nat -> D) : wL (n + 1) f = wL n f ++ [f n] := by simp [wL, List.range_succ]
theorem zd9 {f g : Nat -> D} (h : ∀ i, i < n -> f i = g i) : wL n f = wL n g := List.map_congr_left fun i hi => h i (List.mem_range.mp hi)
theorem wL_snoc (n : Nat) (f : Nat -> D) (x : D) : wL n f ++ [x] = wL (n + 1) fun j => if j < n then f j else x := by
 rw [zeO]; congr 1
 ·exact zd9 fun i hi => by rw [if_pos hi]
 ·rw [if_neg (by omega)]
theorem wL_set (f : Nat -> D) (x : D) (h : i < n) : (wL n f).set i x = wL n fun j => if j = i then x else f j := by
 apply List.ext_getElem?
 intro j
 by_cases hj : j < n
 ·rw [zar _ hj, List.getElem?_set]
  by_cases e : i = j
  ·subst e; simp [zaM, h]
  ·simp [e, zar _ hj, Ne.symm e]
 ·rw [List.getElem?_eq_none (by simp [zaM]; omega), List.getElem?_eq_none (by simp [zaM]; omega)]
theorem ints_w (l : List Int) : l.map D.int = wI l.length fun i => l.getD i 0 := by
 apply List.ext_getElem?
 intro j
 by_cases hj : j < l.length
 ·simp [wL, hj]
 ·rw [List.getElem?_eq_none (by simp; omega), List.getElem?_eq_none (by simp [wL]; omega)]
theorem atI_w1 (f : Nat -> D) : atI (wL (n + 1) f) (-1) = some (f n) := by rw [zeO]; exact zmH _ _
theorem enumD_w (n : Nat) (f : Nat -> D) : zmn (wL n f) = wL n fun i => .tup [.int (i : Nat), f i] := by
 apply List.ext_getElem?
 intro j
 unfold zmn
 by_cases hj : j < n
 ·rw [List.getElem?_zipWith, zar _ hj, zar _ hj]
  simp [zaM, hj]
 ·rw [List.getElem?_eq_none (by simp [zaM]; omega), List.getElem?_eq_none (by simp [zaM]; omega)]
theorem zl9 (n : Nat) (f g : Nat -> D) : zmd (wL n f) (wL n g) = wL n fun i => .tup [f i, g i] := by
 apply List.ext_getElem?
 intro j
 unfold zmd
 by_cases hj : j < n
 ·rw [List.getElem?_zipWith, zar _ hj, zar _ hj, zar _ hj]
 ·rw [List.getElem?_eq_none (by simp [zaM]; omega), List.getElem?_eq_none (by simp [zaM]; omega)]
theorem zni {α : Type} (xs : List α) (i : Nat) : cutD xs none (some (i : Int)) = xs.take i := by
 unfold cutD
 rw [HT.zkG, HT.zkt, Nat.sub_zero, List.drop_zero]
 by_cases h : i <= xs.length
 ·rw [Nat.min_eq_left h]
 ·rw [Nat.min_eq_right (by omega), List.take_of_length_le (Nat.le_refl _), List.take_of_length_le (by omega)]
theorem ziD {α : Type} (xs : List α) (i : Nat) : cutD xs (some (i : Int)) none = xs.drop i := by
 unfold cutD
 rw [HT.zkG, HT.zkt]
 by_cases h : i <= xs.length
 ·rw [Nat.min_eq_left h, List.take_of_length_le (by simp)]
 ·rw [Nat.min_eq_right (by omega), List.drop_of_length_le (Nat.le_refl _), List.drop_of_length_le (by omega)]; simp
theorem zcI : ∀ (l : List Int), zcz (l.map .int) = some l
 | [] => rfl
 | i :: l => by simp [zcz, zcI l]
theorem zi4 (bt : Nat -> Nat -> Bool) : ∀ n, argBest bt n <= n
 | 0 => Nat.le_refl 0
 | n + 1 => by
  have := zi4 bt n
  unfold argBest
  split <;> omega
theorem zlr (lt : Int -> Int -> Bool) (h : ns ≠ []) : zje lt ns ∈ ns := by
 unfold zje
 have hl : 0 < ns.length := List.length_pos_iff.mpr h
 have := zi4 (fun i j => lt (ns.getD i 0) (ns.getD j 0)) (ns.length - 1)
 generalize argBest (fun i j => lt (ns.getD i 0) (ns.getD j 0)) (ns.length - 1) = k at *
 rw [List.getD_eq_getElem?_getD, List.getElem?_eq_getElem (by omega)]
 exact List.getElem_mem _
theorem zjH (lt : Int -> Int -> Bool) (h : ns ≠ []) : zof lt [.lst (ns.map .int)] = some (.int (zje lt ns)) := by
 have hne : ns.isEmpty = false := by cases ns with | nil => exact absurd rfl h | cons => rfl
 simp only [zof, zaW, Option.bind_some, zcI, hne]
 rfl
mutual
theorem zm0 : ∀ (d : D), noS d = true -> eqB d d = true
 | .non, _ => rfl
 | .bl b, _ => by simp [eqB]
 | .int i, _ => by simp [eqB]
 | .str s, _ => by simp [eqB]
 | .lst ds, h => by simp only [eqB]; exact ziP ds (by simpa [noS] using h)
 | .tup ds, h => by simp only [eqB]; exact ziP ds (by simpa [noS] using h)
 | .scr _, h => by simp [noS] at h
 | .exc _, h => by simp [noS] at h
theorem ziP : ∀ (ds : List D), noSL ds = true -> eqBL ds ds = true
 | [], _ => rfl
 | d :: ds, h => by
  simp only [noSL, Bool.and_eq_true] at h
  simp only [eqBL, Bool.and_eq_true]
  exact ⟨zm0 d h.1, ziP ds h.2⟩
end
theorem dNe_same (h : noS d = true) (k : depth d <= 50) : dNe d d = some (.bl false) := by simp [dNe, h, k, zm0 d h]
theorem zl6 : ∀ {ds : List D}, (∀ d ∈ ds, noS d = true) -> noSL ds = true
 | [], _ => rfl
 | d :: ds, h => by simp only [noSL, Bool.and_eq_true]; exact ⟨h d List.mem_cons_self, zl6 fun e he => h e (List.mem_cons_of_mem _ he)⟩
theorem zi9 {k : Nat} : ∀ {ds : List D}, (∀ d ∈ ds, depth d <= k) -> zgY ds <= k
 | [], _ => Nat.zero_le _
 | d :: ds, h => by simp only [zgY]; exact Nat.max_le.mpr ⟨h d List.mem_cons_self, zi9 fun e he => h e (List.mem_cons_of_mem _ he)⟩
def Pl (k : Nat) (d : D) : Prop := noS d = true /\ depth d <= k
theorem zjP (k : Nat) (i : Int) : Pl k (.int i) := ⟨rfl, Nat.zero_le _⟩
theorem pl_lst {k : Nat} (h : ∀ d ∈ ds, Pl k d) : Pl (k + 1) (.lst ds) := ⟨by simp only [noS]; exact zl6 fun d hd => (h d hd).1, by simp only [depth]; exact Nat.succ_le_succ (zi9 fun d hd => (h d hd).2)⟩
theorem zjK {k : Nat} (h : ∀ d ∈ ds, Pl k d) : Pl (k + 1) (.tup ds) := ⟨by simp only [noS]; exact zl6 fun d hd => (h d hd).1, by simp only [depth]; exact Nat.succ_le_succ (zi9 fun d hd => (h d hd).2)⟩
theorem pl_w {k n : Nat} {f : Nat -> D} (h : ∀ i, Pl k (f i)) : ∀ d ∈ wL n f, Pl k d := fun d hd => by
 obtain ⟨i, _, rfl⟩ := List.mem_map.mp hd; exact h i
theorem Pl.ne {k : Nat} (h : Pl k d) (l : k <= 50) : dNe d d = some (.bl false) := dNe_same h.1 (Nat.le_trans h.2 l)
theorem zmy (n : Nat) : zcq 0 n = wL n fun i => .int (i : Nat) := by unfold zcq wL; simp only [Int.zero_add]
theorem zf5 (lo : Int) (n : Nat) : zcq lo n = wL n fun i => .int (lo + (i : Nat)) := rfl
section
variable {n : Nat} {e : Nat -> D} {ρ : R}
theorem zbT {f : D -> R -> Option (Fl × R)} {Q : Fl × R -> Prop} (I : Nat -> R -> Prop) (h0 : I 0 ρ)
  (hs : ∀ i ρ, i < n -> I i ρ -> Ok (f (e i) ρ) (Turn (I (i + 1)) Q)) (hq : ∀ ρ, I n ρ -> Q (.next, ρ)) : Ok (forM f (wL n e) ρ) Q :=
 zpR (enc := e) (l := List.range n) I h0 (fun i a ρ hi h => by
  obtain ⟨h1, h2⟩ := List.getElem?_eq_some_iff.mp hi
  have : a = i := by simpa using h2.symm
  subst this
  exact hs a ρ (by simpa using h1) h) (fun ρ h => hq ρ (by simpa using h))
variable {f : D -> R -> Option (Option D × R)} {Q : List D × R -> Prop}
theorem zhL (I : Nat -> List D -> R -> Prop) (h0 : I 0 [] ρ)
  (hs : ∀ i acc ρ, i < n -> I i acc ρ -> Ok (f (e i) ρ) fun p => I (i + 1) (acc ++ p.1.toList) p.2) (hq : ∀ ds ρ, I n ds ρ -> Q (ds, ρ)) : Ok (zft f (wL n e) ρ) Q :=
 zmS (enc := e) (l := List.range n) I h0 (fun i a acc ρ hi h => by
  obtain ⟨h1, h2⟩ := List.getElem?_eq_some_iff.mp hi
  have : a = i := by simpa using h2.symm
  subst this
  exact hs a acc ρ (by simpa using h1) h) (fun ds ρ h => hq ds ρ (by simpa using h))
theorem zpM (P : R -> Prop) (g : Nat -> Option D) (h0 : P ρ)
  (hs : ∀ i ρ, i < n -> P ρ -> Ok (f (e i) ρ) fun p => p.1 = g i /\ P p.2) (hq : ∀ ρ, P ρ -> Q ((List.range n).filterMap g, ρ)) : Ok (zft f (wL n e) ρ) Q :=
 ziG (enc := e) (l := List.range n) P g h0 (fun a ρ ha hp => hs a ρ (List.mem_range.mp ha) hp) hq
theorem zaE (P : R -> Prop) (g : Nat -> D) (h0 : P ρ)
  (hs : ∀ i ρ, i < n -> P ρ -> Ok (f (e i) ρ) fun p => p.1 = some (g i) /\ P p.2) (hq : ∀ ρ, P ρ -> Q (wL n g, ρ)) : Ok (zft f (wL n e) ρ) Q :=
 zlR (enc := e) (l := List.range n) P g h0 (fun a ρ ha hp => hs a ρ (List.mem_range.mp ha) hp) hq
end
end M
namespace M
theorem zjh (n : Nat) (f : Nat -> Int) (x : Int) : wI n f ++ [.int x] = wI (n + 1) fun j => if j < n then f j else x := by
 rw [wI, wL_snoc]; exact zd9 fun j _ => by dsimp only; split <;> rfl
theorem zaY {j : Int} (h0 : 0 < j) (h1 : j < 1073741824) : znV j = true := by
 have h : j.natAbs.log2 < 9000 := by
  have : j.natAbs.log2 < 30 := (Nat.log2_lt (by omega)).mpr (by omega)
  omega
 unfold znV; rw [decide_eq_true h0, decide_eq_true h]; rfl
theorem zpn {j : Int} (h0 : 0 < j) (h1 : j < 2 ^ 250) : znV j = true := by
 have h : j.natAbs.log2 < 9000 := by
  have : j.natAbs.log2 < 250 := (Nat.log2_lt (by omega)).mpr (by omega)
  omega
 unfold znV; rw [decide_eq_true h0, decide_eq_true h]; rfl
theorem zo6 {n i : Nat} (f : Nat -> Int) (x : Int) (h : i < n) : (wI n f).set i (.int x) = wI n fun j => if j = i then x else f j := by
 rw [wI, wL_set _ _ h]; exact zd9 fun j _ => by dsimp only; split <;> rfl
theorem isN_non : isN .non = true := rfl
theorem isN_int (i : Int) : isN (.int i) = false := rfl
theorem isN_bl (b : Bool) : isN (.bl b) = false := rfl
theorem isN_str (s : PySem.Str) : isN (.str s) = false := rfl
theorem isN_lst (ds : List D) : isN (.lst ds) = false := rfl
theorem isN_tup (ds : List D) : isN (.tup ds) = false := rfl
end M
namespace M
open L2 PySem
variable {s i c N : Nat} {Q : Fl × R -> Prop} {f g : Nat -> Int} {v : Int} {F : List D -> List D -> Option (Sl × List D)} {ma : MA} {ds : List D} {tab : List (Str × Int)}
theorem dItems_l (ds : List D) : zaW [.lst ds] = some ds := rfl
theorem dItems_t (ds : List D) : zaW [.tup ds] = some ds := rfl
theorem dItems_s (ns : List Int) : zaW [.scr ns] = some (ns.map .int) := rfl
theorem dLen_l (ds : List D) : dLen [.lst ds] = some (.int ds.length) := rfl
theorem dLen_t (ds : List D) : dLen [.tup ds] = some (.int ds.length) := rfl
theorem dLen_s (ns : List Int) : dLen [.scr ns] = some (.int ns.length) := rfl
theorem dTuple_l (ds : List D) : zcw [.lst ds] = some (.tup ds) := rfl
theorem dTuple_t (ds : List D) : zcw [.tup ds] = some (.tup ds) := rfl
theorem dTuple_s (ns : List Int) : zcw [.scr ns] = some (.tup (ns.map .int)) := rfl
theorem dCut_l (ds : List D) (a b : Option Int) : dCut (.lst ds) a b = some (.lst (cutD ds a b)) := rfl
theorem dCut_t (ds : List D) (a b : Option Int) : dCut (.tup ds) a b = some (.tup (cutD ds a b)) := rfl
theorem dCut_s (ns : List Int) (a b : Option Int) : dCut (.scr ns) a b = some (.lst ((cutD ns a b).map .int)) := rfl
theorem dIx_l (ds : List D) (i : Int) : dIx (.lst ds) (.int i) = atI ds i := rfl
theorem dIx_t (ds : List D) (i : Int) : dIx (.tup ds) (.int i) = atI ds i := rfl
theorem dIx_s (ns : List Int) (i : Int) : dIx (.scr ns) (.int i) = (atI ns i).map .int := rfl
theorem dEq_str (a b : Str) : dEq (.str a) (.str b) = some (.bl (a == b)) := by
 unfold dEq
 rw [show noS (.str a) = true from rfl, show noS (.str b) = true from rfl, show depth (.str a) = 0 from rfl]
 rfl
theorem zip3D_w (n : Nat) (f g h : Nat -> D) : zl4 (wL n f) (wL n g) (wL n h) = wL n fun i => .tup [f i, g i, h i] := by
 apply List.ext_getElem?
 intro j
 unfold zl4
 by_cases hj : j < n
 ·have e : (List.zip (wL n g) (wL n h))[j]? = some (g j, h j) := by
   rw [List.getElem?_zip_eq_some]; exact ⟨zar g hj, zar h hj⟩
  rw [List.getElem?_zipWith, e, zar _ hj, zar _ hj]
 ·rw [List.getElem?_eq_none (by simp [zaM]; omega), List.getElem?_eq_none (by simp [zaM]; omega)]
structure Sq (d : D) (n : Nat) (f : Nat -> Int) : Prop where
 it : zaW [d] = some (wI n f)
 ln : dLen [d] = some (.int n)
 tp : zcw [d] = some (.tup (wI n f))
 ix : ∀ i, dIx d (.int i) = atI (wI n f) i
 ct : ∀ lo hi, ∃ d', dCut d lo hi = some d' /\ zaW [d'] = some (cutD (wI n f) lo hi)
theorem Sq.lst (n : Nat) (f : Nat -> Int) : Sq (.lst (wI n f)) n f := ⟨rfl, by rw [dLen_l, zaM], rfl, fun _ => rfl, fun lo hi => ⟨_, rfl, rfl⟩⟩
theorem Sq.tup (n : Nat) (f : Nat -> Int) : Sq (.tup (wI n f)) n f := ⟨rfl, by rw [dLen_t, zaM], rfl, fun _ => rfl, fun lo hi => ⟨_, rfl, rfl⟩⟩
def eqW (s : Nat) (a b : Nat -> Int) : Bool := (List.range s).map a == (List.range s).map b
theorem zky : ∀ (xs ys : List Int), eqBL (xs.map D.int) (ys.map D.int) = (xs == ys)
 | [], [] => rfl
 | [], _ :: _ => rfl
 | _ :: _, [] => rfl
 | x :: xs, y :: ys => by simp [eqBL, eqB, zky xs ys]
theorem zmJ (n : Nat) (f : Nat -> Int) : wI n f = ((List.range n).map f).map .int := by simp [wL, List.map_map, Function.comp_def]
theorem dEq_wt (s : Nat) (a b : Nat -> Int) : dEq (.tup (wI s a)) (.tup (wI s b)) = some (.bl (eqW s a b)) := by
 have p1 : Pl 1 (.tup (wI s a)) := zjK (pl_w fun c => zjP 0 _)
 have p2 : Pl 1 (.tup (wI s b)) := zjK (pl_w fun c => zjP 0 _)
 unfold dEq
 rw [p1.1, p2.1, decide_eq_true (Nat.le_trans p1.2 (by decide : 1 <= 50))]
 simp only [Bool.and_self, if_true, eqB]
 rw [zmJ, zmJ, zky]; rfl
theorem dNe_wt (s : Nat) (a b : Nat -> Int) : dNe (.tup (wI s a)) (.tup (wI s b)) = some (.bl (!eqW s a b)) := by
 have p1 : Pl 1 (.tup (wI s a)) := zjK (pl_w fun c => zjP 0 _)
 have p2 : Pl 1 (.tup (wI s b)) := zjK (pl_w fun c => zjP 0 _)
 unfold dNe
 rw [p1.1, p2.1, decide_eq_true (Nat.le_trans p1.2 (by decide : 1 <= 50))]
 simp only [Bool.and_self, if_true, eqB]
 rw [zmJ, zmJ, zky]; rfl
theorem eqW_iff {a b : Nat -> Int} : eqW s a b = true ↔ ∀ i, i < s -> a i = b i := by
 unfold eqW
 rw [beq_iff_eq]
 constructor
 ·intro h i hi
  have := congrArg (fun l => l[i]?) h
  simpa [hi] using this
 ·intro h
  exact List.map_congr_left fun i hi => h i (List.mem_range.mp hi)
theorem zeD (n : Nat) (b : Nat -> Bool) : zeV (wL n fun i => .bl (b i)) = some ((List.range n).map b) := by
 have : ∀ l : List Nat, zeV (l.map fun i => D.bl (b i)) = some (l.map b) := by
  intro l
  induction l with
  | nil => rfl
  | cons a l ih => simp [zeV, ih]
 exact this _
theorem all_w (n : Nat) (b : Nat -> Bool) : (((List.range n).map b).all id = true) ↔ ∀ i, i < n -> b i = true := by simp
theorem any_w (n : Nat) (b : Nat -> Bool) : (((List.range n).map b).any id = true) ↔ ∃ i, i < n /\ b i = true := by simp
theorem ok_sExt {m : ME} {ρ : R} : Ok (sExt i m ρ) Q = Ok (if (ρ[i]?.bind Sl.items).isSome then (m ρ).bind fun p => p.2[i]?.bind fun s => s.items.bind fun ds => match p.1 with
 | .lst es => if ds.length + es.length <= 16777216 then some (.next, p.2.set i (s.put (ds ++ es))) else none
 | _ => none else none) Q := rfl
theorem zcY {j n m i : Nat} (hm : 0 < m) : i < cntS (j : Int) (n : Int) (m : Int) ↔ j + i * m < n := by
 unfold cntS
 by_cases h : (j : Int) < (n : Int)
 ·rw [if_pos h]
  have e : ((n : Int) - (j : Int) - 1) / (m : Int) = (((n - j - 1) / m : Nat) : Int) := by
   rw [Int.natCast_ediv]; congr 1; omega
  have e2 : ∀ q : Nat, ((q : Int) + 1).toNat = q + 1 := fun q => by omega
  rw [e, e2, Nat.lt_succ_iff, Nat.le_div_iff_mul_le hm]
  omega
 ·rw [if_neg h]
  constructor
  ·intro h; omega
  ·intro h; omega
theorem zoX {α β : Type} {h : α -> Option β} {g : α -> β} : ∀ (l : List α), (∀ a ∈ l, h a = some (g a)) -> l.filterMap h = l.map g
 | [], _ => rfl
 | a :: l, e => by rw [List.filterMap_cons, e a List.mem_cons_self, List.map_cons, zoX l fun b hb => e b (List.mem_cons_of_mem _ hb)]
theorem zlv {n j m : Nat} (f : Nat -> D) (hm : 0 < m) (hj : j < n) : zdN (wL n f) (some (j : Int)) none (some (m : Int)) = wL (cntS (j : Int) (n : Int) (m : Int)) fun i => f (j + i * m) := by
 have hb : sliceBounds (some (j : Int)) none (some (m : Int)) n = ((j : Int), (n : Int), (m : Int)) := by
  have : (m : Int) > 0 := by omega
  simp [sliceBounds, this]
  omega
 unfold zdN
 rw [zaM, hb]
 unfold sliceRange
 have h1 : (m : Int) > 0 := by omega
 have h2 : (j : Int) < (n : Int) := by omega
 simp only [h1, h2, if_true]
 have ec : (((n : Int) - (j : Int) + (m : Int) - 1) / (m : Int)).toNat = cntS (j : Int) (n : Int) (m : Int) := by
  unfold cntS
  rw [if_pos h2, show ((n : Int) - (j : Int) + (m : Int) - 1) = ((n : Int) - (j : Int) - 1) + (m : Int) by omega, Int.add_ediv_of_dvd_right (Int.dvd_refl _), Int.ediv_self (by omega)]
 rw [ec]
 rw [List.filterMap_map]
 apply zoX
 intro i hi
 have hi : j + i * m < n := (zcY hm).mp (List.mem_range.mp hi)
 have ht : ((j : Int) + (m : Int) * (i : Int)).toNat = j + i * m := by
  rw [show ((j : Int) + (m : Int) * (i : Int)) = ((j + i * m : Nat) : Int) by push_cast; rw [Int.mul_comm]]; omega
 simp only [Function.comp_def, ht]
 exact zar f hi
def sumR : Nat -> (Nat -> Int) -> Int
 | 0, _ => 0
 | n + 1, f => sumR n f + f n
theorem zaq : ∀ {n : Nat}, (∀ i, i < n -> f i = g i) -> sumR n f = sumR n g
 | 0, _ => rfl
 | n + 1, h => by rw [sumR, sumR, zaq fun i hi => h i (by omega), h n (by omega)]
theorem ziA (f g : Nat -> Int) : ∀ n, sumR n (fun i => f i + g i) = sumR n f + sumR n g
 | 0 => rfl
 | n + 1 => by simp only [sumR, ziA f g n]; omega
theorem zmC (f g : Nat -> Int) : ∀ n, sumR n (fun i => f i - g i) = sumR n f - sumR n g
 | 0 => rfl
 | n + 1 => by simp only [sumR, zmC f g n]; omega
theorem zi1 : ∀ n, sumR n (fun _ => 0) = 0
 | 0 => rfl
 | n + 1 => by simp only [sumR, zi1 n]; omega
theorem ziC (a : Int) (f : Nat -> Int) : ∀ n, sumR n (fun i => a * f i) = a * sumR n f
 | 0 => by simp [sumR]
 | n + 1 => by simp only [sumR, ziC a f n, Int.mul_add]
theorem ze3 : ∀ {n : Nat}, (∀ i, i < n -> f i <= g i) -> sumR n f <= sumR n g
 | 0, _ => Int.le_refl _
 | n + 1, h => by
  have h1 := ze3 (n := n) fun i hi => h i (by omega)
  have h2 := h n (by omega)
  simp only [sumR]; omega
theorem za9 (f : Nat -> Int) (a : Nat) : ∀ b, sumR (a + b) f = sumR a f + sumR b fun i => f (a + i)
 | 0 => by simp [sumR]
 | b + 1 => by rw [show a + (b + 1) = a + b + 1 by omega, sumR, sumR, za9 f a b]; omega
theorem za1 (f : Nat -> Int) : ∀ n, ((List.range n).map f).sum = sumR n f
 | 0 => rfl
 | n + 1 => by simp [List.range_succ, za1 f n, sumR]
theorem zbf (n : Nat) (f : Nat -> Int) : zcz (wI n f) = some ((List.range n).map f) := by
 have : wI n f = ((List.range n).map f).map .int := by simp [wL, List.map_map, Function.comp_def]
 rw [this, zcI]
theorem cut_w {n a b : Nat} (f : Nat -> D) (h : a + b <= n) : cutD (wL n f) (some (a : Int)) (some ((a : Int) + (b : Int))) = wL b fun i => f (a + i) := by
 have e : cutD (wL n f) (some (a : Int)) (some ((a : Int) + (b : Int))) = ((wL n f).drop a).take b := by
  unfold cutD
  rw [HT.zkG, show ((a : Int) + (b : Int)) = ((a + b : Nat) : Int) by omega, HT.zkG, zaM]
  rw [Nat.min_eq_left h, Nat.min_eq_left (by omega : a <= n), Nat.add_sub_cancel_left]
 rw [e]
 apply List.ext_getElem?
 intro j
 by_cases hj : j < b
 ·rw [List.getElem?_take_of_lt hj, List.getElem?_drop, zar _ (by omega), zar _ hj]
 ·rw [List.getElem?_eq_none (by simp [zaM]; omega), List.getElem?_eq_none (by rw [zaM]; omega)]
theorem zgn (v : Nat -> Int) : ∀ n i, i <= n -> v i <= v (argBest (fun i j => decide (v i > v j)) n)
 | 0, i, h => by rw [show i = 0 by omega]; exact Int.le_refl _
 | n + 1, i, h => by
  simp only [argBest]
  by_cases c : v (n + 1) > v (argBest (fun i j => decide (v i > v j)) n)
  ·rw [if_pos (decide_eq_true c)]
   by_cases e : i = n + 1
   ·rw [e]; exact Int.le_refl _
   ·have := zgn v n i (by omega); omega
  ·rw [if_neg (by simpa using c)]
   by_cases e : i = n + 1
   ·rw [e]; omega
   ·exact zgn v n i (by omega)
theorem zfP (v : Nat -> Int) : ∀ n i, i <= n -> v (argBest (fun i j => decide (v i < v j)) n) <= v i
 | 0, i, h => by rw [show i = 0 by omega]; exact Int.le_refl _
 | n + 1, i, h => by
  simp only [argBest]
  by_cases c : v (n + 1) < v (argBest (fun i j => decide (v i < v j)) n)
  ·rw [if_pos (decide_eq_true c)]
   by_cases e : i = n + 1
   ·rw [e]; exact Int.le_refl _
   ·have := zfP v n i (by omega); omega
  ·rw [if_neg (by simpa using c)]
   by_cases e : i = n + 1
   ·rw [e]; omega
   ·exact zfP v n i (by omega)
theorem zmU (g : Nat -> Int) (h : i < c) : ((List.range c).map g).getD i 0 = g i := by
 rw [List.getD_eq_getElem?_getD]; simp [h]
theorem max_w (g : Nat -> Int) (hc : 0 < c) : ∃ v, zfE [.lst (wI c g)] = some (.int v) /\ (∃ i, i < c /\ g i = v) /\ ∀ i, i < c -> g i <= v := by
 have hne : (List.range c).map g ≠ [] := fun h => by have := congrArg List.length h; simp at this; omega
 have e1 : wI c g = ((List.range c).map g).map .int := by simp [wL, List.map_map, Function.comp_def]
 refine ⟨_, by rw [e1]; exact zjH _ hne, ?_, ?_⟩
 ·obtain ⟨i, hi, e⟩ := List.mem_map.mp (zlr (fun i j => decide (i > j)) hne)
  exact ⟨i, List.mem_range.mp hi, e⟩
 ·intro i hi
  have := zgn (fun i => ((List.range c).map g).getD i 0) (c - 1) i (by omega)
  rw [zmU g hi] at this
  unfold zje
  rw [List.length_map, List.length_range]
  exact this
theorem min_w (g : Nat -> Int) (hc : 0 < c) : ∃ v, zhH [.lst (wI c g)] = some (.int v) /\ (∃ i, i < c /\ g i = v) /\ ∀ i, i < c -> v <= g i := by
 have hne : (List.range c).map g ≠ [] := fun h => by have := congrArg List.length h; simp at this; omega
 have e1 : wI c g = ((List.range c).map g).map .int := by simp [wL, List.map_map, Function.comp_def]
 refine ⟨_, by rw [e1]; exact zjH _ hne, ?_, ?_⟩
 ·obtain ⟨i, hi, e⟩ := List.mem_map.mp (zlr (fun i j => decide (i < j)) hne)
  exact ⟨i, List.mem_range.mp hi, e⟩
 ·intro i hi
  have := zfP (fun i => ((List.range c).map g).getD i 0) (c - 1) i (by omega)
  rw [zmU g hi] at this
  unfold zje
  rw [List.length_map, List.length_range]
  exact this
theorem max_pick (f : Nat -> Int) {n m j : Nat} (hm : 0 < m) (hj : j < m) (hn : m <= n) : ∃ v, zfE [.lst (zdN (wI n f) (some (j : Int)) none (some (m : Int)))] = some (.int v) /\ (∃ p, p < n /\ p % m = j /\ f p = v) /\ ∀ p, p < n -> p % m = j -> f p <= v := by
 rw [wI, zlv _ hm (by omega)]
 obtain ⟨v, e, ⟨i, hi, ei⟩, h⟩ := max_w (fun i => f (j + i * m)) (c := cntS (j : Int) (n : Int) (m : Int)) ((zcY hm).mpr (by omega))
 refine ⟨v, e, ⟨j + i * m, (zcY hm).mp hi, by rw [Nat.add_mul_mod_self_right, Nat.mod_eq_of_lt hj], ei⟩, fun p hp hpm => ?_⟩
 have e2 : j + p / m * m = p := by have := Nat.mod_add_div p m; rw [Nat.mul_comm]; omega
 have := h (p / m) ((zcY hm).mpr (by omega))
 rw [e2] at this
 exact this
theorem min_pick (f : Nat -> Int) {n m j : Nat} (hm : 0 < m) (hj : j < m) (hn : m <= n) : ∃ v, zhH [.lst (zdN (wI n f) (some (j : Int)) none (some (m : Int)))] = some (.int v) /\ (∃ p, p < n /\ p % m = j /\ f p = v) /\ ∀ p, p < n -> p % m = j -> v <= f p := by
 rw [wI, zlv _ hm (by omega)]
 obtain ⟨v, e, ⟨i, hi, ei⟩, h⟩ := min_w (fun i => f (j + i * m)) (c := cntS (j : Int) (n : Int) (m : Int)) ((zcY hm).mpr (by omega))
 refine ⟨v, e, ⟨j + i * m, (zcY hm).mp hi, by rw [Nat.add_mul_mod_self_right, Nat.mod_eq_of_lt hj], ei⟩, fun p hp hpm => ?_⟩
 have e2 : j + p / m * m = p := by have := Nat.mod_add_div p m; rw [Nat.mul_comm]; omega
 have := h (p / m) ((zcY hm).mpr (by omega))
 rw [e2] at this
 exact this
theorem znu (f : Nat -> Int) {n m j : Nat} (hm : 0 < m) (hj : j < m) (h : ∃ p, p < n /\ p % m = j /\ f p = v) : ∃ i : Nat, zlK (.lst (zdN (wI n f) (some (j : Int)) none (some (m : Int)))) (.int v) = some (.int i) /\ j + i * m < n /\ f (j + i * m) = v := by
 obtain ⟨p, hp, hpm, hv⟩ := h
 have hjn : j < n := by have := Nat.mod_le p m; omega
 rw [wI, zlv _ hm hjn]
 have e2 : j + p / m * m = p := by have := Nat.mod_add_div p m; rw [Nat.mul_comm]; omega
 have hc : p / m < cntS (j : Int) (n : Int) (m : Int) := (zcY hm).mpr (by omega)
 have mem : v ∈ (List.range (cntS (j : Int) (n : Int) (m : Int))).map fun i => f (j + i * m) := List.mem_map.mpr ⟨p / m, List.mem_range.mpr hc, by rw [e2]; exact hv⟩
 have e3 : zcz (wL (cntS (j : Int) (n : Int) (m : Int)) fun i => D.int (f (j + i * m))) = some ((List.range (cntS (j : Int) (n : Int) (m : Int))).map fun i => f (j + i * m)) := zbf _ fun i => f (j + i * m)
 have hl := List.idxOf_lt_length_iff.mpr mem
 have hg := List.getElem_idxOf hl
 refine ⟨List.idxOf v ((List.range (cntS (j : Int) (n : Int) (m : Int))).map fun i => f (j + i * m)), by simp only [zlK, e3, Option.bind_some, mem, if_true], ?_, ?_⟩
 ·exact (zcY hm).mp (by simpa using hl)
 ·rw [List.getElem_map, List.getElem_range] at hg
  exact hg
theorem ziE {mc : MT} {mb : MS} (I : Nat -> R -> Prop) (turn : ∀ m ρ, I m ρ -> Ok (mc ρ) fun p => (p.1 = true -> ∃ m', m = m' + 1 /\ Ok (mb p.2) fun q => q.1 = .next /\ I m' q.2) /\ (p.1 = false -> Q (.next, p.2))) : ∀ (fuel m : Nat) (ρ : R), m < fuel -> I m ρ -> Ok (zgG mc mb fuel ρ) Q
 | 0, m, ρ, h, _ => by omega
 | n + 1, m, ρ, h, hI => by
  obtain ⟨⟨b, ρ1⟩, e, h1, h2⟩ := turn m ρ hI
  unfold zgG
  rw [e]
  cases b with
  | false => exact ok_some.mpr (h2 rfl)
  | true =>
   obtain ⟨m', rfl, ⟨f, ρ2⟩, e2, ef, hI2⟩ := h1 rfl
   show Ok ((mb ρ1).bind _) Q
   rw [e2]
   cases (show f = .next from ef)
   exact ziE I turn n m' ρ2 (by omega) hI2
theorem like_par (ns : List Int) : likeS (.par (ns.map .int)) (.par (ns.map .int)) = true := by
 show (match zcz (ns.map D.int), zcz (ns.map D.int) with
  | some a, some b => a == b
  | _, _ => false) = true
 rw [zcI]; exact beq_self_eq_true ns
section
variable {j : Nat} {mk me : ME} {ρ : R}
theorem ok_tDI {neg : Bool} {Q : Bool × R -> Prop} : Ok (tDI j neg mk ρ) Q ↔ Ok (mk ρ) fun p => Ok (match p.1 with
 | .int k => (p.2[j]?.bind Sl.dic).map fun q => (((lkD q.1 q.2 k).isSome != neg), p.2)
 | _ => none) Q := ok_bind
theorem ok_eDG {Q : D × R -> Prop} : Ok (eDG j mk ρ) Q = Ok (if (ρ[j]?.bind Sl.dic).isSome then (mk ρ).bind fun p => match p.1 with
 | .int k => (p.2[j]?.bind Sl.dic).bind fun q => (lkD q.1 q.2 k).map fun d => (d, p.2)
 | _ => none else none) Q := rfl
theorem ok_sDP : Ok (sDP j mk me ρ) Q = Ok ((me ρ).bind fun p => if (p.2[j]?.bind Sl.dic).isSome then (mk p.2).bind fun q => match q.1 with
 | .int k => q.2[j]?.bind fun s => match s.tree with
  | some (.dic ks ds) => if ks.length < 16777216 then some (.next, q.2.set j (s.putT (.dic (ptD ks ds k p.1).1 (ptD ks ds k p.1).2))) else none
  | _ => none
 | _ => none else none) Q := rfl
theorem ok_sDN : Ok (sDN j ρ) Q ↔ Q (.next, ρ.set j (.tre (.dic [] []))) := ok_some
theorem ok_sFzD {m : MS} : Ok (sFzD j m ρ) Q = Ok (m (fzD j ρ)) Q := rfl
theorem znM {mo : MO} {Q : D × R -> Prop} : Ok (zl0 F mo ma ρ) Q = Ok ((mo ρ).bind fun p => (ma p.2).bind fun q => (F p.1 q.1).bind fun r => match r.1 with
 | .val d => some (d, q.2)
 | .own ds => some (.lst ds, q.2)
 | _ => none) Q := rfl
theorem ok_fMT {m : MS} {cs : List D} {t : T} {Q : Sl × List D -> Prop} : Ok (fMT N m cs t ds) Q = Ok ((m (.par cs :: .tre t :: (ds.map .val ++ List.replicate (N - (ds.length + 2)) .emp))).bind fun p => match p.1, (p.2[0]? : Option Sl) with
 | Fl.ret r, some (Sl.par out) => some (r, out)
 | Fl.next, some (Sl.par out) => some (.val .non, out)
 | _, _ => none) Q := rfl
theorem ok_eSG {df : Int} {Q : D × R -> Prop} : Ok (eSG tab df me ρ) Q ↔ Ok (me ρ) fun p => Ok (match p.1 with
 | .str s => some (.int ((tab.lookup s).getD df), p.2)
 | _ => none) Q := ok_bind
theorem ok_sPar : Ok (sPar i j ma ρ) Q = Ok ((ma ρ).bind fun p => match p.1 with
 | [c, d] => some (.next, (p.2.set i (.val c)).set j (.val d))
 | _ => none) Q := rfl
end
end M
local macro_rules | `(tactic| simp! only [$ls,*]) => `(tactic| simp only [↓M.ok_sIf, ↓M.ok_eIf, ↓M.ok_tAnd, ↓M.ok_tOr, ↓M.ok_eAnd, ↓M.ok_eOr, ↓M.ok_chain, ↓M.ok_turnM, ↓M.ok_turnP, ↓M.ok_bind, ↓M.ok_map, ↓M.ziK, ↓M.ok_some, ↓M.ok_sNext, ↓M.ok_sSeq, ↓M.ok_sRet, ↓M.ok_sRetO, ↓M.ok_sRetV, ↓M.ok_gN, ↓M.ok_gsNil, ↓M.zot, ↓M.ok_gT, ↓M.ok_sAsg, ↓M.ok_sSet, ↓M.ok_sSetO, ↓M.ok_sApp, ↓M.ok_sPut, ↓M.ok_eC, ↓M.ok_eVar, ↓M.ok_aNil, ↓M.ok_aCons, ↓M.ok_m2, ↓M.ok_m1, ↓M.ok_mC, ↓M.ok_eIxV, ↓M.ok_eLenV, ↓M.ok_oC, ↓M.ok_eTup, ↓M.ok_oLst, ↓M.ok_tTru, ↓M.ok_tNotM, ↓M.ok_eCall, ↓M.ok_oCall, ↓M.zpf, ↓M.ok_eFz, ↓M.ok_eCut, ↓M.ok_pNo, ↓M.ok_pSome, ↓M.ok_iSeq, ↓M.ok_iR1, ↓M.ok_iR2, ↓M.ok_sFor, ↓M.ok_oLC, ↓M.ok_oR, ↓M.ok_tTrue, ↓M.ok_eIsI, ↓M.ok_fP, ↓M.ok_fM, ↓M.ok_sAugI, ↓M.ok_eCutS, ↓M.ok_iR3, ↓M.ok_oRep, ↓M.ok_iZ2, ↓M.ok_iZ3, ↓M.ok_iEn, ↓M.ok_oLCM, ↓M.ok_sExt, ↓M.ok_iR2L, ↓M.ok_tDI, ↓M.ok_eDG, ↓M.ok_sDP, ↓M.ok_sDN, ↓M.ok_sFzD, ↓M.znM, ↓M.ok_eSG, ↓M.ok_fMT, ↓M.ok_sPar, M.dI2, M.dSub, M.dDiv, M.dMod, M.dPow, M.dLt, M.dLe, M.dGt, M.dGe, M.dNeg, M.dMul, M.dAdd, M.dTru, M.dNot, M.Sl.read, M.Sl.items, M.Sl.put, M.hasV, M.zgC, M.fz1, M.fzL, M.capS, M.capR, M.eIsI.noS1, M.okT, M.isI, M.d2I, M.dSum, M.dAll, M.zfE, M.zhH, M.dIsN, M.zlp, M.zl5, M.zpu, M.fzD, M.putCs, M.Ch.sl, M.Sl.dic, M.Sl.tree, M.Sl.putT, M.fzT, M.Ch.D, M.zpK, M.seqK_ret, M.seqK_brk, M.zo3, M.zn9, M.zpy, M.turn_brk, M.turn_ret, List.getElem?_cons_zero, List.getElem?_cons_succ, List.set_cons_zero, List.set_cons_succ, Option.bind_some, Option.isSome_some, Option.map_some, if_true, List.map_cons, List.map_nil, List.replicate_succ, List.replicate_zero, List.length_cons, List.length_nil, List.cons_append, List.nil_append, List.all_cons, List.all_nil, Bool.and_true, Bool.true_and, Bool.and_self, Bool.true_eq_false, Bool.false_eq_true, if_false, M.dEq_int, M.dNe_int, List.length_map, List.length_append, M.atI_n, M.atI_lit, M.ixN_n, M.ixN_lit, M.atI_n1, M.ok_none, M.dItems_l, M.dItems_t, M.dItems_s, M.dLen_l, M.dLen_t, M.dLen_s, M.dTuple_l, M.dTuple_t, M.dTuple_s, M.dCut_l, M.dCut_t, M.dCut_s, M.dIx_l, M.dIx_t, M.dIx_s, M.dEq_str, M.zip3D_w, M.isN_non, M.isN_int, M.isN_bl, M.isN_str, M.isN_lst, M.isN_tup, M.zcI, Int.toNat_natCast, M.zmy, M.zaM, decide_eq_true_eq, Bool.and_eq_true, true_and, and_true, Nat.reduceAdd, Nat.reduceLeDiff, Int.reduceLT, Int.reduceLE, Int.reduceNeg, Nat.reduceSub, Int.reducePow, Int.reduceMul, Int.reduceAdd, Int.reduceSub, Int.reduceMod, Int.reduceDiv, Nat.reduceLT, Nat.reduceBNe, Nat.reduceEqDiff, List.filter_cons, List.filter_nil, bne_self_eq_false, Int.reduceToNat, Nat.reducePow, M.zny, Int.reduceEq, Int.reduceBEq, Int.reduceBNe, Nat.reduceMod, decide_true, decide_false, beq_iff_eq, beq_eq_false_iff_ne, bne_iff_ne, bne_eq_false_iff_eq, decide_eq_false_iff_not, Int.not_le, Int.not_lt, ne_eq, forall_const, true_implies, false_implies, reduceCtorEq, imp_self, implies_true, M.D.bl.injEq, exists_eq_left', Bool.not_true, Bool.not_false, $ls,*])
namespace Prf
open L2 M PySem
def top (i : Nat) : Stmt := PySem.Challenge.pw_tellsum_k30_small_rings_by_all.main.body.getD i (.Pass ⟨0, 0, 0, 0⟩)
structure BN (K : W.Frag) (mg : Str -> Option Value) : Prop where
 all' : mg "all" = none
 any' : mg "any" = none
 bool' : mg "bool" = none
 enumerate' : mg "enumerate" = none
 int' : mg "int" = none
 isinstance' : mg "isinstance" = none
 len' : mg "len" = none
 list' : mg "list" = none
 max' : mg "max" = none
 min' : mg "min" = none
 range' : mg "range" = none
 str' : mg "str" = none
 sum' : mg "sum" = none
 tuple' : mg "tuple" = none
 zip' : mg "zip" = none
section
variable {P : Program} {w : World} {K : W.Frag} {mg : Str -> Option Value} {base hp : Heap} {f : Addr} {fd : FuncData} (X : K.In hp) (G : hp.Ns mainGlobals mg) (bn : BN K mg)
include X G bn
abbrev zhK : Stmt := top 5
def zfM : ME :=
 (m2 dSub (eVar 0) (eVar 1))
def zgb : MO :=
 oLC [] 2 (iZ2 (zag (eVar 0) (zag (eVar 1) aNil))) (gT 2 (zaz (gN 0) (zaz (gN 1) zdW))) zbM zfM
def zf8 : MS :=
 (zjm zgb)
def zbz : List D -> Option Sl := fP 2 zf8
theorem zki  (h : FnAt K "less_mores" zhK) : FD P w K mg base 1 "less_mores" (spP K 2 zbz) :=
 fdP (N := ["bounds", "mores"]) (k := 0) (m := zf8) X G h fun _ _ _ _ _ _ _ hr nd => (zak (zfD (zcO [] 2 ["bound", "more"] rfl (zjY bn.zip' (zaa (zab 0) (zaa (zab 1) zae))) (fun C s H fp => (zcd rfl (zan (zal 0 ndk) (zan (zal 1 ndk) zbl)))) (fun C s H fp => zaF) (fun C s H fp => (zbp (zab 0) (zab 1))))))
abbrev zhG : Stmt := top 6
def zgl : ME :=
 (eTup (zag (mC zfE (zag (zpm (eVar 0) (zdH (eVar 3)) pNo (zdH (eVar 1))) aNil)) (zag (mC zhH (zag (zpm (eVar 2) (zdH (eVar 3)) pNo (zdH (eVar 1))) aNil)) aNil)))
def zfV : MO :=
 oLC [0, 2, 1] 1 (iR1 (zag (eVar 2) aNil)) (gN 3) zbM zgl
def zfG : MS :=
 (zjm zfV)
def zbD : List D -> Option Sl := fP 3 zfG
theorem zkq  (h : FnAt K "head_spans" zhG) : FD P w K mg base 1 "head_spans" (spP K 3 zbD) :=
 fdP (N := ["lows", "highs", "many"]) (k := 0) (m := zfG) X G h fun _ _ _ _ _ _ _ hr nd => (zak (zfD (zcO [0, 2, 1] 1 ["lows", "many", "highs", "j"] rfl (zaG bn.range' (zaa (zab 2) zae)) (fun C s H fp => (zal 3 ndk)) (fun C s H fp => zaF) (fun C s H fp => (zcn (zaa (zi5 rfl bn.max' (zaa (zlZ (zab 0) (zbe (zab 3)) zgE (zbe (zab 1))) zae)) (zaa (zkh rfl bn.min' (zaa (zlZ (zab 2) (zbe (zab 3)) zgE (zbe (zab 1))) zae)) zae)))))))
abbrev zfv : Stmt := top 7
def zey : ME :=
 (m2 dAdd (eIxV 0 (m2 dMod (eVar 2) (eVar 1))) (eVar 3))
def zeJ : MO :=
 oLC [0, 2] 2 (iEn (zag (eVar 1) aNil)) (gT 2 (zaz (gN 2) (zaz (gN 3) zdW))) zbM zey
def zet : MS :=
 (sSeq (sSet 2 (zbv 0))
  (sRet (mC zcw (zag (eFz zeJ) aNil))))
def zbd : List D -> Option Sl := fP 3 zet
theorem ziL  (h : FnAt K "row_by_heads" zfv) : FD P w K mg base 1 "row_by_heads" (spP K 2 zbd) :=
 fdP (N := ["heads", "mores", "many"]) (k := 0) (m := zet) X G h fun _ _ _ _ _ _ _ hr nd => (zad (zap 2 (zaB 0 bn.len') nd)
  (zak (zas (zcm bn.tuple' (zaa (SO.se (zcO [0, 2] 2 ["heads", "many", "place", "more"] rfl (zjZ bn.enumerate' (zaa (zab 1) zae)) (fun C s H fp => (zcd rfl (zan (zal 2 ndk) (zan (zal 3 ndk) zbl)))) (fun C s H fp => zaF) (fun C s H fp => (zaU (zai 0 (zbx (zab 2) (zab 1))) (zab 3))))) zae)))))
abbrev ze9 : Stmt := top 8
def zeg : ME :=
 (m2 dAdd (eVar 3) (m2 dMul (eVar 0) (m2 zlK (zpm (eVar 1) (zdH (eVar 3)) pNo (zdH (eVar 0))) (eIxV 2 (eVar 3)))))
def zd6 : MO :=
 oLC [2, 0, 1] 1 (iR1 (zag (eVar 2) aNil)) (gN 3) zbM zeg
def zdG : MS :=
 (sSeq (sSet 2 (zbv 1))
  (sRet (mC zcw (zag (eFz zd6) aNil))))
def zbk : List D -> Option Sl := fP 3 zdG
theorem zit  (h : FnAt K "places_asking" ze9) : FD P w K mg base 1 "places_asking" (spP K 2 zbk) :=
 fdP (N := ["asks", "ends", "many"]) (k := 0) (m := zdG) X G h fun _ _ _ _ _ _ _ hr nd => (zad (zap 2 (zaB 1 bn.len') nd)
  (zak (zas (zcm bn.tuple' (zaa (SO.se (zcO [2, 0, 1] 1 ["many", "asks", "ends", "j"] rfl (zaG bn.range' (zaa (zab 2) zae)) (fun C s H fp => (zal 3 ndk)) (fun C s H fp => zaF) (fun C s H fp => (zaU (zab 3) (zgO (zab 0) (se_index (zlZ (zab 1) (zbe (zab 3)) zgE (zbe (zab 0))) (zai 2 (zab 3)))))))) zae)))))
abbrev zgR : Stmt := top 9
def zfg : ME :=
 (eVar 0)
def zfs : MO :=
 oLC [] 2 (iSeq (eVar 4)) (gT 2 (zaz (gN 0) (zaz (gN 1) zdW))) zbM zfg
def zfc : ME :=
 (eVar 1)
def ze5 : MO :=
 oLC [] 2 (iSeq (eVar 4)) (gT 2 (zaz (gN 0) (zaz (gN 1) zdW))) zbM zfc
def zfl : MS :=
 (sIf (tTru (m2 dGt (eIxV 5 (eVar 9)) (eIxV 6 (eVar 9))))
  (sRet (eTup (zag (eC (.str "clash")) (zag (eIxV 7 (eVar 9)) (zag (eIxV 8 (eVar 9)) aNil)))))
  zby)
def zfa : MS :=
 sFor (iR1 (zag (eVar 2) aNil)) (gN 9) zfl
def zfk : MS :=
 (sRet (eC .non))
def zfq : MS :=
 (sSeq (sIf (tTru (m2 dLt (mC dSum (zag (eVar 6) aNil)) (eVar 3)))
  (sRet (eTup (zag (eC (.str "high")) (zag (eVar 8) aNil))))
  zby)
  zfk)
def zeZ : MS :=
 (sSeq (sSet 4 (zax zbD (zag (eVar 0) (zag (eVar 1) (zag (eVar 2) aNil)))))
  (sSeq (sSet 5 (eFz zfs))
  (sSeq (sSet 6 (eFz ze5))
  (sSeq (sSet 7 (zax zbk (zag (eVar 0) (zag (eVar 5) aNil))))
  (sSeq (sSet 8 (zax zbk (zag (eVar 1) (zag (eVar 6) aNil))))
  (sSeq zfa
  (sSeq (sIf (tTru (m2 dGt (mC dSum (zag (eVar 5) aNil)) (eVar 3)))
  (sRet (eTup (zag (eC (.str "low")) (zag (eVar 7) aNil))))
  zby)
  zfq)))))))
def zcl : List D -> Option Sl := fP 10 zeZ
theorem zjo (zbN : FD P w K mg base 1 "head_spans" (spP K 3 zbD)) (zb2 : FD P w K mg base 1 "places_asking" (spP K 2 zbk)) (h : FnAt K "heads_paper" zgR) : FD P w K mg base 2 "heads_paper" (spP K 4 zcl) :=
 fdP (N := ["lows", "highs", "many", "total", "spans", "low_ends", "high_ends", "low_places", "high_places", "j"]) (k := 1) (m := zeZ) X G h fun _ _ _ _ _ _ _ hr nd => (zad (zap 4 (zam zbN hr (zaa (zab 0) (zaa (zab 1) (zaa (zab 2) zae))) (hlen := (zac (zac (zac zaj))))) nd)
  (zad (zhB 5 [] 2 ["low", "high"] rfl (zb0 (zab 4)) (fun C s H fp => (zcd rfl (zan (zal 0 ndk) (zan (zal 1 ndk) zbl)))) (fun C s H fp => zaF) (fun C s H fp => (zab 0)) nd)
  (zad (zhB 6 [] 2 ["low", "high"] rfl (zb0 (zab 4)) (fun C s H fp => (zcd rfl (zan (zal 0 ndk) (zan (zal 1 ndk) zbl)))) (fun C s H fp => zaF) (fun C s H fp => (zab 1)) nd)
  (zad (zap 7 (zam zb2 hr (zaa (zab 0) (zaa (zab 5) zae)) (hlen := (zac (zac zaj)))) nd)
  (zad (zap 8 (zam zb2 hr (zaa (zab 1) (zaa (zab 6) zae)) (hlen := (zac (zac zaj)))) nd)
  (zad (zcB PassesOwn.never rfl (zaG bn.range' (zaa (zab 2) zae)) (zal 9 nd)
  (zak (zbJ (zl3 (zai 5 (zab 9)) (zai 6 (zab 9)))
  (zak (zas (zcn (zaa zdj (zaa (zai 7 (zab 9)) (zaa (zai 8 (zab 9)) zae))))))
  zaC)))
  (zad (zbJ (zl3 (zd2 rfl bn.sum' (zaa (zab 5) zae)) (zab 3))
  (zak (zas (zcn (zaa zdj (zaa (zab 7) zae)))))
  zaC)
  (zad (zbJ (zno (zd2 rfl bn.sum' (zaa (zab 6) zae)) (zab 3))
  (zak (zas (zcn (zaa zdj (zaa (zab 8) zae)))))
  zaC)
  (zak (zas zjg))))))))))
abbrev zgM : Stmt := top 10
def zfj : ME :=
 (eVar 1)
def zfd : MO :=
 oLC [] 2 (iSeq (eVar 0)) (gT 2 (zaz (gN 0) (zaz (gN 1) zdW))) zbM zfj
def zfi : MS :=
 (sSeq (zir 4 (fun i j => i - j) (eVar 6))
  (sSeq (sSet 7 (mC (d2I max2) (zag (eVar 5) (zag (m2 dSub (eVar 3) (eVar 4)) aNil))))
  (sSeq (sApp 2 (eVar 7))
  (zir 3 (fun i j => i - j) (eVar 7)))))
def zfm : MS :=
 sFor (iSeq (eVar 0)) (gT 2 (zaz (gN 5) (zaz (gN 6) zdW))) zfi
def ze0 : MS :=
 (sSeq (zh3 2 (oLst aNil))
  (sSeq (sSet 3 (eVar 1))
  (sSeq (sSet 4 (mC dSum (zag (eFz zfd) aNil)))
  (sSeq zfm
  (zhN 2)))))
def zci : List D -> Option Sl := fP 8 ze0
theorem zjy  (h : FnAt K "least_heads" zgM) : FD P w K mg base 1 "least_heads" (spP K 2 zci) :=
 fdP (N := ["spans", "total", "heads", "left", "room", "low", "high", "head"]) (k := 0) (m := ze0) X G h fun _ _ _ _ _ _ _ hr nd => (zad (zeP 2 (zdy zae) nd)
  (zad (zap 3 (zab 1) nd)
  (zad (zap 4 (zd2 rfl bn.sum' (zaa (SO.se (zcO [] 2 ["low", "high"] rfl (zb0 (zab 0)) (fun C s H fp => (zcd rfl (zan (zal 0 ndk) (zan (zal 1 ndk) zbl)))) (fun C s H fp => zaF) (fun C s H fp => (zab 1)))) zae)) nd)
  (zad (zcB PassesOwn.never rfl (zb0 (zab 0)) (zcd rfl (zan (zal 5 nd) (zan (zal 6 nd) zbl)))
  (zad (zfT 4 (zab 6) nd)
  (zad (zap 7 (zoA rfl bn.max' (zaa (zab 5) (zaa (zbp (zab 3) (zab 4)) zae))) nd)
  (zad (zja 2 (zab 7))
  (zak (zfT 3 (zab 7) nd))))))
  (zak (zdD 2))))))
abbrev zid : Stmt := top 11
def zgV : MS :=
 (sSet 2 (m2 dDiv (m2 dMul (eVar 2) (m2 dAdd (eVar 0) (eVar 3))) (eVar 3)))
def zgS : MS :=
 sFor (iR2 (zag (eC (.int 1)) (zag (eVar 1) aNil))) (gN 3) zgV
def zg9 : MS :=
 (sSeq (sSet 2 (eC (.int 1)))
  (sSeq zgS
  (zhN 2)))
def zdT : List D -> Option Sl := fP 4 zg9
theorem zkU  (h : FnAt K "part_ways" zid) : FD P w K mg base 1 "part_ways" (spP K 2 zdT) :=
 fdP (N := ["number", "parts", "ways", "step"]) (k := 0) (m := zg9) X G h fun _ _ _ _ _ _ _ hr nd => (zad (zap 2 zah nd)
  (zad (zcB PassesOwn.never rfl (zji bn.range' (zaa zah (zaa (zab 1) zae))) (zal 3 nd)
  (zak (zap 2 (ze7 (zgO (zab 2) (zaU (zab 0) (zab 3))) (zab 3)) nd)))
  (zak (zdD 2))))
abbrev zhh : Stmt := top 12
def zfS : ME :=
 (m2 dGt (eVar 0) (eVar 1))
def zge : MO :=
 oLC [] 2 (iSeq (eVar 0)) (gT 2 (zaz (gN 0) (zaz (gN 1) zdW))) zbM zfS
def zfQ : ME :=
 (eVar 0)
def zgd : MO :=
 oLC [] 2 (iSeq (eVar 0)) (gT 2 (zaz (gN 0) (zaz (gN 1) zdW))) zbM zfQ
def zfU : ME :=
 (eTup (zag (m1 dNeg (eVar 1)) (zag (m2 dSub (eVar 2) (eVar 0)) aNil)))
def zf7 : MT :=
 (tTru (m2 dGe (eVar 2) (eVar 0)))
def zgv : MO :=
 oLC [6] 2 (iSeq (eVar 3)) (gT 2 (zaz (gN 1) (zaz (gN 2) zdW))) zf7 zfU
def zgk : MS :=
 (sSeq (sSet 6 (m2 dAdd (m2 dSub (eVar 5) (eVar 4)) (eC (.int 1))))
  (sSet 3 (m2 dAdd (eVar 3) (eFz zgv))))
def zfA : MS :=
 sFor (iSeq (eVar 0)) (gT 2 (zaz (gN 4) (zaz (gN 5) zdW))) zgk
def zf3 : ME :=
 (m2 dMul (eVar 1) (zax zdT (zag (eVar 2) (zag (zbv 0) aNil))))
def zfH : MO :=
 oLC [0] 2 (iSeq (eVar 3)) (gT 2 (zaz (gN 1) (zaz (gN 2) zdW))) zbM zf3
def zdL : MS :=
 (sSeq (sSet 3 (eFz (oLst (zag (eTup (zag (eC (.int 1)) (zag (eVar 2) aNil))) aNil))))
  (sSeq zfA
  (sRet (mC dSum (zag (eFz zfH) aNil)))))
def zfz : MS :=
 (sSeq (sSet 2 (m2 dSub (eVar 1) (mC dSum (zag (eFz zgd) aNil))))
  (sSeq (sIf (tTru (m2 dLt (eVar 2) (eC (.int 0))))
  (sRet (eC (.int 0)))
  zby)
  zdL))
def zfN : MS :=
 (sSeq (sIf (tTru (mC (dAll fun bs => bs.any id) (zag (eFz zge) aNil)))
  (sRet (eC (.int 0)))
  zby)
  zfz)
def zbI : List D -> Option Sl := fP 7 zfN
theorem zkd (zfW : FD P w K mg base 1 "part_ways" (spP K 2 zdT)) (h : FnAt K "heads_many" zhh) : FD P w K mg base 2 "heads_many" (spP K 2 zbI) :=
 fdP (N := ["spans", "total", "left", "terms", "low", "high", "width"]) (k := 1) (m := zfN) X G h fun _ _ _ _ _ _ _ hr nd => (zad (zbJ (zck (se_any rfl bn.any' (zaa (SO.se (zcO [] 2 ["low", "high"] rfl (zb0 (zab 0)) (fun C s H fp => (zcd rfl (zan (zal 0 ndk) (zan (zal 1 ndk) zbl)))) (fun C s H fp => zaF) (fun C s H fp => (se_gt (zab 0) (zab 1))))) zae)))
  (zak (zas zah))
  zaC)
  (zad (zap 2 (zbp (zab 1) (zd2 rfl bn.sum' (zaa (SO.se (zcO [] 2 ["low", "high"] rfl (zb0 (zab 0)) (fun C s H fp => (zcd rfl (zan (zal 0 ndk) (zan (zal 1 ndk) zbl)))) (fun C s H fp => zaF) (fun C s H fp => (zab 0)))) zae))) nd)
  (zad (zbJ (zno (zab 2) zah)
  (zak (zas zah))
  zaC)
  (zad (zap 3 (SO.se (zdy (zaa (zcn (zaa zah (zaa (zab 2) zae))) zae))) nd)
  (zad (zcB PassesOwn.never rfl (zb0 (zab 0)) (zcd rfl (zan (zal 4 nd) (zan (zal 5 nd) zbl)))
  (zad (zap 6 (zaU (zbp (zab 5) (zab 4)) zah) nd)
  (zak (zap 3 (zaU (zab 3) (SO.se (zcO [6] 2 ["width", "sign", "rest"] rfl (zb0 (zab 3)) (fun C s H fp => (zcd rfl (zan (zal 1 ndk) (zan (zal 2 ndk) zbl)))) (fun C s H fp => (zma (st_ge (zab 2) (zab 0)))) (fun C s H fp => (zcn (zaa (zoM (zab 1)) (zaa (zbp (zab 2) (zab 0)) zae))))))) nd))))
  (zak (zas (zd2 rfl bn.sum' (zaa (SO.se (zcO [0] 2 ["spans", "sign", "rest"] rfl (zb0 (zab 3)) (fun C s H fp => (zcd rfl (zan (zal 1 ndk) (zan (zal 2 ndk) zbl)))) (fun C s H fp => zaF) (fun C s H fp => (zgO (zab 1) (zam zfW hr (zaa (zab 2) (zaa (zaB 0 bn.len') zae)) (hlen := (zac (zac zaj)))))))) zae)))))))))
abbrev zgQ : Stmt := top 13
def zeQ : MS :=
 (sRet (zax zbI (zag (m2 dAdd (eFz (oLst (zag (eTup (zag (m2 dIx (eIxV 0 (eC (.int 0))) (eC (.int 0))) (zag (m2 dSub (eVar 2) (eC (.int 1))) aNil))) aNil))) (eCut (eVar 0) (zdH (eC (.int 1))) pNo)) (zag (eVar 1) aNil))))
def za2 : List D -> Option Sl := fP 3 zeQ
theorem zjk (zbO : FD P w K mg base 2 "heads_many" (spP K 2 zbI)) (h : FnAt K "heads_below" zgQ) : FD P w K mg base 3 "heads_below" (spP K 3 za2) :=
 fdP (N := ["spans", "total", "first"]) (k := 2) (m := zeQ) X G h fun _ _ _ _ _ _ _ hr nd => (zak (zas (zam zbO hr (zaa (zaU (SO.se (zdy (zaa (zcn (zaa (zbY (zai 0 zah) zah) (zaa (zbp (zab 2) zah) zae))) zae))) (zd3 (zab 0) (zbe zah) zgE)) (zaa (zab 1) zae)) (hlen := (zac (zac zaj))))))
abbrev zhR : Stmt := top 14
def zf2 : MT :=
 (tTru (m2 dLt (eVar 3) (eVar 4)))
def zgm : MS :=
 (sSeq (sSet 5 (m2 dDiv (m2 dAdd (m2 dAdd (eVar 3) (eVar 4)) (eC (.int 1))) (eC (.int 2))))
  (sIf (tTru (m2 dGt (zax za2 (zag (eVar 0) (zag (eVar 1) (zag (eVar 5) aNil)))) (eVar 2)))
  (sSet 4 (m2 dSub (eVar 5) (eC (.int 1))))
  (sSet 3 (eVar 5))))
def zfu : MS :=
 zgG zf2 zgm 400
def zf1 : MS :=
 (sSeq (sSet 3 (m2 dIx (eIxV 0 (eC (.int 0))) (eC (.int 0))))
  (sSeq (sSet 4 (m2 dIx (eIxV 0 (eC (.int 0))) (eC (.int 1))))
  (sSeq zfu
  (zhN 3))))
def zcL : List D -> Option Sl := fP 6 zf1
theorem zkg (zaR : FD P w K mg base 3 "heads_below" (spP K 3 za2)) (h : FnAt K "first_head" zhR) : FD P w K mg base 4 "first_head" (spP K 3 zcL) :=
 fdP (N := ["spans", "total", "number", "low", "high", "middle"]) (k := 3) (m := zf1) X G h fun _ _ _ _ _ _ _ hr nd => (zad (zap 3 (zbY (zai 0 zah) zah) nd)
  (zad (zap 4 (zbY (zai 0 zah) zah) nd)
  (zad (zku 400 PassesOwn.never (zno (zab 3) (zab 4))
  (zad (zap 5 (ze7 (zaU (zaU (zab 3) (zab 4)) zah) zah) nd)
  (zak (zbJ (zl3 (zam zaR hr (zaa (zab 0) (zaa (zab 1) (zaa (zab 5) zae))) (hlen := (zac (zac (zac zaj))))) (zab 2))
  (zak (zap 4 (zbp (zab 5) zah) nd))
  (zak (zap 3 (zab 5) nd))))))
  (zak (zdD 3)))))
abbrev zi7 : Stmt := top 15
def zhA : MS :=
 (sSeq (sSet 7 (zax zcL (zag (eCut (eVar 0) (zdH (eVar 6)) pNo) (zag (eVar 4) (zag (eVar 5) aNil)))))
  (sSeq (zir 5 (fun i j => i - j) (zax za2 (zag (eCut (eVar 0) (zdH (eVar 6)) pNo) (zag (eVar 4) (zag (eVar 7) aNil)))))
  (sSeq (sApp 3 (eVar 7))
  (zir 4 (fun i j => i - j) (eVar 7)))))
def zhC : MS :=
 sFor (iR1 (zag (zbv 0) aNil)) (gN 6) zhA
def zic : MS :=
 (sSeq (zh3 3 (oLst aNil))
  (sSeq (sSet 4 (eVar 1))
  (sSeq (sSet 5 (eVar 2))
  (sSeq zhC
  (zhN 3)))))
def zev : List D -> Option Sl := fP 8 zic
theorem zmp (zeY : FD P w K mg base 4 "first_head" (spP K 3 zcL)) (zaR : FD P w K mg base 3 "heads_below" (spP K 3 za2)) (h : FnAt K "heads_at" zi7) : FD P w K mg base 5 "heads_at" (spP K 3 zev) :=
 fdP (N := ["spans", "total", "number", "heads", "left", "ahead", "j", "head"]) (k := 4) (m := zic) X G h fun _ _ _ _ _ _ _ hr nd => (zad (zeP 3 (zdy zae) nd)
  (zad (zap 4 (zab 1) nd)
  (zad (zap 5 (zab 2) nd)
  (zad (zcB PassesOwn.never rfl (zaG bn.range' (zaa (zaB 0 bn.len') zae)) (zal 6 nd)
  (zad (zap 7 (zam zeY hr (zaa (zd3 (zab 0) (zbe (zab 6)) zgE) (zaa (zab 4) (zaa (zab 5) zae))) (hlen := (zac (zac (zac zaj))))) nd)
  (zad (zfT 5 (zam zaR hr (zaa (zd3 (zab 0) (zbe (zab 6)) zgE) (zaa (zab 4) (zaa (zab 7) zae))) (hlen := (zac (zac (zac zaj))))) nd)
  (zad (zja 3 (zab 7))
  (zak (zfT 4 (zab 7) nd))))))
  (zak (zdD 3))))))
abbrev zfO : Stmt := top 16
def zeA : MS :=
 (sSeq (zir 4 (fun i j => i + j) (zax za2 (zag (eCut (eVar 0) (zdH (eVar 5)) pNo) (zag (eVar 3) (zag (eIxV 2 (eVar 5)) aNil)))))
  (zir 3 (fun i j => i - j) (eIxV 2 (eVar 5))))
def zeI : MS :=
 sFor (iR1 (zag (zbv 0) aNil)) (gN 5) zeA
def zei : MS :=
 (sSeq (sSet 3 (eVar 1))
  (sSeq (sSet 4 (eC (.int 0)))
  (sSeq zeI
  (zhN 4))))
def zbZ : List D -> Option Sl := fP 6 zei
theorem zi2 (zaR : FD P w K mg base 3 "heads_below" (spP K 3 za2)) (h : FnAt K "heads_number" zfO) : FD P w K mg base 4 "heads_number" (spP K 3 zbZ) :=
 fdP (N := ["spans", "total", "heads", "left", "number", "j"]) (k := 3) (m := zei) X G h fun _ _ _ _ _ _ _ hr nd => (zad (zap 3 (zab 1) nd)
  (zad (zap 4 zah nd)
  (zad (zcB PassesOwn.never rfl (zaG bn.range' (zaa (zaB 0 bn.len') zae)) (zal 5 nd)
  (zad (zlg 4 (zam zaR hr (zaa (zd3 (zab 0) (zbe (zab 5)) zgE) (zaa (zab 3) (zaa (zai 2 (zab 5)) zae))) (hlen := (zac (zac (zac zaj))))) nd)
  (zak (zfT 3 (zai 2 (zab 5)) nd))))
  (zak (zdD 4)))))
abbrev zii : Stmt := top 18
def zgW : ME :=
 (mC dSum (zag (eCut (eVar 0) (zdH (eVar 2)) (zdH (m2 dAdd (eVar 2) (eVar 1)))) aNil))
def zgN : MO :=
 oLC [2, 1] 1 (iR1 (zag (zbv 0) aNil)) (gN 2) zbM zgW
def zg8 : MS :=
 (sSeq (sSet 2 (m2 dAdd (mC zcw (zag (eVar 0) aNil)) (mC zcw (zag (eVar 0) aNil))))
  (sRet (mC zcw (zag (eFz zgN) aNil))))
def zdU : List D -> Option Sl := fP 3 zg8
theorem zkT  (h : FnAt K "ring_sums" zii) : FD P w K mg base 1 "ring_sums" (spP K 2 zdU) :=
 fdP (N := ["row", "k", "twice"]) (k := 0) (m := zg8) X G h fun _ _ _ _ _ _ _ hr nd => (zad (zap 2 (zaU (zcm bn.tuple' (zaa (zab 0) zae)) (zcm bn.tuple' (zaa (zab 0) zae))) nd)
  (zak (zas (zcm bn.tuple' (zaa (SO.se (zcO [2, 1] 1 ["twice", "k", "i"] rfl (zaG bn.range' (zaa (zaB 0 bn.len') zae)) (fun C s H fp => (zal 2 ndk)) (fun C s H fp => zaF) (fun C s H fp => (zd2 rfl bn.sum' (zaa (zd3 (zab 0) (zbe (zab 2)) (zbe (zaU (zab 2) (zab 1)))) zae))))) zae)))))
abbrev zhO : Stmt := top 20
def zfY : ME :=
 (zfh dLe dLe (eVar 0) (eVar 1) (eVar 2))
def zf0 : MO :=
 oLC [] 3 (iZ3 (zag (eVar 1) (zag (eVar 0) (zag (eVar 2) aNil)))) (gT 3 (zaz (gN 0) (zaz (gN 1) (zaz (gN 2) zdW)))) zbM zfY
def zfw : MS :=
 (sRet (mC (dAll fun bs => bs.all id) (zag (eFz zf0) aNil)))
def zgy : MS :=
 (sSeq (sIf (tTru (m2 dNe (zbv 0) (zbv 1)))
  (sRet (eC (.bl false)))
  zby)
  zfw)
def zcP : List D -> Option Sl := fP 3 zgy
theorem zj1  (h : FnAt K "row_within" zhO) : FD P w K mg base 1 "row_within" (spP K 3 zcP) :=
 fdP (N := ["row", "least", "greatest"]) (k := 0) (m := zgy) X G h fun _ _ _ _ _ _ _ hr nd => (zad (zbJ (ziY hr.units (zaB 0 bn.len') (zaB 1 bn.len'))
  (zak (zas zix))
  zaC)
  (zak (zas (zlJ rfl bn.all' (zaa (SO.se (zcO [] 3 ["low", "number", "high"] rfl (it_zip3 bn.zip' (zaa (zab 1) (zaa (zab 0) (zaa (zab 2) zae)))) (fun C s H fp => (zcd rfl (zan (zal 0 ndk) (zan (zal 1 ndk) (zan (zal 2 ndk) zbl))))) (fun C s H fp => zaF) (fun C s H fp => (ziI zjr zjr zcc zcc (zab 0) (zab 1) (zab 2))))) zae)))))
abbrev zhl : Stmt := top 21
def zgj : MS :=
 (sRet (eAnd (zax zcP (zag (eVar 1) (zag (eIxV 0 (eC (.int 2))) (zag (eIxV 0 (eC (.int 3))) aNil)))) (m2 dEq (zax zdU (zag (eVar 1) (zag (eIxV 0 (eC (.int 0))) aNil))) (eIxV 0 (eC (.int 1))))))
def zcb : List D -> Option Sl := fP 2 zgj
theorem zj0 (zgp : FD P w K mg base 1 "ring_sums" (spP K 2 zdU)) (zeR : FD P w K mg base 1 "row_within" (spP K 3 zcP)) (h : FnAt K "ring_holds" zhl) : FD P w K mg base 2 "ring_holds" (spP K 2 zcb) :=
 fdP (N := ["ring", "row"]) (k := 1) (m := zgj) X G h fun _ _ _ _ _ _ _ hr nd => (zak (zas (zhq (zam zeR hr (zaa (zab 1) (zaa (zai 0 zah) (zaa (zai 0 zah) zae))) (hlen := (zac (zac (zac zaj))))) (zhi (zle hr.units (zam zgp hr (zaa (zab 1) (zaa (zai 0 zah) zae)) (hlen := (zac (zac zaj)))) (zai 0 zah))))))
abbrev zgK : Stmt := top 23
def zfe : ME :=
 (eVar 2)
def zfr : MT :=
 (znX (tTru (m2 dEq (m2 dMod (eVar 0) (eVar 2)) (eC (.int 0)))) (tTru (m2 dEq (m2 dMod (eVar 1) (eVar 2)) (eC (.int 0)))))
def zff : MO :=
 oLC [1, 2] 1 (iR2 (zag (eC (.int 1)) (zag (m2 dAdd (eVar 1) (eC (.int 1))) aNil))) (gN 2) zfr zfe
def ze2 : MS :=
 (sSeq (sSet 1 (eIxV 0 (eC (.int 0))))
  (sSeq (sSet 2 (mC dLen (zag (eIxV 0 (eC (.int 1))) aNil)))
  (sRet (mC zfE (zag (eFz zff) aNil)))))
def zau : List D -> Option Sl := fP 3 ze2
theorem zjp  (h : FnAt K "rounds_many" zgK) : FD P w K mg base 1 "rounds_many" (spP K 1 zau) :=
 fdP (N := ["ring", "k", "many"]) (k := 0) (m := ze2) X G h fun _ _ _ _ _ _ _ hr nd => (zad (zap 1 (zai 0 zah) nd)
  (zad (zap 2 (se_len bn.len' (zaa (zai 0 zah) zae)) nd)
  (zak (zas (zi5 rfl bn.max' (zaa (SO.se (zcO [1, 2] 1 ["k", "many", "divisor"] rfl (zji bn.range' (zaa zah (zaa (zaU (zab 1) zah) zae))) (fun C s H fp => (zal 2 ndk)) (fun C s H fp => (zma (STw.st (zoP (zis hr.units (zbx (zab 0) (zab 2)) zah) (zl7 (zis hr.units (zbx (zab 1) (zab 2)) zah)))))) (fun C s H fp => (zab 2)))) zae))))))
abbrev zhm : Stmt := top 24
def zgx : MS :=
 (sSeq (sApp 4 (eTup (zag (eVar 5) (zag (eVar 6) aNil))))
  (sSeq (zir 6 (fun i j => i + j) (m2 dSub (eIxV 2 (m2 dMod (m2 dAdd (eVar 5) (eC (.int 1))) (eVar 3))) (eIxV 2 (eVar 5))))
  (sSet 5 (m2 dMod (m2 dAdd (eVar 5) (eIxV 0 (eC (.int 0)))) (eVar 3)))))
def zfy : MS :=
 sFor (iR1 (zag (m2 dDiv (eVar 3) (zax zau (zag (eVar 0) aNil))) aNil)) (gN 7) zgx
def zfF : MS :=
 (sSeq (sSet 2 (eIxV 0 (eC (.int 1))))
  (sSeq (sSet 3 (zbv 2))
  (sSeq (zh3 4 (oLst aNil))
  (sSeq (sSet 5 (eVar 1))
  (sSeq (sSet 6 (eC (.int 0)))
  (sSeq zfy
  (sSeq (sApp 4 (eTup (zag (eVar 5) (zag (eVar 6) aNil))))
  (zhN 4))))))))
def zbA : List D -> Option Sl := fP 8 zfF
theorem zkl (zao : FD P w K mg base 1 "rounds_many" (spP K 1 zau)) (h : FnAt K "round_walk" zhm) : FD P w K mg base 2 "round_walk" (spP K 2 zbA) :=
 fdP (N := ["ring", "j", "sums", "many", "walk", "place", "more", "step"]) (k := 1) (m := zfF) X G h fun _ _ _ _ _ _ _ hr nd => (zad (zap 2 (zai 0 zah) nd)
  (zad (zap 3 (zaB 2 bn.len') nd)
  (zad (zeP 4 (zdy zae) nd)
  (zad (zap 5 (zab 1) nd)
  (zad (zap 6 zah nd)
  (zad (zcB PassesOwn.never rfl (zaG bn.range' (zaa (ze7 (zab 3) (zam zao hr (zaa (zab 0) zae) (hlen := (zac zaj)))) zae)) (zal 7 nd)
  (zad (zja 4 (zcn (zaa (zab 5) (zaa (zab 6) zae))))
  (zad (zlg 6 (zbp (zai 2 (zbx (zaU (zab 5) zah) (zab 3))) (zai 2 (zab 5))) nd)
  (zak (zap 5 (zbx (zaU (zab 5) (zai 0 zah)) (zab 3)) nd)))))
  (zad (zja 4 (zcn (zaa (zab 5) (zaa (zab 6) zae))))
  (zak (zdD 4)))))))))
abbrev zga : Stmt := top 25
def zeu : MS :=
 (sRet (m2 dEq (m2 dIx (m2 dIx (zax zbA (zag (eVar 0) (zag (eVar 1) aNil))) (m1 dNeg (eC (.int 1)))) (eC (.int 1))) (eC (.int 0))))
def zb1 : List D -> Option Sl := fP 2 zeu
theorem ziW (zbQ : FD P w K mg base 2 "round_walk" (spP K 2 zbA)) (h : FnAt K "round_closes" zga) : FD P w K mg base 3 "round_closes" (spP K 2 zb1) :=
 fdP (N := ["ring", "j"]) (k := 2) (m := zeu) X G h fun _ _ _ _ _ _ _ hr nd => (zak (zas (zle hr.units (zbY (zbY (zam zbQ hr (zaa (zab 0) (zaa (zab 1) zae)) (hlen := (zac (zac zaj)))) (zoM zah)) zah) zah)))
abbrev zhf : Stmt := top 26
def zgh : MS :=
 (sPut 1 (eVar 3) (eVar 4))
def zgf : MS :=
 sFor (iSeq (eCut (zax zbA (zag (eVar 0) (zag (eVar 2) aNil))) pNo (zdH (m1 dNeg (eC (.int 1)))))) (gT 2 (zaz (gN 3) (zaz (gN 4) zdW))) zgh
def zgo : MS :=
 zgf
def zgw : MS :=
 sFor (iR1 (zag (zax zau (zag (eVar 0) aNil)) aNil)) (gN 2) zgo
def zfx : MS :=
 (sSeq (zh3 1 (oRep (eFz (oLst (zag (eC (.int 0)) aNil))) (mC dLen (zag (eIxV 0 (eC (.int 1))) aNil))))
  (sSeq zgw
  (zhN 1)))
def zaJ : List D -> Option Sl := fP 5 zfx
theorem zkP (zbQ : FD P w K mg base 2 "round_walk" (spP K 2 zbA)) (zao : FD P w K mg base 1 "rounds_many" (spP K 1 zau)) (h : FnAt K "ring_mores" zhf) : FD P w K mg base 3 "ring_mores" (spP K 1 zaJ) :=
 fdP (N := ["ring", "mores", "j", "place", "more"]) (k := 2) (m := zfx) X G h fun _ _ _ _ _ _ _ hr nd => (zad (zeP 1 (so_rep (SO.se (zdy (zaa zah zae))) (se_len bn.len' (zaa (zai 0 zah) zae))) nd)
  (zad (zcB PassesOwn.never rfl (zaG bn.range' (zaa (zam zao hr (zaa (zab 0) zae) (hlen := (zac zaj))) zae)) (zal 2 nd)
  (zak (zcB PassesOwn.never rfl (zb0 (zd3 (zam zbQ hr (zaa (zab 0) (zaa (zab 2) zae)) (hlen := (zac (zac zaj)))) zgE (zbe (zoM zah)))) (zcd rfl (zan (zal 3 nd) (zan (zal 4 nd) zbl)))
  (zak (zm6 1 (zab 4) (zab 3))))))
  (zak (zdD 1))))
abbrev zhv : Stmt := top 27
def zgr : MS :=
 (sRet (m2 dDiv (eIxV 0 (eC (.int 0))) (zax zau (zag (eVar 0) aNil))))
def zbG : List D -> Option Sl := fP 1 zgr
theorem zkE (zao : FD P w K mg base 1 "rounds_many" (spP K 1 zau)) (h : FnAt K "head_times" zhv) : FD P w K mg base 2 "head_times" (spP K 1 zbG) :=
 fdP (N := ["ring"]) (k := 1) (m := zgr) X G h fun _ _ _ _ _ _ _ hr nd => (zak (zas (ze7 (zai 0 zah) (zam zao hr (zaa (zab 0) zae) (hlen := (zac zaj))))))
abbrev zin : Stmt := top 28
def zg4 : MS :=
 (sRet (m2 dSub (m2 dIx (eIxV 0 (eC (.int 1))) (eC (.int 0))) (mC dSum (zag (eCut (zax zaJ (zag (eVar 0) aNil)) pNo (zdH (eIxV 0 (eC (.int 0))))) aNil))))
def zb9 : List D -> Option Sl := fP 1 zg4
theorem zlq (zav : FD P w K mg base 3 "ring_mores" (spP K 1 zaJ)) (h : FnAt K "heads_sum" zin) : FD P w K mg base 4 "heads_sum" (spP K 1 zb9) :=
 fdP (N := ["ring"]) (k := 3) (m := zg4) X G h fun _ _ _ _ _ _ _ hr nd => (zak (zas (zbp (zbY (zai 0 zah) zah) (zd2 rfl bn.sum' (zaa (zd3 (zam zav hr (zaa (zab 0) zae) (hlen := (zac zaj))) zgE (zbe (zai 0 zah))) zae)))))
abbrev zhS : Stmt := top 29
def zfI : MS :=
 (sRet (m2 dDiv (zax zb9 (zag (eVar 0) aNil)) (zax zbG (zag (eVar 0) aNil))))
def zaN : List D -> Option Sl := fP 1 zfI
theorem zkn (zbL : FD P w K mg base 2 "head_times" (spP K 1 zbG)) (zcf : FD P w K mg base 4 "heads_sum" (spP K 1 zb9)) (h : FnAt K "ring_total" zhS) : FD P w K mg base 5 "ring_total" (spP K 1 zaN) :=
 fdP (N := ["ring"]) (k := 4) (m := zfI) X G h fun _ _ _ _ _ _ _ hr nd => (zak (zas (ze7 (zam zcf hr (zaa (zab 0) zae) (hlen := (zac zaj))) (zam zbL hr (zaa (zab 0) zae) (hlen := (zac zaj))))))
abbrev zhD : Stmt := top 30
def zf4 : MS :=
 (sIf (zhZ (tTru (zax zb1 (zag (eVar 0) (zag (eVar 1) aNil)))))
  (sRet (eTup (zag (eC (.str "round")) (zag (eVar 1) aNil))))
  zby)
def zfL : MS :=
 sFor (iR1 (zag (zax zau (zag (eVar 0) aNil)) aNil)) (gN 1) zf4
def zgu : MS :=
 (sRet (eC .non))
def zf6 : MS :=
 (sSeq zfL
  (sSeq (sSet 2 (m2 dMod (zax zb9 (zag (eVar 0) aNil)) (zax zbG (zag (eVar 0) aNil))))
  (sSeq (sIf (tTru (m2 dNe (eVar 2) (eC (.int 0))))
  (sRet (eTup (zag (eC (.str "part")) (zag (eVar 2) aNil))))
  zby)
  zgu)))
def zbo : List D -> Option Sl := fP 3 zf6
theorem zjU (zbL : FD P w K mg base 2 "head_times" (spP K 1 zbG)) (zcf : FD P w K mg base 4 "heads_sum" (spP K 1 zb9)) (zdJ : FD P w K mg base 3 "round_closes" (spP K 2 zb1)) (zao : FD P w K mg base 1 "rounds_many" (spP K 1 zau)) (h : FnAt K "sums_paper" zhD) : FD P w K mg base 5 "sums_paper" (spP K 1 zbo) :=
 fdP (N := ["ring", "j", "left"]) (k := 4) (m := zf6) X G h fun _ _ _ _ _ _ _ hr nd => (zad (zcB PassesOwn.never rfl (zaG bn.range' (zaa (zam zao hr (zaa (zab 0) zae) (hlen := (zac zaj))) zae)) (zal 1 nd)
  (zak (zbJ (zfK (zck (zam zdJ hr (zaa (zab 0) (zaa (zab 1) zae)) (hlen := (zac (zac zaj))))))
  (zak (zas (zcn (zaa zdj (zaa (zab 1) zae)))))
  zaC)))
  (zad (zap 2 (zbx (zam zcf hr (zaa (zab 0) zae) (hlen := (zac zaj))) (zam zbL hr (zaa (zab 0) zae) (hlen := (zac zaj)))) nd)
  (zad (zbJ (ziY hr.units (zab 2) zah)
  (zak (zas (zcn (zaa zdj (zaa (zab 2) zae)))))
  zaC)
  (zak (zas zjg)))))
abbrev ziq : Stmt := top 31
def zg0 : MS :=
 (zjm (znm zbz (zag (eIxV 0 (eC (.int 2))) (zag (zax zaJ (zag (eVar 0) aNil)) aNil))))
def zb4 : List D -> Option Sl := fP 1 zg0
theorem zlF (zbP : FD P w K mg base 1 "less_mores" (spP K 2 zbz)) (zav : FD P w K mg base 3 "ring_mores" (spP K 1 zaJ)) (h : FnAt K "ring_lows" ziq) : FD P w K mg base 4 "ring_lows" (spP K 1 zb4) :=
 fdP (N := ["ring"]) (k := 3) (m := zg0) X G h fun _ _ _ _ _ _ _ hr nd => (zak (zfD (zks zbP hr (zaa (zai 0 zah) (zaa (zam zav hr (zaa (zab 0) zae) (hlen := (zac zaj))) zae)) (hlen := (zac (zac zaj))))))
abbrev zhx : Stmt := top 32
def zgg : MS :=
 (zjm (znm zbz (zag (eIxV 0 (eC (.int 3))) (zag (zax zaJ (zag (eVar 0) aNil)) aNil))))
def zbH : List D -> Option Sl := fP 1 zgg
theorem zkJ (zbP : FD P w K mg base 1 "less_mores" (spP K 2 zbz)) (zav : FD P w K mg base 3 "ring_mores" (spP K 1 zaJ)) (h : FnAt K "ring_highs" zhx) : FD P w K mg base 4 "ring_highs" (spP K 1 zbH) :=
 fdP (N := ["ring"]) (k := 3) (m := zgg) X G h fun _ _ _ _ _ _ _ hr nd => (zak (zfD (zks zbP hr (zaa (zai 0 zah) (zaa (zam zav hr (zaa (zab 0) zae) (hlen := (zac zaj))) zae)) (hlen := (zac (zac zaj))))))
abbrev zgJ : Stmt := top 33
def zeW : MS :=
 (zjm (znm zbD (zag (zax zb4 (zag (eVar 0) aNil)) (zag (zax zbH (zag (eVar 0) aNil)) (zag (zax zau (zag (eVar 0) aNil)) aNil)))))
def zaL : List D -> Option Sl := fP 1 zeW
theorem zjt (zbN : FD P w K mg base 1 "head_spans" (spP K 3 zbD)) (zbK : FD P w K mg base 4 "ring_highs" (spP K 1 zbH)) (zce : FD P w K mg base 4 "ring_lows" (spP K 1 zb4)) (zao : FD P w K mg base 1 "rounds_many" (spP K 1 zau)) (h : FnAt K "round_spans" zgJ) : FD P w K mg base 5 "round_spans" (spP K 1 zaL) :=
 fdP (N := ["ring"]) (k := 4) (m := zeW) X G h fun _ _ _ _ _ _ _ hr nd => (zak (zfD (zks zbN hr (zaa (zam zce hr (zaa (zab 0) zae) (hlen := (zac zaj))) (zaa (zam zbK hr (zaa (zab 0) zae) (hlen := (zac zaj))) (zaa (zam zao hr (zaa (zab 0) zae) (hlen := (zac zaj))) zae))) (hlen := (zac (zac (zac zaj)))))))
abbrev zgP : Stmt := top 34
def ze6 : MS :=
 (sRet (eTup (zag (eC (.str "row")) (zag (zax zbd (zag (zax zci (zag (zax zaL (zag (eVar 0) aNil)) (zag (zax zaN (zag (eVar 0) aNil)) aNil))) (zag (zax zaJ (zag (eVar 0) aNil)) aNil))) aNil))))
def zbt : MS :=
 (sSeq (sIf (tTru (m2 zlp (eVar 1) (eC .non)))
  (zhN 1)
  zby)
  ze6)
def ze1 : MS :=
 (sSeq (sSet 1 (zax zbo (zag (eVar 0) aNil)))
  (sSeq (sIf (tTru (m2 dIsN (eVar 1) (eC .non)))
  (sSet 1 (zax zcl (zag (zax zb4 (zag (eVar 0) aNil)) (zag (zax zbH (zag (eVar 0) aNil)) (zag (zax zau (zag (eVar 0) aNil)) (zag (zax zaN (zag (eVar 0) aNil)) aNil))))))
  zby)
  zbt))
def zco : List D -> Option Sl := fP 2 ze1
theorem zjl (zeq : FD P w K mg base 2 "heads_paper" (spP K 4 zcl)) (zes : FD P w K mg base 1 "least_heads" (spP K 2 zci)) (zbK : FD P w K mg base 4 "ring_highs" (spP K 1 zbH)) (zce : FD P w K mg base 4 "ring_lows" (spP K 1 zb4)) (zav : FD P w K mg base 3 "ring_mores" (spP K 1 zaJ)) (zaD : FD P w K mg base 5 "ring_total" (spP K 1 zaN)) (zaA : FD P w K mg base 5 "round_spans" (spP K 1 zaL)) (zao : FD P w K mg base 1 "rounds_many" (spP K 1 zau)) (zbm : FD P w K mg base 1 "row_by_heads" (spP K 2 zbd)) (zbR : FD P w K mg base 5 "sums_paper" (spP K 1 zbo)) (h : FnAt K "fitted_ring" zgP) : FD P w K mg base 6 "fitted_ring" (spP K 1 zco) :=
 fdP (N := ["ring", "paper"]) (k := 5) (m := ze1) X G h fun _ _ _ _ _ _ _ hr nd => (zad (zap 1 (zam zbR hr (zaa (zab 0) zae) (hlen := (zac zaj))) nd)
  (zad (zbJ (st_is (zab 1) zjg)
  (zak (zap 1 (zam zeq hr (zaa (zam zce hr (zaa (zab 0) zae) (hlen := (zac zaj))) (zaa (zam zbK hr (zaa (zab 0) zae) (hlen := (zac zaj))) (zaa (zam zao hr (zaa (zab 0) zae) (hlen := (zac zaj))) (zaa (zam zaD hr (zaa (zab 0) zae) (hlen := (zac zaj))) zae)))) (hlen := (zac (zac (zac (zac zaj)))))) nd))
  zaC)
  (zad (zbJ (zm7 (zab 1) zjg)
  (zak (zdD 1))
  zaC)
  (zak (zas (zcn (zaa zdj (zaa (zam zbm hr (zaa (zam zes hr (zaa (zam zaA hr (zaa (zab 0) zae) (hlen := (zac zaj))) (zaa (zam zaD hr (zaa (zab 0) zae) (hlen := (zac zaj))) zae)) (hlen := (zac (zac zaj)))) (zaa (zam zav hr (zaa (zab 0) zae) (hlen := (zac zaj))) zae)) (hlen := (zac (zac zaj)))) zae))))))))
abbrev zij : Stmt := top 35
def zgU : MS :=
 (sRet (zax zbI (zag (zax zaL (zag (eVar 0) aNil)) (zag (zax zaN (zag (eVar 0) aNil)) aNil))))
def zg3 : MS :=
 (sSeq (sIf (tTru (m2 zlp (zax zbo (zag (eVar 0) aNil)) (eC .non)))
  (sRet (eC (.int 0)))
  zby)
  zgU)
def zb8 : List D -> Option Sl := fP 1 zg3
theorem zkS (zbO : FD P w K mg base 2 "heads_many" (spP K 2 zbI)) (zaD : FD P w K mg base 5 "ring_total" (spP K 1 zaN)) (zaA : FD P w K mg base 5 "round_spans" (spP K 1 zaL)) (zbR : FD P w K mg base 5 "sums_paper" (spP K 1 zbo)) (h : FnAt K "ring_many" zij) : FD P w K mg base 6 "ring_many" (spP K 1 zb8) :=
 fdP (N := ["ring"]) (k := 5) (m := zg3) X G h fun _ _ _ _ _ _ _ hr nd => (zad (zbJ (zm7 (zam zbR hr (zaa (zab 0) zae) (hlen := (zac zaj))) zjg)
  (zak (zas zah))
  zaC)
  (zak (zas (zam zbO hr (zaa (zam zaA hr (zaa (zab 0) zae) (hlen := (zac zaj))) (zaa (zam zaD hr (zaa (zab 0) zae) (hlen := (zac zaj))) zae)) (hlen := (zac (zac zaj)))))))
abbrev zjQ : Stmt := top 36
def zil : MS :=
 (sRet (zax zbd (zag (zax zev (zag (zax zaL (zag (eVar 0) aNil)) (zag (zax zaN (zag (eVar 0) aNil)) (zag (eVar 1) aNil)))) (zag (zax zaJ (zag (eVar 0) aNil)) aNil))))
def ziM : MS :=
 (sSeq (sIf (zhZ (tTru (zfh dLe dLt (eC (.int 0)) (eVar 1) (zax zb8 (zag (eVar 0) aNil)))))
  (fun _ => none)
  zby)
  zil)
def zfJ : List D -> Option Sl := fP 2 ziM
theorem znU (zg7 : FD P w K mg base 5 "heads_at" (spP K 3 zev)) (zcg : FD P w K mg base 6 "ring_many" (spP K 1 zb8)) (zav : FD P w K mg base 3 "ring_mores" (spP K 1 zaJ)) (zaD : FD P w K mg base 5 "ring_total" (spP K 1 zaN)) (zaA : FD P w K mg base 5 "round_spans" (spP K 1 zaL)) (zbm : FD P w K mg base 1 "row_by_heads" (spP K 2 zbd)) (h : FnAt K "ring_at" zjQ) : FD P w K mg base 7 "ring_at" (spP K 2 zfJ) :=
 fdP (N := ["ring", "number"]) (k := 6) (m := ziM) X G h fun _ _ _ _ _ _ _ hr nd => (zad (zbJ (zfK (zko zjr zlS zcc zcc zjM zah (zab 1) (zam zcg hr (zaa (zab 0) zae) (hlen := (zac zaj)))))
  (zak zmx)
  zaC)
  (zak (zas (zam zbm hr (zaa (zam zg7 hr (zaa (zam zaA hr (zaa (zab 0) zae) (hlen := (zac zaj))) (zaa (zam zaD hr (zaa (zab 0) zae) (hlen := (zac zaj))) (zaa (zab 1) zae))) (hlen := (zac (zac (zac zaj))))) (zaa (zam zav hr (zaa (zab 0) zae) (hlen := (zac zaj))) zae)) (hlen := (zac (zac zaj)))))))
abbrev zgL : Stmt := top 37
def zfb : MS :=
 (sRet (zax zbZ (zag (zax zaL (zag (eVar 0) aNil)) (zag (zax zaN (zag (eVar 0) aNil)) (zag (eVar 1) aNil)))))
def zeX : MS :=
 (sSeq (sIf (zhZ (tTru (zax zcb (zag (eVar 0) (zag (eVar 1) aNil)))))
  (fun _ => none)
  zby)
  zfb)
def zct : List D -> Option Sl := fP 2 zeX
theorem zjv (zdI : FD P w K mg base 4 "heads_number" (spP K 3 zbZ)) (zeS : FD P w K mg base 2 "ring_holds" (spP K 2 zcb)) (zaD : FD P w K mg base 5 "ring_total" (spP K 1 zaN)) (zaA : FD P w K mg base 5 "round_spans" (spP K 1 zaL)) (h : FnAt K "ring_number" zgL) : FD P w K mg base 6 "ring_number" (spP K 2 zct) :=
 fdP (N := ["ring", "row"]) (k := 5) (m := zeX) X G h fun _ _ _ _ _ _ _ hr nd => (zad (zbJ (zfK (zck (zam zeS hr (zaa (zab 0) (zaa (zab 1) zae)) (hlen := (zac (zac zaj))))))
  (zak zmx)
  zaC)
  (zak (zas (zam zdI hr (zaa (zam zaA hr (zaa (zab 0) zae) (hlen := (zac zaj))) (zaa (zam zaD hr (zaa (zab 0) zae) (hlen := (zac zaj))) (zaa (zab 1) zae))) (hlen := (zac (zac (zac zaj))))))))
abbrev zih : Stmt := top 39
def zgT : MS :=
 (sSeq (sSet 2 (m2 dMod (m2 dAdd (m2 dAdd (m2 dMul (eVar 2) (eC (.int 48271))) (m2 dMul (eC (.int 7919)) (eVar 3))) (eC (.int 12345))) (eC (.int 2147483647))))
  (sSeq (sSet 4 (m2 dMod (m2 dMul (eVar 2) (eVar 2)) (eC (.int 2147483629))))
  (sSet 1 (m2 dAdd (m2 dMul (eVar 1) (eC (.int 4194304))) (m2 dMod (m2 dDiv (eVar 4) (eC (.int 256))) (eC (.int 4194304)))))))
def zgH : MS :=
 sFor (iR1 (zag (eC (.int 28)) aNil)) (gN 3) zgT
def zgF : MS :=
 (sSeq (sSet 1 (eC (.int 0)))
  (sSeq (sSet 2 (m2 dAdd (m2 dMod (eVar 0) (eC (.int 2147483647))) (eC (.int 6113))))
  (sSeq zgH
  (zjm (oLst (zag (eVar 1) aNil))))))
def zgZ : MS :=
 (sSeq (sIf (tTru (m2 dGe (eVar 0) (m2 dPow (eC (.int 10)) (eC (.int 18)))))
  (zjm (oLst (zag (m2 dMod (m2 dSub (eVar 0) (m2 dPow (eC (.int 10)) (eC (.int 18)))) (m2 dMul (m2 dMul (m2 dPow (eC (.int 10)) (eC (.int 64))) (m2 dPow (eC (.int 10)) (eC (.int 64)))) (m2 dPow (eC (.int 10)) (eC (.int 64))))) aNil)))
  zby)
  zgF)
def zdE : List D -> Option Sl := fP 5 zgZ
theorem zlh  (h : FnAt K "_law_deal" zih) : FD P w K mg base 1 "_law_deal" (spP K 1 zdE) :=
 fdP (N := ["cell", "great", "one", "k", "two"]) (k := 0) (m := zgZ) X G h fun _ _ _ _ _ _ _ hr nd => (zad (zbJ (st_ge (zab 0) (zlw zah zah))
  (zak (zfD (zdy (zaa (zbx (zbp (zab 0) (zlw zah zah)) (zgO (zgO (zlw zah zah) (zlw zah zah)) (zlw zah zah))) zae))))
  zaC)
  (zad (zap 1 zah nd)
  (zad (zap 2 (zaU (zbx (zab 0) zah) zah) nd)
  (zad (zcB PassesOwn.never rfl (zaG bn.range' (zaa zah zae)) (zal 3 nd)
  (zad (zap 2 (zbx (zaU (zaU (zgO (zab 2) zah) (zgO zah (zab 3))) zah) zah) nd)
  (zad (zap 4 (zbx (zgO (zab 2) (zab 2)) zah) nd)
  (zak (zap 1 (zaU (zgO (zab 1) zah) (zbx (ze7 (zab 4) zah) zah)) nd)))))
  (zak (zfD (zdy (zaa (zab 1) zae))))))))
abbrev zik : Stmt := top 40
def zg6 : MS :=
 (sSeq (sSet 2 (m2 dMod (eIxV 0 (eC (.int 0))) (eVar 1)))
  (sSeq (sPut 0 (eC (.int 0)) (m2 dDiv (eIxV 0 (eC (.int 0))) (eVar 1)))
  (zhN 2)))
def zaO : List D -> List D -> Option (Sl × List D) := fM 3 zg6
theorem zli  (h : FnAt K "_law_take" zik) : FD P w K mg base 1 "_law_take" (spM K 2 zaO) :=
 fdM (N := ["pot", "many", "digit"]) (k := 0) (m := zg6) X G h fun _ _ _ _ _ _ _ hr nd => (zad (zap 2 (zbx (zai 0 zah) (zab 1)) nd)
  (zad (zm6 0 (ze7 (zai 0 zah) (zab 1)) zah)
  (zak (zdD 2))))
abbrev zhz : Stmt := top 41
def zgt : MS :=
 (sRet (eAnd (eIsI "int" (eVar 0)) (m1 dNot (eIsI "bool" (eVar 0)))))
def zcN : List D -> Option Sl := fP 1 zgt
theorem zkc  (h : FnAt K "_law_whole" zhz) : FD P w K mg base 1 "_law_whole" (spP K 1 zcN) :=
 fdP (N := ["thing"]) (k := 0) (m := zgt) X G h fun _ _ _ _ _ _ _ hr nd => (zak (zas (zhq (zls "int" bn.isinstance' bn.int' (by decide +kernel) (zab 0)) (zhi (se_not (zls "bool" bn.isinstance' bn.bool' (by decide +kernel) (zab 0)))))))
abbrev zfC : Stmt := top 42
def zew : ME :=
 (zax zcN (zag (eVar 0) aNil))
def zex : MO :=
 oLC [] 1 (iSeq (eVar 0)) (gN 0) zbM zew
def zep : MS :=
 (sRet (eAnd (eIsI "tuple" (eVar 0)) (mC (dAll fun bs => bs.all id) (zag (eFz zex) aNil))))
def zbu : List D -> Option Sl := fP 1 zep
theorem ziJ (ze4 : FD P w K mg base 1 "_law_whole" (spP K 1 zcN)) (h : FnAt K "_law_numbers" zfC) : FD P w K mg base 2 "_law_numbers" (spP K 1 zbu) :=
 fdP (N := ["thing"]) (k := 1) (m := zep) X G h fun _ _ _ _ _ _ _ hr nd => (zak (zas (zhq (zls "tuple" bn.isinstance' bn.tuple' (by decide +kernel) (zab 0)) (zhi (zlJ rfl bn.all' (zaa (SO.se (zcO [] 1 ["one"] rfl (zb0 (zab 0)) (fun C s H fp => (zal 0 ndk)) (fun C s H fp => zaF) (fun C s H fp => (zam ze4 hr (zaa (zab 0) zae) (hlen := (zac zaj)))))) zae))))))
abbrev zgc : Stmt := top 43
def zeF : MT :=
 (tTru (m2 dGt (eVar 1) (eC (.int 0))))
def zeL : MS :=
 (sPar 0 1 (zag (eVar 1) (zag (m2 dMod (eVar 0) (eVar 1)) aNil)))
def zeH : MS :=
 zgG zeF zeL 400
def zeh : MS :=
 (sSeq zeH
  (zhN 0))
def zaS : List D -> Option Sl := fP 2 zeh
theorem ziV  (h : FnAt K "_law_divisor" zgc) : FD P w K mg base 1 "_law_divisor" (spP K 2 zaS) :=
 fdP (N := ["one", "other"]) (k := 0) (m := zeh) X G h fun _ _ _ _ _ _ _ hr nd => (zad (zku 400 PassesOwn.never (zl3 (zab 1) zah)
  (zak (ss_par 0 1 (by decide) rfl (zaa (zab 1) (zaa (zbx (zab 0) (zab 1)) zae)) nd)))
  (zak (zdD 0)))
abbrev zeK : Stmt := top 44
def zdM : ME :=
 (eIxV 0 (m2 dMod (m2 dAdd (eVar 1) (eVar 3)) (eVar 2)))
def zdR : MO :=
 oLC [1, 3, 2] 1 (iR1 (zag (eVar 0) aNil)) (gN 3) zbM zdM
def zdQ : ME :=
 (mC dSum (zag (eFz zdR) aNil))
def zdC : MO :=
 oLC [1, 0, 2] 1 (iR1 (zag (eVar 2) aNil)) (gN 3) zbM zdQ
def zcZ : MS :=
 (sSeq (sSet 2 (zbv 0))
  (sRet (mC zcw (zag (eFz zdC) aNil))))
def zaZ : List D -> Option Sl := fP 3 zcZ
theorem zhT  (h : FnAt K "_law_ring_sums" zeK) : FD P w K mg base 1 "_law_ring_sums" (spP K 2 zaZ) :=
 fdP (N := ["row", "k", "many"]) (k := 0) (m := zcZ) X G h fun _ _ _ _ _ _ _ hr nd => (zad (zap 2 (zaB 0 bn.len') nd)
  (zak (zas (zcm bn.tuple' (zaa (SO.se (zcO [1, 0, 2] 1 ["k", "row", "many", "at"] rfl (zaG bn.range' (zaa (zab 2) zae)) (fun C s H fp => (zal 3 ndk)) (fun C s H fp => zaF) (fun C s H fp => (zd2 rfl bn.sum' (zaa (SO.se (zcO [1, 3, 2] 1 ["row", "at", "many", "step"] rfl (zaG bn.range' (zaa (zab 0) zae)) (fun C s H fp => (zal 3 ndk)) (fun C s H fp => zaF) (fun C s H fp => (zai 0 (zbx (zaU (zab 1) (zab 3)) (zab 2)))))) zae))))) zae)))))
abbrev zed : Stmt := top 45
def zdq : MT :=
 (tDI 7 true (eVar 10))
def zdi : MS :=
 (sSeq (sDP 7 (eVar 10) (eVar 11))
  (sSeq (sSet 11 (m2 dSub (m2 dAdd (eVar 11) (eIxV 2 (m2 dMod (m2 dAdd (eVar 10) (eC (.int 1))) (eVar 5)))) (eIxV 2 (eVar 10))))
  (sSet 10 (m2 dMod (m2 dAdd (eVar 10) (eVar 1)) (eVar 5)))))
def zda : MS :=
 zgG zdq zdi 400
def zdu : MS :=
 (sSeq (sSet 10 (eVar 9))
  (sSeq (sSet 11 (eC (.int 0)))
  (sSeq zda
  (sApp 8 (eVar 11)))))
def zdl : MS :=
 sFor (iR1 (zag (eVar 6) aNil)) (gN 9) zdu
def zdh : ME :=
 (eDG 0 (eVar 1))
def zdo : MO :=
 oLC [7] 1 (iR1 (zag (eVar 5) aNil)) (gN 1) zbM zdh
def zcJ : MS :=
 (sSeq (sAsg (eVar 0) (gT 4 (zaz (gN 1) (zaz (gN 2) (zaz (gN 3) (zaz (gN 4) zdW))))))
  (sSeq (sSet 5 (zbv 2))
  (sSeq (sSet 6 (zax zaS (zag (eVar 5) (zag (eVar 1) aNil))))
  (sSeq (sDN 7)
  (sSeq (zh3 8 (oLst aNil))
  (sSeq zdl
  (sFzD 7 (sRet (eTup (zag (eFz zdo) (zag (eVar 8) aNil)))))))))))
def zaQ : List D -> Option Sl := fP 12 zcJ
theorem zhp (zaK : FD P w K mg base 1 "_law_divisor" (spP K 2 zaS)) (h : FnAt K "_law_ring_mores" zed) : FD P w K mg base 2 "_law_ring_mores" (spP K 1 zaQ) :=
 fdP (N := ["ring", "k", "sums", "least", "greatest", "many", "rounds", "mores", "backs", "first", "place", "more"]) (k := 1) (m := zcJ) X G h fun _ _ _ _ _ _ _ hr nd => (zad (zk7 (zab 0) (zcd rfl (zan (zal 1 nd) (zan (zal 2 nd) (zan (zal 3 nd) (zan (zal 4 nd) zbl))))))
  (zad (zap 5 (zaB 2 bn.len') nd)
  (zad (zap 6 (zam zaK hr (zaa (zab 5) (zaa (zab 1) zae)) (hlen := (zac (zac zaj)))) nd)
  (zad (ss_dNew 7 nd)
  (zad (zeP 8 (zdy zae) nd)
  (zad (zcB PassesOwn.never rfl (zaG bn.range' (zaa (zab 6) zae)) (zal 9 nd)
  (zad (zap 10 (zab 9) nd)
  (zad (zap 11 zah nd)
  (zad (zku 400 PassesOwn.never (zpz 7 hr.units (zab 10))
  (zad (ss_dPut 7 hr.units (zab 11) (zab 10))
  (zad (zap 11 (zbp (zaU (zab 11) (zai 2 (zbx (zaU (zab 10) zah) (zab 5)))) (zai 2 (zab 10))) nd)
  (zak (zap 10 (zbx (zaU (zab 10) (zab 1)) (zab 5)) nd)))))
  (zak (zja 8 (zab 11)))))))
  (zak (ss_fzD 7 (zas (zcn (zaa (SO.se (zcO [7] 1 ["mores", "place"] rfl (zaG bn.range' (zaa (zab 5) zae)) (fun C s H fp => (zal 1 ndk)) (fun C s H fp => zaF) (fun C s H fp => (se_dGet 0 hr.units (zab 1))))) (zaa (zab 8) zae))))))))))))
abbrev zd5 : Stmt := top 46
def zdm : ME :=
 (m2 dSub (m2 dIx (eIxV 0 (eC (.int 2))) (eVar 2)) (eIxV 1 (eVar 2)))
def zc2 : MO :=
 oLC [0, 1] 1 (iR3 (zag (eVar 4) (zag (zbv 1) (zag (eVar 2) aNil)))) (gN 2) zbM zdm
def zdw : ME :=
 (m2 dSub (m2 dIx (eIxV 0 (eC (.int 3))) (eVar 2)) (eIxV 1 (eVar 2)))
def zdr : MO :=
 oLC [0, 1] 1 (iR3 (zag (eVar 4) (zag (zbv 1) (zag (eVar 2) aNil)))) (gN 2) zbM zdw
def zc0 : MS :=
 (sSeq (sSet 5 (eFz zc2))
  (sSeq (sSet 6 (eFz zdr))
  (sApp 3 (eTup (zag (mC zfE (zag (eVar 5) aNil)) (zag (mC zhH (zag (eVar 6) aNil)) aNil))))))
def zdk : MS :=
 sFor (iR1 (zag (eVar 2) aNil)) (gN 4) zc0
def zcG : MS :=
 (sSeq (sSet 2 (zax zaS (zag (zbv 1) (zag (eIxV 0 (eC (.int 0))) aNil))))
  (sSeq (zh3 3 (oLst aNil))
  (sSeq zdk
  (zhN 3))))
def zbn : List D -> Option Sl := fP 7 zcG
theorem zhE (zaK : FD P w K mg base 1 "_law_divisor" (spP K 2 zaS)) (h : FnAt K "_law_ring_spans" zd5) : FD P w K mg base 2 "_law_ring_spans" (spP K 2 zbn) :=
 fdP (N := ["ring", "mores", "rounds", "spans", "first", "lows", "highs"]) (k := 1) (m := zcG) X G h fun _ _ _ _ _ _ _ hr nd => (zad (zap 2 (zam zaK hr (zaa (zaB 1 bn.len') (zaa (zai 0 zah) zae)) (hlen := (zac (zac zaj)))) nd)
  (zad (zeP 3 (zdy zae) nd)
  (zad (zcB PassesOwn.never rfl (zaG bn.range' (zaa (zab 2) zae)) (zal 4 nd)
  (zad (zhB 5 [0, 1] 1 ["ring", "mores", "place"] rfl (zlz bn.range' (zaa (zab 4) (zaa (zaB 1 bn.len') (zaa (zab 2) zae)))) (fun C s H fp => (zal 2 ndk)) (fun C s H fp => zaF) (fun C s H fp => (zbp (zbY (zai 0 zah) (zab 2)) (zai 1 (zab 2)))) nd)
  (zad (zhB 6 [0, 1] 1 ["ring", "mores", "place"] rfl (zlz bn.range' (zaa (zab 4) (zaa (zaB 1 bn.len') (zaa (zab 2) zae)))) (fun C s H fp => (zal 2 ndk)) (fun C s H fp => zaF) (fun C s H fp => (zbp (zbY (zai 0 zah) (zab 2)) (zai 1 (zab 2)))) nd)
  (zak (zja 3 (zcn (zaa (zi5 rfl bn.max' (zaa (zab 5) zae)) (zaa (zkh rfl bn.min' (zaa (zab 6) zae)) zae))))))))
  (zak (zdD 3)))))
abbrev zeG : Stmt := top 47
def zdP : ME :=
 (zfh dLe dLe (eIxV 0 (eVar 3)) (eIxV 1 (eVar 3)) (eIxV 2 (eVar 3)))
def zdV : MO :=
 oLC [4, 1, 5] 1 (iR1 (zag (zbv 1) aNil)) (gN 3) zbM zdP
def zdF : MS :=
 (sRet (mC (dAll fun bs => bs.all id) (zag (eFz zdV) aNil)))
def zcX : MS :=
 (sSeq (sAsg (eVar 0) (gT 4 (zaz (gN 2) (zaz (gN 3) (zaz (gN 4) (zaz (gN 5) zdW))))))
  (sSeq (sIf (tOrM (tTru (m2 dNe (zbv 1) (zbv 3))) (tTru (m2 dNe (zax zaZ (zag (eVar 1) (zag (eVar 2) aNil))) (eVar 3))))
  (sRet (eC (.bl false)))
  zby)
  zdF))
def za0 : List D -> Option Sl := fP 6 zcX
theorem zh7 (za3 : FD P w K mg base 1 "_law_ring_sums" (spP K 2 zaZ)) (h : FnAt K "_law_ring_fits" zeG) : FD P w K mg base 2 "_law_ring_fits" (spP K 2 za0) :=
 fdP (N := ["ring", "row", "k", "sums", "least", "greatest"]) (k := 1) (m := zcX) X G h fun _ _ _ _ _ _ _ hr nd => (zad (zk7 (zab 0) (zcd rfl (zan (zal 2 nd) (zan (zal 3 nd) (zan (zal 4 nd) (zan (zal 5 nd) zbl))))))
  (zad (zbJ (STw.st (ziv (ziY hr.units (zaB 1 bn.len') (zaB 3 bn.len')) (ziN (ziY hr.units (zam za3 hr (zaa (zab 1) (zaa (zab 2) zae)) (hlen := (zac (zac zaj)))) (zab 3)))))
  (zak (zas zix))
  zaC)
  (zak (zas (zlJ rfl bn.all' (zaa (SO.se (zcO [4, 1, 5] 1 ["least", "row", "greatest", "place"] rfl (zaG bn.range' (zaa (zaB 1 bn.len') zae)) (fun C s H fp => (zal 3 ndk)) (fun C s H fp => zaF) (fun C s H fp => (ziI zjr zjr zcc zcc (zai 0 (zab 3)) (zai 1 (zab 3)) (zai 2 (zab 3)))))) zae))))))
abbrev zd7 : Stmt := top 48
def zc3 : ME :=
 (m2 dLe (eIxV 0 (eC (.int 0))) (eIxV 0 (eC (.int 1))))
def zc9 : MO :=
 oLC [] 1 (iSeq (eVar 5)) (gN 0) zbM zc3
def zdg : ME :=
 (eIxV 0 (eC (.int 1)))
def zdf : MO :=
 oLC [] 1 (iSeq (eCut (eVar 5) (zdH (m2 dAdd (eVar 8) (eC (.int 1)))) pNo)) (gN 0) zbM zdg
def zc7 : MS :=
 (sSeq (sApp 7 (mC (d2I max2) (zag (m2 dIx (eIxV 5 (eVar 8)) (eC (.int 0))) (zag (m2 dSub (eVar 6) (mC dSum (zag (eFz zdf) aNil))) aNil))))
  (sSet 6 (m2 dSub (eVar 6) (eIxV 7 (eVar 8)))))
def zdp : MS :=
 sFor (iR1 (zag (zbv 5) aNil)) (gN 8) zc7
def zc5 : ME :=
 (m2 dAdd (eIxV 0 (m2 dMod (eVar 2) (zbv 0))) (eIxV 1 (eVar 2)))
def zdb : MO :=
 oLCM [7, 1] 1 0 7 (iR1 (zag (zbv 1) aNil)) (gN 2) zbM zc5
def zde : MS :=
 (sSeq (sSet 6 (m2 dDiv (eVar 4) (eVar 3)))
  (sSeq (zh3 7 (oLst aNil))
  (sSeq zdp
  (sSeq (sSet 9 (mC zcw (zag (eFz zdb) aNil)))
  (sRet (eIf (tTru (zax za0 (zag (eVar 0) (zag (eVar 9) aNil)))) (eVar 9) (eC .non)))))))
def zcF : MS :=
 (sSeq (sAsg (zax zaQ (zag (eVar 0) aNil)) (gT 2 (zaz (gN 1) (zaz (gN 2) zdW))))
  (sSeq (sSet 3 (m2 dDiv (eIxV 0 (eC (.int 0))) (zbv 2)))
  (sSeq (sSet 4 (m2 dSub (m2 dIx (eIxV 0 (eC (.int 1))) (eC (.int 0))) (mC dSum (zag (eCut (eVar 1) pNo (zdH (eIxV 0 (eC (.int 0))))) aNil))))
  (sSeq (sSet 5 (zax zbn (zag (eVar 0) (zag (eVar 1) aNil))))
  (sSeq (sIf (tOrM (tTru (m2 dGt (mC zfE (zag (eVar 2) aNil)) (eC (.int 0)))) (tOrM (tTru (m2 dLt (mC zhH (zag (eVar 2) aNil)) (eC (.int 0)))) (tOrM (tTru (m2 dGt (m2 dMod (eVar 4) (eVar 3)) (eC (.int 0)))) (zhZ (tTru (mC (dAll fun bs => bs.all id) (zag (eFz zc9) aNil)))))))
  (sRet (eC .non))
  zby)
  zde)))))
def zbh : List D -> Option Sl := fP 10 zcF
theorem zho (za4 : FD P w K mg base 2 "_law_ring_fits" (spP K 2 za0)) (zaV : FD P w K mg base 2 "_law_ring_mores" (spP K 1 zaQ)) (zcr : FD P w K mg base 2 "_law_ring_spans" (spP K 2 zbn)) (h : FnAt K "_law_ring_least" zd7) : FD P w K mg base 3 "_law_ring_least" (spP K 1 zbh) :=
 fdP (N := ["ring", "mores", "backs", "each", "total", "spans", "left", "firsts", "at", "row"]) (k := 2) (m := zcF) X G h fun _ _ _ _ _ _ _ hr nd => (zad (zk7 (zam zaV hr (zaa (zab 0) zae) (hlen := (zac zaj))) (zcd rfl (zan (zal 1 nd) (zan (zal 2 nd) zbl))))
  (zad (zap 3 (ze7 (zai 0 zah) (zaB 2 bn.len')) nd)
  (zad (zap 4 (zbp (zbY (zai 0 zah) zah) (zd2 rfl bn.sum' (zaa (zd3 (zab 1) zgE (zbe (zai 0 zah))) zae))) nd)
  (zad (zap 5 (zam zcr hr (zaa (zab 0) (zaa (zab 1) zae)) (hlen := (zac (zac zaj)))) nd)
  (zad (zbJ (STw.st (ziv (zl3 (zi5 rfl bn.max' (zaa (zab 2) zae)) zah) (ziv (zno (zkh rfl bn.min' (zaa (zab 2) zae)) zah) (ziv (zl3 (zbx (zab 4) (zab 3)) zah) (ziN (zfK (zck (zlJ rfl bn.all' (zaa (SO.se (zcO [] 1 ["span"] rfl (zb0 (zab 5)) (fun C s H fp => (zal 0 ndk)) (fun C s H fp => zaF) (fun C s H fp => (se_le (zai 0 zah) (zai 0 zah))))) zae)))))))))
  (zak (zas zjg))
  zaC)
  (zad (zap 6 (ze7 (zab 4) (zab 3)) nd)
  (zad (zeP 7 (zdy zae) nd)
  (zad (zcB PassesOwn.never rfl (zaG bn.range' (zaa (zaB 5 bn.len') zae)) (zal 8 nd)
  (zad (zja 7 (zoA rfl bn.max' (zaa (zbY (zai 5 (zab 8)) zah) (zaa (zbp (zab 6) (zd2 rfl bn.sum' (zaa (SO.se (zcO [] 1 ["span"] rfl (zb0 (zd3 (zab 5) (zbe (zaU (zab 8) zah)) zgE)) (fun C s H fp => (zal 0 ndk)) (fun C s H fp => zaF) (fun C s H fp => (zai 0 zah)))) zae))) zae))))
  (zak (zap 6 (zbp (zab 6) (zai 7 (zab 8))) nd))))
  (zad (zap 9 (zcm bn.tuple' (zaa (SO.se (so_lcM [7, 1] 1 0 7 ["firsts", "mores", "place"] rfl (zaG bn.range' (zaa (zaB 1 bn.len') zae)) (fun C s H fp => (zal 2 ndk)) (fun C s H fp => zaF) (fun C s H fp => (zaU (zai 0 (zbx (zab 2) (zaB 0 bn.len'))) (zai 1 (zab 2)))))) zae)) nd)
  (zak (zas (se_ifExp (zck (zam za4 hr (zaa (zab 0) (zaa (zab 9) zae)) (hlen := (zac (zac zaj))))) (zab 9) zjg))))))))))))
abbrev zc6 : Stmt := top 49
def zcD : ME :=
 (eAnd (zfh dLe dLt (eC (.int 0)) (eIxV 0 (eVar 3)) (eVar 1)) (m2 dEq (m2 dMod (eIxV 0 (eVar 3)) (eVar 2)) (eVar 3)))
def zcC : MO :=
 oLC [0, 2, 1] 1 (iR1 (zag (eVar 1) aNil)) (gN 3) zbM zcD
def zcA : MS :=
 (sRet (mC (dAll fun bs => bs.all id) (zag (eFz zcC) aNil)))
def zb5 : MS :=
 (sSeq (sIf (tTru (m2 dNe (zbv 0) (eVar 1)))
  (sRet (eC (.bl false)))
  zby)
  zcA)
def za6 : List D -> Option Sl := fP 3 zb5
theorem zgD  (h : FnAt K "_law_firsts_right" zc6) : FD P w K mg base 1 "_law_firsts_right" (spP K 3 za6) :=
 fdP (N := ["places", "rounds", "many"]) (k := 0) (m := zb5) X G h fun _ _ _ _ _ _ _ hr nd => (zad (zbJ (ziY hr.units (zaB 0 bn.len') (zab 1))
  (zak (zas zix))
  zaC)
  (zak (zas (zlJ rfl bn.all' (zaa (SO.se (zcO [0, 2, 1] 1 ["places", "many", "rounds", "j"] rfl (zaG bn.range' (zaa (zab 1) zae)) (fun C s H fp => (zal 3 ndk)) (fun C s H fp => zaF) (fun C s H fp => (zhq (ziI zjr zlS zcc zcc zah (zai 0 (zab 3)) (zab 1)) (zhi (zle hr.units (zbx (zai 0 (zab 3)) (zab 2)) (zab 3))))))) zae)))))
abbrev zdK : Stmt := top 50
def zcT : MS :=
 (sRet (m2 dGt (m2 dSub (m2 dIx (eIxV 0 (eC (.int 2))) (eVar 4)) (eIxV 1 (eVar 4))) (m2 dSub (m2 dIx (eIxV 0 (eC (.int 3))) (eVar 5)) (eIxV 1 (eVar 5)))))
def zcQ : ME :=
 (m2 dSub (m2 dIx (eIxV 0 (eC (.int 2))) (eVar 2)) (eIxV 1 (eVar 2)))
def zcS : MO :=
 oLC [0, 1] 1 (iSeq (eIxV 2 (eC (.int 1)))) (gN 2) zbM zcQ
def zcU : ME :=
 (m2 dSub (m2 dIx (eIxV 0 (eC (.int 3))) (eVar 2)) (eIxV 1 (eVar 2)))
def zcR : MO :=
 oLC [0, 1] 1 (iSeq (eIxV 2 (eC (.int 1)))) (gN 2) zbM zcU
def zcM : MS :=
 (sRet (m2 dLt (mC dSum (zag (eFz zcR) aNil)) (eVar 6)))
def zbC : MS :=
 (sSeq (sSet 6 (m2 dDiv (m2 dSub (m2 dIx (eIxV 0 (eC (.int 1))) (eC (.int 0))) (mC dSum (zag (eCut (eVar 1) pNo (zdH (eIxV 0 (eC (.int 0))))) aNil))) (m2 dDiv (eIxV 0 (eC (.int 0))) (eVar 3))))
  (sSeq (sIf (tTru (m2 dEq (eIxV 2 (eC (.int 0))) (eC (.str "low"))))
  (sRet (m2 dGt (mC dSum (zag (eFz zcS) aNil)) (eVar 6)))
  zby)
  zcM))
def zbE : MS :=
 (sSeq (sIf (zhZ (tTru (zax za6 (zag (eIxV 2 (eC (.int 1))) (zag (eVar 3) (zag (zbv 1) aNil))))))
  (sRet (eC (.bl false)))
  zby)
  zbC)
def zcy : MS :=
 (sSeq (sSet 3 (zax zaS (zag (zbv 1) (zag (eIxV 0 (eC (.int 0))) aNil))))
  (sSeq (sIf (tTru (m2 dEq (eIxV 2 (eC (.int 0))) (eC (.str "clash"))))
  (sSeq (sAsg (eCut (eVar 2) (zdH (eC (.int 1))) pNo) (gT 2 (zaz (gN 4) (zaz (gN 5) zdW))))
  (sSeq (sIf (tOrM (zhZ (tTru (zfh dLe dLt (eC (.int 0)) (eVar 4) (zbv 1)))) (tOrM (zhZ (tTru (zfh dLe dLt (eC (.int 0)) (eVar 5) (zbv 1)))) (tTru (m2 dNe (m2 dMod (eVar 4) (eVar 3)) (m2 dMod (eVar 5) (eVar 3))))))
  (sRet (eC (.bl false)))
  zby)
  zcT))
  zby)
  zbE))
def zbb : List D -> Option Sl := fP 7 zcy
theorem zha (zaK : FD P w K mg base 1 "_law_divisor" (spP K 2 zaS)) (zbU : FD P w K mg base 1 "_law_firsts_right" (spP K 3 za6)) (h : FnAt K "_law_bound_paper" zdK) : FD P w K mg base 2 "_law_bound_paper" (spP K 3 zbb) :=
 fdP (N := ["ring", "mores", "told", "rounds", "a", "b", "total"]) (k := 1) (m := zcy) X G h fun _ _ _ _ _ _ _ hr nd => (zad (zap 3 (zam zaK hr (zaa (zaB 1 bn.len') (zaa (zai 0 zah) zae)) (hlen := (zac (zac zaj)))) nd)
  (zad (zbJ (zis hr.units (zai 2 zah) zdj)
  (zad (zk7 (zd3 (zab 2) (zbe zah) zgE) (zcd rfl (zan (zal 4 nd) (zan (zal 5 nd) zbl))))
  (zad (zbJ (STw.st (ziv (zfK (zko zjr zlS zcc zcc zjM zah (zab 4) (zaB 1 bn.len'))) (ziv (zfK (zko zjr zlS zcc zcc zjM zah (zab 5) (zaB 1 bn.len'))) (ziN (ziY hr.units (zbx (zab 4) (zab 3)) (zbx (zab 5) (zab 3)))))))
  (zak (zas zix))
  zaC)
  (zak (zas (se_gt (zbp (zbY (zai 0 zah) (zab 4)) (zai 1 (zab 4))) (zbp (zbY (zai 0 zah) (zab 5)) (zai 1 (zab 5))))))))
  zaC)
  (zad (zbJ (zfK (zck (zam zbU hr (zaa (zai 2 zah) (zaa (zab 3) (zaa (zaB 1 bn.len') zae))) (hlen := (zac (zac (zac zaj)))))))
  (zak (zas zix))
  zaC)
  (zad (zap 6 (ze7 (zbp (zbY (zai 0 zah) zah) (zd2 rfl bn.sum' (zaa (zd3 (zab 1) zgE (zbe (zai 0 zah))) zae))) (ze7 (zai 0 zah) (zab 3))) nd)
  (zad (zbJ (zis hr.units (zai 2 zah) zdj)
  (zak (zas (se_gt (zd2 rfl bn.sum' (zaa (SO.se (zcO [0, 1] 1 ["ring", "mores", "place"] rfl (zb0 (zai 2 zah)) (fun C s H fp => (zal 2 ndk)) (fun C s H fp => zaF) (fun C s H fp => (zbp (zbY (zai 0 zah) (zab 2)) (zai 1 (zab 2)))))) zae)) (zab 6))))
  zaC)
  (zak (zas (se_lt (zd2 rfl bn.sum' (zaa (SO.se (zcO [0, 1] 1 ["ring", "mores", "place"] rfl (zb0 (zai 2 zah)) (fun C s H fp => (zal 2 ndk)) (fun C s H fp => zaF) (fun C s H fp => (zbp (zbY (zai 0 zah) (zab 2)) (zai 1 (zab 2)))))) zae)) (zab 6)))))))))
abbrev zez : Stmt := top 51
def zdS : MS :=
 (sRet (eAnd (m2 dEq (eVar 4) (eC (.int 0))) (zax zbb (zag (eVar 0) (zag (eVar 2) (zag (eVar 1) aNil))))))
def zb6 : MS :=
 (sSeq (sIf (tTru (m2 dEq (eIxV 1 (eC (.int 0))) (eC (.str "part"))))
  (sRet (eAnd (m2 dGt (eVar 4) (eC (.int 0))) (m2 dEq (eIxV 1 (eC (.int 1))) (eVar 4))))
  zby)
  zdS)
def zb3 : MS :=
 (sSeq (sSet 4 (m2 dMod (m2 dSub (m2 dIx (eIxV 0 (eC (.int 1))) (eC (.int 0))) (mC dSum (zag (eCut (eVar 2) pNo (zdH (eIxV 0 (eC (.int 0))))) aNil))) (m2 dDiv (eIxV 0 (eC (.int 0))) (zbv 3))))
  (sSeq (sIf (tOrM (tTru (m2 dGt (mC zfE (zag (eVar 3) aNil)) (eC (.int 0)))) (tTru (m2 dLt (mC zhH (zag (eVar 3) aNil)) (eC (.int 0)))))
  (sRet (eC (.bl false)))
  zby)
  zb6))
def zbq : MS :=
 (sSeq (sAsg (zax zaQ (zag (eVar 0) aNil)) (gT 2 (zaz (gN 2) (zaz (gN 3) zdW))))
  (sSeq (sIf (tTru (m2 dEq (eIxV 1 (eC (.int 0))) (eC (.str "round"))))
  (sRet (eAnd (zfh dLe dLt (eC (.int 0)) (eIxV 1 (eC (.int 1))) (zbv 3)) (m2 dNe (eIxV 3 (eIxV 1 (eC (.int 1)))) (eC (.int 0)))))
  zby)
  zb3))
def za8 : MS :=
 (sSeq (sIf (tTru (m2 dEq (eIxV 1 (eC (.int 0))) (eC (.str "row"))))
  (sRet (m2 dEq (mC zcw (zag (eIxV 1 (eC (.int 1))) aNil)) (zax zbh (zag (eVar 0) aNil))))
  zby)
  zbq)
def zaH : List D -> Option Sl := fP 5 za8
theorem zhX (zb7 : FD P w K mg base 2 "_law_bound_paper" (spP K 3 zbb)) (zcx : FD P w K mg base 3 "_law_ring_least" (spP K 1 zbh)) (zaV : FD P w K mg base 2 "_law_ring_mores" (spP K 1 zaQ)) (h : FnAt K "_law_ring_told" zez) : FD P w K mg base 4 "_law_ring_told" (spP K 2 zaH) :=
 fdP (N := ["ring", "told", "mores", "backs", "left"]) (k := 3) (m := za8) X G h fun _ _ _ _ _ _ _ hr nd => (zad (zbJ (zis hr.units (zai 1 zah) zdj)
  (zak (zas (zle hr.units (zcm bn.tuple' (zaa (zai 1 zah) zae)) (zam zcx hr (zaa (zab 0) zae) (hlen := (zac zaj))))))
  zaC)
  (zad (zk7 (zam zaV hr (zaa (zab 0) zae) (hlen := (zac zaj))) (zcd rfl (zan (zal 2 nd) (zan (zal 3 nd) zbl))))
  (zad (zbJ (zis hr.units (zai 1 zah) zdj)
  (zak (zas (zhq (ziI zjr zlS zcc zcc zah (zai 1 zah) (zaB 3 bn.len')) (zhi (se_ne hr.units (zai 3 (zai 1 zah)) zah)))))
  zaC)
  (zad (zap 4 (zbx (zbp (zbY (zai 0 zah) zah) (zd2 rfl bn.sum' (zaa (zd3 (zab 2) zgE (zbe (zai 0 zah))) zae))) (ze7 (zai 0 zah) (zaB 3 bn.len'))) nd)
  (zad (zbJ (STw.st (ziv (zl3 (zi5 rfl bn.max' (zaa (zab 3) zae)) zah) (ziN (zno (zkh rfl bn.min' (zaa (zab 3) zae)) zah))))
  (zak (zas zix))
  zaC)
  (zad (zbJ (zis hr.units (zai 1 zah) zdj)
  (zak (zas (zhq (se_gt (zab 4) zah) (zhi (zle hr.units (zai 1 zah) (zab 4))))))
  zaC)
  (zak (zas (zhq (zle hr.units (zab 4) zah) (zhi (zam zb7 hr (zaa (zab 0) (zaa (zab 2) (zaa (zab 1) zae))) (hlen := (zac (zac (zac zaj)))))))))))))))
abbrev zdB : Stmt := top 52
def zbB : MS :=
 (sRet (eAnd (m2 dEq (zbv 0) (eSG [("round", 2), ("part", 2), ("clash", 3)] 0 (eIxV 0 (eC (.int 0))))) (zax zbu (zag (eCut (eVar 0) (zdH (eC (.int 1))) pNo) aNil))))
def zba : MS :=
 (sSeq (sIf (tTru (m2 dIn (eIxV 0 (eC (.int 0))) (eTup (zag (eC (.str "row")) (zag (eC (.str "low")) (zag (eC (.str "high")) aNil))))))
  (sRet (eAnd (m2 dEq (zbv 0) (eC (.int 2))) (zax zbu (zag (eIxV 0 (eC (.int 1))) aNil))))
  zby)
  zbB)
def zbc : MS :=
 (sSeq (sIf (tOrM (zhZ (tTru (eIsI "tuple" (eVar 0)))) (tOrM (tTru (m2 dLt (zbv 0) (eC (.int 2)))) (zhZ (tTru (eIsI "str" (eIxV 0 (eC (.int 0))))))))
  (sRet (eC (.bl false)))
  zby)
  zba)
def zat : List D -> Option Sl := fP 1 zbc
theorem zg5 (zcv : FD P w K mg base 2 "_law_numbers" (spP K 1 zbu)) (h : FnAt K "_law_ring_formed" zdB) : FD P w K mg base 3 "_law_ring_formed" (spP K 1 zat) :=
 fdP (N := ["told"]) (k := 2) (m := zbc) X G h fun _ _ _ _ _ _ _ hr nd => (zad (zbJ (STw.st (ziv (zfK (zck (zls "tuple" bn.isinstance' bn.tuple' (by decide +kernel) (zab 0)))) (ziv (zno (zaB 0 bn.len') zah) (ziN (zfK (zck (zls "str" bn.isinstance' bn.str' (by decide +kernel) (zai 0 zah))))))))
  (zak (zas zix))
  zaC)
  (zad (zbJ (st_in (zai 0 zah) (zcn (zaa zdj (zaa zdj (zaa zdj zae)))))
  (zak (zas (zhq (zle hr.units (zaB 0 bn.len') zah) (zhi (zam zcv hr (zaa (zai 0 zah) zae) (hlen := (zac zaj)))))))
  zaC)
  (zak (zas (zhq (zle hr.units (zaB 0 bn.len') (znx hr.units (zai 0 zah) (by decide +kernel) ⟨rfl, rfl, rfl, rfl⟩)) (zhi (zam zcv hr (zaa (zd3 (zab 0) (zbe zah) zgE) zae) (hlen := (zac zaj)))))))))
abbrev zfn : Stmt := top 53
def zec : ME :=
 (m2 dAdd (eVar 0) (eTup (zag (eVar 1) aNil)))
def zdY : MO :=
 oLC [5] 1 (iR2L (zag (eVar 2) (zag (m2 dAdd (eVar 3) (eC (.int 1))) aNil))) (gN 1) zbM zec
def zea : MS :=
 (sExt 4 (eFz zdY))
def zd1 : MS :=
 sFor (iSeq (eVar 1)) (gN 5) zea
def zd0 : MS :=
 (sSeq (zh3 4 (oLst aNil))
  (sSeq zd1
  (sSet 1 (eVar 4))))
def zdX : MS :=
 sFor (iZ2 (zag (eIxV 0 (eC (.int 2))) (zag (eIxV 0 (eC (.int 3))) aNil))) (gT 2 (zaz (gN 2) (zaz (gN 3) zdW))) zd0
def zd4 : ME :=
 (eVar 1)
def zeb : MT :=
 (tTru (zax za0 (zag (eVar 0) (zag (eVar 1) aNil))))
def zee : MO :=
 oLC [0] 1 (iSeq (eVar 1)) (gN 1) zeb zd4
def zdO : MS :=
 (sSeq (sSet 1 (eFz (oLst (zag (eTup aNil) aNil))))
  (sSeq zdX
  (zjm zee)))
def zbF : List D -> Option Sl := fP 6 zdO
theorem ziw (za4 : FD P w K mg base 2 "_law_ring_fits" (spP K 2 za0)) (h : FnAt K "_law_all_fits" zfn) : FD P w K mg base 3 "_law_all_fits" (spP K 1 zbF) :=
 fdP (N := ["ring", "rows", "low", "high", "longer", "row"]) (k := 2) (m := zdO) X G h fun _ _ _ _ _ _ _ hr nd => (zad (zap 1 (SO.se (zdy (zaa (zcn zae) zae))) nd)
  (zad (zcB PassesOwn.never rfl (zjY bn.zip' (zaa (zai 0 zah) (zaa (zai 0 zah) zae))) (zcd rfl (zan (zal 2 nd) (zan (zal 3 nd) zbl)))
  (zad (zeP 4 (zdy zae) nd)
  (zad (zcB PassesOwn.never rfl (zb0 (zab 1)) (zal 5 nd)
  (zak (ss_ext 4 (SO.se (zcO [5] 1 ["row", "number"] rfl (znt bn.range' (zaa (zab 2) (zaa (zaU (zab 3) zah) zae))) (fun C s H fp => (zal 1 ndk)) (fun C s H fp => zaF) (fun C s H fp => (zaU (zab 0) (zcn (zaa (zab 1) zae)))))))))
  (zak (zap 1 (zab 4) nd)))))
  (zak (zfD (zcO [0] 1 ["ring", "row"] rfl (zb0 (zab 1)) (fun C s H fp => (zal 1 ndk)) (fun C s H fp => (zma (zck (zam za4 hr (zaa (zab 0) (zaa (zab 1) zae)) (hlen := (zac (zac zaj))))))) (fun C s H fp => (zab 1)))))))
abbrev zdZ : Stmt := top 54
def zdv : ME :=
 (m2 dSub (zfp zaO 0 (zag (eC (.int 5)) aNil)) (eC (.int 2)))
def zc1 : MO :=
 oLCM [0] 1 0 0 (iR1 (zag (eVar 2) aNil)) (gN 1) zbM zdv
def zdn : ME :=
 (m2 dSub (eVar 1) (zfp zaO 0 (zag (eC (.int 3)) aNil)))
def zdc : MO :=
 oLCM [0] 1 0 0 (iSeq (eVar 3)) (gN 1) zbM zdn
def zdx : ME :=
 (mC (d2I min2) (zag (m2 dAdd (eVar 1) (zfp zaO 0 (zag (eC (.int 3)) aNil))) (zag (m2 dAdd (eVar 2) (eC (.int 3))) aNil)))
def zdd : MO :=
 oLCM [0] 2 0 0 (iZ2 (zag (eVar 3) (zag (eVar 4) aNil))) (gT 2 (zaz (gN 1) (zaz (gN 2) zdW))) zbM zdx
def zds : ME :=
 (m2 dAdd (eVar 2) (m2 dMul (eVar 0) (m2 dAdd (zfp zaO 1 (zag (eC (.int 2)) aNil)) (eC (.int 1)))))
def zc8 : MO :=
 oLCM [1, 0] 1 1 0 (iSeq (eVar 6)) (gN 2) zbM zds
def zdt : MS :=
 (sPut 6 (m2 dMod (eVar 9) (eVar 2)) (m2 dAdd (eIxV 6 (m2 dMod (eVar 9) (eVar 2))) (eC (.int 1))))
def zc4 : MS :=
 sFor (iR2 (zag (eVar 7) (zag (m2 dAdd (eVar 7) (eVar 1)) aNil))) (gN 9) zdt
def zbV : MS :=
 (sRet (eTup (zag (eVar 1) (zag (mC zcw (zag (eVar 6) aNil)) (zag (mC zcw (zag (eVar 4) aNil)) (zag (mC zcw (zag (eVar 5) aNil)) aNil))))))
def zbW : MS :=
 (sSeq (sIf (tTru (m2 dEq (eVar 8) (eC (.int 3))))
  zc4
  zby)
  zbV)
def zbX : MS :=
 (sSeq (sIf (tTru (m2 dEq (eVar 8) (eC (.int 2))))
  (zh3 6 zc8)
  zby)
  zbW)
def zcE : MS :=
 (sSeq (sSet 1 (m2 dAdd (eC (.int 2)) (zfp zaO 0 (zag (eC (.int 3)) aNil))))
  (sSeq (sSet 2 (m2 dAdd (eVar 1) (zfp zaO 0 (zag (m2 dSub (eC (.int 6)) (eVar 1)) aNil))))
  (sSeq (sSet 3 (eFz zc1))
  (sSeq (sSet 4 (eFz zdc))
  (sSeq (sSet 5 (eFz zdd))
  (sSeq (zh3 6 (oC zaW (zag (zax zaZ (zag (eVar 3) (zag (eVar 1) aNil))) aNil)))
  (sSeq (sSet 7 (zfp zaO 0 (zag (eVar 2) aNil)))
  (sSeq (sSet 8 (zfp zaO 0 (zag (eC (.int 4)) aNil)))
  (sSeq (sIf (tTru (m2 dEq (eVar 8) (eC (.int 1))))
  (sPut 6 (eVar 7) (m2 dSub (m2 dAdd (eIxV 6 (eVar 7)) (zfp zaO 0 (zag (eC (.int 5)) aNil))) (eC (.int 2))))
  zby)
  zbX)))))))))
def zbj : List D -> List D -> Option (Sl × List D) := fM 10 zcE
theorem zhQ (za3 : FD P w K mg base 1 "_law_ring_sums" (spP K 2 zaZ)) (zaT : FD P w K mg base 1 "_law_take" (spM K 2 zaO)) (h : FnAt K "_law_small_ring" zdZ) : FD P w K mg base 2 "_law_small_ring" (spM K 1 zbj) :=
 fdM (N := ["pot", "k", "many", "row", "least", "greatest", "sums", "at", "way", "place"]) (k := 1) (m := zcE) X G h fun _ _ _ _ _ _ _ hr nd => (zad (zap 1 (zaU zah (zdz 0 zaT hr (zaa zah zae) (zjx (zac zaj)))) nd)
  (zad (zap 2 (zaU (zab 1) (zdz 0 zaT hr (zaa (zbp zah (zab 1)) zae) (zjx (zac zaj)))) nd)
  (zad (zhW 3 [0] 1 0 0 ["pot", "place"] rfl (zaG bn.range' (zaa (zab 2) zae)) (fun C s H fp => (zal 1 ndk)) (fun C s H fp => zaF) (fun C s H fp => (zbp (zdz 0 zaT hr (zaa zah zae) (zjx (zac zaj))) zah)) nd)
  (zad (zhW 4 [0] 1 0 0 ["pot", "number"] rfl (zb0 (zab 3)) (fun C s H fp => (zal 1 ndk)) (fun C s H fp => zaF) (fun C s H fp => (zbp (zab 1) (zdz 0 zaT hr (zaa zah zae) (zjx (zac zaj))))) nd)
  (zad (zhW 5 [0] 2 0 0 ["pot", "number", "low"] rfl (zjY bn.zip' (zaa (zab 3) (zaa (zab 4) zae))) (fun C s H fp => (zcd rfl (zan (zal 1 ndk) (zan (zal 2 ndk) zbl)))) (fun C s H fp => zaF) (fun C s H fp => (se_min2 rfl bn.min' (zaa (zaU (zab 1) (zdz 0 zaT hr (zaa zah zae) (zjx (zac zaj)))) (zaa (zaU (zab 2) zah) zae)))) nd)
  (zad (zeP 6 (so_list bn.list' (zaa (zam za3 hr (zaa (zab 3) (zaa (zab 1) zae)) (hlen := (zac (zac zaj)))) zae)) nd)
  (zad (zap 7 (zdz 0 zaT hr (zaa (zab 2) zae) (zjx (zac zaj))) nd)
  (zad (zap 8 (zdz 0 zaT hr (zaa zah zae) (zjx (zac zaj))) nd)
  (zad (zbJ (zis hr.units (zab 8) zah)
  (zak (zm6 6 (zbp (zaU (zai 6 (zab 7)) (zdz 0 zaT hr (zaa zah zae) (zjx (zac zaj)))) zah) (zab 7)))
  zaC)
  (zad (zbJ (zis hr.units (zab 8) zah)
  (zak (zph 6 [1, 0] 1 1 0 ["k", "pot", "total"] rfl (zb0 (zab 6)) (fun C s H fp => (zal 2 ndk)) (fun C s H fp => zaF) (fun C s H fp => (zaU (zab 2) (zgO (zab 0) (zaU (zdz 1 zaT hr (zaa zah zae) (zjx (zac zaj))) zah)))) nd))
  zaC)
  (zad (zbJ (zis hr.units (zab 8) zah)
  (zak (zcB PassesOwn.never rfl (zji bn.range' (zaa (zab 7) (zaa (zaU (zab 7) (zab 1)) zae))) (zal 9 nd)
  (zak (zm6 6 (zaU (zai 6 (zbx (zab 9) (zab 2))) zah) (zbx (zab 9) (zab 2))))))
  zaC)
  (zak (zas (zcn (zaa (zab 1) (zaa (zcm bn.tuple' (zaa (zab 6) zae)) (zaa (zcm bn.tuple' (zaa (zab 4) zae)) (zaa (zcm bn.tuple' (zaa (zab 5) zae)) zae))))))))))))))))))
abbrev zlx : Stmt := top 55
def zmw : ME :=
 (zax zfJ (zag (eVar 0) (zag (eVar 1) aNil)))
def zmA : MO :=
 oLC [2] 1 (iR1 (zag (zbv 3) aNil)) (gN 1) zbM zmw
def zmF : ME :=
 (zax zct (zag (eVar 0) (zag (eVar 1) aNil)))
def zmN : MO :=
 oLC [2] 1 (iSeq (eVar 3)) (gN 1) zbM zmF
def zmQ : MS :=
 (sIf (tTru (m2 dNe (eFz zmN) (eFz (oR (iR1 (zag (zbv 3) aNil))))))
  (sRet (eC (.bl false)))
  zby)
def zj7 : MS :=
 (sSeq (sIf (tTru (m2 dNe (eFz zmA) (eVar 3)))
  (sRet (eC (.bl false)))
  zby)
  zmQ)
def zj6 : MS :=
 (sSeq (sIf (tOrM (tTru (m2 dNe (zax zb8 (zag (eVar 2) aNil)) (zbv 3))) (tOrM (znX (tTru (m2 dNe (eVar 3) (eFz (oLst aNil)))) (tTru (m2 dNe (eVar 4) (eTup (zag (eC (.str "row")) (zag (eIxV 3 (eC (.int 0))) aNil)))))) (znX (tTru (m2 dEq (eVar 3) (eFz (oLst aNil)))) (tTru (m2 dEq (eIxV 4 (eC (.int 0))) (eC (.str "row")))))))
  (sRet (eC (.bl false)))
  zby)
  zj7)
def zm2 : MS :=
 (sSeq (sSet 2 (zl0 zbj (znm zdE (zag (eVar 1) aNil)) aNil))
  (sSeq (sSet 3 (zax zbF (zag (eVar 2) aNil)))
  (sSeq (sSet 4 (zax zco (zag (eVar 2) aNil)))
  (sSeq (sIf (tOrM (zhZ (tTru (zax zat (zag (eVar 4) aNil)))) (zhZ (tTru (zax zaH (zag (eVar 2) (zag (eVar 4) aNil))))))
  (sRet (eC (.bl false)))
  zby)
  zj6))))
def znh : MS :=
 sFor (iSeq (m2 dAdd (eCut (eVar 0) pNo (zdH (eC (.int 6)))) (eFz (oLst (zag (eC (.int 0)) aNil))))) (gN 1) zm2
def m_law : MS :=
 (sSeq znh
  (sRet (eC (.bl true))))
def zk0 : List D -> Option Sl := fP 5 m_law
theorem ok_law (zcW : FD P w K mg base 3 "_law_all_fits" (spP K 1 zbF)) (zgi : FD P w K mg base 1 "_law_deal" (spP K 1 zdE)) (zca : FD P w K mg base 3 "_law_ring_formed" (spP K 1 zat)) (zcK : FD P w K mg base 4 "_law_ring_told" (spP K 2 zaH)) (zcj : FD P w K mg base 2 "_law_small_ring" (spM K 1 zbj)) (zeo : FD P w K mg base 6 "fitted_ring" (spP K 1 zco)) (zh1 : FD P w K mg base 7 "ring_at" (spP K 2 zfJ)) (zcg : FD P w K mg base 6 "ring_many" (spP K 1 zb8)) (zer : FD P w K mg base 6 "ring_number" (spP K 2 zct)) (F : Fun K "law" "law" zlx f fd) : FnOk P w K mg base CX0 8 f fd ["script"] (spP K 1 zk0) :=
 lawP (N := ["script", "cell", "ring", "rows", "told"]) (k := 7) (n := 1) (m := m_law) F fun _ _ _ _ _ _ _ hr nd => (zad (zcB PassesOwn.never rfl (zb0 (zaU (zd3 (zab 0) zgE (zbe zah)) (SO.se (zdy (zaa zah zae))))) (zal 1 nd)
  (zad (zap 2 (zn1 zcj hr (zks zgi hr (zaa (zab 1) zae) (hlen := (zac zaj))) zae (zjx zaj)) nd)
  (zad (zap 3 (zam zcW hr (zaa (zab 2) zae) (hlen := (zac zaj))) nd)
  (zad (zap 4 (zam zeo hr (zaa (zab 2) zae) (hlen := (zac zaj))) nd)
  (zad (zbJ (STw.st (ziv (zfK (zck (zam zca hr (zaa (zab 4) zae) (hlen := (zac zaj))))) (ziN (zfK (zck (zam zcK hr (zaa (zab 2) (zaa (zab 4) zae)) (hlen := (zac (zac zaj)))))))))
  (zak (zas zix))
  zaC)
  (zad (zbJ (STw.st (ziv (ziY hr.units (zam zcg hr (zaa (zab 2) zae) (hlen := (zac zaj))) (zaB 3 bn.len')) (ziv (STw.st (zoP (ziY hr.units (zab 3) (SO.se (zdy zae))) (zl7 (ziY hr.units (zab 4) (zcn (zaa zdj (zaa (zai 3 zah) zae))))))) (ziN (STw.st (zoP (zis hr.units (zab 3) (SO.se (zdy zae))) (zl7 (zis hr.units (zai 4 zah) zdj))))))))
  (zak (zas zix))
  zaC)
  (zad (zbJ (ziY hr.units (SO.se (zcO [2] 1 ["ring", "number"] rfl (zaG bn.range' (zaa (zaB 3 bn.len') zae)) (fun C s H fp => (zal 1 ndk)) (fun C s H fp => zaF) (fun C s H fp => (zam zh1 hr (zaa (zab 0) (zaa (zab 1) zae)) (hlen := (zac (zac zaj))))))) (zab 3))
  (zak (zas zix))
  zaC)
  (zak (zbJ (ziY hr.units (SO.se (zcO [2] 1 ["ring", "row"] rfl (zb0 (zab 3)) (fun C s H fp => (zal 1 ndk)) (fun C s H fp => zaF) (fun C s H fp => (zam zer hr (zaa (zab 0) (zaa (zab 1) zae)) (hlen := (zac (zac zaj))))))) (SO.se (zpC bn.list' bn.range' (zaa (zaB 3 bn.len') zae))))
  (zak (zas zix))
  zaC)))))))))
  (zak (zas zix)))
end
set_option maxHeartbeats 0 in
theorem all_mk {l : W.OpenLaw} {w : World} {K : W.Frag} {h : Heap} {mg : Str -> Option Value} {fa : Addr} (X : K.In h) (G : h.Ns mainGlobals mg) (hfa : mg "law" = some (.ref fa))
  (h1 : FnAt K "less_mores" zhK)
  (h2 : FnAt K "head_spans" zhG)
  (h3 : FnAt K "row_by_heads" zfv)
  (h4 : FnAt K "places_asking" ze9)
  (h5 : FnAt K "heads_paper" zgR)
  (h6 : FnAt K "least_heads" zgM)
  (h7 : FnAt K "part_ways" zid)
  (h8 : FnAt K "heads_many" zhh)
  (h9 : FnAt K "heads_below" zgQ)
  (h10 : FnAt K "first_head" zhR)
  (h11 : FnAt K "heads_at" zi7)
  (h12 : FnAt K "heads_number" zfO)
  (h13 : FnAt K "ring_sums" zii)
  (h14 : FnAt K "row_within" zhO)
  (h15 : FnAt K "ring_holds" zhl)
  (h16 : FnAt K "rounds_many" zgK)
  (h17 : FnAt K "round_walk" zhm)
  (h18 : FnAt K "round_closes" zga)
  (h19 : FnAt K "ring_mores" zhf)
  (h20 : FnAt K "head_times" zhv)
  (h21 : FnAt K "heads_sum" zin)
  (h22 : FnAt K "ring_total" zhS)
  (h23 : FnAt K "sums_paper" zhD)
  (h24 : FnAt K "ring_lows" ziq)
  (h25 : FnAt K "ring_highs" zhx)
  (h26 : FnAt K "round_spans" zgJ)
  (h27 : FnAt K "fitted_ring" zgP)
  (h28 : FnAt K "ring_many" zij)
  (h29 : FnAt K "ring_at" zjQ)
  (h30 : FnAt K "ring_number" zgL)
  (h31 : FnAt K "_law_deal" zih)
  (h32 : FnAt K "_law_take" zik)
  (h33 : FnAt K "_law_whole" zhz)
  (h34 : FnAt K "_law_numbers" zfC)
  (h35 : FnAt K "_law_divisor" zgc)
  (h36 : FnAt K "_law_ring_sums" zeK)
  (h37 : FnAt K "_law_ring_mores" zed)
  (h38 : FnAt K "_law_ring_spans" zd5)
  (h39 : FnAt K "_law_ring_fits" zeG)
  (h40 : FnAt K "_law_ring_least" zd7)
  (h41 : FnAt K "_law_firsts_right" zc6)
  (h42 : FnAt K "_law_bound_paper" zdK)
  (h43 : FnAt K "_law_ring_told" zez)
  (h44 : FnAt K "_law_ring_formed" zdB)
  (h45 : FnAt K "_law_all_fits" zfn)
  (h46 : FnAt K "_law_small_ring" zdZ)
  (h47 : FnAt K "law" zlx)
  (z0 : W.nsIn K mainGlobals "all" = some none) (z1 : W.nsIn K mainGlobals "any" = some none) (z2 : W.nsIn K mainGlobals "bool" = some none) (z3 : W.nsIn K mainGlobals "enumerate" = some none) (z4 : W.nsIn K mainGlobals "int" = some none) (z5 : W.nsIn K mainGlobals "isinstance" = some none) (z6 : W.nsIn K mainGlobals "len" = some none) (z7 : W.nsIn K mainGlobals "list" = some none) (z8 : W.nsIn K mainGlobals "max" = some none) (z9 : W.nsIn K mainGlobals "min" = some none) (z10 : W.nsIn K mainGlobals "range" = some none) (z11 : W.nsIn K mainGlobals "str" = some none) (z12 : W.nsIn K mainGlobals "sum" = some none) (z13 : W.nsIn K mainGlobals "tuple" = some none) (z14 : W.nsIn K mainGlobals "zip" = some none) :
  ∃ fd : FuncData, (∀ (s : Shared) (v : Value), BindsTo s fd ⟨[v], []⟩ [("script", v)]) /\ ∀ base : Heap, K.In base -> base.Ns mainGlobals mg -> FnOk l.prog w K mg base CX0 8 fa fd ["script"] (spP K 1 zk0) := by
 have bn : BN K mg := ⟨W.mg_none_of X G z0, W.mg_none_of X G z1, W.mg_none_of X G z2, W.mg_none_of X G z3, W.mg_none_of X G z4, W.mg_none_of X G z5, W.mg_none_of X G z6, W.mg_none_of X G z7, W.mg_none_of X G z8, W.mg_none_of X G z9, W.mg_none_of X G z10, W.mg_none_of X G z11, W.mg_none_of X G z12, W.mg_none_of X G z13, W.mg_none_of X G z14⟩
 obtain ⟨a, b, c, d, e, f, T⟩ := h47.law X G hfa
 refine ⟨W.fnOf "law" "law" (zfR zlx) (zcV zlx) (zaX zlx) .none a b c d e f, fun s v => .of_eq rfl, fun base _ _ => ?_⟩
 have zbP := zki (P := l.prog) (w := w) (base := base) X G bn  h1
 have zbN := zkq (P := l.prog) (w := w) (base := base) X G bn  h2
 have zbm := ziL (P := l.prog) (w := w) (base := base) X G bn  h3
 have zb2 := zit (P := l.prog) (w := w) (base := base) X G bn  h4
 have zeq := zjo (P := l.prog) (w := w) (base := base) X G bn zbN zb2 h5
 have zes := zjy (P := l.prog) (w := w) (base := base) X G bn  h6
 have zfW := zkU (P := l.prog) (w := w) (base := base) X G bn  h7
 have zbO := zkd (P := l.prog) (w := w) (base := base) X G bn zfW h8
 have zaR := zjk (P := l.prog) (w := w) (base := base) X G bn zbO h9
 have zeY := zkg (P := l.prog) (w := w) (base := base) X G bn zaR h10
 have zg7 := zmp (P := l.prog) (w := w) (base := base) X G bn zeY zaR h11
 have zdI := zi2 (P := l.prog) (w := w) (base := base) X G bn zaR h12
 have zgp := zkT (P := l.prog) (w := w) (base := base) X G bn  h13
 have zeR := zj1 (P := l.prog) (w := w) (base := base) X G bn  h14
 have zeS := zj0 (P := l.prog) (w := w) (base := base) X G bn zgp zeR h15
 have zao := zjp (P := l.prog) (w := w) (base := base) X G bn  h16
 have zbQ := zkl (P := l.prog) (w := w) (base := base) X G bn zao h17
 have zdJ := ziW (P := l.prog) (w := w) (base := base) X G bn zbQ h18
 have zav := zkP (P := l.prog) (w := w) (base := base) X G bn zbQ zao h19
 have zbL := zkE (P := l.prog) (w := w) (base := base) X G bn zao h20
 have zcf := zlq (P := l.prog) (w := w) (base := base) X G bn zav h21
 have zaD := zkn (P := l.prog) (w := w) (base := base) X G bn zbL zcf h22
 have zbR := zjU (P := l.prog) (w := w) (base := base) X G bn zbL zcf zdJ zao h23
 have zce := zlF (P := l.prog) (w := w) (base := base) X G bn zbP zav h24
 have zbK := zkJ (P := l.prog) (w := w) (base := base) X G bn zbP zav h25
 have zaA := zjt (P := l.prog) (w := w) (base := base) X G bn zbN zbK zce zao h26
 have zeo := zjl (P := l.prog) (w := w) (base := base) X G bn zeq zes zbK zce zav zaD zaA zao zbm zbR h27
 have zcg := zkS (P := l.prog) (w := w) (base := base) X G bn zbO zaD zaA zbR h28
 have zh1 := znU (P := l.prog) (w := w) (base := base) X G bn zg7 zcg zav zaD zaA zbm h29
 have zer := zjv (P := l.prog) (w := w) (base := base) X G bn zdI zeS zaD zaA h30
 have zgi := zlh (P := l.prog) (w := w) (base := base) X G bn  h31
 have zaT := zli (P := l.prog) (w := w) (base := base) X G bn  h32
 have ze4 := zkc (P := l.prog) (w := w) (base := base) X G bn  h33
 have zcv := ziJ (P := l.prog) (w := w) (base := base) X G bn ze4 h34
 have zaK := ziV (P := l.prog) (w := w) (base := base) X G bn  h35
 have za3 := zhT (P := l.prog) (w := w) (base := base) X G bn  h36
 have zaV := zhp (P := l.prog) (w := w) (base := base) X G bn zaK h37
 have zcr := zhE (P := l.prog) (w := w) (base := base) X G bn zaK h38
 have za4 := zh7 (P := l.prog) (w := w) (base := base) X G bn za3 h39
 have zcx := zho (P := l.prog) (w := w) (base := base) X G bn za4 zaV zcr h40
 have zbU := zgD (P := l.prog) (w := w) (base := base) X G bn  h41
 have zb7 := zha (P := l.prog) (w := w) (base := base) X G bn zaK zbU h42
 have zcK := zhX (P := l.prog) (w := w) (base := base) X G bn zb7 zcx zaV h43
 have zca := zg5 (P := l.prog) (w := w) (base := base) X G bn zcv h44
 have zcW := ziw (P := l.prog) (w := w) (base := base) X G bn za4 h45
 have zcj := zhQ (P := l.prog) (w := w) (base := base) X G bn za3 zaT h46
 exact ok_law X G bn zcW zgi zca zcK zcj zeo zh1 zcg zer T
theorem walk {l : W.OpenLaw} {q : Program} {loose : List Str} {XP : (Str -> Option Value) -> Heap -> Prop} {YP : World -> Heap -> Prop} {d : DefRec} {K : Params -> W.Frag} (hn : l.most = some 63) (hdf : d.params.defaults = [])
  (hm : ∀ ns : List Int, ns.length <= 63 -> zk0 [.scr ns] = some (.val (.bl true)))
  (hY : ∀ (w : World) (h : Heap), YP w h -> (K w.params).In h)
  (F : ∀ (w : World) (mg : Str -> Option Value) (fa : Addr) (h : Heap), (K w.params).In h -> h.Ns mainGlobals mg -> mg d.name = some (.ref fa) ->
   ∃ fd : FuncData, (∀ (s : Shared) (u : Value), BindsTo s fd ⟨[u], []⟩ [("script", u)]) /\ ∀ base : Heap, (K w.params).In base -> base.Ns mainGlobals mg -> FnOk l.prog w (K w.params) mg base CX0 8 fa fd ["script"] (spP (K w.params) 1 zk0)) :
  W.WalkO q loose XP YP l.row.toRowW d [] (fun f vs => PySem.call f vs) :=
 L2.walk_of (n := 63) (k := 8) (x := "script") (CX := fun _ => CX0) (sp := fun w => spP (K w.params) 1 zk0) hn (by decide) hdf ⟨rfl, by decide, by decide, rfl⟩ hY F
  (fun w H a ns hl _ hS => ⟨H, [.scr ns], .val (.bl true), hm ns hl, rfl, Fz.refl H, .cons ⟨a, rfl, hS⟩ .nil, fun _ _ _ _ _ _ _ rr => rr⟩) fun _ _ _ _ _ z => z
end Prf
set_option exponentiation.threshold 5000
namespace Prf
open L2 M PySem
variable {n m j i p : Nat} {f g lo hi lo' hi' e r h w G L S : Nat -> Int} {t number x : Int} {l : List Int} {met : List Nat} {y : D} {c F : Int -> Int} {ds : List D}
theorem rep_w (n : Nat) (x : D) : (List.replicate n [x]).flatten = wL n fun _ => x := by
 induction n with
 | zero => rfl
 | succ n ih => rw [List.replicate_succ', List.flatten_append, ih, zeO]; rfl
theorem zpX (a b : Nat -> Int) (hn : n <= 1000) : Ok (zbz [.tup (wI n a), .lst (wI n b)]) fun x => x = .own (wI n fun p => a p - b p) := by
 simp! only [↓zbz, ↓zf8, ↓zgb, zl9]
 refine ⟨by omega, zaE (fun ρ => ∃ s s', ρ = [s, s']) (fun p => .int (a p - b p)) ⟨_, _, rfl⟩ ?_ ?_⟩
 ·rintro i _ hi ⟨s, s', rfl⟩
  simp! only [↓zfM]
  exact ⟨_, _, rfl⟩
 ·rintro _ ⟨_, _, rfl⟩
  simp! only []
structure Span (f g : Nat -> Int) (n m : Nat) (lo hi : Nat -> Int) : Prop where
 lm : ∀ j, j < m -> ∃ p, p < n /\ p % m = j /\ f p = lo j
 lg : ∀ p, p < n -> f p <= lo (p % m)
 hm : ∀ j, j < m -> ∃ p, p < n /\ p % m = j /\ g p = hi j
 hg : ∀ p, p < n -> hi (p % m) <= g p
def za7 (m : Nat) (lo hi : Nat -> Int) : List D := wL m fun j => .tup [.int (lo j), .int (hi j)]
theorem zlW (f g : Nat -> Int) {n m : Nat} (hm : 0 < m) (hn : m <= n) : ∃ lo hi : Nat -> Int, Span f g n m lo hi /\ ∀ j, j < m -> zfE [.lst (zdN (wI n f) (some (j : Int)) none (some (m : Int)))] = some (.int (lo j)) /\ zhH [.lst (zdN (wI n g) (some (j : Int)) none (some (m : Int)))] = some (.int (hi j)) := by
 have h1 : ∀ j, ∃ v, j < m -> zfE [.lst (zdN (wI n f) (some (j : Int)) none (some (m : Int)))] = some (.int v) /\ (∃ p, p < n /\ p % m = j /\ f p = v) /\ ∀ p, p < n -> p % m = j -> f p <= v := fun j => by
  by_cases hj : j < m
  ·obtain ⟨v, h⟩ := max_pick f hm hj hn; exact ⟨v, fun _ => h⟩
  ·exact ⟨0, fun h => absurd h hj⟩
 have h2 : ∀ j, ∃ v, j < m -> zhH [.lst (zdN (wI n g) (some (j : Int)) none (some (m : Int)))] = some (.int v) /\ (∃ p, p < n /\ p % m = j /\ g p = v) /\ ∀ p, p < n -> p % m = j -> v <= g p := fun j => by
  by_cases hj : j < m
  ·obtain ⟨v, h⟩ := min_pick g hm hj hn; exact ⟨v, fun _ => h⟩
  ·exact ⟨0, fun h => absurd h hj⟩
 refine ⟨fun j => (h1 j).choose, fun j => (h2 j).choose, ⟨fun j hj => ((h1 j).choose_spec hj).2.1, fun p hp => ((h1 (p % m)).choose_spec (Nat.mod_lt _ hm)).2.2 p hp rfl, fun j hj => ((h2 j).choose_spec hj).2.1, fun p hp => ((h2 (p % m)).choose_spec (Nat.mod_lt _ hm)).2.2 p hp rfl⟩, fun j hj => ⟨((h1 j).choose_spec hj).1, ((h2 j).choose_spec hj).1⟩⟩
theorem zhw (s : Span f g n m lo hi) (t : Span f g n m lo' hi') (hj : j < m) : lo j = lo' j /\ hi j = hi' j := by
 obtain ⟨p, h1, h2, h3⟩ := s.lm j hj
 obtain ⟨p', h1', h2', h3'⟩ := t.lm j hj
 obtain ⟨q, k1, k2, k3⟩ := s.hm j hj
 obtain ⟨q', k1', k2', k3'⟩ := t.hm j hj
 have a1 := s.lg p' h1'
 have a2 := t.lg p h1
 have a3 := s.hg q' k1'
 have a4 := t.hg q k1
 rw [h2'] at a1; rw [h2] at a2; rw [k2'] at a3; rw [k2] at a4
 omega
theorem zmT (hm : 0 < m) (hn : m <= n) (h24 : n <= 1000) (sp : Span f g n m lo hi) : Ok (zbD [.lst (wI n f), .lst (wI n g), .int m]) fun x => x = .own (za7 m lo hi) := by
 obtain ⟨lo', hi', sp', e⟩ := zlW f g hm hn
 have el : za7 m lo' hi' = za7 m lo hi := zd9 fun j hj => by rw [(zhw sp' sp hj).1, (zhw sp' sp hj).2]
 rw [<- el]
 simp! only [↓zbD, ↓zfG, ↓zfV]
 refine ⟨zbg (by omega) (by omega), by omega, zaE (fun ρ => ∃ s, ρ = [.val (.lst (wI n f)), .val (.int m), .val (.lst (wI n g)), s]) (fun j => .tup [.int (lo' j), .int (hi' j)]) ⟨_, rfl⟩ ?_ ?_⟩
 ·rintro j _ hj ⟨s, rfl⟩
  have hk0 : ¬ (some (m : Int) = some 0) := by intro h; have := Option.some.inj h; omega
  obtain ⟨e1, e2⟩ := e j hj
  unfold zfE at e1
  unfold zhH at e2
  simp! only [↓zgl, zon, hk0, e1, e2]
  exact ⟨_, rfl⟩
 ·rintro _ ⟨s, rfl⟩
  simp! only []
  rfl
theorem zlc (hm : 0 < m) (hmn : m <= n) (h24 : n <= 1000) (he : ∀ j, j < m -> ∃ p, p < n /\ p % m = j /\ f p = e j) :
  Ok (zbk [.lst (wI n f), .lst (wI m e)]) fun x => ∃ pl : Nat -> Nat, (∀ j, j < m -> pl j < n /\ pl j % m = j /\ f (pl j) = e j) /\ x = .val (.tup (wI m fun j => (pl j : Nat))) := by
 have h1 : ∀ j, ∃ i : Nat, j < m -> zlK (.lst (zdN (wI n f) (some (j : Int)) none (some (m : Int)))) (.int (e j)) = some (.int i) /\ j + i * m < n /\ f (j + i * m) = e j := fun j => by
  by_cases hj : j < m
  ·obtain ⟨i, h⟩ := znu f hm hj (he j hj); exact ⟨i, fun _ => h⟩
  ·exact ⟨0, fun h => absurd h hj⟩
 have hk0 : ¬ (some (m : Int) = some 0) := by intro h; have := Option.some.inj h; omega
 simp! only [↓zbk, ↓zdG, ↓zd6]
 refine ⟨zbg (by omega) (by omega), by omega, zaE (fun ρ => ∃ s, ρ = [.val (.int m), .val (.lst (wI n f)), .val (.lst (wI m e)), s]) (fun j => .int ((j + (h1 j).choose * m : Nat) : Int)) ⟨_, rfl⟩ ?_ ?_⟩
 ·rintro j _ hj ⟨s, rfl⟩
  obtain ⟨e1, -, -⟩ := (h1 j).choose_spec hj
  generalize (h1 j).choose = i at *
  have ee : (j : Int) + (m : Int) * (i : Int) = ((j + i * m : Nat) : Int) := by push_cast; rw [Int.mul_comm]
  simp! only [↓zeg, zon, hk0, e1, zar _ hj, ee]
  exact ⟨zh8 (by omega), _, rfl⟩
 ·rintro _ ⟨s, rfl⟩
  simp! only []
  exact ⟨_, fun j hj => ⟨((h1 j).choose_spec hj).2.1, by rw [Nat.add_mul_mod_self_right, Nat.mod_eq_of_lt hj], ((h1 j).choose_spec hj).2.2⟩, rfl⟩
structure Room' (m : Nat) (lo hi : Nat -> Int) (t : Int) : Prop where
 le : ∀ j, j < m -> lo j <= hi j
 low : sumR m lo <= t
 high : t <= sumR m hi
def Paper (f g : Nat -> Int) (n m : Nat) (t : Int) (d : D) : Prop :=
 (∃ a b : Nat, a < n /\ b < n /\ a % m = b % m /\ f a > g b /\ d = .tup [.str "clash", .int a, .int b]) \/
 (∃ pl : Nat -> Nat, (∀ j, j < m -> pl j < n /\ pl j % m = j) /\ sumR m (fun j => f (pl j)) > t /\ d = .tup [.str "low", .tup (wI m fun j => (pl j : Nat))]) \/
 (∃ pl : Nat -> Nat, (∀ j, j < m -> pl j < n /\ pl j % m = j) /\ sumR m (fun j => g (pl j)) < t /\ d = .tup [.str "high", .tup (wI m fun j => (pl j : Nat))])
theorem paper_ok (hm : 0 < m) (hn : m <= n) (h24 : n <= 1000) (t : Int) (sp : Span f g n m lo hi) :
  Ok (zcl [.lst (wI n f), .lst (wI n g), .int m, .int t]) fun x => (Room' m lo hi t /\ x = .val .non) \/ (¬ Room' m lo hi t /\ ∃ d, Paper f g n m t d /\ x = .val d) := by
 simp! only [↓zcl, ↓zeZ]
 refine (zmT hm hn h24 sp).mono ?_
 rintro _ rfl
 simp! only [↓zfs, za7]
 refine ⟨by omega, zaE (fun ρ => ∃ s s', ρ = [s, s']) (fun j => .int (lo j)) ⟨_, _, rfl⟩ ?_ ?_⟩
 ·rintro j _ hj ⟨s, s', rfl⟩
  simp! only [↓zfg]
  exact ⟨_, _, rfl⟩
 rintro _ ⟨_, _, rfl⟩
 simp! only [↓ze5]
 refine ⟨by omega, zaE (fun ρ => ∃ s s', ρ = [s, s']) (fun j => .int (hi j)) ⟨_, _, rfl⟩ ?_ ?_⟩
 ·rintro j _ hj ⟨s, s', rfl⟩
  simp! only [↓zfc]
  exact ⟨_, _, rfl⟩
 rintro _ ⟨_, _, rfl⟩
 simp! only []
 refine (zlc hm hn h24 sp.lm).mono ?_
 rintro _ ⟨pl, hpl, rfl⟩
 simp! only []
 refine (zlc hm hn h24 sp.hm).mono ?_
 rintro _ ⟨ph, hph, rfl⟩
 simp! only [↓zfa]
 refine ⟨zbg (by omega) (by omega), zbT (fun i ρ => (∀ j, j < i -> lo j <= hi j) /\ ∃ s, ρ = [.val (.lst (wI n f)), .val (.lst (wI n g)), .val (.int m), .val (.int t), .val (.lst (za7 m lo hi)), .val (.lst (wI m lo)), .val (.lst (wI m hi)), .val (.tup (wI m fun j => (pl j : Nat))), .val (.tup (wI m fun j => (ph j : Nat))), s]) ⟨fun _ h => by omega, _, rfl⟩ ?_ ?_⟩
 ·rintro j _ hj ⟨hb, s, rfl⟩
  simp! only [↓zfl, zar _ hj]
  refine ⟨fun h => .inr ⟨fun r => by have := r.le j hj; omega, _, .inl ⟨pl j, ph j, (hpl j hj).1, (hph j hj).1, by rw [(hpl j hj).2.1, (hph j hj).2.1], by rw [(hpl j hj).2.2, (hph j hj).2.2]; exact h, rfl⟩, rfl⟩, fun h => ⟨fun j' hj' => ?_, _, rfl⟩⟩
  by_cases e : j' = j
  ·subst e; omega
  ·exact hb j' (by omega)
 rintro _ ⟨hb, s, rfl⟩
 have el : sumR m (fun j => f (pl j)) = sumR m lo := zaq fun j hj => (hpl j hj).2.2
 have eh : sumR m (fun j => g (ph j)) = sumR m hi := zaq fun j hj => (hph j hj).2.2
 simp! only [zbf, za1]
 refine ⟨fun h => .inr ⟨fun r => by have := r.low; omega, _, .inr (.inl ⟨pl, fun j hj => ⟨(hpl j hj).1, (hpl j hj).2.1⟩, by omega, rfl⟩), rfl⟩, fun h1 => ?_⟩
 simp! only [↓zfq, zbf, za1]
 refine ⟨fun h => .inr ⟨fun r => by have := r.high; omega, _, .inr (.inr ⟨ph, fun j hj => ⟨(hph j hj).1, (hph j hj).2.1⟩, by omega, rfl⟩), rfl⟩, fun h2 => ?_⟩
 simp! only [↓zfk]
 exact .inl ⟨hb, by omega, by omega⟩
def left (lo hi : Nat -> Int) (m : Nat) (t : Int) : Nat -> Int
 | 0 => t
 | j + 1 => left lo hi m t j - max2 (lo j) (left lo hi m t j - (sumR m hi - sumR (j + 1) hi))
def hd (lo hi : Nat -> Int) (m : Nat) (t : Int) (j : Nat) : Int := max2 (lo j) (left lo hi m t j - (sumR m hi - sumR (j + 1) hi))
theorem zjA (lo hi : Nat -> Int) (t : Int) (hm : m <= 1000) : Ok (zci [.lst (za7 m lo hi), .int t]) fun x => x = .own (wI m (hd lo hi m t)) := by
 simp! only [↓zci, ↓ze0, ↓zfd, za7]
 refine ⟨by omega, zaE (fun ρ => ∃ s s', ρ = [s, s']) (fun j => .int (hi j)) ⟨_, _, rfl⟩ ?_ ?_⟩
 ·rintro j _ hj ⟨s, s', rfl⟩
  simp! only [↓zfj]
  exact ⟨_, _, rfl⟩
 rintro _ ⟨_, _, rfl⟩
 simp! only [zbf, za1, ↓zfm]
 refine zbT (fun i ρ => ∃ s5 s6 s7, ρ = [.val (.lst (za7 m lo hi)), .val (.int t), .own (wI i (hd lo hi m t)), .val (.int (left lo hi m t i)), .val (.int (sumR m hi - sumR i hi)), s5, s6, s7]) ⟨_, _, _, by rw [show sumR 0 hi = 0 from rfl, Int.sub_zero]; rfl⟩ ?_ ?_
 ·rintro j _ hj ⟨s5, s6, s7, rfl⟩
  simp! only [↓zfi]
  have e : sumR m hi - sumR j hi - hi j = sumR m hi - sumR (j + 1) hi := by simp only [sumR]; omega
  rw [e]
  exact ⟨by omega, _, _, _, by rw [show wI (j + 1) (hd lo hi m t) = _ from zeO _ _]; rfl⟩
 ·rintro _ ⟨s5, s6, s7, rfl⟩
  simp! only []
theorem zjW (lo hi : Nat -> Int) (m : Nat) (t : Int) : ∀ j, left lo hi m t j = t - sumR j (hd lo hi m t)
 | 0 => by simp [left, sumR]
 | j + 1 => by rw [sumR, left, zjW lo hi m t j, hd, zjW lo hi m t j]; omega
theorem zme (a b : Int) : (max2 a b = a \/ max2 a b = b) /\ a <= max2 a b /\ b <= max2 a b := by unfold max2; split <;> omega
theorem zmt (r : Room' m lo hi t) : ∀ j, j <= m -> sumR m lo - sumR j lo <= left lo hi m t j /\ left lo hi m t j <= sumR m hi - sumR j hi
 | 0, _ => by have := r.low; have := r.high; simp [left, sumR]; omega
 | j + 1, h => by
  have ih := zmt r j (by omega)
  have hj := r.le j (by omega)
  obtain ⟨c, c1, c2⟩ := zme (lo j) (left lo hi m t j - (sumR m hi - sumR (j + 1) hi))
  have e : left lo hi m t (j + 1) = left lo hi m t j - max2 (lo j) (left lo hi m t j - (sumR m hi - sumR (j + 1) hi)) := rfl
  rw [e]
  have key : sumR m lo - sumR (j + 1) lo <= sumR m hi - sumR (j + 1) hi := by
   obtain ⟨b, rfl⟩ : ∃ b, m = j + 1 + b := ⟨m - (j + 1), by omega⟩
   rw [za9 lo (j + 1) b, za9 hi (j + 1) b]
   have := ze3 (f := fun i => lo (j + 1 + i)) (g := fun i => hi (j + 1 + i)) (n := b) fun i hi' => r.le _ (by omega)
   omega
  simp only [sumR] at *
  rcases c with c | c <;> rw [c] at c1 c2 ⊢ <;> omega
theorem hd_in (r : Room' m lo hi t) (hj : j < m) : lo j <= hd lo hi m t j /\ hd lo hi m t j <= hi j := by
 have h := zmt r j (by omega)
 have hjj := r.le j hj
 obtain ⟨c, c1, c2⟩ := zme (lo j) (left lo hi m t j - (sumR m hi - sumR (j + 1) hi))
 unfold hd
 simp only [sumR] at *
 rcases c with c | c <;> rw [c] at c1 c2 ⊢ <;> omega
theorem zpU (r : Room' m lo hi t) : sumR m (hd lo hi m t) = t := by
 have h := zmt r m (Nat.le_refl _)
 have e := zjW lo hi m t m
 omega
theorem hd_least {lo hi h' : Nat -> Int} (hh : ∀ j, j < m -> lo j <= h' j /\ h' j <= hi j) (hs : sumR m h' = t) (hj : j < m) (he : ∀ i, i < j -> hd lo hi m t i = h' i) : hd lo hi m t j <= h' j := by
 have e := zjW lo hi m t j
 have e1 : sumR j (hd lo hi m t) = sumR j h' := zaq he
 obtain ⟨b, rfl⟩ : ∃ b, m = j + 1 + b := ⟨m - (j + 1), by omega⟩
 have e2 := za9 h' (j + 1) b
 have e3 := za9 hi (j + 1) b
 have e4 := ze3 (f := fun i => h' (j + 1 + i)) (g := fun i => hi (j + 1 + i)) (n := b) fun i hi' => (hh _ (by omega)).2
 have h1 := (hh j hj).1
 unfold hd
 obtain ⟨c, c1, c2⟩ := zme (lo j) (left lo hi (j + 1 + b) t j - (sumR (j + 1 + b) hi - sumR (j + 1) hi))
 simp only [sumR] at *
 rcases c with c | c <;> rw [c] <;> omega
theorem ziX (hm : 0 < m) (h24 : n <= 1000) (h mo : Nat -> Int) : Ok (zbd [.lst (wI m h), .lst (wI n mo)]) fun x => x = .val (.tup (wI n fun p => h (p % m) + mo p)) := by
 simp! only [↓zbd, ↓zet, ↓zeJ, enumD_w]
 refine ⟨by omega, zaE (fun ρ => ∃ s s', ρ = [.val (.lst (wI m h)), .val (.int m), s, s']) (fun p => .int (h (p % m) + mo p)) ⟨_, _, rfl⟩ ?_ ?_⟩
 ·rintro p _ hp ⟨s, s', rfl⟩
  have e : (p : Int) % (m : Int) = ((p % m : Nat) : Int) := by push_cast; rfl
  simp! only [↓zey, e, zar _ (Nat.mod_lt p hm)]
  exact ⟨by omega, _, _, rfl⟩
 ·rintro _ ⟨_, _, rfl⟩
  simp! only []
structure RDim (k n : Nat) : Prop where
 k2 : 2 <= k
 k5 : k <= 5
 kn : k <= n
 n24 : n <= 24
abbrev za5 (k n : Nat) (S L G : Nat -> Int) : D := .tup [.int k, .tup (wI n S), .tup (wI n L), .tup (wI n G)]
def ixp (k n p : Nat) : Nat := ((List.range (n / Nat.gcd k n)).find? fun i => (p % Nat.gcd k n + i * k) % n == p).getD 0
def chk (k n : Nat) : Bool := ((List.range n).all fun p => decide (ixp k n p < n / Nat.gcd k n) && ((p % Nat.gcd k n + ixp k n p * k) % n == p)) && (List.range (Nat.gcd k n)).all fun j => ((j + n / Nat.gcd k n * k) % n == j) && (List.range (n / Nat.gcd k n)).all fun i => ((j + i * k) % n % Nat.gcd k n == j) && (ixp k n ((j + i * k) % n) == i)
theorem chk_all : ((List.range 6).all fun k => (List.range 25).all fun n => !(decide (2 <= k) && decide (k <= n)) || chk k n) = true := by decide +kernel
theorem walk_all (k : Nat) (hk : k < 6) (n : Nat) (hn : n < 25) (h2 : 2 <= k) (hkn : k <= n) : (∀ p, p < n -> ixp k n p < n / Nat.gcd k n /\ (p % Nat.gcd k n + ixp k n p * k) % n = p) /\ ∀ j, j < Nat.gcd k n -> (j + n / Nat.gcd k n * k) % n = j /\ ∀ i, i < n / Nat.gcd k n -> (j + i * k) % n % Nat.gcd k n = j /\ ixp k n ((j + i * k) % n) = i := by
 have h := List.all_eq_true.mp (List.all_eq_true.mp chk_all k (List.mem_range.mpr hk)) n (List.mem_range.mpr hn)
 rw [decide_eq_true h2, decide_eq_true hkn] at h
 have h : chk k n = true := by simpa using h
 unfold chk at h
 rw [Bool.and_eq_true] at h
 refine ⟨fun p hp => ?_, fun j hj => ?_⟩
 ·have := List.all_eq_true.mp h.1 p (List.mem_range.mpr hp)
  simpa using this
 ·have := List.all_eq_true.mp h.2 j (List.mem_range.mpr hj)
  rw [Bool.and_eq_true] at this
  refine ⟨by simpa using this.1, fun i hi => ?_⟩
  have := List.all_eq_true.mp this.2 i (List.mem_range.mpr hi)
  simpa using this
section
variable {k n : Nat}
abbrev pl (k n j i : Nat) : Nat := (j + i * k) % n
theorem zkz (k n j i : Nat) : pl k n j (i + 1) = (pl k n j i + k) % n := by
 unfold pl
 rw [Nat.add_mul, Nat.one_mul, <- Nat.add_assoc, Nat.mod_add_mod]
def mw (k n : Nat) (S : Nat -> Int) (j i : Nat) : Int := sumR i fun t => S ((pl k n j t + 1) % n) - S (pl k n j t)
def rM (k n : Nat) (S : Nat -> Int) (p : Nat) : Int := mw k n S (p % Nat.gcd k n) (ixp k n p)
theorem RDim.g1 (d : RDim k n) : 1 <= Nat.gcd k n := Nat.gcd_pos_of_pos_left _ (by have := d.k2; omega)
theorem RDim.gk (d : RDim k n) : Nat.gcd k n <= k := Nat.gcd_le_left _ (by have := d.k2; omega)
theorem RDim.walk (d : RDim k n) : (∀ p, p < n -> ixp k n p < n / Nat.gcd k n /\ pl k n (p % Nat.gcd k n) (ixp k n p) = p) /\ ∀ j, j < Nat.gcd k n -> pl k n j (n / Nat.gcd k n) = j /\ ∀ i, i < n / Nat.gcd k n -> pl k n j i % Nat.gcd k n = j /\ ixp k n (pl k n j i) = i :=
 walk_all k (by have := d.k5; omega) n (by have := d.n24; omega) d.k2 d.kn
theorem rM_at (d : RDim k n) (S : Nat -> Int) (hj : j < Nat.gcd k n) (hi : i < n / Nat.gcd k n) : rM k n S (pl k n j i) = mw k n S j i := by
 obtain ⟨h1, h2⟩ := (d.walk.2 j hj).2 i hi
 unfold rM
 rw [h1, h2]
theorem max_of (h : l ≠ []) : ∃ v, zfE [.lst (l.map D.int)] = some (.int v) /\ v ∈ l /\ ∀ x ∈ l, x <= v := by
 have e : l.map D.int = wI l.length fun i => l.getD i 0 := by
  apply List.ext_getElem?
  intro j
  by_cases h : j < l.length
  ·rw [zar _ h, List.getElem?_map, List.getElem?_eq_getElem h]
   simp [List.getD, h]
  ·rw [List.getElem?_eq_none (by rw [List.length_map]; omega), List.getElem?_eq_none (by rw [zaM]; omega)]
 obtain ⟨v, h1, ⟨i, hi, h2⟩, h3⟩ := max_w (fun i => l.getD i 0) (List.length_pos_iff.mpr h)
 rw [<- e] at h1
 refine ⟨v, h1, ?_, fun x hx => ?_⟩
 ·rw [<- h2]
  show l.getD i 0 ∈ l
  rw [List.getD_eq_getElem?_getD, List.getElem?_eq_getElem hi]
  exact List.getElem_mem hi
 ·obtain ⟨i, hi, rfl⟩ := List.getElem_of_mem hx
  have := h3 i hi
  rw [List.getD_eq_getElem?_getD, List.getElem?_eq_getElem hi] at this
  exact this
theorem zeC (d : RDim k n) (S L G : Nat -> Int) : Ok (zau [za5 k n S L G]) fun x => x = .val (.int (Nat.gcd k n : Nat)) := by
 have k2 := d.k2
 have k5 := d.k5
 have n24 := d.n24
 have g1 := d.g1
 have gk := d.gk
 have ek : ((k : Int) + 1 - 1).toNat = k := by omega
 have en : (zcq 1 k).length = k := by unfold zcq; simp
 simp! only [↓zau, ↓ze2, ↓zff, ek, en]
 refine ⟨⟨zbg (by omega) (by omega), zbg (by omega) (by omega)⟩, by omega, ?_⟩
 rw [zf5]
 refine zpM (fun ρ => ∃ z, ρ = [.val (.int k), .val (.int n), z]) (fun i => if k % (1 + i) = 0 /\ n % (1 + i) = 0 then some (D.int ((1 + i : Nat) : Int)) else none) ⟨_, rfl⟩ ?_ ?_
 ·rintro i _ hi ⟨z, rfl⟩
  have e1 : (1 : Int) + (i : Nat) = ((1 + i : Nat) : Int) := by push_cast; rfl
  have e2 : (k : Int) % ((1 + i : Nat) : Int) = ((k % (1 + i) : Nat) : Int) := by push_cast; rfl
  have e3 : (n : Int) % ((1 + i : Nat) : Int) = ((n % (1 + i) : Nat) : Int) := by push_cast; rfl
  simp! only [↓zfr, ↓zfe, e1, e2, e3]
  refine ⟨by omega, fun h1 => ⟨by omega, fun h2 => ⟨?_, _, rfl⟩, fun h2 => ⟨?_, _, rfl⟩⟩, fun h1 => ⟨?_, _, rfl⟩⟩
  ·rw [if_pos ⟨by omega, by omega⟩]
  ·rw [if_neg fun z => h2 (by omega)]
  ·rw [if_neg fun z => h1 (by omega)]
 ·rintro _ ⟨z, rfl⟩
  have el : (List.range k).filterMap (fun i => if k % (1 + i) = 0 /\ n % (1 + i) = 0 then some (D.int ((1 + i : Nat) : Int)) else none) = ((List.range k).filterMap (fun i => if k % (1 + i) = 0 /\ n % (1 + i) = 0 then some ((1 + i : Nat) : Int) else none)).map D.int := by
   rw [List.map_filterMap]
   congr 1
   funext i
   split <;> rfl
  have mem : ∀ v : Int, v ∈ (List.range k).filterMap (fun i => if k % (1 + i) = 0 /\ n % (1 + i) = 0 then some ((1 + i : Nat) : Int) else none) ↔ ∃ m : Nat, v = m /\ 1 <= m /\ m <= k /\ m ∣ k /\ m ∣ n := fun v => by
   rw [List.mem_filterMap]
   constructor
   ·rintro ⟨i, hi, h⟩
    have hi := List.mem_range.mp hi
    split at h
    ·rename_i q
     cases h
     exact ⟨1 + i, rfl, by omega, by omega, Nat.dvd_of_mod_eq_zero q.1, Nat.dvd_of_mod_eq_zero q.2⟩
    ·cases h
   ·rintro ⟨m, rfl, h1, h2, h3, h4⟩
    refine ⟨m - 1, List.mem_range.mpr (by omega), ?_⟩
    rw [show 1 + (m - 1) = m by omega, if_pos ⟨Nat.mod_eq_zero_of_dvd h3, Nat.mod_eq_zero_of_dvd h4⟩]
  have gm := (mem (Nat.gcd k n : Nat)).mpr ⟨_, rfl, g1, gk, Nat.gcd_dvd_left _ _, Nat.gcd_dvd_right _ _⟩
  rw [el]
  generalize (List.range k).filterMap (fun i => if k % (1 + i) = 0 /\ n % (1 + i) = 0 then some ((1 + i : Nat) : Int) else none) = l at mem gm
  obtain ⟨v, h1, h2, h3⟩ := max_of (l := l) (fun z => by rw [z] at gm; cases gm)
  unfold zfE at h1
  simp! only [h1]
  obtain ⟨m, rfl, q1, q2, q3, q4⟩ := (mem v).mp h2
  have a1 := h3 _ gm
  have a2 : m <= Nat.gcd k n := Nat.le_of_dvd (by omega) (Nat.dvd_gcd q3 q4)
  have : m = Nat.gcd k n := by omega
  rw [this]
end
theorem takeW (h : i <= n) (f : Nat -> D) : (wL n f).take i = wL i f := by
 apply List.ext_getElem?
 intro j
 by_cases hj : j < i
 ·rw [List.getElem?_take_of_lt (by omega), zar _ (by omega), zar _ hj]
 ·rw [List.getElem?_eq_none (by simp [zaM]; omega), List.getElem?_eq_none (by rw [zaM]; omega)]
theorem cut_neg1 (n : Nat) (f : Nat -> D) : cutD (wL (n + 1) f) none (some (-1)) = wL n f := by
 unfold cutD
 have e : HT.sIx (wL (n + 1) f).length (wL (n + 1) f).length (some (-1)) = n := by
  rw [zaM]
  show (if (-1 : Int) < 0 then (-1 + ((n + 1 : Nat) : Int)).toNat else min (-1 : Int).toNat (n + 1)) = n
  rw [if_pos (by decide)]; omega
 rw [e, HT.zkt, List.drop_zero, Nat.sub_zero, takeW (by omega)]
theorem zcs {m : Nat} (h : m <= 1000) : zch (m : Int) = true := zbg (by omega) (by omega)
section
variable {k n : Nat}
theorem zh0 (d : RDim k n) (hj : j < Nat.gcd k n) : pl k n j 0 = j := by
 have := d.gk
 have := d.kn
 unfold pl
 rw [Nat.zero_mul, Nat.add_zero, Nat.mod_eq_of_lt (by omega)]
theorem zos (d : RDim k n) (j i : Nat) : pl k n j i < n := Nat.mod_lt _ (by have := d.k2; have := d.kn; omega)
theorem zj3 (S : Nat -> Int) (j i : Nat) : mw k n S j (i + 1) = mw k n S j i + (S ((pl k n j i + 1) % n) - S (pl k n j i)) := by
 show sumR (i + 1) _ = _
 rw [sumR]; rfl
abbrev zmu (k n : Nat) (S : Nat -> Int) (j m : Nat) : List D := wL m fun i => .tup [.int ((pl k n j i : Nat) : Int), .int (mw k n S j i)]
theorem RDim.hn (d : RDim k n) : n / Nat.gcd k n <= 24 := Nat.le_trans (Nat.div_le_self _ _) d.n24
theorem zoI (d : RDim k n) (S L G : Nat -> Int) (hj : j < Nat.gcd k n) : Ok (zbA [za5 k n S L G, .int j]) fun x => x = .own (zmu k n S j (n / Nat.gcd k n + 1)) := by
 have n0 : 0 < n := by have := d.k2; have := d.kn; omega
 have n24 := d.n24
 have hn := d.hn
 have g1 := d.g1
 have gk := d.gk
 have k5 := d.k5
 have ed : (n : Int) / ((Nat.gcd k n : Nat) : Int) = ((n / Nat.gcd k n : Nat) : Int) := by push_cast; rfl
 simp! only [↓zbA, ↓zfF, ↓zfy]
 refine (zeC d S L G).mono ?_
 rintro _ rfl
 simp! only [ed]
 refine ⟨zaY (by omega) (by omega), zcs (by omega), zbT (fun i ρ => ∃ s7, ρ = [.val (za5 k n S L G), .val (.int j), .val (.tup (wI n S)), .val (.int n), .own (zmu k n S j i), .val (.int ((pl k n j i : Nat) : Int)), .val (.int (mw k n S j i)), s7]) ⟨_, by rw [zh0 d hj]; rfl⟩ ?_ ?_⟩
 ·rintro i _ hi ⟨s7, rfl⟩
  have pn := zos d j i
  have e1 : ((pl k n j i : Nat) : Int) + 1 = ((pl k n j i + 1 : Nat) : Int) := by push_cast; rfl
  have e2 : ((pl k n j i + 1 : Nat) : Int) % (n : Int) = (((pl k n j i + 1) % n : Nat) : Int) := by push_cast; rfl
  have e3 : (((pl k n j i : Nat) : Int) + (k : Int)) % (n : Int) = ((pl k n j (i + 1) : Nat) : Int) := by rw [zkz]; push_cast; rfl
  simp! only [↓zgx, e1, e2, e3, zar _ pn, zar _ (Nat.mod_lt (pl k n j i + 1) n0)]
  have ew : zmu k n S j i ++ [.tup [.int ((pl k n j i : Nat) : Int), .int (mw k n S j i)]] = zmu k n S j (i + 1) := (zeO _ _).symm
  simp only [ew, <- zj3]
  exact ⟨by omega, by omega, by omega, _, rfl⟩
 ·rintro _ ⟨s7, rfl⟩
  simp! only []
  refine ⟨by omega, ?_⟩
  rw [show zmu k n S j (n / Nat.gcd k n + 1) = _ from zeO _ _]
theorem zpB (d : RDim k n) (S L G : Nat -> Int) (hj : j < Nat.gcd k n) : Ok (zb1 [za5 k n S L G, .int j]) fun x => x = .val (.bl (mw k n S j (n / Nat.gcd k n) == 0)) := by
 simp! only [↓zb1, ↓zeu]
 refine (zoI d S L G hj).mono ?_
 rintro _ rfl
 simp! only [atI_w1]
theorem zhn (d : RDim k n) (S L G : Nat -> Int) : Ok (zaJ [za5 k n S L G]) fun x => x = .own (wI n (rM k n S)) := by
 have n0 : 0 < n := by have := d.k2; have := d.kn; omega
 have n24 := d.n24
 have hn := d.hn
 have g1 := d.g1
 have gk := d.gk
 have k5 := d.k5
 simp! only [↓zaJ, ↓zfx, ↓zgw, Int.toNat_natCast, rep_w]
 refine ⟨⟨zcs (by omega), by omega⟩, ?_⟩
 refine (zeC d S L G).mono ?_
 rintro _ rfl
 simp! only []
 refine ⟨zcs (by omega), zbT (fun J ρ => ∃ (f : Nat -> Int) (s2 s3 s4 : Sl), (∀ p, p < n -> p % Nat.gcd k n < J -> f p = rM k n S p) /\ ρ = [.val (za5 k n S L G), .own (wI n f), s2, s3, s4]) ⟨fun _ => 0, _, _, _, fun p _ h => by omega, rfl⟩ ?_ ?_⟩
 ·rintro J _ hJ ⟨f, s2, s3, s4, hf, rfl⟩
  have cw : cutD (zmu k n S J (n / Nat.gcd k n + 1)) none (some (-1)) = zmu k n S J (n / Nat.gcd k n) := by
   exact cut_neg1 _ _
  simp! only [↓zgo, ↓zgf]
  refine (zoI d S L G hJ).mono ?_
  rintro _ rfl
  simp! only [cw]
  refine zbT (fun i ρ => ∃ (f : Nat -> Int) (s3 s4 : Sl), (∀ p, p < n -> p % Nat.gcd k n < J -> f p = rM k n S p) /\ (∀ t, t < i -> f (pl k n J t) = mw k n S J t) /\ ρ = [.val (za5 k n S L G), .own (wI n f), .val (.int J), s3, s4]) ⟨f, _, _, hf, fun t h => by omega, rfl⟩ ?_ ?_
  ·rintro i _ hi ⟨f, s3, s4, hf, hw, rfl⟩
   have pn := zos d J i
   simp! only [↓zgh, pn, zo6 _ _ pn]
   refine ⟨_, _, _, fun p hp hpJ => ?_, fun t ht => ?_, rfl⟩
   ·have : p ≠ pl k n J i := fun e => by
     have := ((d.walk.2 J hJ).2 i hi).1
     rw [<- e] at this
     omega
    simp only [this, if_false]
    exact hf p hp hpJ
   ·by_cases e : t = i
    ·subst e; simp only [if_true]
    ·have : pl k n J t ≠ pl k n J i := fun e' => by
      have h1 := ((d.walk.2 J hJ).2 i hi).2
      have h2 := ((d.walk.2 J hJ).2 t (by omega)).2
      rw [e'] at h2
      omega
     simp only [this, if_false]
     exact hw t (by omega)
  ·rintro _ ⟨f, s3, s4, hf, hw, rfl⟩
   simp! only []
   refine ⟨f, _, _, _, fun p hp hpJ => ?_, rfl⟩
   by_cases e : p % Nat.gcd k n < J
   ·exact hf p hp e
   ·have e' : p % Nat.gcd k n = J := by omega
    obtain ⟨h1, h2⟩ := d.walk.1 p hp
    rw [e'] at h2
    have := hw _ h1
    rw [h2] at this
    rw [this]
    unfold rM
    rw [e']
 ·rintro _ ⟨f, s2, s3, s4, hf, rfl⟩
  simp! only []
  congr 1
  exact zd9 fun p hp => by rw [hf p hp (Nat.mod_lt _ (by omega))]
end
section
variable {k n : Nat} {S L G : Nat -> Int}
def rT (k n : Nat) (S : Nat -> Int) : Int := S 0 - sumR k (rM k n S)
abbrev eT (k n : Nat) : Nat := k / Nat.gcd k n
def tT (k n : Nat) (S : Nat -> Int) : Int := rT k n S / (eT k n : Int)
def rA (k n : Nat) (S B : Nat -> Int) (p : Nat) : Int := B p - rM k n S p
theorem RDim.e1 (d : RDim k n) : 1 <= eT k n := (Nat.le_div_iff_mul_le d.g1).mpr (by rw [Nat.one_mul]; exact d.gk)
theorem RDim.e5 (d : RDim k n) : eT k n <= 5 := Nat.le_trans (Nat.div_le_self _ _) d.k5
theorem zm4 (d : RDim k n) (S L G : Nat -> Int) : Ok (zbG [za5 k n S L G]) fun x => x = .val (.int (eT k n)) := by
 have g1 := d.g1
 have gk := d.gk
 have k5 := d.k5
 have ed : (k : Int) / ((Nat.gcd k n : Nat) : Int) = ((eT k n : Nat) : Int) := by push_cast; rfl
 simp! only [↓zbG, ↓zgr]
 refine (zeC d S L G).mono ?_
 rintro _ rfl
 simp! only [ed]
 exact zaY (by omega) (by omega)
theorem zia (d : RDim k n) (f : Nat -> Int) : cutD (wI n f) none (some (k : Int)) = wI k f := by
 rw [zni]; exact takeW d.kn _
theorem zog (d : RDim k n) (S L G : Nat -> Int) : Ok (zb9 [za5 k n S L G]) fun x => x = .val (.int (rT k n S)) := by
 have n0 : 0 < n := by have := d.k2; have := d.kn; omega
 simp! only [↓zb9, ↓zg4, zar _ n0]
 refine (zhn d S L G).mono ?_
 rintro _ rfl
 simp! only [zia d, zbf, za1]
 rfl
theorem zhu (d : RDim k n) (S L G : Nat -> Int) : Ok (zaN [za5 k n S L G]) fun x => x = .val (.int (tT k n S)) := by
 have := d.e1
 have := d.e5
 simp! only [↓zaN, ↓zfI]
 refine (zog d S L G).mono ?_
 rintro _ rfl
 simp! only []
 refine (zm4 d S L G).mono ?_
 rintro _ rfl
 simp! only []
 exact ⟨zaY (by omega) (by omega), rfl⟩
def Clo (k n : Nat) (S : Nat -> Int) : Prop := ∀ j, j < Nat.gcd k n -> mw k n S j (n / Nat.gcd k n) = 0
def SPap (k n : Nat) (S : Nat -> Int) (x : Sl) : Prop := (∃ j, j < Nat.gcd k n /\ mw k n S j (n / Nat.gcd k n) ≠ 0 /\ x = .val (.tup [.str "round", .int (j : Nat)])) \/ (Clo k n S /\ rT k n S % (eT k n : Int) ≠ 0 /\ x = .val (.tup [.str "part", .int (rT k n S % (eT k n : Int))])) \/ (Clo k n S /\ rT k n S % (eT k n : Int) = 0 /\ x = .val .non)
theorem zlC (d : RDim k n) (S L G : Nat -> Int) : Ok (zbo [za5 k n S L G]) (SPap k n S) := by
 have e1 := d.e1
 have e5 := d.e5
 have g1 := d.g1
 have gk := d.gk
 have k5 := d.k5
 simp! only [↓zbo, ↓zf6, ↓zfL]
 refine (zeC d S L G).mono ?_
 rintro _ rfl
 simp! only []
 refine ⟨zcs (by omega), zbT (fun i ρ => (∀ j, j < i -> mw k n S j (n / Nat.gcd k n) = 0) /\ ∃ s1 s2, ρ = [.val (za5 k n S L G), s1, s2]) ⟨fun j h => by omega, _, _, rfl⟩ ?_ ?_⟩
 ·rintro j _ hj ⟨hb, s1, s2, rfl⟩
  simp! only [↓zf4]
  refine (zpB d S L G hj).mono ?_
  rintro _ rfl
  simp! only []
  refine ⟨fun h => .inl ⟨j, hj, by simpa using h, rfl⟩, fun h => ⟨fun j' hj' => ?_, _, _, rfl⟩⟩
  by_cases e : j' = j
  ·subst e; simpa using h
  ·exact hb j' (by omega)
 ·rintro _ ⟨hb, s1, s2, rfl⟩
  simp! only []
  refine (zog d S L G).mono ?_
  rintro _ rfl
  simp! only []
  refine (zm4 d S L G).mono ?_
  rintro _ rfl
  simp! only []
  refine ⟨by omega, fun h => .inr (.inl ⟨hb, h, rfl⟩), fun h => ?_⟩
  simp! only [↓zgu]
  exact .inr (.inr ⟨hb, h, rfl⟩)
theorem zn5 (d : RDim k n) (S L G : Nat -> Int) : Ok (zb4 [za5 k n S L G]) fun x => x = .own (wI n (rA k n S L)) := by
 have n24 := d.n24
 simp! only [↓zb4, ↓zg0]
 refine (zhn d S L G).mono ?_
 rintro _ rfl
 simp! only []
 refine (zpX L (rM k n S) (by omega)).mono ?_
 rintro _ rfl
 simp! only []
 rfl
theorem zng (d : RDim k n) (S L G : Nat -> Int) : Ok (zbH [za5 k n S L G]) fun x => x = .own (wI n (rA k n S G)) := by
 have n24 := d.n24
 simp! only [↓zbH, ↓zgg]
 refine (zhn d S L G).mono ?_
 rintro _ rfl
 simp! only []
 refine (zpX G (rM k n S) (by omega)).mono ?_
 rintro _ rfl
 simp! only []
 rfl
abbrev zdA (k n : Nat) (S L G lo hi : Nat -> Int) : Prop := Span (rA k n S L) (rA k n S G) n (Nat.gcd k n) lo hi
theorem RDim.gn (d : RDim k n) : Nat.gcd k n <= n := Nat.le_trans d.gk d.kn
theorem zhM (d : RDim k n) (sp : zdA k n S L G lo hi) : Ok (zaL [za5 k n S L G]) fun x => x = .own (za7 (Nat.gcd k n) lo hi) := by
 have n24 := d.n24
 simp! only [↓zaL, ↓zeW]
 refine (zn5 d S L G).mono ?_
 rintro _ rfl
 simp! only []
 refine (zng d S L G).mono ?_
 rintro _ rfl
 simp! only []
 refine (zeC d S L G).mono ?_
 rintro _ rfl
 simp! only []
 refine (zmT d.g1 d.gn (by omega) sp).mono ?_
 rintro _ rfl
 simp! only []
def rR (k n : Nat) (S lo hi : Nat -> Int) (p : Nat) : Int := hd lo hi (Nat.gcd k n) (tT k n S) (p % Nat.gcd k n) + rM k n S p
def Fit (k n : Nat) (S L G lo hi : Nat -> Int) (x : D) : Prop :=
 (∃ j, j < Nat.gcd k n /\ mw k n S j (n / Nat.gcd k n) ≠ 0 /\ x = .tup [.str "round", .int (j : Nat)]) \/
 (Clo k n S /\ rT k n S % (eT k n : Int) ≠ 0 /\ x = .tup [.str "part", .int (rT k n S % (eT k n : Int))]) \/
 (Clo k n S /\ rT k n S % (eT k n : Int) = 0 /\ ¬ Room' (Nat.gcd k n) lo hi (tT k n S) /\ Paper (rA k n S L) (rA k n S G) n (Nat.gcd k n) (tT k n S) x) \/
 (Clo k n S /\ rT k n S % (eT k n : Int) = 0 /\ Room' (Nat.gcd k n) lo hi (tT k n S) /\ x = .tup [.str "row", .tup (wI n (rR k n S lo hi))])
theorem zpp {pd : D} (h : Paper f g n m t pd) : isN pd = false := by
 rcases h with ⟨a, b, _, _, _, _, rfl⟩ | ⟨pl, _, _, rfl⟩ | ⟨pl, _, _, rfl⟩ <;> rfl
theorem zoq (d : RDim k n) (sp : zdA k n S L G lo hi) : Ok (zco [za5 k n S L G]) fun x => ∃ y, x = .val y /\ Fit k n S L G lo hi y := by
 have n24 := d.n24
 have gn := d.gn
 simp! only [↓zco, ↓ze1]
 refine (zlC d S L G).mono ?_
 rintro _ (⟨j, hj, hne, rfl⟩ | ⟨hc, hne, rfl⟩ | ⟨hc, h0, rfl⟩)
 ·simp! only [↓zbt]
  exact ⟨_, rfl, .inl ⟨j, hj, hne, rfl⟩⟩
 ·simp! only [↓zbt]
  exact ⟨_, rfl, .inr (.inl ⟨hc, hne, rfl⟩)⟩
 ·simp! only []
  refine (zn5 d S L G).mono ?_
  rintro _ rfl
  simp! only []
  refine (zng d S L G).mono ?_
  rintro _ rfl
  simp! only []
  refine (zeC d S L G).mono ?_
  rintro _ rfl
  simp! only []
  refine (zhu d S L G).mono ?_
  rintro _ rfl
  simp! only []
  refine (paper_ok d.g1 d.gn (by omega) (tT k n S) sp).mono ?_
  rintro _ (⟨rm, rfl⟩ | ⟨rm, y, py, rfl⟩)
  ·simp! only [↓zbt, ↓ze6]
   refine (zhM d sp).mono ?_
   rintro _ rfl
   simp! only []
   refine (zhu d S L G).mono ?_
   rintro _ rfl
   simp! only []
   refine (zjA lo hi (tT k n S) (by omega)).mono ?_
   rintro _ rfl
   simp! only []
   refine (zhn d S L G).mono ?_
   rintro _ rfl
   simp! only []
   refine (ziX d.g1 (by omega) (hd lo hi (Nat.gcd k n) (tT k n S)) (rM k n S)).mono ?_
   rintro _ rfl
   simp! only []
   exact ⟨_, rfl, .inr (.inr (.inr ⟨hc, h0, rm, rfl⟩))⟩
  ·have e := zpp py
   simp! only [↓zbt, e]
   exact ⟨_, rfl, .inr (.inr (.inl ⟨hc, h0, rm, py⟩))⟩
end
section
variable {k n : Nat} {S L G : Nat -> Int}
theorem zh4 (d : RDim k n) : Ok (zaS [.int n, .int k]) fun x => x = .val (.int (Nat.gcd k n : Nat)) := by
 have k5 := d.k5
 simp! only [↓zaS, ↓zeh, ↓zeH]
 refine ziE (fun m ρ => ∃ a b : Nat, b <= m /\ b <= 1000 /\ Nat.gcd b a = Nat.gcd k n /\ ρ = [.val (.int a), .val (.int b)]) ?_ 400 k _ (by omega) ⟨n, k, Nat.le_refl _, by omega, rfl, rfl⟩
 rintro m _ ⟨a, b, hb, hb2, hg, rfl⟩
 simp! only [↓zeF]
 refine ⟨fun c => ?_, fun c => ?_⟩
 ·have c : (0 : Int) < (b : Int) := by simpa using c
  have em : (a : Int) % (b : Int) = ((a % b : Nat) : Int) := by push_cast; rfl
  have hlt := Nat.mod_lt a (show 0 < b by omega)
  refine ⟨m - 1, by omega, ?_⟩
  simp! only [↓zeL, em]
  refine ⟨by omega, b, a % b, by omega, by omega, ?_, rfl⟩
  rw [<- hg, Nat.gcd_rec b a]
 ·have c : b = 0 := by
   have : ¬ ((0 : Int) < (b : Int)) := by simpa using c
   omega
  subst c
  rw [Nat.gcd_zero_left] at hg
  simp! only [hg]
theorem zn4 (f : Nat -> Int) (p : Nat) : ∀ met : List Nat, lkD (met.map fun q : Nat => (q : Int)) (met.map fun q : Nat => D.int (f q)) (p : Int) = if p ∈ met then some (.int (f p)) else none
 | [] => rfl
 | q :: met => by
  rw [List.map_cons, List.map_cons, lkD, zn4 f p met]
  by_cases e : q = p
  ·subst e; simp
  ·have e1 : ¬ ((q : Int) = (p : Int)) := by omega
   have e2 : p ≠ q := fun z => e z.symm
   simp [e1, e2]
theorem pt_met (f : Nat -> Int) {p : Nat} (h : p ∉ met) : ptD (met.map fun q : Nat => (q : Int)) (met.map fun q : Nat => D.int (f q)) (p : Int) (.int (f p)) = ((met ++ [p]).map fun q : Nat => (q : Int), (met ++ [p]).map fun q : Nat => D.int (f q)) := by
 unfold ptD
 have : (met.map fun q : Nat => (q : Int)).contains (p : Int) = false := by
  rw [Bool.eq_false_iff]
  intro c
  rw [List.contains_iff_mem, List.mem_map] at c
  obtain ⟨q, hq, e⟩ := c
  have : q = p := by omega
  subst this
  exact h hq
 rw [this]
 simp
structure Met (k n J i : Nat) (met : List Nat) : Prop where
 len : met.length <= 24 * J + i
 mem : ∀ p, p ∈ met ↔ p < n /\ (p % Nat.gcd k n < J \/ (p % Nat.gcd k n = J /\ ixp k n p < i))
abbrev metD (k n : Nat) (S : Nat -> Int) (met : List Nat) : Sl := .tre (.dic (met.map fun q : Nat => (q : Int)) (met.map fun q : Nat => D.int (rM k n S q)))
theorem zhy (d : RDim k n) (S L G : Nat -> Int) : Ok (zaQ [za5 k n S L G]) fun x => x = .val (.tup [.lst (wI n (rM k n S)), .lst (wI (Nat.gcd k n) fun j => mw k n S j (n / Nat.gcd k n))]) := by
 have n0 : 0 < n := by have := d.k2; have := d.kn; omega
 have n24 := d.n24
 have hn := d.hn
 have g1 := d.g1
 have gk := d.gk
 have gn := d.gn
 have k5 := d.k5
 have h1 : 1 <= n / Nat.gcd k n := (Nat.le_div_iff_mul_le d.g1).mpr (by rw [Nat.one_mul]; exact d.gn)
 simp! only [↓zaQ, ↓zcJ]
 refine (zh4 d).mono ?_
 rintro _ rfl
 simp! only [↓zdl]
 refine ⟨zcs (by omega), zbT (fun J ρ => ∃ (met : List Nat) (s9 s10 s11 : Sl), Met k n J 0 met /\ ρ = [.val (za5 k n S L G), .val (.int k), .val (.tup (wI n S)), .val (.tup (wI n L)), .val (.tup (wI n G)), .val (.int n), .val (.int (Nat.gcd k n : Nat)), metD k n S met, .own (wI J fun j => mw k n S j (n / Nat.gcd k n)), s9, s10, s11]) ⟨[], _, _, _, ⟨by simp, fun p => by simp⟩, rfl⟩ ?_ ?_⟩
 ·rintro J _ hJ ⟨met, s9, s10, s11, hm, rfl⟩
  simp! only [↓zdu, ↓zda]
  refine ziE (fun m ρ => ∃ (i : Nat) (met : List Nat), i <= n / Nat.gcd k n /\ m = n / Nat.gcd k n - i /\ Met k n J i met /\ ρ = [.val (za5 k n S L G), .val (.int k), .val (.tup (wI n S)), .val (.tup (wI n L)), .val (.tup (wI n G)), .val (.int n), .val (.int (Nat.gcd k n : Nat)), metD k n S met, .own (wI J fun j => mw k n S j (n / Nat.gcd k n)), .val (.int J), .val (.int ((pl k n J i : Nat) : Int)), .val (.int (mw k n S J i))]) ?_ 400 (n / Nat.gcd k n) _ (by omega) ⟨0, met, by omega, by omega, hm, by rw [zh0 d hJ]; rfl⟩
  rintro m _ ⟨i, met, hi, rfl, hm, rfl⟩
  have pn := zos d J i
  simp! only [↓zdq, zn4]
  by_cases e : i = n / Nat.gcd k n
  ·have inm : pl k n J i ∈ met := by
    rw [hm.mem, e, (d.walk.2 J hJ).1]
    refine ⟨by omega, .inr ⟨Nat.mod_eq_of_lt hJ, ?_⟩⟩
    have := ((d.walk.2 J hJ).2 0 (by omega)).2
    rw [zh0 d hJ] at this
    omega
   rw [if_pos inm]
   refine ⟨fun c => (by simp at c), fun _ => ?_⟩
   rw [e]
   have ew : (wI J fun j => mw k n S j (n / Nat.gcd k n)) ++ [D.int (mw k n S J (n / Nat.gcd k n))] = wI (J + 1) fun j => mw k n S j (n / Nat.gcd k n) := (zeO _ _).symm
   rw [ew]
   refine ⟨by omega, met, _, _, _, ⟨by have := hm.len; omega, fun p => ?_⟩, rfl⟩
   ·rw [hm.mem]
    constructor
    ·rintro ⟨a, b | b⟩
     ·exact ⟨a, .inl (by omega)⟩
     ·exact ⟨a, .inl (by omega)⟩
    ·rintro ⟨a, b | b⟩
     ·refine ⟨a, ?_⟩
      by_cases e' : p % Nat.gcd k n < J
      ·exact .inl e'
      ·exact .inr ⟨by omega, by rw [e]; exact (d.walk.1 p a).1⟩
     ·omega
  ·have hi' : i < n / Nat.gcd k n := by omega
   obtain ⟨w1, w2⟩ := (d.walk.2 J hJ).2 i hi'
   have out : pl k n J i ∉ met := by
    rw [hm.mem]
    rintro ⟨a, b | b⟩ <;> omega
   rw [if_neg out]
   refine ⟨fun _ => ⟨n / Nat.gcd k n - i - 1, by omega, ?_⟩, fun c => (by simp at c)⟩
   have e1 : ((pl k n J i : Nat) : Int) + 1 = ((pl k n J i + 1 : Nat) : Int) := by push_cast; rfl
   have e2 : ((pl k n J i + 1 : Nat) : Int) % (n : Int) = (((pl k n J i + 1) % n : Nat) : Int) := by push_cast; rfl
   have e3 : (((pl k n J i : Nat) : Int) + (k : Int)) % (n : Int) = ((pl k n J (i + 1) : Nat) : Int) := by rw [zkz]; push_cast; rfl
   have em : mw k n S J i = rM k n S (pl k n J i) := (rM_at d S hJ hi').symm
   have len := hm.len
   simp! only [↓zdi, e1, e2, e3, zar _ pn, zar _ (Nat.mod_lt (pl k n J i + 1) n0)]
   have ep := pt_met (rM k n S) out
   rw [<- em] at ep
   rw [ep]
   refine ⟨by omega, by omega, by omega, i + 1, met ++ [pl k n J i], by omega, by omega, ⟨by rw [List.length_append]; simp; omega, fun p => ?_⟩, ?_⟩
   ·rw [List.mem_append, hm.mem, List.mem_singleton]
    constructor
    ·rintro (⟨a, b | b⟩ | rfl)
     ·exact ⟨a, .inl b⟩
     ·exact ⟨a, .inr ⟨b.1, by omega⟩⟩
     ·exact ⟨pn, .inr ⟨w1, by omega⟩⟩
    ·rintro ⟨a, b | b⟩
     ·exact .inl ⟨a, .inl b⟩
     ·by_cases c : ixp k n p < i
      ·exact .inl ⟨a, .inr ⟨b.1, c⟩⟩
      ·refine .inr ?_
       have := (d.walk.1 p a).2
       rw [b.1, show ixp k n p = i by omega] at this
       exact this.symm
   ·rw [zj3, Int.add_sub_assoc]
 ·rintro _ ⟨met, s9, s10, s11, hm, rfl⟩
  simp! only [↓zdo]
  refine ⟨zcs (by omega), by omega, zaE (fun ρ => ∃ y, ρ = [.val (.dic (met.map fun q : Nat => (q : Int)) (met.map fun q : Nat => D.int (rM k n S q))), y]) (fun p => .int (rM k n S p)) ⟨_, rfl⟩ ?_ ?_⟩
  ·rintro p _ hp ⟨y, rfl⟩
   have inm : p ∈ met := (hm.mem p).mpr ⟨hp, .inl (Nat.mod_lt _ (by omega))⟩
   simp! only [↓zdh, zn4, inm]
   exact ⟨_, rfl⟩
  ·rintro _ ⟨y, rfl⟩
   simp! only []
end
theorem zoS (lo st : Int) (n : Nat) : zlV lo st n = wL n fun i => .int (lo + (i : Int) * st) := rfl
section
variable {k n : Nat} {S L G : Nat -> Int}
theorem zn3 (d : RDim k n) (sp : zdA k n S L G lo hi) : Ok (zbn [za5 k n S L G, .lst (wI n (rM k n S))]) fun x => x = .own (za7 (Nat.gcd k n) lo hi) := by
 have n24 := d.n24
 have g1 := d.g1
 have gk := d.gk
 have gn := d.gn
 have k5 := d.k5
 obtain ⟨lo', hi', sp', e⟩ := zlW (rA k n S L) (rA k n S G) d.g1 d.gn
 have el : za7 (Nat.gcd k n) lo' hi' = za7 (Nat.gcd k n) lo hi := zd9 fun j hj => by rw [(zhw sp' sp hj).1, (zhw sp' sp hj).2]
 rw [<- el]
 simp! only [↓zbn, ↓zcG]
 refine (zh4 d).mono ?_
 rintro _ rfl
 simp! only [↓zdk]
 generalize hg : Nat.gcd k n = g at *
 refine ⟨zcs (by omega), zbT (fun i ρ => ∃ s4 s5 s6, ρ = [.val (za5 k n S L G), .val (.lst (wI n (rM k n S))), .val (.int g), .own (za7 i lo' hi'), s4, s5, s6]) ⟨_, _, _, rfl⟩ ?_ ?_⟩
 ·rintro j _ hj ⟨s4, s5, s6, rfl⟩
  obtain ⟨e1, e2⟩ := e j hj
  rw [wI, zlv _ (show 0 < g by omega) (show j < n by omega)] at e1
  rw [wI, zlv _ (show 0 < g by omega) (show j < n by omega)] at e2
  have hc : cntS (j : Int) (n : Int) (g : Int) <= 24 := by
   by_cases c : cntS (j : Int) (n : Int) (g : Int) <= 24
   ·exact c
   ·have h1 := (zcY (j := j) (n := n) (show 0 < g by omega)).mp (show 24 < cntS (j : Int) (n : Int) (g : Int) by omega)
    have : 24 * 1 <= 24 * g := Nat.mul_le_mul_left 24 (by omega)
    omega
  unfold zfE at e1
  unfold zhH at e2
  simp! only [↓zc0, ↓zc2, zoS]
  refine ⟨⟨⟨⟨zcs (by omega), zcs (by omega)⟩, by omega⟩, by omega⟩, by omega, zaE (fun ρ => ∃ z, ρ = [.val (za5 k n S L G), .val (.lst (wI n (rM k n S))), z]) (fun i => .int (rA k n S L (j + i * g))) ⟨_, rfl⟩ ?_ ?_⟩
  ·rintro i _ hi ⟨z, rfl⟩
   have hlt := (zcY (show 0 < g by omega)).mp hi
   have e3 : (j : Int) + (i : Int) * (g : Int) = ((j + i * g : Nat) : Int) := by push_cast; rfl
   simp! only [↓zdm, e3, zar _ hlt]
   exact ⟨rfl, _, rfl⟩
  rintro _ ⟨z, rfl⟩
  simp! only [↓zdr, zoS]
  refine ⟨⟨⟨⟨zcs (by omega), zcs (by omega)⟩, by omega⟩, by omega⟩, by omega, zaE (fun ρ => ∃ z, ρ = [.val (za5 k n S L G), .val (.lst (wI n (rM k n S))), z]) (fun i => .int (rA k n S G (j + i * g))) ⟨_, rfl⟩ ?_ ?_⟩
  ·rintro i _ hi ⟨z, rfl⟩
   have hlt := (zcY (show 0 < g by omega)).mp hi
   have e3 : (j : Int) + (i : Int) * (g : Int) = ((j + i * g : Nat) : Int) := by push_cast; rfl
   simp! only [↓zdw, e3, zar _ hlt]
   exact ⟨rfl, _, rfl⟩
  rintro _ ⟨z, rfl⟩
  simp! only [e1, e2, za7]
  exact ⟨by omega, _, _, _, by rw [zeO]⟩
 ·rintro _ ⟨s4, s5, s6, rfl⟩
  simp! only []
def rwin (k n : Nat) (r : Nat -> Int) (a : Nat) : Int := sumR k fun s => r ((a + s) % n)
theorem zm1 {dd : D} {n k : Nat} (h : Sq dd n r) (n0 : 0 < n) (n24 : n <= 24) (k5 : k <= 5) : Ok (zaZ [dd, .int k]) fun x => x = .val (.tup (wI n (rwin k n r))) := by
 simp! only [↓zaZ, ↓zcZ, h.ln, ↓zdC]
 refine ⟨zcs (by omega), by omega, zaE (fun ρ => ∃ z, ρ = [.val (.int k), .val dd, .val (.int n), z]) (fun a => .int (rwin k n r a)) ⟨_, rfl⟩ ?_ ?_⟩
 ·rintro a _ ha ⟨z, rfl⟩
  simp! only [↓zdQ, ↓zdR]
  refine ⟨zcs (by omega), by omega, zaE (fun ρ => ∃ z, ρ = [.val dd, .val (.int a), .val (.int n), z]) (fun s => .int (r ((a + s) % n))) ⟨_, rfl⟩ ?_ ?_⟩
  ·rintro s _ hs ⟨z, rfl⟩
   have e1 : ((a : Int) + (s : Int)) % (n : Int) = (((a + s) % n : Nat) : Int) := by push_cast; rfl
   simp! only [↓zdM, e1, h.ix, zar _ (Nat.mod_lt (a + s) n0)]
   exact ⟨by omega, _, rfl⟩
  ·rintro _ ⟨z, rfl⟩
   simp! only [zbf, za1]
   exact ⟨rfl, _, rfl⟩
 ·rintro _ ⟨z, rfl⟩
  simp! only []
def Fits (k n : Nat) (S L G r : Nat -> Int) : Prop := (∀ a, a < n -> rwin k n r a = S a) /\ ∀ p, p < n -> L p <= r p /\ r p <= G p
theorem zoB (d : RDim k n) (S L G r : Nat -> Int) : Ok (za0 [za5 k n S L G, .tup (wI n r)]) fun x => ∃ b, x = .val (.bl b) /\ (b = true ↔ Fits k n S L G r) := by
 have n24 := d.n24
 have k5 := d.k5
 have n0 : 0 < n := by have := d.k2; have := d.kn; omega
 simp! only [↓za0, ↓zcX]
 refine (zm1 (Sq.tup n r) n0 n24 k5).mono ?_
 rintro _ rfl
 simp! only [dNe_wt]
 refine ⟨fun h => ⟨false, rfl, ⟨fun z => (by cases z), fun z => ?_⟩⟩, fun h => ?_⟩
 ·have : eqW n (rwin k n r) S = true := eqW_iff.mpr z.1
  rw [this] at h; cases h
 have hs : ∀ a, a < n -> rwin k n r a = S a := eqW_iff.mp (by revert h; cases eqW n (rwin k n r) S <;> simp)
 simp! only [↓zdF, ↓zdV]
 refine ⟨zcs (by omega), by omega, zaE (fun ρ => ∃ z, ρ = [.val (.tup (wI n L)), .val (.tup (wI n r)), .val (.tup (wI n G)), z]) (fun p => .bl (decide (L p <= r p) && decide (r p <= G p))) ⟨_, rfl⟩ ?_ ?_⟩
 ·rintro p _ hp ⟨z, rfl⟩
  simp! only [↓zdP, zar _ hp]
  refine ⟨fun h => ⟨by simp [h], _, rfl⟩, fun h => ⟨?_, _, rfl⟩⟩
  rw [decide_eq_false (by omega)]; rfl
 ·rintro _ ⟨z, rfl⟩
  simp! only [zeD]
  refine ⟨_, rfl, ?_⟩
  rw [all_w]
  constructor
  ·intro q
   exact ⟨hs, fun p hp => by simpa using q p hp⟩
  ·intro q p hp
   simpa using q.2 p hp
theorem ziC (g : Nat) (h : Nat -> Int) : ∀ e, sumR (e * g) (fun i => h (i % g)) = (e : Int) * sumR g h
 | 0 => by simp [sumR]
 | e + 1 => by
  rw [Nat.add_mul, Nat.one_mul, za9, ziC g h e]
  have : sumR g (fun i => h ((e * g + i) % g)) = sumR g h := zaq fun i hi => by rw [Nat.add_comm, Nat.add_mul_mod_self_right, Nat.mod_eq_of_lt hi]
  rw [this]
  push_cast
  rw [Int.add_mul, Int.one_mul]
theorem zjI (F : Nat -> Int) : ∀ k, sumR k (fun s => F (s + 1)) = sumR k F + F k - F 0
 | 0 => by simp [sumR]
 | k + 1 => by
  have ih := zjI F k
  simp only [sumR]
  omega
theorem ziA (f g : Nat -> Int) : ∀ k, sumR k (fun s => f s + g s) = sumR k f + sumR k g
 | 0 => by simp [sumR]
 | k + 1 => by
  have ih := ziA f g k
  simp only [sumR]
  omega
theorem ziS (k n : Nat) (r : Nat -> Int) (a : Nat) : rwin k n r (a + 1) = rwin k n r a + r ((a + k) % n) - r (a % n) := by
 have := zjI (fun s => r ((a + s) % n)) k
 have e : rwin k n r (a + 1) = sumR k fun s => r ((a + (s + 1)) % n) := zaq fun s _ => by rw [show a + 1 + s = a + (s + 1) by omega]
 rw [e, this]
 rfl
theorem zhe (d : RDim k n) (h : Nat -> Int) : rwin k n (fun p => h (p % Nat.gcd k n) + rM k n S p) 0 = (eT k n : Int) * sumR (Nat.gcd k n) h + sumR k (rM k n S) := by
 have kn := d.kn
 have ek : eT k n * Nat.gcd k n = k := Nat.div_mul_cancel (Nat.gcd_dvd_left k n)
 have e : rwin k n (fun p => h (p % Nat.gcd k n) + rM k n S p) 0 = sumR k fun s => h (s % Nat.gcd k n) + rM k n S s := zaq fun s hs => by
  rw [Nat.zero_add, Nat.mod_eq_of_lt (show s < n by omega)]
 rw [e, ziA, <- ziC, ek]
theorem zpA (d : RDim k n) (hc : Clo k n S) (hp : p < n) : (p + k) % n % Nat.gcd k n = p % Nat.gcd k n /\ rM k n S ((p + k) % n) = rM k n S p + (S ((p + 1) % n) - S p) := by
 have hj := Nat.mod_lt p d.g1
 obtain ⟨w1, w2⟩ := d.walk.1 p hp
 obtain ⟨w3, w4⟩ := d.walk.2 _ hj
 have e1 : (p + k) % n = pl k n (p % Nat.gcd k n) (ixp k n p + 1) := by rw [zkz, w2]
 have e2 : mw k n S (p % Nat.gcd k n) (ixp k n p + 1) = rM k n S p + (S ((p + 1) % n) - S p) := by rw [zj3, w2]; rfl
 by_cases h : ixp k n p + 1 < n / Nat.gcd k n
 ·rw [e1]
  exact ⟨(w4 _ h).1, by rw [rM_at d S hj h, e2]⟩
 ·have h' : ixp k n p + 1 = n / Nat.gcd k n := by omega
  rw [e1, h', w3]
  refine ⟨Nat.mod_eq_of_lt hj, ?_⟩
  rw [<- e2, h', hc _ hj]
  have := rM_at d S hj (show 0 < n / Nat.gcd k n by omega)
  rw [zh0 d hj] at this
  rw [this]; rfl
theorem fits_of (d : RDim k n) (hc : Clo k n S) (h0 : rT k n S % (eT k n : Int) = 0) (sp : zdA k n S L G lo hi) (rm : Room' (Nat.gcd k n) lo hi (tT k n S)) : Fits k n S L G (rR k n S lo hi) := by
 have e1 := d.e1
 have n0 : 0 < n := by have := d.k2; have := d.kn; omega
 refine ⟨fun a => ?_, fun p hp => ?_⟩
 ·induction a with
  | zero =>
   intro _
   have : rwin k n (rR k n S lo hi) 0 = _ := zhe (S := S) d (hd lo hi (Nat.gcd k n) (tT k n S))
   rw [this, zpU rm]
   have e2 : (eT k n : Int) * tT k n S = rT k n S := by
    unfold tT
    exact Int.mul_ediv_cancel' (Int.dvd_of_emod_eq_zero h0)
   rw [e2]
   unfold rT
   omega
  | succ a ih =>
   intro ha
   have ih := ih (by omega)
   obtain ⟨q1, q2⟩ := zpA d hc (show a < n by omega)
   rw [ziS, ih, Nat.mod_eq_of_lt (show a < n by omega)]
   unfold rR
   rw [q1, q2, Nat.mod_eq_of_lt ha]
   omega
 ·have hj := Nat.mod_lt p d.g1
  have b := hd_in rm hj
  have b1 := sp.lg p hp
  have b2 := sp.hg p hp
  unfold rA at b1 b2
  unfold rR
  omega
theorem room_of (d : RDim k n) (sp : zdA k n S L G lo hi) (f : Fits k n S L G fun p => h (p % Nat.gcd k n) + rM k n S p) : rT k n S % (eT k n : Int) = 0 /\ Room' (Nat.gcd k n) lo hi (tT k n S) := by
 have e1 := d.e1
 have n0 : 0 < n := by have := d.k2; have := d.kn; omega
 have es : rT k n S = (eT k n : Int) * sumR (Nat.gcd k n) h := by
  have := f.1 0 n0
  rw [zhe d] at this
  unfold rT
  omega
 have et : tT k n S = sumR (Nat.gcd k n) h := by
  unfold tT
  rw [es, Int.mul_ediv_cancel_left _ (by omega)]
 have inn : ∀ j, j < Nat.gcd k n -> lo j <= h j /\ h j <= hi j := fun j hj => by
  obtain ⟨p, hp, pj, e⟩ := sp.lm j hj
  obtain ⟨q, hq, qj, e'⟩ := sp.hm j hj
  have b := (f.2 p hp).1
  have c := (f.2 q hq).2
  unfold rA at e e'
  dsimp only at b c
  rw [pj] at b
  rw [qj] at c
  omega
 refine ⟨by rw [es]; exact Int.mul_emod_right _ _, ⟨fun j hj => Int.le_trans (inn j hj).1 (inn j hj).2, ?_, ?_⟩⟩
 ·rw [et]; exact ze3 fun j hj => (inn j hj).1
 ·rw [et]; exact ze3 fun j hj => (inn j hj).2
end
theorem dropW (n i : Nat) (f : Nat -> D) : (wL n f).drop i = wL (n - i) fun j => f (i + j) := by
 apply List.ext_getElem?
 intro j
 rw [List.getElem?_drop]
 by_cases hj : i + j < n
 ·rw [zar _ hj, zar _ (by omega)]
 ·rw [List.getElem?_eq_none (by rw [zaM]; omega), List.getElem?_eq_none (by rw [zaM]; omega)]
section
variable {k n : Nat} {S L G : Nat -> Int}
def Good (k n : Nat) (S lo hi : Nat -> Int) : Prop := Clo k n S /\ rT k n S % (eT k n : Int) = 0 /\ Room' (Nat.gcd k n) lo hi (tT k n S)
def LeastP (k n : Nat) (S lo hi : Nat -> Int) (x : Sl) : Prop := (Good k n S lo hi /\ x = .val (.tup (wI n (rR k n S lo hi)))) \/ (¬ Good k n S lo hi /\ x = .val .non)
theorem clo_of (d : RDim k n) {v w : Int} (hv : ∀ j, j < Nat.gcd k n -> mw k n S j (n / Nat.gcd k n) <= v) (hw : ∀ j, j < Nat.gcd k n -> w <= mw k n S j (n / Nat.gcd k n)) (h1 : v <= 0) (h2 : 0 <= w) : Clo k n S := fun j hj => by
 have := hv j hj
 have := hw j hj
 omega
theorem least_ok (d : RDim k n) (sp : zdA k n S L G lo hi) : Ok (zbh [za5 k n S L G]) (LeastP k n S lo hi) := by
 have n24 := d.n24
 have g1 := d.g1
 have gk := d.gk
 have gn := d.gn
 have k5 := d.k5
 have e1 := d.e1
 have e5 := d.e5
 have n0 : 0 < n := by omega
 have ed : (k : Int) / ((Nat.gcd k n : Nat) : Int) = ((eT k n : Nat) : Int) := by push_cast; rfl
 have er : S 0 - sumR k (rM k n S) = rT k n S := rfl
 have et : rT k n S / ((eT k n : Nat) : Int) = tT k n S := rfl
 obtain ⟨v, v1, ⟨iv, hiv, ev⟩, v3⟩ := max_w (fun j => mw k n S j (n / Nat.gcd k n)) g1
 obtain ⟨w, w1, ⟨iw, hiw, ew⟩, w3⟩ := min_w (fun j => mw k n S j (n / Nat.gcd k n)) g1
 unfold zfE at v1
 unfold zhH at w1
 simp! only [↓zbh, ↓zcF]
 refine (zhy d S L G).mono ?_
 rintro _ rfl
 simp! only [ed, zar _ n0, zia d, zbf, za1, er]
 refine ⟨zaY (by omega) (by omega), ?_⟩
 refine (zn3 d sp).mono ?_
 rintro _ rfl
 simp! only [v1, w1, ↓zc9, za7]
 refine ⟨fun c => .inr ⟨fun gd => ?_, rfl⟩, fun c1 => ⟨fun c => .inr ⟨fun gd => ?_, rfl⟩, fun c2 => ⟨by omega, fun c => .inr ⟨fun gd => ?_, rfl⟩, fun c3 => ⟨by omega, ?_⟩⟩⟩⟩
 ·have := gd.1 iv hiv
  omega
 ·have := gd.1 iw hiw
  omega
 ·have := gd.2.1
  omega
 refine zaE (fun ρ => ∃ y, ρ = [y]) (fun j => .bl (decide (lo j <= hi j))) ⟨_, rfl⟩ ?_ ?_
 ·rintro j _ hj ⟨y, rfl⟩
  simp! only [↓zc3]
  exact ⟨_, rfl⟩
 rintro _ ⟨y, rfl⟩
 simp! only [zeD]
 refine ⟨fun c => .inr ⟨fun gd => ?_, rfl⟩, fun c4 => ?_⟩
 ·have : ((List.range (Nat.gcd k n)).map fun i => decide (lo i <= hi i)).all id = true := (all_w _ _).mpr fun j hj => decide_eq_true (gd.2.2.le j hj)
  rw [this] at c; cases c
 have hall : ∀ j, j < Nat.gcd k n -> lo j <= hi j := by
  have : ((List.range (Nat.gcd k n)).map fun i => decide (lo i <= hi i)).all id = true := by
   revert c4; cases ((List.range (Nat.gcd k n)).map fun i => decide (lo i <= hi i)).all id <;> simp
  intro j hj
  have := (all_w _ _).mp this j hj
  simpa using this
 have clo : Clo k n S := clo_of d v3 w3 (by omega) (by omega)
 have e0 : rT k n S % (eT k n : Int) = 0 := by
  have := Int.emod_nonneg (rT k n S) (show ((eT k n : Nat) : Int) ≠ 0 by omega)
  omega
 simp! only [↓zde, ↓zdp, et]
 refine ⟨zaY (by omega) (by omega), zcs (by omega), zbT (fun i ρ => ∃ s8, ρ = [.val (za5 k n S L G), .val (.lst (wI n (rM k n S))), .val (.lst (wI (Nat.gcd k n) fun j => mw k n S j (n / Nat.gcd k n))), .val (.int (eT k n)), .val (.int (rT k n S)), .val (.lst (za7 (Nat.gcd k n) lo hi)), .val (.int (left lo hi (Nat.gcd k n) (tT k n S) i)), .own (wI i (hd lo hi (Nat.gcd k n) (tT k n S))), s8, .emp]) ⟨_, rfl⟩ ?_ ?_⟩
 ·rintro i _ hi' ⟨s8, rfl⟩
  have cw : cutD (za7 (Nat.gcd k n) lo hi) (some ((i : Int) + 1)) none = wL (Nat.gcd k n - (i + 1)) fun j => .tup [.int (lo (i + 1 + j)), .int (hi (i + 1 + j))] := (ziD _ (i + 1)).trans (dropW _ _ _)
  have es : sumR (Nat.gcd k n - (i + 1)) (fun j => hi (i + 1 + j)) = sumR (Nat.gcd k n) hi - sumR (i + 1) hi := by
   have := za9 hi (i + 1) (Nat.gcd k n - (i + 1))
   rw [show i + 1 + (Nat.gcd k n - (i + 1)) = Nat.gcd k n by omega] at this
   omega
  have gs : (za7 (Nat.gcd k n) lo hi)[i]? = some (.tup [.int (lo i), .int (hi i)]) := by unfold za7; rw [zar _ hi']
  simp! only [↓zc7, ↓zdf, cw, gs]
  refine ⟨by omega, zaE (fun ρ => ∃ y, ρ = [y]) (fun j => .int (hi (i + 1 + j))) ⟨_, rfl⟩ ?_ ?_⟩
  ·rintro j _ hj ⟨y, rfl⟩
   simp! only [↓zdg]
   exact ⟨_, rfl⟩
  rintro _ ⟨y, rfl⟩
  have ew' : wI i (hd lo hi (Nat.gcd k n) (tT k n S)) ++ [.int (hd lo hi (Nat.gcd k n) (tT k n S) i)] = wI (i + 1) (hd lo hi (Nat.gcd k n) (tT k n S)) := (zeO _ _).symm
  have eh : max2 (lo i) (left lo hi (Nat.gcd k n) (tT k n S) i - (sumR (Nat.gcd k n) hi - sumR (i + 1) hi)) = hd lo hi (Nat.gcd k n) (tT k n S) i := rfl
  simp! only [zbf, za1, es, eh, ew', zar _ (show i < i + 1 by omega)]
  exact ⟨by omega, _, rfl⟩
 ·rintro _ ⟨s8, rfl⟩
  simp! only [↓zdb]
  refine ⟨zcs (by omega), by omega, zaE (fun ρ => ∃ z, ρ = [.par (wI (Nat.gcd k n) (hd lo hi (Nat.gcd k n) (tT k n S))), .val (.lst (wI n (rM k n S))), z]) (fun p => .int (rR k n S lo hi p)) ⟨_, rfl⟩ ?_ ?_⟩
  ·rintro p _ hp ⟨z, rfl⟩
   have em : (p : Int) % ((Nat.gcd k n : Nat) : Int) = ((p % Nat.gcd k n : Nat) : Int) := by push_cast; rfl
   simp! only [↓zc5, em, zar _ (Nat.mod_lt p g1), zar _ hp]
   exact ⟨by omega, rfl, _, rfl⟩
  rintro _ ⟨z, rfl⟩
  simp! only []
  refine (zoB d S L G (rR k n S lo hi)).mono ?_
  rintro _ ⟨b, rfl, hb⟩
  simp! only []
  refine ⟨fun ht => .inl ⟨⟨clo, e0, (room_of d sp (hb.mp ht)).2⟩, rfl⟩, fun hf => .inr ⟨fun gd => ?_, rfl⟩⟩
  have := hb.mpr (fits_of d clo e0 sp gd.2.2)
  rw [this] at hf; cases hf
end
theorem in_row : dIn (.str "row") (.tup [.str "row", .str "low", .str "high"]) = some (.bl true) := rfl
theorem in_low : dIn (.str "low") (.tup [.str "row", .str "low", .str "high"]) = some (.bl true) := rfl
theorem in_high : dIn (.str "high") (.tup [.str "row", .str "low", .str "high"]) = some (.bl true) := rfl
theorem in_round : dIn (.str "round") (.tup [.str "row", .str "low", .str "high"]) = some (.bl false) := rfl
theorem in_part : dIn (.str "part") (.tup [.str "row", .str "low", .str "high"]) = some (.bl false) := rfl
theorem in_clash : dIn (.str "clash") (.tup [.str "row", .str "low", .str "high"]) = some (.bl false) := rfl
section
variable {k n : Nat} {S L G : Nat -> Int}
theorem cut_t2 (a b : D) : cutD [a, b] (some 1) none = [b] := rfl
theorem cut_t3 (a b c : D) : cutD [a, b, c] (some 1) none = [b, c] := rfl
theorem zh9 (f : Nat -> Int) (hm : m <= 1000) : Ok (zbu [.tup (wI m f)]) fun x => x = .val (.bl true) := by
 have w : ∀ i : Int, Ok (zcN [.int i]) fun x => x = .val (.bl true) := fun i => by
  simp! only [↓zcN, ↓zgt]
  exact ⟨by decide, ⟨by decide, rfl⟩, fun h => absurd trivial h⟩
 simp! only [↓zbu, ↓zep, ↓zex]
 refine ⟨by decide, ⟨by omega, zaE (fun ρ => ∃ y, ρ = [y]) (fun i => .bl true) ⟨_, rfl⟩ ?_ ?_⟩, fun h => absurd trivial h⟩
 ·rintro i _ hi ⟨y, rfl⟩
  simp! only [↓zew]
  refine (w _).mono ?_
  rintro _ rfl
  simp! only []
  exact ⟨_, rfl⟩
 ·rintro _ ⟨y, rfl⟩
  have e := zeD m fun _ => true
  simp! only [e]
  simp
theorem zk2 (pl : Nat -> Nat) (h : ∀ j, j < m -> pl j < n /\ pl j % m = j) (hm : m <= 1000) (hn : n <= 1000) : Ok (za6 [.tup (wI m fun j => (pl j : Nat)), .int m, .int n]) fun x => x = .val (.bl true) := by
 simp! only [↓za6, ↓zb5, ↓zcA, ↓zcC]
 refine ⟨zcs hm, by omega, zaE (fun ρ => ∃ y, ρ = [.val (.tup (wI m fun j => (pl j : Nat))), .val (.int n), .val (.int m), y]) (fun i => .bl true) ⟨_, rfl⟩ ?_ ?_⟩
 ·rintro j _ hj ⟨y, rfl⟩
  obtain ⟨h1, h2⟩ := h j hj
  have em : ((pl j : Nat) : Int) % (m : Int) = (j : Int) := by rw [show ((pl j : Nat) : Int) % (m : Int) = ((pl j % m : Nat) : Int) by push_cast; rfl, h2]
  simp! only [↓zcD, zar _ hj, em, show (0 : Int) <= ((pl j : Nat) : Int) by omega, show ((pl j : Nat) : Int) < (n : Int) by omega, beq_self_eq_true]
  exact ⟨by omega, _, rfl⟩
 ·rintro _ ⟨y, rfl⟩
  have e := zeD m fun _ => true
  simp! only [e]
  simp
theorem zpY (d : RDim k n) (py : Paper (rA k n S L) (rA k n S G) n (Nat.gcd k n) (tT k n S) y) : Ok (zbb [za5 k n S L G, .lst (wI n (rM k n S)), y]) fun x => x = .val (.bl true) := by
 have n24 := d.n24
 have g1 := d.g1
 have gk := d.gk
 have gn := d.gn
 have k5 := d.k5
 have e1 := d.e1
 have e5 := d.e5
 have n0 : 0 < n := by omega
 have ed : (k : Int) / ((Nat.gcd k n : Nat) : Int) = ((eT k n : Nat) : Int) := by push_cast; rfl
 have er : S 0 - sumR k (rM k n S) = rT k n S := rfl
 have et : rT k n S / ((eT k n : Nat) : Int) = tT k n S := rfl
 simp! only [↓zbb, ↓zcy]
 refine (zh4 d).mono ?_
 rintro _ rfl
 rcases py with ⟨a, b, ha, hb, hab, hgt, rfl⟩ | ⟨pl, hpl, hs, rfl⟩ | ⟨pl, hpl, hs, rfl⟩
 ·have m1 : (a : Int) % ((Nat.gcd k n : Nat) : Int) = ((a % Nat.gcd k n : Nat) : Int) := by push_cast; rfl
  have m2' : (b : Int) % ((Nat.gcd k n : Nat) : Int) = ((a % Nat.gcd k n : Nat) : Int) := by rw [hab]; push_cast; rfl
  unfold rA at hgt
  simp! only [beq_self_eq_true, cut_t3, m1, m2', show (0 : Int) <= (a : Int) by omega, show (a : Int) < (n : Int) by omega, show (0 : Int) <= (b : Int) by omega, show (b : Int) < (n : Int) by omega, ↓zcT, zar _ ha, zar _ hb]
  exact ⟨by omega, by omega, by rw [decide_eq_true hgt]⟩
 ·simp! only [show (("low" : Str) == "clash") = false by decide +kernel, ↓zbE]
  refine (zk2 pl hpl (by omega) (by omega)).mono ?_
  rintro _ rfl
  simp! only [↓zbC, zar _ n0, zia d, zbf, za1, er, ed, et, beq_self_eq_true, ↓zcS]
  refine ⟨zaY (by omega) (by omega), zaY (by omega) (by omega), by omega, zaE (fun ρ => ∃ z, ρ = [.val (za5 k n S L G), .val (.lst (wI n (rM k n S))), z]) (fun j => .int (rA k n S L (pl j))) ⟨_, rfl⟩ ?_ ?_⟩
  ·rintro j _ hj ⟨z, rfl⟩
   simp! only [↓zcQ, zar _ (hpl j hj).1]
   exact ⟨rfl, _, rfl⟩
  ·rintro _ ⟨z, rfl⟩
   simp! only [zbf, za1]
   rw [decide_eq_true hs]
 ·simp! only [show (("high" : Str) == "clash") = false by decide +kernel, ↓zbE]
  refine (zk2 pl hpl (by omega) (by omega)).mono ?_
  rintro _ rfl
  simp! only [↓zbC, zar _ n0, zia d, zbf, za1, er, ed, et, show (("high" : Str) == "low") = false by decide +kernel, ↓zcM, ↓zcR]
  refine ⟨zaY (by omega) (by omega), zaY (by omega) (by omega), by omega, zaE (fun ρ => ∃ z, ρ = [.val (za5 k n S L G), .val (.lst (wI n (rM k n S))), z]) (fun j => .int (rA k n S G (pl j))) ⟨_, rfl⟩ ?_ ?_⟩
  ·rintro j _ hj ⟨z, rfl⟩
   simp! only [↓zcU, zar _ (hpl j hj).1]
   exact ⟨rfl, _, rfl⟩
  ·rintro _ ⟨z, rfl⟩
   simp! only [zbf, za1]
   rw [decide_eq_true hs]
theorem zo0 (d : RDim k n) (f : Fit k n S L G lo hi y) : Ok (zat [y]) fun x => x = .val (.bl true) := by
 have n24 := d.n24
 have gn := d.gn
 have tl : ∀ {s : Str} {m : Nat} (g : Nat -> Int), m <= 1000 -> dIn (.str s) (.tup [.str "row", .str "low", .str "high"]) = some (.bl true) -> Ok (zat [.tup [.str s, .tup (wI m g)]]) fun x => x = .val (.bl true) := fun {s m} g hm hs => by
  simp! only [↓zat, ↓zbc, ↓zba, hs, beq_self_eq_true]
  refine ⟨by decide, fun h => absurd h (by omega), fun _ => ⟨by decide, fun _ => ?_, fun h => absurd rfl h⟩⟩
  refine (zh9 g hm).mono ?_
  rintro _ rfl
  simp! only []
 have tr : ∀ {s : Str} (j : Int), dIn (.str s) (.tup [.str "row", .str "low", .str "high"]) = some (.bl false) -> (([("round", 2), ("part", 2), ("clash", 3)] : List (Str × Int)).lookup s).getD 0 = 2 -> Ok (zat [.tup [.str s, .int j]]) fun x => x = .val (.bl true) := fun {s} j hs hk => by
  simp! only [↓zat, ↓zbc, ↓zba, hs, ↓zbB, hk, cut_t2, beq_self_eq_true]
  refine ⟨by decide, fun h => absurd h (by omega), fun _ => ⟨by decide, fun _ => ?_, fun h => absurd rfl h⟩⟩
  refine (zh9 (m := 1) (fun _ => j) (by omega)).mono ?_
  rintro _ rfl
  simp! only []
 have tc : ∀ (a b : Int), Ok (zat [.tup [.str "clash", .int a, .int b]]) fun x => x = .val (.bl true) := fun a b => by
  have hk : (([("round", 2), ("part", 2), ("clash", 3)] : List (Str × Int)).lookup ("clash" : Str)).getD 0 = 3 := rfl
  simp! only [↓zat, ↓zbc, ↓zba, in_clash, ↓zbB, hk, cut_t3, beq_self_eq_true]
  refine ⟨by decide, fun h => absurd h (by omega), fun _ => ⟨by decide, fun _ => ?_, fun h => absurd rfl h⟩⟩
  have e : [D.int a, D.int b] = wI 2 fun i => if i = 0 then a else b := rfl
  rw [e]
  refine (zh9 _ (by omega)).mono ?_
  rintro _ rfl
  simp! only []
 rcases f with ⟨j, _, _, rfl⟩ | ⟨_, _, rfl⟩ | ⟨_, _, _, ⟨a, b, _, _, _, _, rfl⟩ | ⟨pl, _, _, rfl⟩ | ⟨pl, _, _, rfl⟩⟩ | ⟨_, _, _, rfl⟩
 ·exact tr _ in_round rfl
 ·exact tr _ in_part rfl
 ·exact tc _ _
 ·exact tl _ (by omega) in_low
 ·exact tl _ (by omega) in_high
 ·exact tl _ (by omega) in_row
theorem ltold_ok (d : RDim k n) (sp : zdA k n S L G lo hi) (f : Fit k n S L G lo hi y) : Ok (zaH [za5 k n S L G, y]) fun x => x = .val (.bl true) := by
 have n24 := d.n24
 have g1 := d.g1
 have gk := d.gk
 have gn := d.gn
 have k5 := d.k5
 have e1 := d.e1
 have e5 := d.e5
 have n0 : 0 < n := by omega
 have ed : (k : Int) / ((Nat.gcd k n : Nat) : Int) = ((eT k n : Nat) : Int) := by push_cast; rfl
 have er : S 0 - sumR k (rM k n S) = rT k n S := rfl
 obtain ⟨v, v1, ⟨iv, hiv, ev⟩, v3⟩ := max_w (fun j => mw k n S j (n / Nat.gcd k n)) g1
 obtain ⟨w, w1, ⟨iw, hiw, ew⟩, w3⟩ := min_w (fun j => mw k n S j (n / Nat.gcd k n)) g1
 unfold zfE at v1
 unfold zhH at w1
 rcases f with ⟨j, hj, hne, rfl⟩ | ⟨hc, hne, rfl⟩ | ⟨hc, h0, rm, py⟩ | ⟨hc, h0, rm, rfl⟩
 ·simp! only [↓zaH, ↓za8, show (("round" : Str) == "row") = false by decide +kernel, ↓zbq]
  refine (zhy d S L G).mono ?_
  rintro _ rfl
  simp! only [beq_self_eq_true, show (0 : Int) <= (j : Int) by omega, show (j : Int) < ((Nat.gcd k n : Nat) : Int) by omega, zar _ hj]
  have : (mw k n S j (n / Nat.gcd k n) != 0) = true := by simpa using hne
  rw [this]
 ·have hv : v = 0 := by rw [<- ev]; exact hc iv hiv
  have hw : w = 0 := by rw [<- ew]; exact hc iw hiw
  simp! only [↓zaH, ↓za8, show (("part" : Str) == "row") = false by decide +kernel, ↓zbq]
  refine (zhy d S L G).mono ?_
  rintro _ rfl
  simp! only [show (("part" : Str) == "round") = false by decide +kernel, ↓zb3, v1, w1, zar _ n0, zia d, zbf, za1, er, ed, hv, hw, ↓zb6, beq_self_eq_true]
  refine ⟨zaY (by omega) (by omega), by omega, fun h => ?_⟩
  have := Int.emod_nonneg (rT k n S) (show ((eT k n : Nat) : Int) ≠ 0 by omega)
  exact absurd (show rT k n S % (eT k n : Int) = 0 by omega) hne
 ·have hv : v = 0 := by rw [<- ev]; exact hc iv hiv
  have hw : w = 0 := by rw [<- ew]; exact hc iw hiw
  have main : ∀ {s : Str} (l : List D), (s == "row") = false -> (s == "round") = false -> (s == "part") = false -> y = .tup (.str s :: l) -> Ok (zaH [za5 k n S L G, y]) fun x => x = .val (.bl true) := fun {s} l s1 s2 s3 ey => by
   subst ey
   simp! only [↓zaH, ↓za8, s1, ↓zbq]
   refine (zhy d S L G).mono ?_
   rintro _ rfl
   simp! only [s2, ↓zb3, v1, w1, zar _ n0, zia d, zbf, za1, er, ed, hv, hw, ↓zb6, s3, h0, ↓zdS, beq_self_eq_true]
   refine ⟨zaY (by omega) (by omega), by omega, ?_⟩
   refine (zpY d py).mono ?_
   rintro _ rfl
   simp! only []
  rcases id py with ⟨a, b, _, _, _, _, rfl⟩ | ⟨pl, _, _, rfl⟩ | ⟨pl, _, _, rfl⟩
  ·exact main _ (by decide +kernel) (by decide +kernel) (by decide +kernel) rfl
  ·exact main _ (by decide +kernel) (by decide +kernel) (by decide +kernel) rfl
  ·exact main _ (by decide +kernel) (by decide +kernel) (by decide +kernel) rfl
 ·simp! only [↓zaH, ↓za8, beq_self_eq_true]
  refine (least_ok d sp).mono ?_
  rintro _ (⟨gd, rfl⟩ | ⟨ng, rfl⟩)
  ·simp! only [dEq_wt]
   rw [eqW_iff.mpr fun _ _ => rfl]
  ·exact absurd ⟨hc, h0, rm⟩ ng
end
def bin : Nat -> Nat -> Nat
 | _, 0 => 1
 | 0, _ + 1 => 0
 | n + 1, m + 1 => bin n m + bin n (m + 1)
theorem zhk (n : Nat) : bin n 0 = 1 := by cases n <;> rfl
theorem zeN (n m : Nat) : bin (n + 1) (m + 1) = bin n m + bin n (m + 1) := rfl
theorem zmG : ∀ n s, bin (n + 1) (s + 1) * (s + 1) = bin n s * (n + 1)
 | 0, 0 => rfl
 | 0, s + 1 => by
  have h1 : bin 1 (s + 2) = 0 := rfl
  have h2 : bin 0 (s + 1) = 0 := rfl
  rw [h1, h2, Nat.zero_mul, Nat.zero_mul]
 | n + 1, 0 => by
  have h := zmG n 0
  rw [zeN (n + 1) 0, zhk, Nat.zero_add, Nat.mul_one, Nat.one_mul]
  rw [zhk, Nat.zero_add, Nat.mul_one, Nat.one_mul] at h
  omega
 | n + 1, t + 1 => by
  have h1 := zmG n (t + 1)
  have h2 := zmG n t
  rw [zeN (n + 1) (t + 1), Nat.add_mul, h1, show t + 1 + 1 = (t + 1) + 1 from rfl, Nat.mul_add (bin (n + 1) (t + 1)) (t + 1) 1, h2, Nat.mul_one, Nat.mul_add (bin (n + 1) (t + 1)) (n + 1) 1, Nat.mul_one]
  have h3 : bin (n + 1) (t + 1) * (n + 1) = bin n t * (n + 1) + bin n (t + 1) * (n + 1) := by rw [zeN, Nat.add_mul]
  omega
theorem zou : ∀ n m, bin n m <= (n + 1) ^ m
 | n, 0 => by rw [zhk]; exact Nat.le_refl _
 | 0, m + 1 => Nat.zero_le _
 | n + 1, m + 1 => by
  have h1 := zou n m
  have h2 := zou n (m + 1)
  have h3 : (n + 1) ^ m <= (n + 2) ^ m := Nat.pow_le_pow_left (by omega) m
  rw [zeN]
  calc bin n m + bin n (m + 1) <= (n + 1) ^ m + (n + 1) ^ (m + 1) := Nat.add_le_add h1 h2
   _ = (n + 1) ^ m * (n + 2) := by
    have e : (n + 1) ^ m * (n + 2) = (n + 1) ^ m * 1 + (n + 1) ^ m * (n + 1) := by rw [<- Nat.mul_add, show 1 + (n + 1) = n + 2 by omega]
    rw [e, Nat.pow_succ, Nat.mul_one]
   _ <= (n + 2) ^ m * (n + 2) := Nat.mul_le_mul_right _ h3
   _ = (n + 1 + 1) ^ (m + 1) := (Nat.pow_succ ..).symm
theorem bin_far {r i : Nat} (hr : r < 2 ^ 250) (hi : i <= 5) : bin (r + i) i < 2 ^ 4000 := by
 have h1 : bin (r + i) i <= (2 ^ 251) ^ i := Nat.le_trans (zou _ _) (Nat.pow_le_pow_left (by omega) i)
 have h2 : (2 ^ 251) ^ i <= (2 ^ 251) ^ 5 := Nat.pow_le_pow_right (by decide) hi
 have h3 : (2 ^ 251) ^ 5 < 2 ^ 4000 := by rw [<- Nat.pow_mul]; exact Nat.pow_lt_pow_right (by decide) (by decide)
 omega
theorem zpg {i j : Int} (h1 : i.natAbs < 2 ^ 4000) (h2 : j.natAbs < 2 ^ 4000) : zkk i j = true := by
 unfold zkk
 rw [decide_eq_true h1, decide_eq_true h2]; simp
theorem zlL {r k : Nat} (hr : r < 2 ^ 250) (k1 : 1 <= k) (k5 : k <= 5) : Ok (zdT [.int r, .int k]) fun x => x = .val (.int (bin (r + (k - 1)) (k - 1) : Nat)) := by
 have e0 : ((k : Int) - 1).toNat = k - 1 := by omega
 simp! only [↓zdT, ↓zg9, ↓zgS, e0, zf5]
 refine ⟨⟨rfl, zbg (by omega) (by omega)⟩, zbT (fun i ρ => ∃ s3, ρ = [.val (.int r), .val (.int k), .val (.int (bin (r + i) i : Nat)), s3]) ⟨_, by rw [zhk]; rfl⟩ ?_ ?_⟩
 ·rintro i _ hi ⟨s3, rfl⟩
  have hb := bin_far hr (show i <= 5 by omega)
  have e1 : (bin (r + i) i : Int) * ((r : Int) + (1 + (i : Int))) / (1 + (i : Int)) = (bin (r + (i + 1)) (i + 1) : Nat) := by
   have h := zmG (r + i) i
   have h' : (bin (r + i) i : Int) * ((r : Int) + (1 + (i : Int))) = (bin (r + (i + 1)) (i + 1) : Nat) * (1 + (i : Int)) := by
    have : ((bin (r + i) i * (r + i + 1) : Nat) : Int) = ((bin (r + i + 1) (i + 1) * (i + 1) : Nat) : Int) := by rw [h]
    push_cast at this
    rw [show r + (i + 1) = r + i + 1 by omega, show (r : Int) + (1 + (i : Int)) = (r : Int) + (i : Int) + 1 by omega, this, show (1 + (i : Int)) = (i : Int) + 1 by omega]
   rw [h', Int.mul_ediv_cancel _ (by omega)]
  simp! only [↓zgV, e1]
  exact ⟨zpg (by simpa using hb) (by omega), zaY (by omega) (by omega), _, rfl⟩
 ·rintro _ ⟨s3, rfl⟩
  simp! only []
def sub (w : Nat -> Int) (c : Int -> Int) : Nat -> Nat -> Int -> Int
 | 0, _, t => c t
 | m + 1, j, t => sub w c m (j + 1) t - sub w c m (j + 1) (t - w j)
theorem zkO (hw : ∀ j, 0 <= w j) (hc : ∀ t, t < 0 -> c t = 0) : ∀ m j t, t < 0 -> sub w c m j t = 0
 | 0, _, t, h => hc t h
 | m + 1, j, t, h => by
  show sub w c m (j + 1) t - sub w c m (j + 1) (t - w j) = 0
  rw [zkO hw hc m (j + 1) t h, zkO hw hc m (j + 1) (t - w j) (by have := hw j; omega)]
  rfl
def tsum (F : Int -> Int) : List (Int × Nat) -> Int
 | [] => 0
 | p :: ps => p.1 * F p.2 + tsum F ps
theorem znk (F : Int -> Int) : ∀ a b : List (Int × Nat), tsum F (a ++ b) = tsum F a + tsum F b
 | [], b => (Int.zero_add _).symm
 | p :: a, b => by
  show p.1 * F p.2 + tsum F (a ++ b) = p.1 * F p.2 + tsum F a + tsum F b
  rw [znk F a b]; omega
def more (w : Nat) (ps : List (Int × Nat)) : List (Int × Nat) := ps.filterMap fun p => if w <= p.2 then some (-p.1, p.2 - w) else none
theorem zk9 (w : Nat) (h0 : ∀ t, t < 0 -> F t = 0) : ∀ ps : List (Int × Nat), tsum F ps + tsum F (more w ps) = tsum (fun t => F t - F (t - w)) ps
 | [] => rfl
 | p :: ps => by
  have ih := zk9 w h0 ps
  show p.1 * F p.2 + tsum F ps + tsum F (more w (p :: ps)) = p.1 * (F p.2 - F ((p.2 : Int) - w)) + tsum (fun t => F t - F (t - w)) ps
  rw [Int.mul_sub]
  by_cases h : w <= p.2
  ·have e : more w (p :: ps) = (-p.1, p.2 - w) :: more w ps := by unfold more; rw [List.filterMap_cons, if_pos h]
   have e2 : tsum F ((-p.1, p.2 - w) :: more w ps) = -p.1 * F (((p.2 - w : Nat)) : Int) + tsum F (more w ps) := rfl
   rw [e, e2, show ((p.2 - w : Nat) : Int) = (p.2 : Int) - (w : Int) by omega, Int.neg_mul]
   omega
  ·have e : more w (p :: ps) = more w ps := by unfold more; rw [List.filterMap_cons, if_neg h]
   rw [e, h0 ((p.2 : Int) - w) (by omega), Int.mul_zero]
   omega
def ways (k : Nat) (t : Int) : Int := if 0 <= t then (bin (t.toNat + (k - 1)) (k - 1) : Nat) else 0
theorem zgB (k : Nat) (t : Int) (h : t < 0) : ways k t = 0 := if_neg (by omega)
theorem ziz (k r : Nat) : ways k (r : Int) = (bin (r + (k - 1)) (k - 1) : Nat) := by
 unfold ways; rw [if_pos (by omega), Int.toNat_natCast]
abbrev tD (ps : List (Int × Nat)) : List D := ps.map fun p => .tup [.int p.1, .int p.2]
abbrev spanD (m : Nat) (lo hi : Nat -> Int) : List D := wL m fun j => .tup [.int (lo j), .int (hi j)]
theorem zne (F : Int -> Int) : ∀ ps : List (Int × Nat), (ps.map fun p => p.1 * F p.2).sum = tsum F ps
 | [] => rfl
 | p :: ps => by
  rw [List.map_cons, List.sum_cons, zne F ps]; rfl
theorem more_len (w : Nat) (ps : List (Int × Nat)) : (more w ps).length <= ps.length := List.length_filterMap_le _ _
theorem heads6 {k : Nat} (k1 : 1 <= k) (k5 : k <= 5) (le : ∀ j, j < k -> lo j <= hi j) {left : Nat} (hl : left < 2 ^ 250) (a1 a3 a4 a5 a6 : Sl) :
  Ok (zdL [.val (.lst (spanD k lo hi)), a1, .val (.int left), a3, a4, a5, a6]) fun x => ∃ a, x = (.ret (.val (.int (sub (fun j => if j < k then hi j - lo j + 1 else 0) (ways k) k 0 left))), a) := by
 have hw : ∀ j, 0 <= (if j < k then hi j - lo j + 1 else 0) := fun j => by
  split
  ·rename_i h; have := le j h; omega
  ·exact Int.le_refl _
 have hw' : ∀ j, 0 <= (fun j => if j < k then hi j - lo j + 1 else 0) j := hw
 clear hw
 generalize hW : (fun j => if j < k then hi j - lo j + 1 else 0) = W at hw'
 simp! only [↓zdL, ↓zfA]
 refine zbT (fun j ρ => ∃ ps s4 s5 s6, ps.length <= 2 ^ j /\ (∀ p ∈ ps, p.1.natAbs = 1 /\ p.2 <= left) /\ tsum (sub W (ways k) (k - j) j) ps = sub W (ways k) k 0 left /\ ρ = [.val (.lst (spanD k lo hi)), a1, .val (.int left), .val (.lst (tD ps)), s4, s5, s6]) ⟨[(1, left)], _, _, _, by simp, fun p hp => by rw [List.mem_singleton.mp hp]; exact ⟨rfl, Nat.le_refl _⟩, ?_, rfl⟩ ?_ ?_
 ·show (1 : Int) * sub W (ways k) (k - 0) 0 left + 0 = _
  rw [Int.one_mul, Int.add_zero]; rfl
 ·rintro j _ hj ⟨ps, s4, s5, s6, hn, hs, ht, rfl⟩
  have hp : 2 ^ j <= 16 := Nat.pow_le_pow_right (n := 2) (by decide) (show j <= 4 by omega)
  have hl := le j hj
  obtain ⟨w, ew⟩ : ∃ w : Nat, hi j - lo j + 1 = (w : Int) := ⟨(hi j - lo j + 1).toNat, by omega⟩
  have eW : W j = (w : Int) := by rw [<- hW]; simp only [hj, if_true]; exact ew
  simp! only [↓zgk, ew, ↓zgv]
  refine ⟨by omega, ziG (enc := fun p : Int × Nat => D.tup [.int p.1, .int p.2]) (l := ps) (fun ρ => ∃ x y, ρ = [.val (.int w), x, y]) (fun p => if w <= p.2 then some (.tup [.int (-p.1), .int ((p.2 : Int) - w)]) else none) ⟨_, _, rfl⟩ ?_ ?_⟩
  ·rintro ⟨s, r⟩ _ _ ⟨x, y, rfl⟩
   simp! only [↓zf7, ↓zfU]
   refine ⟨fun h => ?_, fun h => ?_⟩
   ·rw [if_pos (by omega)]; exact ⟨rfl, _, _, rfl⟩
   ·rw [if_neg (by omega)]; exact ⟨rfl, _, _, rfl⟩
  ·rintro _ ⟨x, y, rfl⟩
   have e : (ps.filterMap fun p => if w <= p.2 then some (D.tup [.int (-p.1), .int ((p.2 : Int) - w)]) else none) = tD (more w ps) := by
    unfold tD more
    rw [List.map_filterMap]
    refine zfo _ fun p hp => ?_
    split
    ·rename_i h; rw [Option.map_some, show ((p.2 - w : Nat) : Int) = (p.2 : Int) - (w : Int) by omega]
    ·rfl
   have e2 : tD ps ++ tD (more w ps) = tD (ps ++ more w ps) := (List.map_append ..).symm
   have hm := more_len w ps
   simp! only [e, e2]
   refine ⟨by omega, ps ++ more w ps, _, _, _, by rw [List.length_append, Nat.pow_succ]; omega, fun p hp => ?_, ?_, rfl⟩
   ·rcases List.mem_append.mp hp with h | h
    ·exact hs p h
    ·obtain ⟨q, hq, e⟩ := List.mem_filterMap.mp h
     have := hs q hq
     split at e
     ·cases e; exact ⟨by rw [Int.natAbs_neg]; exact this.1, by have := this.2; show q.2 - w <= left; omega⟩
     ·cases e
   ·rw [znk, zk9 w (fun t h => zkO hw' (zgB k) _ _ t h), <- ht, show k - j = (k - (j + 1)) + 1 by omega, <- eW]
    rfl
 ·rintro _ ⟨ps, s4, s5, s6, hn, hs, ht, rfl⟩
  have hp : 2 ^ k <= 32 := Nat.pow_le_pow_right (n := 2) (by decide) k5
  simp! only [↓zfH]
  refine ⟨by omega, zlR (enc := fun p : Int × Nat => D.tup [.int p.1, .int p.2]) (l := ps) (fun ρ => ∃ x y, ρ = [.val (.lst (spanD k lo hi)), x, y]) (fun p => .int (p.1 * ways k p.2)) ⟨_, _, rfl⟩ ?_ ?_⟩
  ·rintro ⟨s, r⟩ _ hm ⟨x, y, rfl⟩
   have := hs _ hm
   simp! only [↓zf3]
   refine (zlL (r := r) (by have := this.2; simp only at this; omega) k1 k5).mono ?_
   rintro _ rfl
   simp! only [ziz]
   exact ⟨zh8 (by have := this.1; simp only at this; omega), _, _, rfl⟩
  ·rintro _ ⟨x, y, rfl⟩
   have e : (ps.map fun p => D.int (p.1 * ways k p.2)) = (ps.map fun p => p.1 * ways k p.2).map D.int := by rw [List.map_map]; rfl
   simp! only [e, zcI, zne]
   rw [Nat.sub_self] at ht
   have : tsum (ways k) ps = sub W (ways k) k 0 left := ht
   rw [this]
   exact ⟨_, rfl⟩
def wid (k : Nat) (lo hi : Nat -> Int) : Nat -> Int := fun j => if j < k then hi j - lo j + 1 else 0
def cnt (k : Nat) (lo hi : Nat -> Int) (T : Int) : Int := if (List.range k).all (fun j => decide (lo j <= hi j)) then sub (wid k lo hi) (ways k) k 0 (T - sumR k lo) else 0
theorem all_le {k : Nat} : (List.range k).all (fun j => decide (lo j <= hi j)) = true ↔ ∀ j, j < k -> lo j <= hi j := by simp
theorem wid_pos {k : Nat} (le : ∀ j, j < k -> lo j <= hi j) (j : Nat) : 0 <= wid k lo hi j := by
 unfold wid
 split
 ·rename_i h; have := le j h; omega
 ·exact Int.le_refl _
theorem zhd {k : Nat} (k1 : 1 <= k) (k5 : k <= 5) (lo hi : Nat -> Int) (T : Int) (far : T - sumR k lo < 2 ^ 250) : Ok (zbI [.lst (spanD k lo hi), .int T]) fun x => x = .val (.int (cnt k lo hi T)) := by
 simp! only [↓zbI, ↓zfN, ↓zge]
 refine ⟨by omega, zaE (fun ρ => ∃ x y, ρ = [x, y]) (fun j => .bl (decide (hi j < lo j))) ⟨_, _, rfl⟩ ?_ ?_⟩
 ·rintro j _ hj ⟨x, y, rfl⟩
  simp! only [↓zfS]
  exact ⟨_, _, rfl⟩
 ·rintro _ ⟨x, y, rfl⟩
  simp! only [zeD]
  refine ⟨fun h => ?_, fun h => ?_⟩
  ·obtain ⟨j, hj, e⟩ := (any_w _ _).mp h
   have : ¬ (List.range k).all (fun j => decide (lo j <= hi j)) = true := fun z => by
    have := all_le.mp z j hj
    have := of_decide_eq_true e
    omega
   unfold cnt
   rw [if_neg this]
  ·have le : ∀ j, j < k -> lo j <= hi j := fun j hj => by
    by_cases q : lo j <= hi j
    ·exact q
    ·have := (any_w k fun j => decide (hi j < lo j)).mpr ⟨j, hj, decide_eq_true (by omega)⟩
     rw [h] at this; cases this
   have ec : cnt k lo hi T = sub (wid k lo hi) (ways k) k 0 (T - sumR k lo) := if_pos (all_le.mpr le)
   simp! only [↓zfz, ↓zgd]
   refine ⟨by omega, zaE (fun ρ => ∃ x y, ρ = [x, y]) (fun j => .int (lo j)) ⟨_, _, rfl⟩ ?_ ?_⟩
   ·rintro j _ hj ⟨x, y, rfl⟩
    simp! only [↓zfQ]
    exact ⟨_, _, rfl⟩
   ·rintro _ ⟨x, y, rfl⟩
    simp! only [zbf, za1]
    refine ⟨fun h => ?_, fun h => ?_⟩
    ·rw [ec, zkO (wid_pos le) (zgB k) _ _ _ (by omega)]
    ·obtain ⟨left, el⟩ : ∃ left : Nat, T - sumR k lo = (left : Int) := ⟨(T - sumR k lo).toNat, by omega⟩
     rw [el] at ec far ⊢
     refine (heads6 k1 k5 le (left := left) (by omega) _ _ _ _ _).mono ?_
     rintro _ ⟨a, rfl⟩
     simp! only [ec]
     rfl
def hc (lo hi : Nat -> Int) : Nat -> Nat -> Int -> Int
 | 0, _, t => if t = 0 then 1 else 0
 | m + 1, j, t => sumR (hi j - lo j + 1).toNat fun v => hc lo hi m (j + 1) (t - (lo j + (v : Nat)))
theorem zmr (w : Nat -> Int) (F G : Int -> Int) : ∀ m j t, sub w (fun t => F t - G t) m j t = sub w F m j t - sub w G m j t
 | 0, _, _ => rfl
 | m + 1, j, t => by
  show sub w _ m (j + 1) t - sub w _ m (j + 1) (t - w j) = (sub w F m (j + 1) t - sub w F m (j + 1) (t - w j)) - (sub w G m (j + 1) t - sub w G m (j + 1) (t - w j))
  rw [zmr w F G m, zmr w F G m]; omega
theorem zhg (w : Nat -> Int) (F : Int -> Int) (a : Int) : ∀ m j t, sub w (fun t => F (t - a)) m j t = sub w F m j (t - a)
 | 0, _, _ => rfl
 | m + 1, j, t => by
  show sub w _ m (j + 1) t - sub w _ m (j + 1) (t - w j) = sub w F m (j + 1) (t - a) - sub w F m (j + 1) (t - a - w j)
  rw [zhg w F a m, zhg w F a m, show t - w j - a = t - a - w j by omega]
theorem zkI (w : Nat -> Int) (F : Nat -> Int -> Int) (n : Nat) : ∀ m j t, sub w (fun t => sumR n fun v => F v t) m j t = sumR n fun v => sub w (F v) m j t
 | 0, _, _ => rfl
 | m + 1, j, t => by
  show sub w _ m (j + 1) t - sub w _ m (j + 1) (t - w j) = sumR n fun v => sub w (F v) m (j + 1) t - sub w (F v) m (j + 1) (t - w j)
  rw [zkI w F n m, zkI w F n m, zmC]
theorem zpw {F G : Int -> Int} (h : ∀ t, F t = G t) (m j : Nat) (t : Int) : sub w F m j t = sub w G m j t := by
 rw [show F = G from funext h]
theorem zjV : ∀ n m, n < m -> bin n m = 0
 | 0, m + 1, _ => rfl
 | n + 1, m + 1, h => by rw [zeN, zjV n m (by omega), zjV n (m + 1) (by omega)]
theorem zj9 : ∀ n, bin n n = 1
 | 0 => rfl
 | n + 1 => by rw [zeN, zj9 n, zjV n (n + 1) (by omega)]
theorem zom (hm : 1 <= m) (t : Int) : ways (m + 1) t - ways (m + 1) (t - 1) = ways m t := by
 obtain ⟨m, rfl⟩ : ∃ q, m = q + 1 := ⟨m - 1, by omega⟩
 by_cases h : t < 0
 ·rw [zgB _ _ h, zgB _ _ (by omega), zgB _ _ h]; rfl
 ·obtain ⟨r, rfl⟩ : ∃ r : Nat, t = r := ⟨t.toNat, by omega⟩
  rw [ziz, ziz]
  simp only [Nat.add_sub_cancel]
  cases r with
  | zero =>
   rw [zgB _ _ (by omega), Nat.zero_add, Nat.zero_add, zj9, zj9]; rfl
  | succ r =>
   rw [show ((r + 1 : Nat) : Int) - 1 = (r : Nat) by omega, ziz]
   simp only [Nat.add_sub_cancel]
   rw [show r + 1 + (m + 1) = (r + (m + 1)) + 1 by omega, zeN, show r + 1 + m = r + (m + 1) by omega]
   push_cast
   omega
theorem zmL (hm : 1 <= m) (t : Int) : ∀ n : Nat, (sumR n fun v => ways m (t - (v : Nat))) = ways (m + 1) t - ways (m + 1) (t - n)
 | 0 => by show (0 : Int) = _; rw [show t - ((0 : Nat) : Int) = t by omega]; omega
 | n + 1 => by
  show (sumR n fun v => ways m (t - (v : Nat))) + ways m (t - n) = _
  rw [zmL hm t n, <- zom hm (t - n), show t - (n : Int) - 1 = t - ((n + 1 : Nat) : Int) by omega]
  omega
theorem hc_sub {k : Nat} (le : ∀ j, j < k -> lo j <= hi j) : ∀ (m j : Nat) (t : Int), j + (m + 1) <= k -> hc lo hi (m + 1) j t = sub (wid k lo hi) (ways (m + 1)) (m + 1) j (t - sumR (m + 1) fun i => lo (j + i))
 | 0, j, t, h => by
  have l := le j (by omega)
  have ew : wid k lo hi j = hi j - lo j + 1 := if_pos (by omega)
  show (sumR (hi j - lo j + 1).toNat fun v => if t - (lo j + (v : Nat)) = 0 then 1 else 0) = ways 1 (t - (0 + lo (j + 0))) - ways 1 (t - (0 + lo (j + 0)) - wid k lo hi j)
  rw [ew, Int.zero_add, Nat.add_zero]
  have w1 : ∀ x, ways 1 x = if 0 <= x then 1 else 0 := fun x => by
   unfold ways
   split
   ·rw [show 1 - 1 = 0 from rfl, zhk]; rfl
   ·rfl
  have key : ∀ n : Nat, (sumR n fun v => if t - (lo j + (v : Nat)) = 0 then 1 else 0) = (if 0 <= t - lo j then 1 else 0) - (if 0 <= t - lo j - n then 1 else 0) := fun n => by
   induction n with
   | zero => show (0 : Int) = _; rw [show t - lo j - ((0 : Nat) : Int) = t - lo j by omega]; omega
   | succ n ih =>
    show (sumR n fun v => if t - (lo j + (v : Nat)) = 0 then 1 else 0) + (if t - (lo j + (n : Nat)) = 0 then 1 else 0) = _
    rw [ih]
    push_cast
    split <;> split <;> split <;> split <;> omega
  rw [key, w1, w1, show (((hi j - lo j + 1).toNat : Nat) : Int) = hi j - lo j + 1 by omega]
 | m + 1, j, t, h => by
  have l := le j (by omega)
  have ew : wid k lo hi j = hi j - lo j + 1 := if_pos (by omega)
  have split : (sumR (m + 1 + 1) fun i => lo (j + i)) = lo j + sumR (m + 1) fun i => lo (j + 1 + i) := by
   have := za9 (fun i => lo (j + i)) 1 (m + 1)
   rw [show 1 + (m + 1) = m + 1 + 1 by omega] at this
   rw [this]
   congr 1
   ·show (0 : Int) + lo (j + 0) = _; rw [Int.zero_add]; rfl
   ·exact zaq fun i _ => by rw [Nat.add_assoc]
  show (sumR (hi j - lo j + 1).toNat fun v => hc lo hi (m + 1) (j + 1) (t - (lo j + (v : Nat)))) = _
  rw [zaq fun v _ => hc_sub le m (j + 1) (t - (lo j + (v : Nat))) (by omega)]
  generalize hT : (t - sumR (m + 1 + 1) fun i => lo (j + i)) = T
  rw [zaq (g := fun v : Nat => sub (wid k lo hi) (fun t => ways (m + 1) (t - (v : Nat))) (m + 1) (j + 1) T) fun v _ => by
   rw [zhg]; congr 1; omega]
  rw [<- zkI, zpw (fun t => zmL (show 1 <= m + 1 by omega) t _), zmr, zhg]
  show _ = sub (wid k lo hi) (ways (m + 1 + 1)) (m + 1) (j + 1) T - sub (wid k lo hi) (ways (m + 1 + 1)) (m + 1) (j + 1) (T - wid k lo hi j)
  rw [ew, show (((hi j - lo j + 1).toNat : Nat) : Int) = hi j - lo j + 1 by omega]
theorem zlU : ∀ (m j : Nat) (t : Int), (∃ i, i < m /\ hi (j + i) < lo (j + i)) -> hc lo hi m j t = 0
 | 0, _, _, ⟨i, h, _⟩ => by omega
 | m + 1, j, t, ⟨i, h, l⟩ => by
  show (sumR (hi j - lo j + 1).toNat fun v => hc lo hi m (j + 1) (t - (lo j + (v : Nat)))) = 0
  match i, h, l with
  | 0, _, l => rw [Nat.add_zero] at l; rw [show (hi j - lo j + 1).toNat = 0 by omega]; rfl
  | i + 1, h, l =>
   rw [zaq (g := fun _ => 0) fun v _ => zlU m (j + 1) _ ⟨i, by omega, by rw [show j + 1 + i = j + (i + 1) by omega]; exact l⟩, zi1]
theorem hc_cnt {k : Nat} (k1 : 1 <= k) (lo hi : Nat -> Int) (T : Int) : hc lo hi k 0 T = cnt k lo hi T := by
 unfold cnt
 by_cases c : (List.range k).all (fun j => decide (lo j <= hi j)) = true
 ·rw [if_pos c]
  obtain ⟨m, rfl⟩ : ∃ m, k = m + 1 := ⟨k - 1, by omega⟩
  rw [hc_sub (all_le.mp c) m 0 T (by omega)]
  congr 2
  exact zaq fun i _ => by rw [Nat.zero_add]
 ·rw [if_neg c]
  refine zlU k 0 T ?_
  by_cases z : ∃ i, i < k /\ hi (0 + i) < lo (0 + i)
  ·exact z
  ·refine absurd (all_le.mpr fun j hj => ?_) c
   by_cases y : lo j <= hi j
   ·exact y
   ·exact absurd ⟨j, hj, by rw [Nat.zero_add]; omega⟩ z
theorem zmO (lo hi : Nat -> Int) (j : Nat) : ∀ (m i : Nat) (t : Int), hc (fun i => lo (j + i)) (fun i => hi (j + i)) m i t = hc lo hi m (j + i) t
 | 0, _, _ => rfl
 | m + 1, i, t => zaq fun v _ => by rw [zmO lo hi j m (i + 1)]; rfl
theorem zoK : ∀ (m j : Nat) (t : Int), (∀ i, i < m -> lo (j + i) = lo' (j + i) /\ hi (j + i) = hi' (j + i)) -> hc lo hi m j t = hc lo' hi' m j t
 | 0, _, _, _ => rfl
 | m + 1, j, t, h => by
  have h0 := h 0 (by omega)
  rw [Nat.add_zero] at h0
  show sumR (hi j - lo j + 1).toNat _ = sumR (hi' j - lo' j + 1).toNat _
  rw [h0.1, h0.2]
  exact zaq fun v _ => zoK m (j + 1) _ fun i hi => by
   have := h (i + 1) (by omega)
   rw [show j + (i + 1) = j + 1 + i by omega] at this
   exact this
theorem zkj {f : Nat -> Int} (h : ∀ i, i < n -> 0 <= f i) : 0 <= sumR n f := by
 have := ze3 (f := fun _ => 0) (g := f) h
 rw [zi1] at this
 exact this
theorem zmR (lo hi : Nat -> Int) : ∀ (m j : Nat) (t : Int), 0 <= hc lo hi m j t
 | 0, _, t => by show 0 <= if t = 0 then (1 : Int) else 0; split <;> decide
 | m + 1, j, t => zkj fun v _ => zmR lo hi m (j + 1) _
def zbS (lo hi : Nat -> Int) (m j : Nat) (t f : Int) : Int := sumR (f - lo j).toNat fun v => hc lo hi m (j + 1) (t - (lo j + (v : Nat)))
theorem zll (lo hi : Nat -> Int) (m j : Nat) (t : Int) : zbS lo hi m j t (hi j + 1) = hc lo hi (m + 1) j t := by
 unfold zbS
 show _ = sumR (hi j - lo j + 1).toNat _
 rw [show hi j + 1 - lo j = hi j - lo j + 1 by omega]
theorem zoC (lo hi : Nat -> Int) (m j : Nat) (t : Int) : zbS lo hi m j t (lo j) = 0 := by
 unfold zbS
 rw [Int.sub_self]; rfl
theorem zhU (lo hi : Nat -> Int) (m j : Nat) (t : Int) {f : Int} (h : lo j <= f) : zbS lo hi m j t (f + 1) = zbS lo hi m j t f + hc lo hi m (j + 1) (t - f) := by
 unfold zbS
 rw [show (f + 1 - lo j).toNat = (f - lo j).toNat + 1 by omega]
 show _ + hc lo hi m (j + 1) (t - (lo j + ((f - lo j).toNat : Nat))) = _
 rw [show lo j + ((f - lo j).toNat : Nat) = f by omega]
theorem cons_w (a : D) (m : Nat) (f : Nat -> D) : [a] ++ wL m f = wL (m + 1) fun i => if i = 0 then a else f (i - 1) := by
 apply List.ext_getElem?
 intro i
 cases i with
 | zero => rw [zar _ (by omega)]; rfl
 | succ i =>
  show (wL m f)[i]? = _
  by_cases h : i < m
  ·rw [zar _ h, zar _ (by omega), if_neg (by omega)]; rfl
  ·rw [List.getElem?_eq_none (by rw [zaM]; omega), List.getElem?_eq_none (by rw [zaM]; omega)]
theorem zpj (f : Nat -> D) : (wL n f).drop i = wL (n - i) fun j => f (i + j) := by
 apply List.ext_getElem?
 intro j
 rw [List.getElem?_drop]
 by_cases hj : i + j < n
 ·rw [zar _ hj, zar _ (by omega)]
 ·rw [List.getElem?_eq_none (by rw [zaM]; omega), List.getElem?_eq_none (by rw [zaM]; omega)]
theorem zmf (lo hi : Nat -> Int) (m j : Nat) (f : Int) : [D.tup [.int (lo j), .int (f - 1)]] ++ za7 m (fun i => lo (j + 1 + i)) (fun i => hi (j + 1 + i)) = za7 (m + 1) (fun i => lo (j + i)) (fun i => if i = 0 then f - 1 else hi (j + i)) := by
 unfold za7
 rw [cons_w]
 refine zd9 fun i hi' => ?_
 by_cases h : i = 0
 ·subst h; simp
 ·rw [if_neg h]; dsimp only; rw [if_neg h, show j + 1 + (i - 1) = j + i by omega]
theorem zoQ (lo hi : Nat -> Int) (m j : Nat) (t f : Int) : cnt (m + 1) (fun i => lo (j + i)) (fun i => if i = 0 then f - 1 else hi (j + i)) t = zbS lo hi m j t f := by
 rw [<- hc_cnt (by omega)]
 show sumR ((if (0 : Nat) = 0 then f - 1 else hi (j + 0)) - lo (j + 0) + 1).toNat _ = _
 unfold zbS
 rw [if_pos rfl, Nat.add_zero, show f - 1 - lo j + 1 = f - lo j by omega]
 refine zaq fun v _ => ?_
 rw [<- zmO lo hi j m 1]
 exact zoK m 1 _ fun i _ => ⟨rfl, if_neg (by omega)⟩
section
variable {lo hi : Nat -> Int} {m j : Nat} {t : Int}
theorem zem (m5 : m + 1 <= 5) (far : t - (sumR (m + 1) fun i => lo (j + i)) < 2 ^ 250) (f : Int) : Ok (za2 [.lst (za7 (m + 1) (fun i => lo (j + i)) fun i => hi (j + i)), .int t, .int f]) fun x => x = .val (.int (zbS lo hi m j t f)) := by
 have c1 : cutD (za7 (m + 1) (fun i => lo (j + i)) fun i => hi (j + i)) (some 1) none = za7 m (fun i => lo (j + 1 + i)) fun i => hi (j + 1 + i) := by
  rw [show (some (1 : Int)) = some ((1 : Nat) : Int) from rfl, ziD]
  unfold za7
  rw [zpj]
  exact zd9 fun i _ => by dsimp only; rw [show j + (1 + i) = j + 1 + i by omega]
 have g0 : (za7 (m + 1) (fun i => lo (j + i)) fun i => hi (j + i))[0]? = some (.tup [.int (lo j), .int (hi j)]) := by
  unfold za7; rw [zar _ (by omega)]; rfl
 have sl : (za7 m (fun i => lo (j + 1 + i)) fun i => hi (j + 1 + i)).length = m := zaM _ _
 simp! only [↓za2, ↓zeQ, c1, g0, sl]
 refine ⟨by omega, ?_⟩
 have e := zmf lo hi m j f
 simp only [List.cons_append, List.nil_append] at e
 rw [e]
 refine (zhd (by omega) m5 _ _ t far).mono ?_
 rintro _ rfl
 simp! only [zoQ]
theorem zkv (m5 : m + 1 <= 5) (far : t - (sumR (m + 1) fun i => lo (j + i)) < 2 ^ 250) (wide : hi j - lo j < 2 ^ 399) (h0 : 0 <= number) (h1 : number < hc lo hi (m + 1) j t) :
  Ok (zcL [.lst (za7 (m + 1) (fun i => lo (j + i)) fun i => hi (j + i)), .int t, .int number]) fun x => ∃ h : Int, lo j <= h /\ h <= hi j /\ zbS lo hi m j t h <= number /\ number < zbS lo hi m j t (h + 1) /\ x = .val (.int h) := by
 have le : lo j <= hi j := by
  by_cases c : lo j <= hi j
  ·exact c
  ·rw [zlU (m + 1) j t ⟨0, by omega, by rw [Nat.add_zero]; omega⟩] at h1; omega
 have g0 : (za7 (m + 1) (fun i => lo (j + i)) fun i => hi (j + i))[0]? = some (.tup [.int (lo j), .int (hi j)]) := by
  unfold za7; rw [zar _ (by omega)]; rfl
 simp! only [↓zcL, ↓zf1, g0, ↓zfu]
 refine ziE (fun q ρ => ∃ (low high : Int) (z : Sl), lo j <= low /\ low <= high /\ high <= hi j /\ high - low < 2 ^ q /\ zbS lo hi m j t low <= number /\ number < zbS lo hi m j t (high + 1) /\ ρ = [.val (.lst (za7 (m + 1) (fun i => lo (j + i)) fun i => hi (j + i))), .val (.int t), .val (.int number), .val (.int low), .val (.int high), z]) ?_ 400 399 _ (by omega) ⟨lo j, hi j, _, by omega, le, by omega, wide, by rw [zoC]; exact h0, by rw [zll]; exact h1, rfl⟩
 rintro q _ ⟨low, high, z, b1, b2, b3, b4, b5, b6, rfl⟩
 simp! only [↓zf2]
 refine ⟨fun c => ?_, fun c => ?_⟩
 ·have c : low < high := by simpa using c
  obtain ⟨q, rfl⟩ : ∃ q', q = q' + 1 := ⟨q - 1, by
   cases q with
   | zero => rw [Int.pow_zero] at b4; omega
   | succ q => rfl⟩
  rw [Int.pow_succ] at b4
  have d0 : ∀ P : Int, high - low < P * 2 -> (low + high + 1) / 2 - 1 - low < P /\ high - (low + high + 1) / 2 < P := fun P hP => by omega
  obtain ⟨d3, d4⟩ := d0 _ b4
  clear d0
  have d1 : low < (low + high + 1) / 2 := by omega
  have d2 : (low + high + 1) / 2 <= high := by omega
  refine ⟨q, rfl, ?_⟩
  simp! only [↓zgm]
  refine ⟨by decide +kernel, ?_⟩
  generalize (low + high + 1) / 2 = mid at d1 d2 d3 d4
  refine (zem m5 far mid).mono ?_
  rintro _ rfl
  simp! only []
  refine ⟨fun c => ⟨low, mid - 1, _, b1, by omega, by omega, d3, b5, by rw [show mid - 1 + 1 = mid by omega]; exact c, rfl⟩, fun c => ⟨mid, high, _, by omega, by omega, b3, d4, by omega, b6, rfl⟩⟩
 ·have c : low = high := by
   have : ¬ low < high := by simpa using c
   omega
  subst c
  exact ⟨low, b1, b3, b5, b6, rfl⟩
end
section
variable {k : Nat} {lo hi : Nat -> Int} {T : Int}
def rank (k : Nat) (lo hi : Nat -> Int) (T : Int) (h : Nat -> Int) (j : Nat) : Int := sumR j fun i => zbS lo hi (k - i - 1) i (T - sumR i h) (h i)
theorem far_at {k : Nat} {T : Int} (far : T - sumR k lo < 2 ^ 250) (hj : j <= k) (hh : ∀ i, i < j -> lo i <= h i) : (T - sumR j h) - (sumR (k - j) fun i => lo (j + i)) < 2 ^ 250 := by
 have h1 := za9 lo j (k - j)
 rw [show j + (k - j) = k by omega] at h1
 have h2 := ze3 (f := lo) (g := h) hh
 omega
theorem zlM (lo hi : Nat -> Int) (k j : Nat) : (za7 k lo hi).drop j = za7 (k - j) (fun i => lo (j + i)) fun i => hi (j + i) := by
 unfold za7
 rw [zpj]
theorem zi6 (k5 : k <= 5) (far : T - sumR k lo < 2 ^ 250) (wide : ∀ j, j < k -> hi j - lo j < 2 ^ 399) (h0 : 0 <= number) (h1 : number < hc lo hi k 0 T) :
  Ok (zev [.lst (za7 k lo hi), .int T, .int number]) fun x => ∃ h : Nat -> Int, (∀ i, i < k -> lo i <= h i /\ h i <= hi i) /\ sumR k h = T /\ rank k lo hi T h k = number /\ x = .own (wI k h) := by
 have sl : (za7 k lo hi).length = k := zaM _ _
 simp! only [↓zev, ↓zic, ↓zhC, sl]
 refine ⟨zbg (by omega) (by omega), zbT (fun j ρ => ∃ (h : Nat -> Int) (ah : Int) (y z : Sl), (∀ i, i < j -> lo i <= h i /\ h i <= hi i) /\ 0 <= ah /\ ah < hc lo hi (k - j) j (T - sumR j h) /\ rank k lo hi T h j + ah = number /\ ρ = [.val (.lst (za7 k lo hi)), .val (.int T), .val (.int number), .own (wI j h), .val (.int (T - sumR j h)), .val (.int ah), y, z]) ⟨fun _ => 0, number, _, _, fun i hi => by omega, h0, by rw [show sumR 0 (fun _ : Nat => (0 : Int)) = 0 from rfl, Int.sub_zero]; exact h1, by show (0 : Int) + number = number; omega, by rw [show sumR 0 (fun _ : Nat => (0 : Int)) = 0 from rfl, Int.sub_zero]; rfl⟩ ?_ ?_⟩
 ·rintro j _ hj ⟨h, ah, y, z, hh, a0, a1, er, rfl⟩
  obtain ⟨m, em⟩ : ∃ m, k - j = m + 1 := ⟨k - j - 1, by omega⟩
  have farj := far_at far (show j <= k by omega) fun i hi => (hh i hi).1
  rw [em] at a1 farj
  have cd : cutD (za7 k lo hi) (some (j : Int)) none = za7 (m + 1) (fun i => lo (j + i)) fun i => hi (j + i) := by
   rw [ziD, zlM, em]
  simp! only [↓zhA, cd]
  refine (zkv (by omega) farj (wide j hj) a0 a1).mono ?_
  rintro _ ⟨v, v1, v2, v3, v4, rfl⟩
  simp! only [cd]
  refine (zem (by omega) farj v).mono ?_
  rintro _ rfl
  have bn := zhU lo hi m j (T - sumR j h) v1
  let h' : Nat -> Int := fun i => if i < j then h i else v
  have e1 : sumR j h' = sumR j h := zaq fun i hi => if_pos hi
  have e2 : h' j = v := if_neg (by omega)
  have e3 : ∀ i, i <= j -> sumR i h' = sumR i h := fun i hi => zaq fun q hq => if_pos (by omega)
  have e4 : rank k lo hi T h' j = rank k lo hi T h j := zaq fun i hi => by rw [e3 i (by omega), show h' i = h i from if_pos hi]
  have e5 : wI j h ++ [D.int v] = wI (j + 1) h' := by
   rw [zjh]
  have e6 : T - sumR (j + 1) h' = T - sumR j h - v := by
   show T - (sumR j h' + h' j) = _
   rw [e1, e2]; omega
  have e7 : rank k lo hi T h' (j + 1) = rank k lo hi T h j + zbS lo hi m j (T - sumR j h) v := by
   show rank k lo hi T h' j + zbS lo hi (k - j - 1) j (T - sumR j h') (h' j) = _
   rw [e4, e1, e2, show k - j - 1 = m by omega]
  simp! only [e5]
  refine ⟨by omega, h', ah - zbS lo hi m j (T - sumR j h) v, .val (.int j), .val (.int v), fun i hi' => ?_, by omega, ?_, by rw [e7]; omega, by rw [e6]⟩
  ·by_cases c : i < j
   ·rw [show h' i = h i from if_pos c]; exact hh i c
   ·have : i = j := by omega
    subst this
    rw [e2]; exact ⟨v1, v2⟩
  ·rw [e6, show k - (j + 1) = m by omega]
   omega
 ·rintro _ ⟨h, ah, y, z, hh, a0, a1, er, rfl⟩
  rw [Nat.sub_self] at a1
  have a1 : ah < if T - sumR k h = 0 then (1 : Int) else 0 := a1
  simp! only []
  split at a1
  ·exact ⟨h, hh, by omega, by omega, rfl⟩
  ·omega
end
theorem zpk (f : Nat -> Int) (m : Nat) : sumR (m + 1) f = f 0 + sumR m fun i => f (1 + i) := by
 have := za9 f 1 m
 rw [Nat.add_comm 1 m] at this
 rw [this]
 show (0 + f 0) + _ = _
 omega
theorem zi0 (h : Nat -> Int) (m j : Nat) : (sumR (m + 1) fun i => h (j + i)) = h j + sumR m fun i => h (j + 1 + i) := by
 rw [zpk]
 show h (j + 0) + _ = _
 rw [Nat.add_zero]
 congr 1
 exact zaq fun i _ => by rw [show j + (1 + i) = j + 1 + i by omega]
section
variable {lo hi : Nat -> Int}
def pt (lo : Nat -> Int) (j : Nat) (v : Int) (i : Nat) : Int := if i = j then v else lo i
theorem zjL (m j : Nat) (t : Int) {f f' : Int} (h : f <= f') : zbS lo hi m j t f <= zbS lo hi m j t f' := by
 unfold zbS
 have := za9 (fun v => hc lo hi m (j + 1) (t - (lo j + (v : Nat)))) (f - lo j).toNat ((f' - lo j).toNat - (f - lo j).toNat)
 rw [show (f - lo j).toNat + ((f' - lo j).toNat - (f - lo j).toNat) = (f' - lo j).toNat by omega] at this
 rw [this]
 have := zkj (f := fun i => hc lo hi m (j + 1) (t - (lo j + (((f - lo j).toNat + i : Nat) : Int)))) (n := (f' - lo j).toNat - (f - lo j).toNat) fun i _ => zmR lo hi m (j + 1) _
 omega
theorem zpH (m j : Nat) (t f : Int) : 0 <= zbS lo hi m j t f := zkj fun i _ => zmR lo hi m (j + 1) _
def tl (lo hi h : Nat -> Int) : Nat -> Nat -> Int -> Int
 | 0, _, _ => 0
 | m + 1, j, t => zbS lo hi m j t (h j) + tl lo hi h m (j + 1) (t - h j)
theorem zkF {k : Nat} {T : Int} : ∀ m j, j + m = k -> rank k lo hi T h k = rank k lo hi T h j + tl lo hi h m j (T - sumR j h)
 | 0, j, e => by
  rw [Nat.add_zero] at e; subst e
  show _ = _ + 0
  omega
 | m + 1, j, e => by
  rw [zkF m (j + 1) (by omega)]
  show rank k lo hi T h j + zbS lo hi (k - j - 1) j (T - sumR j h) (h j) + tl lo hi h m (j + 1) (T - (sumR j h + h j)) = rank k lo hi T h j + (zbS lo hi m j (T - sumR j h) (h j) + tl lo hi h m (j + 1) (T - sumR j h - h j))
  rw [show k - j - 1 = m by omega, show T - (sumR j h + h j) = T - sumR j h - h j by omega]
  omega
theorem tl_lt : ∀ (m j : Nat) (t : Int), (∀ i, i < m -> lo (j + i) <= h (j + i) /\ h (j + i) <= hi (j + i)) -> (sumR m fun i => h (j + i)) = t -> 0 <= tl lo hi h m j t /\ tl lo hi h m j t < hc lo hi m j t
 | 0, j, t, _, e => by
  have e : (0 : Int) = t := e
  subst e
  exact ⟨Int.le_refl _, show (0 : Int) < 1 by decide⟩
 | m + 1, j, t, hh, e => by
  rw [zi0] at e
  have h0 := hh 0 (by omega)
  rw [Nat.add_zero] at h0
  obtain ⟨i1, i2⟩ := tl_lt m (j + 1) (t - h j) (fun i hi' => by have := hh (i + 1) (by omega); rw [show j + (i + 1) = j + 1 + i by omega] at this; exact this) (by omega)
  have b0 := zpH (lo := lo) (hi := hi) m j t (h j)
  have b1 := zhU lo hi m j t h0.1
  have b2 := zjL (lo := lo) (hi := hi) m j t (show h j + 1 <= hi j + 1 by omega)
  have b3 := zll lo hi m j t
  show 0 <= zbS lo hi m j t (h j) + tl lo hi h m (j + 1) (t - h j) /\ zbS lo hi m j t (h j) + tl lo hi h m (j + 1) (t - h j) < _
  omega
theorem zmj {h g : Nat -> Int} (hh : ∀ i, i < m + 1 -> lo (j + i) <= h (j + i) /\ h (j + i) <= hi (j + i)) (eh : (sumR (m + 1) fun i => h (j + i)) = t) (gg : ∀ i, i < m + 1 -> lo (j + i) <= g (j + i) /\ g (j + i) <= hi (j + i)) (eg : (sumR (m + 1) fun i => g (j + i)) = t) (l : h j < g j) : tl lo hi h (m + 1) j t < tl lo hi g (m + 1) j t := by
 rw [zi0] at eh eg
 have h0 := hh 0 (by omega)
 rw [Nat.add_zero] at h0
 obtain ⟨i1, i2⟩ := tl_lt (lo := lo) (hi := hi) (h := h) m (j + 1) (t - h j) (fun i hi' => by have := hh (i + 1) (by omega); rw [show j + (i + 1) = j + 1 + i by omega] at this; exact this) (by omega)
 obtain ⟨g1, _⟩ := tl_lt (lo := lo) (hi := hi) (h := g) m (j + 1) (t - g j) (fun i hi' => by have := gg (i + 1) (by omega); rw [show j + (i + 1) = j + 1 + i by omega] at this; exact this) (by omega)
 have b1 := zhU lo hi m j t h0.1
 have b2 := zjL (lo := lo) (hi := hi) m j t (show h j + 1 <= g j by omega)
 show zbS lo hi m j t (h j) + tl lo hi h m (j + 1) (t - h j) < zbS lo hi m j t (g j) + tl lo hi g m (j + 1) (t - g j)
 omega
theorem tl_inj : ∀ (m j : Nat) (t : Int), (∀ i, i < m -> lo (j + i) <= h (j + i) /\ h (j + i) <= hi (j + i)) -> (sumR m fun i => h (j + i)) = t -> (∀ i, i < m -> lo (j + i) <= g (j + i) /\ g (j + i) <= hi (j + i)) -> (sumR m fun i => g (j + i)) = t -> tl lo hi h m j t = tl lo hi g m j t -> ∀ i, i < m -> h (j + i) = g (j + i)
 | 0, _, _, _, _, _, _, _, i, hi' => by omega
 | m + 1, j, t, hh, eh, gg, eg, e, i, hi' => by
  have ej : h j = g j := by
   rcases Int.lt_trichotomy (h j) (g j) with l | l | l
   ·exact absurd e (Int.ne_of_lt (zmj hh eh gg eg l))
   ·exact l
   ·exact absurd e.symm (Int.ne_of_lt (zmj gg eg hh eh l))
  match i, hi' with
  | 0, _ => exact ej
  | i + 1, hi' =>
   rw [zi0] at eh eg
   have e : zbS lo hi m j t (h j) + tl lo hi h m (j + 1) (t - h j) = zbS lo hi m j t (g j) + tl lo hi g m (j + 1) (t - g j) := e
   rw [ej] at e eh
   have := tl_inj m (j + 1) (t - g j) (fun i hi' => by have := hh (i + 1) (by omega); rw [show j + (i + 1) = j + 1 + i by omega] at this; exact this) (by omega) (fun i hi' => by have := gg (i + 1) (by omega); rw [show j + (i + 1) = j + 1 + i by omega] at this; exact this) (by omega) (by omega) i (by omega)
   rw [show j + (i + 1) = j + 1 + i by omega]
   exact this
end
section
variable {k n : Nat} {S L G : Nat -> Int}
def SOk (k n : Nat) (S : Nat -> Int) : Prop := Clo k n S /\ rT k n S % (eT k n : Int) = 0
theorem spaper2 (d : RDim k n) (S L G : Nat -> Int) : Ok (zbo [za5 k n S L G]) fun x => (SOk k n S /\ x = .val .non) \/ (¬ SOk k n S /\ ∃ y, isN y = false /\ x = .val y) := (zlC d S L G).mono fun x h => by
 rcases h with ⟨j, hj, hne, rfl⟩ | ⟨hc, hne, rfl⟩ | ⟨hc, h0, rfl⟩
 ·exact .inr ⟨fun q => hne (q.1 j hj), _, rfl, rfl⟩
 ·exact .inr ⟨fun q => hne q.2, _, rfl, rfl⟩
 ·exact .inl ⟨⟨hc, h0⟩, rfl⟩
def ManyP (k n : Nat) (S lo hi : Nat -> Int) (x : Sl) : Prop := (SOk k n S /\ x = .val (.int (hc lo hi (Nat.gcd k n) 0 (tT k n S)))) \/ (¬ SOk k n S /\ x = .val (.int 0))
theorem zoa (d : RDim k n) (sp : zdA k n S L G lo hi) (far : tT k n S - sumR (Nat.gcd k n) lo < 2 ^ 250) : Ok (zb8 [za5 k n S L G]) (ManyP k n S lo hi) := by
 have g1 := d.g1
 have gk := d.gk
 have k5 := d.k5
 simp! only [↓zb8, ↓zg3]
 refine (spaper2 d S L G).mono ?_
 rintro _ (⟨ok, rfl⟩ | ⟨no, y, hy, rfl⟩)
 ·simp! only [↓zgU]
  refine (zhM d sp).mono ?_
  rintro _ rfl
  simp! only []
  refine (zhu d S L G).mono ?_
  rintro _ rfl
  simp! only []
  refine (zhd g1 (by omega) lo hi (tT k n S) far).mono ?_
  rintro _ rfl
  simp! only []
  exact .inl ⟨ok, by rw [hc_cnt g1]⟩
 ·simp! only [hy]
  exact .inr ⟨no, rfl⟩
theorem at_ok (d : RDim k n) (sp : zdA k n S L G lo hi) (ok : SOk k n S) (far : tT k n S - sumR (Nat.gcd k n) lo < 2 ^ 250) (wide : ∀ j, j < Nat.gcd k n -> hi j - lo j < 2 ^ 399) (h0 : 0 <= number) (h1 : number < hc lo hi (Nat.gcd k n) 0 (tT k n S)) :
  Ok (zfJ [za5 k n S L G, .int number]) fun x => ∃ h : Nat -> Int, (∀ i, i < Nat.gcd k n -> lo i <= h i /\ h i <= hi i) /\ sumR (Nat.gcd k n) h = tT k n S /\ rank (Nat.gcd k n) lo hi (tT k n S) h (Nat.gcd k n) = number /\ x = .val (.tup (wI n fun p => h (p % Nat.gcd k n) + rM k n S p)) := by
 have g1 := d.g1
 have gk := d.gk
 have k5 := d.k5
 have n24 := d.n24
 simp! only [↓zfJ, ↓ziM]
 refine ⟨fun _ => ?_, fun c => absurd h0 (by omega)⟩
 refine (zoa d sp far).mono ?_
 rintro _ (⟨_, rfl⟩ | ⟨no, rfl⟩)
 ·simp! only [h1, ↓zil]
  refine (zhM d sp).mono ?_
  rintro _ rfl
  simp! only []
  refine (zhu d S L G).mono ?_
  rintro _ rfl
  simp! only []
  refine (zi6 (by omega) far wide h0 h1).mono ?_
  rintro _ ⟨h, q1, q2, q3, rfl⟩
  simp! only []
  refine (zhn d S L G).mono ?_
  rintro _ rfl
  simp! only []
  refine (ziX d.g1 (by omega) h (rM k n S)).mono ?_
  rintro _ rfl
  simp! only []
  exact ⟨h, q1, q2, q3, rfl⟩
 ·exact absurd ok no
end
section
variable {k n : Nat} {S L G : Nat -> Int}
theorem fits_any (d : RDim k n) (ok : SOk k n S) (sp : zdA k n S L G lo hi) (inn : ∀ j, j < Nat.gcd k n -> lo j <= h j /\ h j <= hi j) (hs : sumR (Nat.gcd k n) h = tT k n S) : Fits k n S L G fun p => h (p % Nat.gcd k n) + rM k n S p := by
 have e1 := d.e1
 have n0 : 0 < n := by have := d.k2; have := d.kn; omega
 refine ⟨fun a => ?_, fun p hp => ?_⟩
 ·induction a with
  | zero =>
   intro _
   rw [zhe (S := S) d h, hs]
   have e2 : (eT k n : Int) * tT k n S = rT k n S := by
    unfold tT
    exact Int.mul_ediv_cancel' (Int.dvd_of_emod_eq_zero ok.2)
   rw [e2]
   unfold rT
   omega
  | succ a ih =>
   intro ha
   have ih := ih (by omega)
   obtain ⟨q1, q2⟩ := zpA d ok.1 (show a < n by omega)
   rw [ziS, ih, Nat.mod_eq_of_lt (show a < n by omega)]
   rw [q1, q2, Nat.mod_eq_of_lt ha]
   omega
 ·have hj := Nat.mod_lt p d.g1
  have b := inn _ hj
  have b1 := sp.lg p hp
  have b2 := sp.hg p hp
  unfold rA at b1 b2
  show L p <= h (p % Nat.gcd k n) + rM k n S p /\ h (p % Nat.gcd k n) + rM k n S p <= G p
  omega
theorem rwin_mod (k n : Nat) (r : Nat -> Int) (a : Nat) : rwin k n r (a % n) = rwin k n r a := by
 unfold rwin
 refine zaq fun s _ => ?_
 rw [Nat.mod_add_mod]
theorem fit_step (d : RDim k n) (f : ∀ a, a < n -> rwin k n r a = S a) (hp : p < n) : r ((p + k) % n) = r p + (S ((p + 1) % n) - S p) := by
 have n0 : 0 < n := by omega
 have h := ziS k n r p
 rw [Nat.mod_eq_of_lt hp, f p hp, <- rwin_mod, f _ (Nat.mod_lt _ n0)] at h
 omega
theorem zkA (d : RDim k n) (f : ∀ a, a < n -> rwin k n r a = S a) (hj : j < Nat.gcd k n) : ∀ i, r (pl k n j i) = r j + mw k n S j i
 | 0 => by rw [zh0 d hj]; show _ = r j + 0; omega
 | i + 1 => by
  rw [zkz, fit_step d f (zos d j i), zkA d f hj i, zj3]
  omega
theorem zef (d : RDim k n) (sp : zdA k n S L G lo hi) (f : Fits k n S L G r) : SOk k n S /\ (∀ p, p < n -> r p = r (p % Nat.gcd k n) + rM k n S p) /\ (∀ j, j < Nat.gcd k n -> lo j <= r j /\ r j <= hi j) /\ sumR (Nat.gcd k n) r = tT k n S := by
 have e1 := d.e1
 have kn := d.kn
 have n0 : 0 < n := by have := d.k2; omega
 have eq : ∀ p, p < n -> r p = r (p % Nat.gcd k n) + rM k n S p := fun p hp => by
  have h := zkA d f.1 (Nat.mod_lt p d.g1) (ixp k n p)
  rw [(d.walk.1 p hp).2] at h
  exact h
 have clo : Clo k n S := fun j hj => by
  have h := zkA d f.1 hj (n / Nat.gcd k n)
  rw [(d.walk.2 j hj).1] at h
  omega
 have e0 : rwin k n (fun p => r (p % Nat.gcd k n) + rM k n S p) 0 = S 0 := by
  rw [<- f.1 0 n0]
  unfold rwin
  refine zaq fun s _ => ?_
  (try dsimp only)
  exact (eq _ (Nat.mod_lt _ n0)).symm
 rw [zhe (S := S) d r] at e0
 have er : rT k n S = (eT k n : Int) * sumR (Nat.gcd k n) r := by unfold rT; omega
 refine ⟨⟨clo, by rw [er, Int.mul_emod_right]⟩, eq, fun j hj => ?_, ?_⟩
 ·obtain ⟨p, hp, p1, p2⟩ := sp.lm j hj
  obtain ⟨q, hq, q1, q2⟩ := sp.hm j hj
  have a1 := f.2 p hp
  have a2 := f.2 q hq
  have b1 := eq p hp
  have b2 := eq q hq
  rw [p1] at b1
  rw [q1] at b2
  unfold rA at p2 q2
  omega
 ·unfold tT
  rw [er, Int.mul_ediv_cancel_left _ (by omega)]
end
theorem zkp {d1 d2 d3 : D} (h1 : Sq d1 m r) (h2 : Sq d2 n L) (h3 : Sq d3 n G) (hn : n <= 1000) :
  Ok (zcP [d1, d2, d3]) fun x => ∃ b, x = .val (.bl b) /\ (b = true ↔ m = n /\ ∀ p, p < n -> L p <= r p /\ r p <= G p) := by
 simp! only [↓zcP, ↓zgy, h1.ln, h2.ln]
 refine ⟨fun h => ⟨false, rfl, by simp; omega⟩, fun h => ?_⟩
 have e : m = n := by omega
 subst e
 simp! only [↓zfw, ↓zf0, h1.it, h2.it, h3.it]
 refine ⟨by omega, zaE (fun ρ => ∃ a b c, ρ = [a, b, c]) (fun p => .bl (decide (L p <= r p) && decide (r p <= G p))) ⟨_, _, _, rfl⟩ ?_ ?_⟩
 ·rintro p _ hp ⟨a, b, c, rfl⟩
  simp! only [↓zfY]
  refine ⟨fun h => ⟨by simp [h], _, _, _, rfl⟩, fun h => ⟨?_, _, _, _, rfl⟩⟩
  rw [decide_eq_false (by omega)]; rfl
 ·rintro _ ⟨a, b, c, rfl⟩
  simp! only [zeD]
  refine ⟨_, rfl, ?_⟩
  rw [all_w]
  simp
def rwk (k n : Nat) (r : Nat -> Int) (i : Nat) : Int := sumR k fun j => (fun q => if q < n then r q else r (q - n)) (i + j)
theorem twice_w (n : Nat) (r : Nat -> Int) : wI n r ++ wI n r = wI (n + n) fun q => if q < n then r q else r (q - n) := by
 apply List.ext_getElem?
 intro j
 by_cases hj : j < n
 ·rw [List.getElem?_append_left (by rw [zaM]; exact hj), zar _ hj, zar _ (by omega)]
  (try dsimp only); rw [if_pos hj]
 ·rw [List.getElem?_append_right (by rw [zaM]; omega), zaM]
  by_cases hb : j < n + n
  ·rw [zar _ (by omega), zar _ hb]
   (try dsimp only); rw [if_neg hj]
  ·rw [List.getElem?_eq_none (by rw [zaM]; omega), List.getElem?_eq_none (by rw [zaM]; omega)]
theorem zk8 {d : D} {n k : Nat} (h : Sq d n r) (kn : k <= n) (hn : n <= 1000) : Ok (zdU [d, .int k]) fun x => x = .val (.tup (wI n (rwk k n r))) := by
 simp! only [↓zdU, ↓zg8, h.tp, twice_w, h.ln, ↓zgN]
 refine ⟨by omega, zbg (by omega) (by omega), by omega, zaE (fun ρ => ∃ z, ρ = [.val (.tup (wI (n + n) fun q => if q < n then r q else r (q - n))), .val (.int k), z]) (fun i => .int (rwk k n r i)) ⟨_, rfl⟩ ?_ ?_⟩
 ·rintro i _ hi ⟨z, rfl⟩
  have hc := cut_w (n := n + n) (a := i) (b := k) (fun j => .int ((fun q => if q < n then r q else r (q - n)) j)) (by omega)
  simp! only [↓zgW, hc, zbf, za1]
  exact ⟨rfl, _, rfl⟩
 ·rintro _ ⟨z, rfl⟩
  simp! only []
theorem zkL {k n m : Nat} (kn : k <= n) (n24 : n <= 24) {dr : D} (h : Sq dr m r) :
  Ok (zcb [za5 k n S L G, dr]) fun x => ∃ b, x = .val (.bl b) /\ (b = true ↔ m = n /\ (∀ p, p < n -> L p <= r p /\ r p <= G p) /\ ∀ i, i < n -> rwk k n r i = S i) := by
 simp! only [↓zcb, ↓zgj]
 refine (zkp h (Sq.tup n L) (Sq.tup n G) (by omega)).mono ?_
 rintro _ ⟨b, rfl, hb⟩
 simp! only []
 refine ⟨fun hbt => ?_, fun hbf => ⟨false, rfl, ?_⟩⟩
 ·obtain ⟨e, hin⟩ := hb.mp hbt
  subst e
  refine (zk8 h kn (by omega)).mono ?_
  rintro _ rfl
  simp! only [dEq_wt]
  refine ⟨_, rfl, ?_⟩
  rw [eqW_iff]
  exact ⟨fun h => ⟨hin, h⟩, fun h => h.2⟩
 ·constructor
  ·intro h; cases h
  ·rintro ⟨e, f, -⟩
   rw [hb.mpr ⟨e, f⟩] at hbf
   exact absurd hbf (by decide)
theorem rwk_mod {k n i : Nat} (hk : k <= n) (hi : i < n) : (sumR k fun j => r ((i + j) % n)) = rwk k n r i := by
 unfold rwk
 refine zaq fun j hj => ?_
 (try dsimp only)
 by_cases h : i + j < n
 ·rw [if_pos h, Nat.mod_eq_of_lt h]
 ·rw [if_neg h, Nat.mod_eq_sub_mod (by omega), Nat.mod_eq_of_lt (by omega)]
theorem holds_ok {k n : Nat} (d : RDim k n) {S L G L' G' r : Nat -> Int} (f : Fits k n S L G r) : Ok (zcb [za5 k n S L' G', .tup (wI n r)]) fun x => ∃ b, x = .val (.bl b) /\ (b = true ↔ ∀ p, p < n -> L' p <= r p /\ r p <= G' p) := by
 refine (zkL d.kn d.n24 (Sq.tup n r)).mono ?_
 rintro _ ⟨b, rfl, hb⟩
 refine ⟨b, rfl, hb.trans ⟨fun h => h.2.1, fun h => ⟨rfl, h, fun i hi => ?_⟩⟩⟩
 rw [<- rwk_mod d.kn hi]
 exact f.1 i hi
section
variable {k n : Nat} {S L G lo hi : Nat -> Int}
theorem zn0 (k1 : 1 <= k) (k5 : k <= 5) (kn : k <= n) {T : Int} (far : T - sumR k lo < 2 ^ 250) (hh : ∀ i, i < k -> lo i <= r i) :
  Ok (zbZ [.lst (za7 k lo hi), .int T, .tup (wI n r)]) fun x => x = .val (.int (rank k lo hi T r k)) := by
 have sl : (za7 k lo hi).length = k := zaM _ _
 simp! only [↓zbZ, ↓zei, ↓zeI, sl]
 refine ⟨zbg (by omega) (by omega), zbT (fun j ρ => ∃ z, ρ = [.val (.lst (za7 k lo hi)), .val (.int T), .val _, .val (.int (T - sumR j r)), .val (.int (rank k lo hi T r j)), z]) ⟨_, by rw [show sumR 0 r = 0 from rfl, Int.sub_zero]; rfl⟩ ?_ ?_⟩
 ·rintro j _ hj ⟨z, rfl⟩
  obtain ⟨m, em⟩ : ∃ m, k - j = m + 1 := ⟨k - j - 1, by omega⟩
  have farj := far_at (h := r) far (show j <= k by omega) fun i hi => hh i (by omega)
  rw [em] at farj
  have cd : cutD (za7 k lo hi) (some (j : Int)) none = za7 (m + 1) (fun i => lo (j + i)) fun i => hi (j + i) := by
   rw [ziD, zlM, em]
  simp! only [↓zeA, cd, zar _ (show j < n by omega)]
  refine (zem (by omega) farj (r j)).mono ?_
  rintro _ rfl
  simp! only [zar _ (show j < n by omega)]
  refine ⟨.val (.int j), ?_⟩
  have e7 : rank k lo hi T r (j + 1) = rank k lo hi T r j + zbS lo hi m j (T - sumR j r) (r j) := by
   show rank k lo hi T r j + zbS lo hi (k - j - 1) j (T - sumR j r) (r j) = _
   rw [show k - j - 1 = m by omega]
  rw [e7, show sumR (j + 1) r = sumR j r + r j from rfl, show T - (sumR j r + r j) = T - sumR j r - r j by omega]
 ·rintro _ ⟨z, rfl⟩
  simp! only []
theorem znK (d : RDim k n) (sp : zdA k n S L G lo hi) (far : tT k n S - sumR (Nat.gcd k n) lo < 2 ^ 250) (f : Fits k n S L G r) : Ok (zct [za5 k n S L G, .tup (wI n r)]) fun x => x = .val (.int (rank (Nat.gcd k n) lo hi (tT k n S) r (Nat.gcd k n))) := by
 have g1 := d.g1
 have gk := d.gk
 have gn := d.gn
 have k5 := d.k5
 obtain ⟨-, -, hin, -⟩ := zef d sp f
 simp! only [↓zct, ↓zeX]
 refine (holds_ok d (L' := L) (G' := G) f).mono ?_
 rintro _ ⟨b, rfl, hb⟩
 have bt := hb.mpr f.2
 subst bt
 simp! only [↓zfb]
 refine (zhM d sp).mono ?_
 rintro _ rfl
 simp! only []
 refine (zhu d S L G).mono ?_
 rintro _ rfl
 simp! only []
 refine (zn0 g1 (by omega) gn far (fun i hi' => (hin i hi').1)).mono ?_
 rintro _ rfl
 simp! only []
end
section
variable {k : Nat} {lo hi : Nat -> Int} {T : Int} {h g : Nat -> Int}
structure Hd (k : Nat) (lo hi : Nat -> Int) (T : Int) (h : Nat -> Int) : Prop where
 inn : ∀ j, j < k -> lo j <= h j /\ h j <= hi j
 sum : sumR k h = T
theorem Hd.tail (a : Hd k lo hi T h) (hp : p <= k) : (sumR (k - p) fun i => h (p + i)) = T - sumR p h := by
 have := za9 h p (k - p)
 rw [show p + (k - p) = k by omega, a.sum] at this
 omega
theorem Hd.lt (a : Hd k lo hi T h) (b : Hd k lo hi T g) (hp : p < k) (e : ∀ i, i < p -> h i = g i) (l : h p < g p) : rank k lo hi T h k < rank k lo hi T g k := by
 obtain ⟨m, em⟩ : ∃ m, k - p = m + 1 := ⟨k - p - 1, by omega⟩
 rw [zkF (h := h) (m + 1) p (by omega), zkF (h := g) (m + 1) p (by omega)]
 have e1 : ∀ i, i <= p -> sumR i h = sumR i g := fun i hi' => zaq fun j hj => e j (by omega)
 have e2 : rank k lo hi T h p = rank k lo hi T g p := zaq fun i hi' => by rw [e1 i (by omega), e i hi']
 have ta := a.tail (show p <= k by omega)
 have tb := b.tail (show p <= k by omega)
 rw [em] at ta tb
 rw [<- e1 p (Nat.le_refl p)] at tb ⊢
 have := zmj (lo := lo) (hi := hi) (h := h) (g := g) (m := m) (j := p) (t := T - sumR p h) (fun i hi' => a.inn _ (by omega)) ta (fun i hi' => b.inn _ (by omega)) tb l
 omega
theorem Hd.zero (a : Hd k lo hi T h) : (sumR k fun i => h (0 + i)) = T := by
 rw [<- a.sum]
 exact zaq fun i _ => by rw [Nat.zero_add]
theorem zop : rank k lo hi T h k = tl lo hi h k 0 T := by
 rw [zkF (h := h) k 0 (by omega)]
 show (0 : Int) + tl lo hi h k 0 (T - 0) = _
 rw [Int.sub_zero, Int.zero_add]
theorem Hd.inj (a : Hd k lo hi T h) (b : Hd k lo hi T g) (e : rank k lo hi T h k = rank k lo hi T g k) : ∀ i, i < k -> h i = g i := fun i hi' => by
 rw [zop, zop] at e
 have := tl_inj (lo := lo) (hi := hi) k 0 T (fun i hi' => by rw [Nat.zero_add]; exact a.inn i hi') a.zero (fun i hi' => by rw [Nat.zero_add]; exact b.inn i hi') b.zero e i hi'
 rwa [Nat.zero_add] at this
theorem Hd.rg (a : Hd k lo hi T h) : 0 <= rank k lo hi T h k /\ rank k lo hi T h k < hc lo hi k 0 T := by
 rw [zop]
 exact tl_lt k 0 T (fun i hi' => by rw [Nat.zero_add]; exact a.inn i hi') a.zero
end
theorem idx {m : Nat} {c : Int} (c0 : 0 <= c) (up : ∀ i j, i < j -> j < m -> f i < f j) (rg : ∀ i, i < m -> 0 <= f i /\ f i < c) (su : ∀ v, 0 <= v -> v < c -> ∃ i, i < m /\ f i = v) : (m : Int) = c /\ ∀ i, i < m -> f i = i := by
 have ge : ∀ i, i < m -> (i : Int) <= f i := by
  intro i
  induction i with
  | zero => intro h; exact (rg 0 h).1
  | succ i ih =>
   intro h
   have := ih (by omega)
   have := up i (i + 1) (by omega) h
   push_cast
   omega
 have eq : ∀ i, i < m -> f i = i := by
  intro i
  induction i using Nat.strongRecOn with
  | _ i ih =>
   intro h
   have g := ge i h
   have r := rg i h
   by_cases e : f i = i
   ·exact e
   ·obtain ⟨q, hq, eq⟩ := su i (by omega) (by omega)
    rcases Nat.lt_trichotomy q i with z | z | z
    ·have := ih q z hq; omega
    ·subst z; omega
    ·have := up i q z hq; omega
 refine ⟨?_, eq⟩
 by_cases z : (m : Int) < c
 ·obtain ⟨q, hq, e⟩ := su m (by omega) z
  have := eq q hq
  omega
 ·cases m with
  | zero => omega
  | succ m =>
   have := eq m (by omega)
   have := rg m (by omega)
   push_cast at *
   omega
abbrev fn (r : List Int) (p : Nat) : Int := r.getD p 0
def ext (lo hi : Int) (r : List Int) : List (List Int) := (List.range (hi - lo + 1).toNat).map fun v : Nat => r ++ [lo + (v : Int)]
def box (L G : Nat -> Int) : Nat -> List (List Int)
 | 0 => [[]]
 | i + 1 => (box L G i).flatMap (ext (L i) (G i))
theorem zie (r : List Int) (x : Int) (hp : p < r.length) : fn (r ++ [x]) p = fn r p := by
 unfold fn
 rw [List.getD_eq_getElem?_getD, List.getD_eq_getElem?_getD, List.getElem?_append_left hp]
theorem zmV (r : List Int) (x : Int) : fn (r ++ [x]) r.length = x := by
 unfold fn
 rw [List.getD_eq_getElem?_getD, List.getElem?_append_right (Nat.le_refl _)]
 simp
theorem zf9 (L G : Nat -> Int) : ∀ (n : Nat) (r : List Int), r ∈ box L G n ↔ r.length = n /\ ∀ p, p < n -> L p <= fn r p /\ fn r p <= G p
 | 0, r => by
  unfold box
  rw [List.mem_singleton]
  exact ⟨fun e => by subst e; exact ⟨rfl, fun p hp => by omega⟩, fun h => List.length_eq_zero_iff.mp h.1⟩
 | n + 1, r => by
  unfold box
  rw [List.mem_flatMap]
  constructor
  ·rintro ⟨q, hq, h⟩
   obtain ⟨v, hv, rfl⟩ := List.mem_map.mp h
   rw [List.mem_range] at hv
   obtain ⟨e, hh⟩ := (zf9 L G n q).mp hq
   refine ⟨by simp [e], fun p hp => ?_⟩
   by_cases z : p < n
   ·rw [zie _ _ (by omega)]; exact hh p z
   ·have : p = q.length := by omega
    subst this
    rw [zmV, e]
    omega
  ·rintro ⟨e, hh⟩
   have hn : r ≠ [] := fun z => by rw [z] at e; simp at e
   have er : r = r.dropLast ++ [r.getLast hn] := (List.dropLast_concat_getLast hn).symm
   have el : r.dropLast.length = n := by rw [List.length_dropLast]; omega
   have eg : fn r n = r.getLast hn := by
    have := zmV r.dropLast (r.getLast hn)
    rw [<- er, el] at this
    exact this
   have h := hh n (by omega)
   refine ⟨r.dropLast, (zf9 L G n _).mpr ⟨el, fun p hp => ?_⟩, ?_⟩
   ·have := zie r.dropLast (r.getLast hn) (p := p) (by omega)
    rw [<- er] at this
    rw [<- this]
    exact hh p (by omega)
   ·refine List.mem_map.mpr ⟨(fn r n - L n).toNat, by rw [List.mem_range]; omega, ?_⟩
    rw [show L n + ((fn r n - L n).toNat : Int) = fn r n by omega, eg]
    exact er.symm
def Lx (n : Nat) (r s : List Int) : Prop := ∃ p, p < n /\ (∀ i, i < p -> fn r i = fn s i) /\ fn r p < fn s p
theorem box_lx (L G : Nat -> Int) : ∀ n, (box L G n).Pairwise (Lx n)
 | 0 => by unfold box; exact List.pairwise_singleton _ _
 | n + 1 => by
  unfold box
  rw [List.pairwise_flatMap]
  refine ⟨fun r hr => ?_, ?_⟩
  ·have e := ((zf9 L G n r).mp hr).1
   unfold ext
   rw [List.pairwise_map]
   refine List.pairwise_lt_range.imp fun {a b} l => ⟨n, by omega, fun i hi => ?_, ?_⟩
   ·rw [zie _ _ (by omega), zie _ _ (by omega)]
   ·have h1 := zmV r (L n + (a : Int))
    have h2 := zmV r (L n + (b : Int))
    rw [e] at h1 h2
    rw [h1, h2]
    omega
  ·refine (List.Pairwise.and_mem.mp (box_lx L G n)).imp fun {r s} h x hx y hy => ?_
   obtain ⟨hr, hs, p, hp, h1, h2⟩ := h
   have er := ((zf9 L G n r).mp hr).1
   have es := ((zf9 L G n s).mp hs).1
   obtain ⟨v, _, rfl⟩ := List.mem_map.mp hx
   obtain ⟨w, _, rfl⟩ := List.mem_map.mp hy
   refine ⟨p, by omega, fun i hi => ?_, ?_⟩
   ·rw [zie _ _ (by omega), zie _ _ (by omega)]; exact h1 i hi
   ·rw [zie _ _ (by omega), zie _ _ (by omega)]; exact h2
theorem zmE {lo hi : Int} (w : hi - lo <= 3) (l : List (List Int)) : (l.flatMap (ext lo hi)).length <= l.length * 4 := by
 induction l with
 | nil => simp
 | cons r l ihl =>
  rw [List.flatMap_cons, List.length_append, List.length_cons]
  have : (ext lo hi r).length <= 4 := by unfold ext; rw [List.length_map, List.length_range]; omega
  omega
theorem zmh : ∀ n, (∀ p, p < n -> G p - L p <= 3) -> (box L G n).length <= 4 ^ n
 | 0, _ => by simp [box]
 | n + 1, h => by
  have ih := zmh n fun p hp => h p (by omega)
  unfold box
  have := zmE (h n (by omega)) (box L G n)
  rw [Nat.pow_succ]
  omega
def tupD (r : List Int) : D := .tup (r.map .int)
theorem ints_w (r : List Int) : r.map D.int = wI r.length (fn r) := by
 apply List.ext_getElem?
 intro p
 by_cases hp : p < r.length
 ·rw [zar _ hp, List.getElem?_map, List.getElem?_eq_getElem hp]
  unfold fn
  rw [List.getD_eq_getElem?_getD, List.getElem?_eq_getElem hp]
  rfl
 ·rw [List.getElem?_eq_none (by rw [List.length_map]; omega), List.getElem?_eq_none (by rw [zaM]; omega)]
theorem znj {r : List Int} (e : r.length = n) : tupD r = .tup (wI n (fn r)) := by
 unfold tupD
 rw [ints_w, e]
theorem ext_w (lo hi : Int) (r : List Int) : (wL (hi - lo + 1).toNat fun v => tupD (r ++ [lo + (v : Nat)])) = (ext lo hi r).map tupD := by
 unfold ext
 rw [List.map_map]
 rfl
open Classical in
theorem fm_fl {α β : Type} (P : α -> Prop) (f : α -> β) : ∀ l : List α, l.filterMap (fun r => if P r then some (f r) else none) = (l.filter fun r => decide (P r)).map f
 | [] => rfl
 | a :: l => by
  by_cases h : P a
  ·rw [List.filterMap_cons, if_pos h, List.filter_cons, if_pos (decide_eq_true h), List.map_cons, fm_fl P f l]
  ·rw [List.filterMap_cons, if_neg h, List.filter_cons, if_neg (by simp [h]), fm_fl P f l]
section
variable {k n : Nat} {S L G : Nat -> Int}
open Classical in
def fitL (k n : Nat) (S L G : Nat -> Int) : List (List Int) := (box L G n).filter fun r => decide (Fits k n S L G (fn r))
theorem zl8 (d : RDim k n) (n6 : n <= 6) (wd : ∀ p, p < n -> G p - L p <= 3) : Ok (zbF [za5 k n S L G]) fun x => x = .own ((fitL k n S L G).map tupD) := by
 have len : ∀ i, i <= n -> (box L G i).length <= 4096 := fun i hi => by
  have h1 := zmh (L := L) (G := G) i fun p hp => wd p (by omega)
  have h2 : 4 ^ i <= 4 ^ 6 := Nat.pow_le_pow_right (by decide) (by omega)
  have : (4 : Nat) ^ 6 = 4096 := by decide
  omega
 simp! only [↓zbF, ↓zdO, ↓zdX, zl9]
 refine zbT (fun i ρ => ∃ s2 s3 s4 s5, ρ = [.val (za5 k n S L G), .val (.lst ((box L G i).map tupD)), s2, s3, s4, s5]) ⟨_, _, _, _, rfl⟩ ?_ ?_
 ·rintro i _ hi' ⟨s2, s3, s4, s5, rfl⟩
  have wi := wd i hi'
  simp! only [↓zd0, ↓zd1]
  refine zpR (enc := tupD) (l := box L G i) (fun p ρ => ∃ s5, ρ = [.val (za5 k n S L G), .val (.lst ((box L G i).map tupD)), .val (.int (L i)), .val (.int (G i)), .own ((((box L G i).take p).flatMap (ext (L i) (G i))).map tupD), s5]) ⟨_, rfl⟩ ?_ ?_
  ·rintro p r _ hr ⟨s5, rfl⟩
   simp! only [↓zea, ↓zdY, zf5]
   have eg : (G i + 1 - L i).toNat = (G i - L i + 1).toNat := by omega
   have tk := zmE wi ((box L G i).take p)
   rw [List.length_take] at tk
   have lb := len i (by omega)
   refine ⟨by omega, zaE (fun ρ => ∃ z, ρ = [.val (tupD r), z]) (fun v => tupD (r ++ [L i + (v : Nat)])) ⟨_, rfl⟩ ?_ ?_⟩
   ·rintro v _ hv ⟨z, rfl⟩
    simp! only [↓zec, tupD, List.map_append, List.map_cons, List.map_nil]
    have er := ((zf9 L G i r).mp (List.mem_of_getElem? hr)).1
    exact ⟨by omega, _, rfl⟩
   ·rintro _ ⟨z, rfl⟩
    have le : (ext (L i) (G i) r).length <= 4 := by unfold ext; rw [List.length_map, List.length_range]; omega
    have e1 : (((box L G i).take p).flatMap (ext (L i) (G i))).map tupD ++ (ext (L i) (G i) r).map tupD = (((box L G i).take (p + 1)).flatMap (ext (L i) (G i))).map tupD := by
     rw [List.take_add_one, hr, List.flatMap_append, List.map_append]
     simp
    simp! only [zaM, eg, ext_w, e1]
    exact ⟨by omega, _, rfl⟩
  ·rintro _ ⟨s5, rfl⟩
   simp! only [List.take_length]
   exact ⟨_, _, _, _, rfl⟩
 ·rintro _ ⟨s2, s3, s4, s5, rfl⟩
  simp! only [↓zee]
  have lb := len n (Nat.le_refl n)
  refine ⟨by omega, ziG (fun ρ => ∃ z, ρ = [.val (za5 k n S L G), z]) (fun r => open Classical in if Fits k n S L G (fn r) then some (tupD r) else none) ⟨_, rfl⟩ ?_ ?_⟩
  ·rintro r _ hr ⟨z, rfl⟩
   have el := ((zf9 L G n r).mp hr).1
   simp! only [↓zeb, ↓zd4, znj el]
   refine (zoB d S L G (fn r)).mono ?_
   rintro _ ⟨b, rfl, hb⟩
   simp! only []
   refine ⟨fun z => ⟨?_, _, rfl⟩, fun z => ⟨?_, _, rfl⟩⟩
   ·rw [if_pos (hb.mp z), znj el]
   ·rw [if_neg fun q => by rw [hb.mpr q] at z; cases z]
  ·rintro _ ⟨z, rfl⟩
   simp! only []
   unfold fitL
   rw [fm_fl]
end
section
variable {k n : Nat} {S L G lo hi : Nat -> Int}
theorem znL (n0 : 0 < n) {r s : Nat -> Int} (e : ∀ p, p < n -> r p = s p) (f : Fits k n S L G r) : Fits k n S L G s := ⟨fun a ha => by
 rw [<- f.1 a ha]
 unfold rwin
 exact zaq fun i _ => (e _ (Nat.mod_lt _ n0)).symm, fun p hp => by rw [<- e p hp]; exact f.2 p hp⟩
theorem mem_fitL {r : List Int} : r ∈ fitL k n S L G ↔ r.length = n /\ Fits k n S L G (fn r) := by
 unfold fitL
 rw [List.mem_filter, zf9]
 constructor
 ·rintro ⟨⟨a, _⟩, b⟩
  exact ⟨a, by simpa using b⟩
 ·rintro ⟨a, b⟩
  exact ⟨⟨a, b.2⟩, by simpa using b⟩
theorem fn_w (f : Nat -> Int) (hp : p < n) : fn ((List.range n).map f) p = f p := by
 unfold fn
 rw [List.getD_eq_getElem?_getD, List.getElem?_map, List.getElem?_range hp]
 rfl
theorem znJ (d : RDim k n) (sp : zdA k n S L G lo hi) {r : List Int} (h : r ∈ fitL k n S L G) : Hd (Nat.gcd k n) lo hi (tT k n S) (fn r) :=
 let ⟨_, _, a, b⟩ := zef d sp (mem_fitL.mp h).2
 ⟨a, b⟩
theorem row_of (d : RDim k n) (sp : zdA k n S L G lo hi) (ok : SOk k n S) (a : Hd (Nat.gcd k n) lo hi (tT k n S) h) : ∃ r, r ∈ fitL k n S L G /\ ∀ j, j < Nat.gcd k n -> fn r j = h j := by
 have n0 : 0 < n := by have := d.k2; have := d.kn; omega
 have gn := d.gn
 refine ⟨(List.range n).map fun p => h (p % Nat.gcd k n) + rM k n S p, mem_fitL.mpr ⟨by simp, znL n0 (fun p hp => (fn_w _ hp).symm) (fits_any d ok sp a.inn a.sum)⟩, fun j hj => ?_⟩
 rw [fn_w _ (by omega), Nat.mod_eq_of_lt hj]
 have := rM_at d S hj (show 0 < n / Nat.gcd k n from Nat.div_pos gn d.g1)
 rw [zh0 d hj] at this
 rw [this]
 show h j + 0 = h j
 omega
theorem lx_rank (d : RDim k n) (sp : zdA k n S L G lo hi) {r s : List Int} (hr : r ∈ fitL k n S L G) (hs : s ∈ fitL k n S L G) (l : Lx n r s) : rank (Nat.gcd k n) lo hi (tT k n S) (fn r) (Nat.gcd k n) < rank (Nat.gcd k n) lo hi (tT k n S) (fn s) (Nat.gcd k n) := by
 obtain ⟨p, hp, e, lt⟩ := l
 have hg : p < Nat.gcd k n := by
  refine Nat.lt_of_not_le fun z => ?_
  have h1 := (zef d sp (mem_fitL.mp hr).2).2.1 p hp
  have h2 := (zef d sp (mem_fitL.mp hs).2).2.1 p hp
  have h3 := e (p % Nat.gcd k n) (Nat.lt_of_lt_of_le (Nat.mod_lt p d.g1) z)
  omega
 exact (znJ d sp hr).lt (znJ d sp hs) hg e lt
theorem zoL (d : RDim k n) (sp : zdA k n S L G lo hi) (ok : SOk k n S) (far : tT k n S - sumR (Nat.gcd k n) lo < 2 ^ 250) (wide : ∀ j, j < Nat.gcd k n -> hi j - lo j < 2 ^ 399) :
  ((fitL k n S L G).length : Int) = hc lo hi (Nat.gcd k n) 0 (tT k n S) /\ ∀ (i : Nat) (r : List Int), (fitL k n S L G)[i]? = some r -> rank (Nat.gcd k n) lo hi (tT k n S) (fn r) (Nat.gcd k n) = i := by
 have k5 := d.k5
 have gk := d.gk
 have pw : (fitL k n S L G).Pairwise (Lx n) := (box_lx L G n).filter _
 have key := idx (f := fun i => rank (Nat.gcd k n) lo hi (tT k n S) (fn ((fitL k n S L G).getD i [])) (Nat.gcd k n)) (m := (fitL k n S L G).length) (zmR lo hi (Nat.gcd k n) 0 (tT k n S)) (fun i j hij hj => ?_) (fun i hi' => ?_) (fun v v0 v1 => ?_)
 ·refine ⟨key.1, fun i r h => ?_⟩
  obtain ⟨hi', e⟩ := List.getElem?_eq_some_iff.mp h
  have := key.2 i hi'
  (try dsimp only at this)
  rwa [List.getD_eq_getElem?_getD, h] at this
 ·have e1 : (fitL k n S L G).getD i [] = (fitL k n S L G)[i]'(by omega) := by rw [List.getD_eq_getElem?_getD, List.getElem?_eq_getElem (by omega)]; rfl
  have e2 : (fitL k n S L G).getD j [] = (fitL k n S L G)[j]'hj := by rw [List.getD_eq_getElem?_getD, List.getElem?_eq_getElem hj]; rfl
  (try dsimp only)
  rw [e1, e2]
  exact lx_rank d sp (List.getElem_mem _) (List.getElem_mem _) (List.pairwise_iff_getElem.mp pw i j (by omega) hj hij)
 ·have e1 : (fitL k n S L G).getD i [] = (fitL k n S L G)[i]'hi' := by rw [List.getD_eq_getElem?_getD, List.getElem?_eq_getElem hi']; rfl
  (try dsimp only)
  rw [e1]
  exact (znJ d sp (List.getElem_mem _)).rg
 ·obtain ⟨_, _, h, h1, h2, h3, _⟩ := zi6 (show Nat.gcd k n <= 5 by omega) far wide v0 v1
  obtain ⟨r, hr, er⟩ := row_of d sp ok ⟨h1, h2⟩
  obtain ⟨i, hi', e⟩ := List.getElem_of_mem hr
  refine ⟨i, hi', ?_⟩
  (try dsimp only)
  rw [List.getD_eq_getElem?_getD, List.getElem?_eq_getElem hi', Option.getD_some, e, <- h3]
  unfold rank
  exact zaq fun j hj => by rw [er j hj, zaq (f := fn r) (g := h) (n := j) fun q hq => er q (by omega)]
theorem row_w (d : RDim k n) (sp : zdA k n S L G lo hi) {r : List Int} (hr : r ∈ fitL k n S L G) (e : ∀ j, j < Nat.gcd k n -> h j = fn r j) : D.tup (wI n fun p => h (p % Nat.gcd k n) + rM k n S p) = tupD r := by
 obtain ⟨el, f⟩ := mem_fitL.mp hr
 rw [znj el]
 congr 1
 apply List.map_congr_left
 intro p hp
 have hp := List.mem_range.mp hp
 (try dsimp only)
 rw [e _ (Nat.mod_lt p d.g1), <- (zef d sp f).2.1 p hp]
theorem none_fit (d : RDim k n) (sp : zdA k n S L G lo hi) (no : ¬ SOk k n S) : fitL k n S L G = [] := by
 cases e : fitL k n S L G with
 | nil => rfl
 | cons r l => exact absurd (zef d sp (mem_fitL.mp (show r ∈ fitL k n S L G by rw [e]; simp)).2).1 no
theorem first_hd (d : RDim k n) (sp : zdA k n S L G lo hi) (rm : Room' (Nat.gcd k n) lo hi (tT k n S)) {r : List Int} (hr : r ∈ fitL k n S L G) (h0 : rank (Nat.gcd k n) lo hi (tT k n S) (fn r) (Nat.gcd k n) = 0) : ∀ j, j < Nat.gcd k n -> hd lo hi (Nat.gcd k n) (tT k n S) j = fn r j := by
 have a : Hd (Nat.gcd k n) lo hi (tT k n S) (hd lo hi (Nat.gcd k n) (tT k n S)) := ⟨fun j hj => hd_in rm hj, zpU rm⟩
 have b := znJ d sp hr
 intro j
 induction j using Nat.strongRecOn with
 | _ j ih =>
  intro hj
  have h1 := hd_least b.inn b.sum hj fun i hi' => ih i hi' (by omega)
  by_cases e : hd lo hi (Nat.gcd k n) (tT k n S) j = fn r j
  ·exact e
  ·have := a.lt b hj (fun i hi' => ih i hi' (by omega)) (by omega)
   have := a.rg.1
   omega
end
def Bc (q n : Nat) (f : Nat -> Int) : Prop := ∀ i, i < n -> -(q : Int) <= f i /\ f i <= (q : Int)
theorem Bc.mono {q q' n : Nat} (h : Bc q n f) (hq : q <= q') : Bc q' n f := fun i hi => by
 have := h i hi
 omega
theorem Bc.set {q n i : Nat} (h : Bc q n f) (hx : -(q : Int) <= x /\ x <= (q : Int)) : Bc q n fun j => if j = i then x else f j := fun j hj => by
 dsimp only
 split
 ·exact hx
 ·exact h j hj
def Pot (ds : List D) : Prop := ∃ p : Int, ds = [.int p]
theorem zeT (h : Pot ds) {m : Int} (h0 : 0 < m) (h1 : m < 2 ^ 250) : Ok (zaO ds [.int m]) fun r => ∃ (i : Nat) (ds' : List D), (i : Int) < m /\ Pot ds' /\ r = (.val (.int i), ds') := by
 obtain ⟨p, rfl⟩ := h
 simp! only [↓zaO, ↓zg6]
 have m0 := Int.emod_nonneg p (Int.ne_of_gt h0)
 refine ⟨h0, zpn h0 h1, (p % m).toNat, [.int (p / m)], ?_, ⟨_, rfl⟩, ?_⟩
 ·have := Int.emod_lt_of_pos p h0; omega
 ·rw [show (((p % m).toNat : Nat) : Int) = p % m by omega]
theorem deal_ok (c : Int) : Ok (zdE [.int c]) fun r => ∃ ds, Pot ds /\ r = .own ds := by
 simp! only [↓zdE, ↓zgZ]
 refine ⟨fun _ => ⟨by decide +kernel, by decide +kernel, _, ⟨_, rfl⟩, rfl⟩, fun _ => ?_⟩
 simp! only [↓zgF, ↓zgH]
 refine ⟨rfl, zbT (fun _ ρ => ∃ (a b : Int) (s3 s4 : Sl), 0 <= b /\ b < 4294967296 /\ ρ = [.val (.int c), .val (.int a), .val (.int b), s3, s4]) ⟨0, _, .emp, .emp, by omega, by omega, rfl⟩ ?_ ?_⟩
 ·rintro i _ hi ⟨a, b, s3, s4, b0, b1, rfl⟩
  simp! only [↓zgT]
  have e1 : 0 <= (b * 48271 + 7919 * (i : Int) + 12345) % 2147483647 := Int.emod_nonneg _ (by decide)
  have e2 : (b * 48271 + 7919 * (i : Int) + 12345) % 2147483647 < 2147483647 := Int.emod_lt_of_pos _ (by decide)
  exact ⟨zh8 (by omega), zh8 (by decide), zh8 (by omega), mulOk_r (by decide), by decide +kernel, _, _, _, _, e1, by omega, rfl⟩
 ·rintro _ ⟨a, b, s3, s4, _, _, rfl⟩
  simp! only []
  exact ⟨_, ⟨_, rfl⟩, rfl⟩
theorem Bc.snoc {q i : Nat} (h : Bc q i f) (hx : -(q : Int) <= x /\ x <= (q : Int)) : Bc q (i + 1) fun j => if j < i then f j else x := fun j hj => by
 dsimp only
 split
 ·rename_i l; exact h j l
 ·exact hx
theorem zlk {q : Nat} : ∀ k, (∀ s, s < k -> -(q : Int) <= f s /\ f s <= (q : Int)) -> -((k : Int) * (q : Int)) <= sumR k f /\ sumR k f <= (k : Int) * (q : Int)
 | 0, _ => by simp [sumR]
 | k + 1, h => by
  have ih := zlk k fun s hs => h s (by omega)
  have := h k (by omega)
  simp only [sumR]
  push_cast
  rw [Int.add_mul, Int.one_mul]
  omega
section
variable {k n : Nat} {S L G : Nat -> Int}
theorem rM_bd (d : RDim k n) (hS : Bc 128 n S) : Bc 6144 n (rM k n S) := fun p hp => by
 have n0 : 0 < n := by omega
 obtain ⟨h1, -⟩ := d.walk.1 p hp
 have hn := d.hn
 have b := zlk (q := 256) (f := fun t => S ((pl k n (p % Nat.gcd k n) t + 1) % n) - S (pl k n (p % Nat.gcd k n) t)) (ixp k n p) fun t _ => by
  have a1 := hS _ (Nat.mod_lt (pl k n (p % Nat.gcd k n) t + 1) n0)
  have a2 := hS _ (zos d (p % Nat.gcd k n) t)
  omega
 have e : rM k n S p = sumR (ixp k n p) fun t => S ((pl k n (p % Nat.gcd k n) t + 1) % n) - S (pl k n (p % Nat.gcd k n) t) := rfl
 rw [<- e] at b
 have : ((ixp k n p : Nat) : Int) <= 24 := by omega
 omega
theorem lo_bd (d : RDim k n) (hS : Bc 128 n S) (hL : Bc 128 n L) (hG : Bc 128 n G) (sp : zdA k n S L G lo hi) : Bc 6272 (Nat.gcd k n) lo /\ Bc 6272 (Nat.gcd k n) hi := by
 have bm := rM_bd d hS
 refine ⟨fun j hj => ?_, fun j hj => ?_⟩
 ·obtain ⟨p, hp, -, e⟩ := sp.lm j hj
  have a1 := bm p hp
  have a2 := hL p hp
  unfold rA at e
  omega
 ·obtain ⟨p, hp, -, e⟩ := sp.hm j hj
  have a1 := bm p hp
  have a2 := hG p hp
  unfold rA at e
  omega
theorem far_ok (d : RDim k n) (hS : Bc 128 n S) (hL : Bc 128 n L) (hG : Bc 128 n G) (sp : zdA k n S L G lo hi) : tT k n S - sumR (Nat.gcd k n) lo < 2 ^ 250 := by
 have k5 := d.k5
 have kn := d.kn
 have gk := d.gk
 have e1 := d.e1
 have n0 : 0 < n := by have := d.k2; omega
 have bm := rM_bd d hS
 have b0 := hS 0 n0
 have b1 := zlk (q := 6144) (f := rM k n S) k fun s hs => bm s (by omega)
 have b2 := zlk (q := 6272) (f := lo) (Nat.gcd k n) fun s hs => (lo_bd d hS hL hG sp).1 s hs
 have k5' : ((k : Nat) : Int) <= 5 := by omega
 have g5' : ((Nat.gcd k n : Nat) : Int) <= 5 := by omega
 have br : rT k n S <= 30848 := by
  unfold rT
  omega
 have bt : tT k n S <= 30848 := by
  unfold tT
  have := Int.ediv_mul_le (rT k n S) (show ((eT k n : Nat) : Int) ≠ 0 by omega)
  by_cases c : rT k n S / ((eT k n : Nat) : Int) <= 0
  ·omega
  ·have : rT k n S / ((eT k n : Nat) : Int) * 1 <= rT k n S / ((eT k n : Nat) : Int) * ((eT k n : Nat) : Int) := Int.mul_le_mul_of_nonneg_left (by omega) (by omega)
   omega
 omega
theorem wide_ok (d : RDim k n) (hS : Bc 128 n S) (hL : Bc 128 n L) (hG : Bc 128 n G) (sp : zdA k n S L G lo hi) : ∀ j, j < Nat.gcd k n -> hi j - lo j < 2 ^ 399 := fun j hj => by
 obtain ⟨a, b⟩ := lo_bd d hS hL hG sp
 have := a j hj
 have := b j hj
 omega
end
def smQ (x : Sl × List D) : Prop := ∃ (k n : Nat) (S L G : Nat -> Int) (ds' : List D), RDim k n /\ n <= 6 /\ (∀ p, p < n -> G p - L p <= 3) /\ (Bc 128 n S /\ Bc 128 n L /\ Bc 128 n G) /\ x = (.val (za5 k n S L G), ds')
section
variable {k n : Nat} {L G : Nat -> Int}
theorem zoW (d : RDim k n) (n6 : n <= 6) (hw : ∀ p, p < n -> G p - L p <= 3) (hL : Bc 4 n L) (hG : Bc 7 n G) (r S : Nat -> Int) (s7 s8 s9 : Sl) (hS : Bc 40 n S) (ds : List D) : Ok (zbV [.par ds, .val (.int k), .val (.int n), .val (.lst (wI n r)), .val (.lst (wI n L)), .val (.lst (wI n G)), .own (wI n S), s7, s8, s9]) fun a => Ok (match a.1, (a.2[0]? : Option Sl) with
   | Fl.ret r, some (Sl.par out) => some (r, out)
   | Fl.next, some (Sl.par out) => some (.val .non, out)
   | _, _ => none) smQ := by
 simp! only [↓zbV]
 exact ⟨k, n, S, L, G, ds, d, n6, hw, ⟨hS.mono (by omega), hL.mono (by omega), hG.mono (by omega)⟩, rfl⟩
theorem zpF (d : RDim k n) (n6 : n <= 6) (hw : ∀ p, p < n -> G p - L p <= 3) (hL : Bc 4 n L) (hG : Bc 7 n G) (r S : Nat -> Int) (at' way : Nat) (s9 : Sl) (hat : at' < n) (hS : Bc 30 n S) (ds : List D) : Ok (zbW [.par ds, .val (.int k), .val (.int n), .val (.lst (wI n r)), .val (.lst (wI n L)), .val (.lst (wI n G)), .own (wI n S), .val (.int at'), .val (.int way), s9]) fun a => Ok (match a.1, (a.2[0]? : Option Sl) with
   | Fl.ret r, some (Sl.par out) => some (r, out)
   | Fl.next, some (Sl.par out) => some (.val .non, out)
   | _, _ => none) smQ := by
 have k5 := d.k5
 have n0 : 0 < n := by omega
 simp! only [↓zbW, ↓zc4]
 refine ⟨fun _ => ?_, fun _ => zoW d n6 hw hL hG r S _ _ _ (hS.mono (by omega)) ds⟩
 rw [show ((at' : Int) + (k : Int) - (at' : Int)).toNat = k by omega, zf5]
 refine ⟨⟨zcs (by omega), zbg (by omega) (by omega)⟩, zbT (fun i ρ => ∃ (S : Nat -> Int) (s9 : Sl), Bc (30 + i) n S /\ ρ = [.par ds, .val (.int k), .val (.int n), .val (.lst (wI n r)), .val (.lst (wI n L)), .val (.lst (wI n G)), .own (wI n S), .val (.int at'), .val (.int way), s9]) ⟨S, _, hS, rfl⟩ ?_ ?_⟩
 ·rintro i _ hi ⟨S, s11, hS, rfl⟩
  have em : ((at' : Int) + ((i : Nat) : Int)) % (n : Int) = (((at' + i) % n : Nat) : Int) := by push_cast; rfl
  have hm := Nat.mod_lt (at' + i) n0
  simp! only [↓zdt, em, zar _ hm, hm, zo6 _ _ hm, if_true]
  have a1 := hS _ hm
  exact ⟨by omega, by omega, _, _, (hS.mono (by omega)).set (by push_cast at a1 ⊢; omega), rfl⟩
 ·rintro _ ⟨S, s11, hS, rfl⟩
  simp! only []
  exact zoW d n6 hw hL hG r S _ _ _ (hS.mono (by omega)) ds
theorem small_8 (d : RDim k n) (n6 : n <= 6) (hw : ∀ p, p < n -> G p - L p <= 3) (hL : Bc 4 n L) (hG : Bc 7 n G) (r S : Nat -> Int) (at' way : Nat) (hat : at' < n) (hS : Bc 12 n S) (hp : Pot ds) : Ok (zbX [.par ds, .val (.int k), .val (.int n), .val (.lst (wI n r)), .val (.lst (wI n L)), .val (.lst (wI n G)), .own (wI n S), .val (.int at'), .val (.int way), .emp]) fun a => Ok (match a.1, (a.2[0]? : Option Sl) with
   | Fl.ret r, some (Sl.par out) => some (r, out)
   | Fl.next, some (Sl.par out) => some (.val .non, out)
   | _, _ => none) smQ := by
 have k5 := d.k5
 have n0 : 0 < n := by omega
 simp! only [↓zbX, ↓zc8]
 refine ⟨fun _ => ⟨by omega, zhL (fun i acc ρ => ∃ (f : Nat -> Int) (ds' : List D) (s : Sl), Pot ds' /\ Bc 30 i f /\ acc = wI i f /\ ρ = [.val (.int k), .par ds', s]) ⟨fun _ => 0, ds, .emp, hp, fun _ h => by omega, rfl, rfl⟩ ?_ ?_⟩, fun _ => zpF d n6 hw hL hG r S at' way _ hat (hS.mono (by omega)) ds⟩
 ·rintro i _ _ hi ⟨f, d4, s, h4, hf, rfl, rfl⟩
  simp! only [↓zds]
  refine (zeT h4 (m := 2) (by omega) (by omega)).mono ?_
  rintro _ ⟨t, d5, ht, h5, rfl⟩
  have bs := hS i hi
  have bk : (k : Int) * ((t : Int) + 1) <= 10 /\ 0 <= (k : Int) * ((t : Int) + 1) := by
   have : t = 0 \/ t = 1 := by omega
   rcases this with rfl | rfl <;> omega
  simp! only []
  exact ⟨zh8 (by omega), _, d5, _, h5, hf.snoc (by omega), zjh i f _, rfl⟩
 ·rintro _ _ ⟨f, d4, s, h4, hf, rfl, rfl⟩
  simp! only []
  exact zpF d n6 hw hL hG r f at' way _ hat hf d4
end
theorem small_ok (h : Pot ds) : Ok (zbj ds []) smQ := by
 simp! only [↓zbj, ↓zcE]
 refine (zeT h (m := 3) (by omega) (by omega)).mono ?_
 rintro _ ⟨a, d1, ha, h1, rfl⟩
 simp! only [show (2 : Int) + (a : Int) = ((2 + a : Nat) : Int) by omega]
 generalize hk : 2 + a = k
 refine (zeT h1 (m := 6 - (k : Int)) (by omega) (by omega)).mono ?_
 rintro _ ⟨b, d2, hb, h2, rfl⟩
 simp! only [show (k : Int) + (b : Int) = ((k + b : Nat) : Int) by omega]
 generalize hn : k + b = n
 have d : RDim k n := ⟨by omega, by omega, by omega, by omega⟩
 have n0 : 0 < n := by omega
 simp! only [↓zc1]
 refine ⟨zcs (by omega), by omega, zhL (fun i acc ρ => ∃ (f : Nat -> Int) (ds' : List D) (s : Sl), Pot ds' /\ Bc 2 i f /\ acc = wI i f /\ ρ = [.par ds', s]) ⟨fun _ => 0, d2, .emp, h2, fun _ h => by omega, rfl, rfl⟩ ?_ ?_⟩
 ·rintro i _ _ hi ⟨f, d4, s, h4, hf, rfl, rfl⟩
  simp! only [↓zdv]
  refine (zeT h4 (m := 5) (by omega) (by omega)).mono ?_
  rintro _ ⟨t, d5, ht, h5, rfl⟩
  simp! only []
  exact ⟨_, d5, _, h5, hf.snoc (by omega), zjh i f _, rfl⟩
 rintro _ _ ⟨r, d4, s, h4, hr, rfl, rfl⟩
 simp! only [↓zdc]
 refine ⟨by omega, zhL (fun i acc ρ => ∃ (f : Nat -> Int) (ds' : List D) (s : Sl), Pot ds' /\ Bc 4 i f /\ acc = wI i f /\ ρ = [.par ds', s]) ⟨fun _ => 0, d4, .emp, h4, fun _ h => by omega, rfl, rfl⟩ ?_ ?_⟩
 ·rintro i _ _ hi ⟨f, d4, s, h4, hf, rfl, rfl⟩
  simp! only [↓zdn]
  refine (zeT h4 (m := 3) (by omega) (by omega)).mono ?_
  rintro _ ⟨t, d5, ht, h5, rfl⟩
  have br := hr i hi
  simp! only []
  exact ⟨_, d5, _, h5, hf.snoc (by omega), zjh i f _, rfl⟩
 rintro _ _ ⟨L, d5, s, h5, hL, rfl, rfl⟩
 simp! only [↓zdd, zl9]
 refine ⟨by omega, zhL (fun i acc ρ => ∃ (f : Nat -> Int) (ds' : List D) (s s' : Sl), Pot ds' /\ (∀ p, p < i -> f p - L p <= 3) /\ Bc 7 i f /\ acc = wI i f /\ ρ = [.par ds', s, s']) ⟨fun _ => 0, d5, .emp, .emp, h5, fun _ h => by omega, fun _ h => by omega, rfl, rfl⟩ ?_ ?_⟩
 ·rintro i _ _ hi ⟨f, d4, s, s', h4, hw, hf, rfl, rfl⟩
  simp! only [↓zdx]
  refine (zeT h4 (m := 3) (by omega) (by omega)).mono ?_
  rintro _ ⟨t, d5, ht, h5, rfl⟩
  have br := hr i hi
  have bl := hL i hi
  have bm : min2 (r i + (t : Int)) (L i + 3) <= L i + 3 /\ -7 <= min2 (r i + (t : Int)) (L i + 3) /\ min2 (r i + (t : Int)) (L i + 3) <= 7 := by unfold min2; split <;> omega
  simp! only []
  refine ⟨_, d5, _, _, h5, fun p hp => ?_, hf.snoc (by omega), zjh i f _, rfl⟩
  (try dsimp only)
  by_cases z : p < i
  ·rw [if_pos z]; exact hw p z
  ·have : p = i := by omega
   subst this
   rw [if_neg z]; omega
 rintro _ _ ⟨G, d6, s, s', h6, hw, hG, rfl, rfl⟩
 simp! only []
 refine (zm1 (Sq.lst n r) n0 (by omega) (by omega)).mono ?_
 rintro _ rfl
 simp! only []
 have hS : Bc 10 n (rwin k n r) := fun a _ => by
  have := zlk (q := 2) (f := fun s => r ((a + s) % n)) k fun s _ => hr _ (Nat.mod_lt _ n0)
  show _ <= sumR k (fun s => r ((a + s) % n)) /\ sumR k (fun s => r ((a + s) % n)) <= _
  omega
 refine (zeT h6 (m := (n : Int)) (by omega) (by omega)).mono ?_
 rintro _ ⟨at', d7, hat, h7, rfl⟩
 have hat : at' < n := by omega
 simp! only []
 refine (zeT h7 (m := 4) (by omega) (by omega)).mono ?_
 rintro _ ⟨way, d8, hway, h8, rfl⟩
 simp! only []
 have fin := fun (ds : List D) (S : Nat -> Int) (hS : Bc 12 n S) (hp : Pot ds) => small_8 d (by omega) hw hL hG r S at' way hat hS hp
 refine ⟨fun _ => ?_, fun _ => fin d8 _ (hS.mono (by omega)) h8⟩
 simp! only [zar _ hat]
 refine (zeT h8 (m := 5) (by omega) (by omega)).mono ?_
 rintro _ ⟨t, d9, ht, h9, rfl⟩
 have bs := hS at' hat
 simp! only [hat, zo6 _ _ hat, if_true]
 exact fin d9 _ ((hS.mono (by omega)).set (by omega)) h9
theorem pl_t (r : List Int) : Pl 1 (tupD r) := zjK (k := 0) fun d hd => by
 obtain ⟨x, _, rfl⟩ := List.mem_map.mp hd
 exact zjP 0 x
theorem zoy (l : List (List Int)) : Pl 2 (.lst (l.map tupD)) := pl_lst (k := 1) fun d hd => by
 obtain ⟨x, _, rfl⟩ := List.mem_map.mp hd
 exact pl_t x
theorem ne_nil {k : Nat} (h : Pl k (.lst ds)) (l : k <= 50) : dNe (.lst ds) (.lst []) = some (.bl (!ds.isEmpty)) := by
 unfold dNe
 rw [h.1, show noS (.lst []) = true from rfl, decide_eq_true (Nat.le_trans h.2 l)]
 cases ds <;> rfl
theorem eq_nil {k : Nat} (h : Pl k (.lst ds)) (l : k <= 50) : dEq (.lst ds) (.lst []) = some (.bl ds.isEmpty) := by
 unfold dEq
 rw [h.1, show noS (.lst []) = true from rfl, decide_eq_true (Nat.le_trans h.2 l)]
 cases ds <;> rfl
section
variable {k n : Nat} {S L G lo hi : Nat -> Int}
theorem zo4 (f : Fit k n S L G lo hi y) : (Good k n S lo hi /\ y = .tup [.str "row", .tup (wI n (rR k n S lo hi))]) \/ (¬ Good k n S lo hi /\ ∃ (s : Str) (l : List D), y = .tup (.str s :: l) /\ (s == ("row" : Str)) = false) := by
 rcases f with ⟨j, hj, hne, rfl⟩ | ⟨hc, hne, rfl⟩ | ⟨hc, h0, rm, ⟨a, b, _, _, _, _, rfl⟩ | ⟨pl, _, _, rfl⟩ | ⟨pl, _, _, rfl⟩⟩ | ⟨hc, h0, rm, rfl⟩
 ·exact .inr ⟨fun g => hne (g.1 j hj), _, _, rfl, by decide +kernel⟩
 ·exact .inr ⟨fun g => hne g.2.1, _, _, rfl, by decide +kernel⟩
 ·exact .inr ⟨fun g => rm g.2.2, _, _, rfl, by decide +kernel⟩
 ·exact .inr ⟨fun g => rm g.2.2, _, _, rfl, by decide +kernel⟩
 ·exact .inr ⟨fun g => rm g.2.2, _, _, rfl, by decide +kernel⟩
 ·exact .inl ⟨⟨hc, h0, rm⟩, rfl⟩
theorem tail4 (d : RDim k n) (sp : zdA k n S L G lo hi) (n6 : n <= 6) (wd : ∀ p, p < n -> G p - L p <= 3) (far : tT k n S - sumR (Nat.gcd k n) lo < 2 ^ 250) (wide : ∀ j, j < Nat.gcd k n -> hi j - lo j < 2 ^ 399) (s0 s1 s4 : Sl) :
  Ok (zj7 [s0, s1, .val (za5 k n S L G), .val (.lst ((fitL k n S L G).map tupD)), s4]) fun x => x = (.next, [s0, s1, .val (za5 k n S L G), .val (.lst ((fitL k n S L G).map tupD)), s4]) := by
 have ix : ∀ (i : Nat) (r : List Int), (fitL k n S L G)[i]? = some r -> SOk k n S /\ ((fitL k n S L G).length : Int) = hc lo hi (Nat.gcd k n) 0 (tT k n S) /\ rank (Nat.gcd k n) lo hi (tT k n S) (fn r) (Nat.gcd k n) = i := fun i r h => by
  have ok := (zef d sp (mem_fitL.mp (List.mem_of_getElem? h)).2).1
  have a := zoL d sp ok far wide
  exact ⟨ok, a.1, a.2 i r h⟩
 have ln : (fitL k n S L G).length <= 4096 := by
  have h1 := zmh (L := L) (G := G) n wd
  have h2 : 4 ^ n <= 4 ^ 6 := Nat.pow_le_pow_right (by decide) n6
  have h3 : (4 : Nat) ^ 6 = 4096 := by decide
  have h4 : (fitL k n S L G).length <= (box L G n).length := List.length_filter_le _ _
  omega
 generalize eF : fitL k n S L G = F at *
 have e1 : (wL F.length fun i => tupD (F.getD i [])) = F.map tupD := by
  apply List.ext_getElem?
  intro i
  by_cases h : i < F.length
  ·rw [zar _ h, List.getElem?_map, List.getD_eq_getElem?_getD, List.getElem?_eq_getElem h]; rfl
  ·rw [List.getElem?_eq_none (by rw [zaM]; omega), List.getElem?_eq_none (by rw [List.length_map]; omega)]
 simp! only [↓zj7, ↓zmA]
 refine ⟨zbg (by omega) (by omega), by omega, zaE (fun ρ => ∃ z, ρ = [.val (za5 k n S L G), z]) (fun i => tupD (F.getD i [])) ⟨_, rfl⟩ ?_ ?_⟩
 ·rintro i _ hi' ⟨z, rfl⟩
  have eg : F[i]? = some (F.getD i []) := by rw [List.getD_eq_getElem?_getD, List.getElem?_eq_getElem hi']; rfl
  obtain ⟨ok, a1, a2⟩ := ix i _ eg
  have hm : F.getD i [] ∈ fitL k n S L G := by rw [eF]; exact List.mem_of_getElem? eg
  simp! only [↓zmw]
  refine (at_ok d sp ok far wide (number := (i : Int)) (by omega) (by omega)).mono ?_
  rintro _ ⟨h, h1, h2, h3, rfl⟩
  simp! only []
  exact ⟨by rw [row_w d sp hm (Hd.inj ⟨h1, h2⟩ (znJ d sp hm) (by rw [h3, a2]))], _, rfl⟩
 rintro _ ⟨z, rfl⟩
 simp! only [e1, (zoy F).ne (by decide), ↓zmQ, ↓zmN]
 refine ⟨by omega, zlR (enc := tupD) (l := F) (fun ρ => ∃ z, ρ = [.val (za5 k n S L G), z]) (fun r => .int (rank (Nat.gcd k n) lo hi (tT k n S) (fn r) (Nat.gcd k n))) ⟨_, rfl⟩ ?_ ?_⟩
 ·rintro r _ hr ⟨z, rfl⟩
  have hm : r ∈ fitL k n S L G := by rw [eF]; exact hr
  obtain ⟨el, f⟩ := mem_fitL.mp hm
  simp! only [↓zmF, znj el]
  refine (znK d sp far f).mono ?_
  rintro _ rfl
  simp! only []
  exact ⟨_, rfl⟩
 rintro _ ⟨z, rfl⟩
 have e2 : F.map (fun r => D.int (rank (Nat.gcd k n) lo hi (tT k n S) (fn r) (Nat.gcd k n))) = wI F.length fun i => ((i : Nat) : Int) := by
  apply List.ext_getElem?
  intro i
  by_cases h : i < F.length
  ·rw [zar _ h, List.getElem?_map, List.getElem?_eq_getElem h, Option.map_some, (ix i _ (List.getElem?_eq_getElem h)).2.2]
  ·rw [List.getElem?_eq_none (by rw [List.length_map]; omega), List.getElem?_eq_none (by rw [zaM]; omega)]
 have pw : dNe (.lst (wI F.length fun i => ((i : Nat) : Int))) (.lst (wI F.length fun i => ((i : Nat) : Int))) = some (.bl false) := Pl.ne (k := 1) (pl_lst (k := 0) (pl_w fun i => zjP 0 _)) (by decide)
 simp! only [e2, zf5, zmy, Int.zero_add, pw]
 exact ⟨zbg (by omega) (by omega), by omega⟩
theorem tail5 (d : RDim k n) (sp : zdA k n S L G lo hi) (n6 : n <= 6) (wd : ∀ p, p < n -> G p - L p <= 3) (far : tT k n S - sumR (Nat.gcd k n) lo < 2 ^ 250) (wide : ∀ j, j < Nat.gcd k n -> hi j - lo j < 2 ^ 399) (f : Fit k n S L G lo hi y) (s0 s1 : Sl) :
  Ok (zj6 [s0, s1, .val (za5 k n S L G), .val (.lst ((fitL k n S L G).map tupD)), .val y]) fun x => x = (.next, [s0, s1, .val (za5 k n S L G), .val (.lst ((fitL k n S L G).map tupD)), .val y]) := by
 have t4 := tail4 d sp n6 wd far wide s0 s1 (.val y)
 simp! only [↓zj6]
 refine (zoa d sp far).mono ?_
 intro x hx
 have ex : x = .val (.int ((fitL k n S L G).length : Nat)) := by
  rcases hx with ⟨ok, rfl⟩ | ⟨no, rfl⟩
  ·rw [(zoL d sp ok far wide).1]
  ·rw [none_fit d sp no]; rfl
 subst ex
 cases eF : fitL k n S L G with
 | nil =>
  rw [eF] at t4
  have ng : ¬ Good k n S lo hi := fun g => by
   obtain ⟨r, hr, _⟩ := row_of d sp ⟨g.1, g.2.1⟩ ⟨fun j hj => hd_in g.2.2 hj, zpU g.2.2⟩
   rw [eF] at hr
   cases hr
  rcases zo4 f with ⟨g, _⟩ | ⟨_, s, l, rfl, hs⟩
  ·exact absurd g ng
  ·have n1 : dNe (.lst []) (.lst []) = some (.bl false) := ne_nil (zoy []) (by decide)
   have n2 : dEq (.lst []) (.lst []) = some (.bl true) := eq_nil (zoy []) (by decide)
   simp! only [n1, n2, hs]
   exact t4
 | cons r l =>
  rw [eF] at t4
  have hm : r ∈ fitL k n S L G := by rw [eF]; simp
  have h0 := znJ d sp hm
  have ok := (zef d sp (mem_fitL.mp hm).2).1
  have gd : Good k n S lo hi := ⟨ok.1, ok.2, fun j hj => by have := h0.inn j hj; omega, by rw [<- h0.sum]; exact ze3 fun j hj => (h0.inn j hj).1, by rw [<- h0.sum]; exact ze3 fun j hj => (h0.inn j hj).2⟩
  have rk := (zoL d sp ok far wide).2 0 r (by rw [eF]; rfl)
  have er : D.tup (wI n (rR k n S lo hi)) = tupD r := row_w d sp hm (first_hd d sp gd.2.2 hm rk)
  have n1 : dNe (.lst (tupD r :: l.map tupD)) (.lst []) = some (.bl true) := ne_nil (zoy (r :: l)) (by decide)
  have n2 : dEq (.lst (tupD r :: l.map tupD)) (.lst []) = some (.bl false) := eq_nil (zoy (r :: l)) (by decide)
  rcases zo4 f with ⟨_, rfl⟩ | ⟨ng, _⟩
  ·rw [er]
   have n3 : dNe (.tup [.str "row", tupD r]) (.tup [.str "row", tupD r]) = some (.bl false) := Pl.ne (k := 2) (zjK (k := 1) fun d hd => by
    simp only [List.mem_cons, List.not_mem_nil, or_false] at hd
    rcases hd with rfl | rfl
    ·exact ⟨rfl, Nat.zero_le _⟩
    ·exact pl_t r) (by decide)
   rw [er] at t4
   simp! only [n1, n2, n3]
   exact t4
  ·exact absurd gd ng
end
theorem math (ns : List Int) (hl : ns.length <= 63) : zk0 [.scr ns] = some (.val (.bl true)) := by
 have : Ok (zk0 [.scr ns]) fun r => r = .val (.bl true) := by
  have ct : cutD ns none (some 6) = ns.take 6 := zni ns 6
  have len : (ns.take 6).length <= 6 := by rw [List.length_take]; omega
  simp! only [↓zk0, ↓m_law, ↓znh, ct]
  refine ⟨by omega, ?_⟩
  rw [show (ns.take 6).map D.int ++ [D.int 0] = (ns.take 6 ++ [0]).map D.int by simp]
  refine zpR (enc := D.int) (l := ns.take 6 ++ [0]) (fun _ ρ => ∃ s1 s2 s3 s4, ρ = [.val (.scr ns), s1, s2, s3, s4]) ⟨_, _, _, _, rfl⟩ ?_ ?_
  ·rintro i c _ _ ⟨s1, s2, s3, s4, rfl⟩
   simp! only [↓zm2]
   refine (deal_ok c).mono ?_
   rintro _ ⟨d1, h1, rfl⟩
   simp! only []
   refine (small_ok h1).mono ?_
   rintro _ ⟨k, n, S, L, G, d2, d, n6, wd, ⟨hS, hL, hG⟩, rfl⟩
   obtain ⟨lo, hi, sp, -⟩ := zlW (rA k n S L) (rA k n S G) d.g1 d.gn
   simp! only []
   refine (zl8 d n6 wd).mono ?_
   rintro _ rfl
   simp! only []
   refine (zoq d sp).mono ?_
   rintro _ ⟨y, rfl, f⟩
   simp! only []
   refine (zo0 d f).mono ?_
   rintro _ rfl
   simp! only []
   refine (ltold_ok d sp f).mono ?_
   rintro _ rfl
   simp! only []
   refine (tail5 d sp n6 wd (far_ok d hS hL hG sp) (wide_ok d hS hL hG sp) f _ _).mono ?_
   rintro _ rfl
   simp! only []
   exact ⟨_, _, _, _, rfl⟩
  ·rintro _ ⟨s1, s2, s3, s4, rfl⟩
   simp! only []
 obtain ⟨_, e, rfl⟩ := this
 exact e
end Prf
def PySem.W.Fast.tw14306219229083103728 : Nat := 0
def PySem.W.Fast.tw6806489104096170247 : Nat := 0
def PySem.W.Fast.tw17782706604565001026 : Nat := 0
def PySem.W.Fast.tw5243006086820103390 : Nat := 0
def PySem.W.Fast.tw12580925515979859520 : Nat := 0
def PySem.W.Fast.tw2678398169210400752 : Nat := 0
def PySem.W.Fast.tw18411274621488171492 : Nat := 0
def PySem.W.Fast.tw15730186780700902045 : Nat := 0
def PySem.W.Fast.tw9052623604689002015 : Nat := 0
def PySem.W.Fast.tw9355673964537165558 : Nat := 0
def PySem.W.Fast.tw11153016174013795979 : Nat := 0
def PySem.W.Fast.tw5750500385905735303 : Nat := 0
def PySem.W.Fast.tw7768994571124830025 : Nat := 0
def PySem.W.Fast.tw10186108203920272654 : Nat := 0
def PySem.W.Fast.tw3011358268269945139 : Nat := 0
def PySem.W.Fast.tw3730810717840318336 : Nat := 0
def PySem.W.Fast.tw3490607205322169138 : Nat := 0
def PySem.W.Fast.tw12471541007011889098 : Nat := 0
def PySem.W.Fast.tw35279811460855308 : Nat := 0
def PySem.W.Fast.tw8441599443761183595 : Nat := 0
def PySem.W.Fast.tw630480138865095339 : Nat := 0
def PySem.W.Fast.tw13409969655903049727 : Nat := 0
def PySem.W.Fast.tw8947216264160766798 : Nat := 0
def PySem.W.Fast.tw13185727698168434183 : Nat := 0
def PySem.W.Fast.tw14485362052515180904 : Nat := 0
def PySem.W.Fast.tw428288030791735455 : Nat := 0
def PySem.W.Fast.tw6758252218824516414 : Nat := 0
def PySem.W.Fast.tw2593104450993640102 : Nat := 0
def PySem.W.Fast.tw1874683083480812632 : Nat := 0
def PySem.W.Fast.tw7486492920919564967 : Nat := 0
def PySem.W.Fast.tw16219546249335840243 : Nat := 0
def PySem.W.Fast.tw7467714026744791771 : Nat := 0
def PySem.W.Fast.tw16948013541985762276 : Nat := 0
def PySem.W.Fast.tw8876380048647103174 : Nat := 0
def PySem.W.Fast.tw16316563551462507449 : Nat := 0
def PySem.W.Fast.tw9308649738393238743 : Nat := 0
def PySem.W.Fast.tw16046782054501682162 : Nat := 0
def PySem.W.Fast.tw16879529339859246167 : Nat := 0
def PySem.W.Fast.tw9322266335834334836 : Nat := 0
def PySem.W.Fast.tw5180042542261151733 : Nat := 0
def PySem.W.Fast.tw726889052418817209 : Nat := 0
def PySem.W.Fast.tw11962569071716719086 : Nat := 0
def PySem.W.Fast.tw16099558685874204508 : Nat := 0
def PySem.W.Fast.tw5329937647026516080 : Nat := 0
def PySem.W.Fast.tw11585705229395823165 : Nat := 0
def PySem.W.Fast.tw2674145032267340888 : Nat := 0
def PySem.W.Fast.tw18249323808025848908 : Nat := 0
def PySem.W.Fast.tw13068648226465949158 : Nat := 0
def PySem.W.Fast.tw18216804274301741422 : Nat := 0
def PySem.W.Fast.tw9931213212090358825 : Nat := 0
def PySem.W.Fast.tw1850672799205859154 : Nat := 0
def PySem.W.Fast.tw10200664893770641509 : Nat := 0
def PySem.W.Fast.tw11493716616121063838 : Nat := 0
def PySem.W.Fast.tw4236482933605644387 : Nat := 0
def PySem.W.Fast.tw17090495674872659250 : Nat := 0
def PySem.W.Fast.tw840845567768486900 : Nat := 0
def PySem.W.Fast.tw10011699350437559496 : Nat := 0
def PySem.W.Fast.tw11504971092711110251 : Nat := 0
def PySem.W.Fast.tw6103462821696089532 : Nat := 0
def PySem.W.Fast.tw12900557430068009992 : Nat := 0
def PySem.W.Fast.tw1060990865038496666 : Nat := 0
def PySem.W.Fast.tw10295769251713898492 : Nat := 0
def PySem.W.Fast.tw15734075332830786701 : Nat := 0
def PySem.W.Fast.tw8965156888092885101 : Nat := 0
def PySem.W.Fast.tw11643071340663370969 : Nat := 0
def PySem.W.Fast.tw15634191568483759881 : Nat := 0
def PySem.W.Fast.tw17865498403047756603 : Nat := 0
def PySem.W.Fast.tw4723807807177761690 : Nat := 0
def PySem.W.Fast.tw8241209456953844274 : Nat := 0
def PySem.W.Fast.tw7056811212062252512 : Nat := 0
def PySem.W.Fast.tw9353511027362721308 : Nat := 0
def PySem.W.Fast.tw12913005238166725535 : Nat := 0
def PySem.W.Fast.tw4171261592017133788 : Nat := 0
def PySem.W.Fast.tw18289253244665213855 : Nat := 0
def PySem.W.Fast.tw1831569025283020347 : Nat := 0
def PySem.W.Fast.tw8234319332978807072 : Nat := 0
def PySem.W.Fast.tw13408325071458251192 : Nat := 0
def PySem.W.Fast.tw3695473430126304103 : Nat := 0
def PySem.W.Fast.tw117475710169370722 : Nat := 0
def PySem.W.Fast.tw17501045153082968242 : Nat := 0
def PySem.W.Fast.tw1590798751883115254 : Nat := 0
def PySem.W.Fast.tw14360715783084013150 : Nat := 0
def PySem.W.Fast.tw11954576096859755334 : Nat := 0
def PySem.W.Fast.tw2159326819958487196 : Nat := 0
def PySem.W.Fast.tw1497526927251741791 : Nat := 0
def PySem.W.Fast.tw11046651899251781885 : Nat := 0
def PySem.W.Fast.tw12992708294537662197 : Nat := 0
def PySem.W.Fast.tw5649472449390008292 : Nat := 0
def PySem.W.Fast.tw6821808929220070227 : Nat := 0
def PySem.W.Fast.tw4246552323193765381 : Nat := 0
def PySem.W.Fast.tw7928126275921077145 : Nat := 0
def PySem.W.Fast.tw18232084315212961319 : Nat := 0
def PySem.W.Fast.tw13154271288528725350 : Nat := 0
def PySem.W.Fast.tw6520650543890503517 : Nat := 0
def PySem.W.Fast.tw13754917756129294513 : Nat := 0
def PySem.W.Fast.tw9743554346001854963 : Nat := 0
def PySem.W.Fast.tw5848450171158706131 : Nat := 0
def PySem.W.Fast.tw7224601158920867445 : Nat := 0
def PySem.W.Fast.tw5926126741944176602 : Nat := 0
def PySem.W.Fast.tw15546468859108495866 : Nat := 0
def PySem.W.Fast.tw13773664429233551792 : Nat := 0
def PySem.W.Fast.tw2847708137027099472 : Nat := 0
def PySem.W.Fast.tw930492239762686319 : Nat := 0
def PySem.W.Fast.tw15924639472283963179 : Nat := 0
def PySem.W.Fast.tw17994089154987451471 : Nat := 0
def PySem.W.Fast.tw10961352598123520662 : Nat := 0
def PySem.W.Fast.tw579554862896250299 : Nat := 0
def PySem.W.Fast.tw2576437923365471288 : Nat := 0
def PySem.W.Fast.tw10594111393588869526 : Nat := 0
def PySem.W.Fast.tw12231253967304226866 : Nat := 0
def PySem.W.Fast.tw18265369300486839007 : Nat := 0
def PySem.W.Fast.tw17176259919725837478 : Nat := 0
def PySem.W.Fast.tw13184127273040530501 : Nat := 0
def PySem.W.Fast.tw15187522448845516611 : Nat := 0
def PySem.W.Fast.tw12595280401463037784 : Nat := 0
def PySem.W.Fast.tw7995480226605887704 : Nat := 0
def PySem.W.Fast.tw2384534485463854713 : Nat := 0
def PySem.W.Fast.tw14136881698283647600 : Nat := 0
def PySem.W.Fast.tw2810449182382739521 : Nat := 0
def PySem.W.Fast.tw2012475801773539087 : Nat := 0
def PySem.W.Fast.tw4817123949964596210 : Nat := 0
def PySem.W.Fast.tw4848331333689304927 : Nat := 0
def PySem.W.Fast.tw16426683207896968733 : Nat := 0
def PySem.W.Fast.tw7072421126320599747 : Nat := 0
def PySem.W.Fast.tw13415794360419495829 : Nat := 0
def PySem.W.Fast.tw7899679852937926259 : Nat := 0
def PySem.W.Fast.tw1831916589528958190 : Nat := 0
def PySem.W.Fast.tw13488590831532196653 : Nat := 0
def PySem.W.Fast.tw3901529689592206951 : Nat := 0
def PySem.W.Fast.tw7438652737678912786 : Nat := 0
def PySem.W.Fast.tw5531258113104912481 : Nat := 0
def PySem.W.Fast.tw3873110284060327255 : Nat := 0
def PySem.W.Fast.tw2637975724586531666 : Nat := 0
def PySem.W.Fast.tw8891082383762546622 : Nat := 0
def PySem.W.Fast.tw7206726333772596367 : Nat := 0
def PySem.W.Fast.tw17255534795789980198 : Nat := 0
def PySem.W.Fast.tw15678552306223014756 : Nat := 0
open PyProof.Rows PySem PySem.W
set_option maxRecDepth 100000 in
set_option maxHeartbeats 0 in
theorem PySem.Challenge.cw_tellsum_k30_small_rings_by_all_holds : PySem.Challenge.rw_tellsum_k30_small_rings_by_all.Holds := by
  w_on; o_law; k_head; (case hw => w_witness2)
  k_fill
  refine Prf.walk (l := PySem.Challenge.rw_tellsum_k30_small_rings_by_all) rfl rfl Prf.math (fun w h Y => W.kIn_of Y) ?F
  case F =>
    intro w mg fa h KX G hmg
    refine' Prf.all_mk KX G hmg ?h1 ?h2 ?h3 ?h4 ?h5 ?h6 ?h7 ?h8 ?h9 ?h10 ?h11 ?h12 ?h13 ?h14 ?h15 ?h16 ?h17 ?h18 ?h19 ?h20 ?h21 ?h22 ?h23 ?h24 ?h25 ?h26 ?h27 ?h28 ?h29 ?h30 ?h31 ?h32 ?h33 ?h34 ?h35 ?h36 ?h37 ?h38 ?h39 ?h40 ?h41 ?h42 ?h43 ?h44 ?h45 ?h46 ?h47 ?z0 ?z1 ?z2 ?z3 ?z4 ?z5 ?z6 ?z7 ?z8 ?z9 ?z10 ?z11 ?z12 ?z13 ?z14
    (case h1 | h2 | h3 | h4 | h5 | h6 | h7 | h8 | h9 | h10 | h11 | h12 | h13 | h14 | h15 | h16 | h17 | h18 | h19 | h20 | h21 | h22 | h23 | h24 | h25 | h26 | h27 | h28 | h29 | h30 | h31 | h32 | h33 | h34 | h35 | h36 | h37 | h38 | h39 | h40 | h41 | h42 | h43 | h44 | h45 | h46 | h47 =>
      refine' M.FnAt.mk ?a ?l ?c ?k
      (case a => k_is)
      (case l => k_is)
      (case c => k_is)
      (case k => k_is))
    (case z0 | z1 | z2 | z3 | z4 | z5 | z6 | z7 | z8 | z9 | z10 | z11 | z12 | z13 | z14 => k_is)
end
