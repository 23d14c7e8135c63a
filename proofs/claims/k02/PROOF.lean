import PyProof.Rows.All
import Wide.All
import OpenK.AllK
import Wide.FinOn
import Lean
import PyProof.EqAt
import PyProof.EqKinds
import PyProof.TupleCall
import PyProof.Rows.Range3
import PyProof.ZipIter
import PyProof.Draws
import PyProof.EnumMake
import PyProof.Rows.FactsTup
import PyProof.LayNew
import PyProof.Rows.SeqMore2
import PyProof.Rows.RuleIs
import KE.KRevIter
import PyProof.P3In
import KE.KSortTup
import PyProof.Rows.SortWalk
import PyProof.Rows.SetFrom
import KE.KIntText
import PyProof.StrOps2
import PySem.Challenge.RW_tellsum_k02_lines_and_rings_made
set_option Elab.async false
set_option linter.all false
set_option bootstrap.genMatcherCode false
set_option compiler.extract_closed false
set_option maxRecDepth 100000
theorem zu0(h:True:=by first | exact .inl rfl | exact .inr rfl | assumption):True:=trivial
theorem zu1(h:True:=by decide):True:=trivial
theorem zu2(h:True:=by rfl):True:=trivial
theorem zu3(h:True:=by intro _; rfl):True:=trivial
theorem zu4(h:True:=by with_unfolding_all rfl):True:=trivial
theorem zu5(h:True:=by first | exact Or.inl rfl | exact Or.inr (Or.inl rfl) | exact Or.inr (Or.inr rfl)):True:=trivial
theorem zu6(h:True:=by exact fun _ _ => rfl):True:=trivial
theorem zu7(h:True:=by decide +kernel):True:=trivial
theorem zu8(h:True:=by exact fun _ => rfl):True:=trivial
theorem zu9(h:True:=by first | exact Or.inl rfl | exact Or.inr rfl):True:=trivial
theorem zu10(h:True:=by kernel_rfl):True:=trivial
theorem zu11(h:True:=by first | exact .inl rfl | exact .inr rfl):True:=trivial
noncomputable section
namespace L2
open PyProof.Rows PySem PySem.Spec
variable {xs vs : List V} {us its : List Value} {x qual : Str} {u cd : Value} {H : Hp} {a b it dx : Addr} {o : HO} {w : World} {h base : Heap} {g' : Array GenState} {t' i j k n : Nat} {d' : Drawn} {ch fp : List Addr} {e c tg l : Expr} {pins' pins pl : List (Addr × Obj)} {N ps : List Str} {A : Around} {E : Value -> Shared -> Prop} {v : V} {Q : Unit -> Shared -> Prop} {s' s : Shared} {X : Cx} {t : TSet} {pos : Pos} {σ : St} {K : PySem.W.Frag} {f : Value -> Value -> Sem Value} {es : List Expr} {te : TE} {g : Int -> Int -> Int} {p : Addr × Obj} {body : List Stmt} {op : CmpOp} {r : V -> Hp -> VK -> Prop} {C : Int -> Int -> Prop} {mA mg : Str -> Option Value} {fd : FuncData} {kindOf : Str -> Option NameKind} {sc scope : Scope} {CX : CXT} {outer : List Env} {params : Arguments}
noncomputable abbrev Key := Sum Int Str
noncomputable def keyIs : Key -> Value -> Bool
  | .inl k, v => Value.isInt k v
  | .inr x, v => Value.isStrOf x v
noncomputable def keyH (w : World) : Key -> Int
  | .inl k => hashInt k
  | .inr x => hashStr w x
theorem keyIs_shape : ∀ {k : Key} {v : Value}, keyIs k v = true -> (∃ i t, k = Sum.inl i /\ v = Value.int i t) \/ (∃ x t, k = Sum.inr x /\ v = Value.str x t)
  | .inl i, v, h => by
    obtain ⟨t, e⟩ := Value.isInt_shape (k := i) (v := v) h
    exact .inl ⟨i, t, rfl, e⟩
  | .inr x, v, h => by
    obtain ⟨t, e⟩ := Value.isStrOf_shape (x := x) (v := v) h
    exact .inr ⟨x, t, rfl, e⟩
theorem key_ll (a b : Int) : decide ((Sum.inl a : Key) = Sum.inl b) = (a == b) := by
  by_cases e : a = b
  . subst e; simp
  . have h : ¬ (Sum.inl a : Key) = Sum.inl b := fun q => e (Sum.inl.inj q)
    rw [decide_eq_false h]
    exact (beq_eq_false_iff_ne.mpr e).symm
theorem key_rr (a b : Str) : decide ((Sum.inr a : Key) = Sum.inr b) = decide (a = b) := by
  by_cases e : a = b
  . subst e; simp
  . have h : ¬ (Sum.inr a : Key) = Sum.inr b := fun q => e (Sum.inr.inj q)
    rw [decide_eq_false h, decide_eq_false e]
theorem key_lr (a : Int) (b : Str) : decide ((Sum.inl a : Key) = Sum.inr b) = false := decide_eq_false (fun q => nomatch q)
theorem key_rl (a : Str) (b : Int) : decide ((Sum.inr a : Key) = Sum.inl b) = false := decide_eq_false (fun q => nomatch q)
noncomputable def mixKind (prog : Program) (w : World) : PySem.KeyKind prog w Key where
  is := keyIs
  hash := keyH w
  inj := fun v a b ha hb => by
    rcases keyIs_shape ha with ⟨i, t, rfl, rfl⟩ | ⟨x, t, rfl, rfl⟩
    . rcases keyIs_shape hb with ⟨j, u, rfl, e⟩ | ⟨y, u, rfl, e⟩
      . injection e with e1 _; rw [e1]
      . exact nomatch e
    . rcases keyIs_shape hb with ⟨j, u, rfl, e⟩ | ⟨y, u, rfl, e⟩
      . exact nomatch e
      . injection e with e1 _; rw [e1]
  byValue := fun k v h => by
    rcases keyIs_shape h with ⟨i, t, rfl, rfl⟩ | ⟨x, t, rfl, rfl⟩ <;> rfl
  pyHash := fun hv h => by
    rcases keyIs_shape hv with ⟨i, t, rfl, rfl⟩ | ⟨x, t, rfl, rfl⟩
    . exact wpAny_pyHash_int h
    . exact wpAny_pyHash_str h
  eqBool := fun hu hv h => by
    rcases keyIs_shape hu with ⟨i, t, rfl, rfl⟩ | ⟨x, t, rfl, rfl⟩
    . rcases keyIs_shape hv with ⟨j, u, rfl, rfl⟩ | ⟨y, u, rfl, rfl⟩
      . rw [key_ll] at h; exact wpAny_eqBool_int h
      . rw [key_lr] at h; exact SeqAt.EqAt.int_str i t y u _ _ _ _ h
    . rcases keyIs_shape hv with ⟨j, u, rfl, rfl⟩ | ⟨y, u, rfl, rfl⟩
      . rw [key_rl] at h; exact SeqAt.EqAt.str_int x t j u _ _ _ _ h
      . rw [key_rr] at h; exact wpAny_eqBool_str h
  «strs» := fun k x t v h => by
    rcases keyIs_shape h with ⟨i, u, rfl, e⟩ | ⟨y, u, rfl, e⟩
    . exact nomatch e
    . injection e with e1 _
      subst e1
      cases v <;> rfl
inductive V where
  | non | bl (b : Bool) | int (i : Int) | str (x : Str) | byt (b : Array UInt8) | flt (b : UInt64) | ref (a : Addr) | ty (n : String)
  deriving DecidableEq
noncomputable def RelV : V -> Value -> Prop
  | .non, u => u = Value.none
  | .bl b, u => u = Value.bool b
  | .int i, u => ∃ t, u = Value.int i t
  | .str x, u => ∃ t, u = Value.str x t
  | .byt b, u => ∃ t, u = Value.bytes b t
  | .flt b, u => ∃ t, u = Value.float b t
  | .ref a, u => u = Value.ref a
  | .ty n, u => u = Value.type n
noncomputable abbrev Vals : List V -> List Value -> Prop := Paired RelV
theorem Vals.length (r : Vals xs us) : xs.length = us.length := Paired.length r
theorem Vals.get : ∀ {xs : List V} {us : List Value} {i : Nat} {x : V}, Vals xs us -> xs[i]? = some x -> ∃ u, us[i]? = some u /\ RelV x u
  | _, _, _, _, .nil, e => by simp at e
  | _, _, 0, _, .cons r _, e => by simp at e; subst e; exact ⟨_, rfl, r⟩
  | _, _, i + 1, x, .cons _ t, e => by
    obtain ⟨u, h1, h2⟩ := Vals.get (i := i) (x := x) t (by simpa using e)
    exact ⟨u, by simpa using h1, h2⟩
theorem Vals.set {x : V} (r : RelV x u) : ∀ {xs : List V} {us : List Value} (i : Nat), Vals xs us -> Vals (xs.set i x) (us.set i u)
  | _, _, _, .nil => .nil
  | _, _, 0, .cons _ t => .cons r t
  | _, _, i + 1, .cons q t => .cons q (Vals.set r i t)
theorem Vals.append : ∀ {xs ys : List V} {us ws : List Value}, Vals xs us -> Vals ys ws -> Vals (xs ++ ys) (us ++ ws)
  | _, _, _, _, .nil, s => s
  | _, _, _, _, .cons r t, s => .cons r (Vals.append t s)
theorem Vals.take : ∀ {xs : List V} {us : List Value} (n : Nat), Vals xs us -> Vals (xs.take n) (us.take n)
  | _, _, 0, _ => .nil
  | _, _, _ + 1, .nil => .nil
  | _, _, n + 1, .cons r t => .cons r (Vals.take n t)
theorem Vals.drop : ∀ {xs : List V} {us : List Value} (n : Nat), Vals xs us -> Vals (xs.drop n) (us.drop n)
  | _, _, 0, r => r
  | _, _, _ + 1, .nil => .nil
  | _, _, n + 1, .cons _ t => Vals.drop n t
noncomputable def RelO : Option V -> Option Value -> Prop
  | some v, some u => RelV v u
  | none, none => True
  | _, _ => False
noncomputable def KV {κ : Type} : List (κ × V) -> List (κ × Value) -> Prop := Paired fun (p : κ × V) (q : κ × Value) => p.1 = q.1 /\ RelV p.2 q.2
noncomputable def kV : Key -> V
  | .inl i => .int i
  | .inr x => .str x
inductive HO where
  /-- a list -/
  | lst (xs : List V)
  /-- a tuple (never changes) -/
  | tup (xs : List V)
  /-- a dict whose keys are ints and texts; one whose keys are tuples of ints and texts (the empty one is both) -/
  | dK (kvs : List (Key × V)) | dT (kvs : List (List Key × V))
  /-- a set of ints: its members, its size -/
  | set (S : Int -> Bool) (n : Nat)
  /-- an instance of the class at C, its dict at dx, its attributes -/
  | ins (C dx : Addr) (fs : List (Str × V))
  /-- the dict of the instance at x -/
  | own (x : Addr)
  /-- the dict of an exception -/
  | xd (fs : List (Str × V))
  /-- a bound method, f of x -/
  | met (f x : Addr)
  /-- a range object lo, lo + 1, .. below hi -/
  | rng (lo hi : Int)
  /-- a thing that is known to the object (the script; a dict while a loop walks it): read, never written while it is so -/
  | frz (o : Obj) (u : HO)
  /-- a code object's table -/
  | tbl (ps : Array Value)
  /-- any other thing, by what is true of its one object (a def of one's own: SetO a S n := HO.ext fun h => ..) -/
  | ext (φ : Heap -> Prop)
noncomputable abbrev Hp := Addr -> Option HO
noncomputable def upd (H : Hp) (a : Addr) (o : HO) : Hp := fun b => if b = a then some o else H b
theorem upd_same : upd H a o a = some o := by unfold upd; rw [if_pos rfl]
theorem upd_ne (h : b ≠ a) : upd H a o b = H b := by unfold upd; rw [if_neg h]
theorem ne_of_none (h : H a = some o) (h' : H b = none) : a ≠ b := by
  intro e; subst e; rw [h] at h'; cases h'
section
variable (P : Program) (w : World)
noncomputable def ObjOk (H : Hp) (h : Heap) (a : Addr) : HO -> Prop
  | .lst xs => xs.length <= sizeLine /\ ∃ (its : List Value) (n : Nat), Vals xs its /\ h.get? a = some { cls := .type "list", data := .seq its.toArray n }
  | .tup xs => xs.length <= sizeLine /\ ∃ its : List Value, Vals xs its /\ IsTup h a its.toArray
  | .dK kvs => kvs.length <= sizeLine /\ (a == sysModules) = false /\ ∃ vs, KV kvs vs /\ h.DictOf (mixKind P w) a vs
  | .dT kvs => kvs.length <= sizeLine /\ (a == sysModules) = false /\ ∃ xs : List (List Key × Addr × Value),
      Paired (fun (p : List Key × V) (q : List Key × Addr × Value) => p.1 = q.1 /\ H q.2.1 = some (.tup (p.1.map kV)) /\ RelV p.2 q.2.2) kvs xs /\
      ∃ o es ep, h.get? a = some o /\ o.ExactDict /\ o.data = .dict es ep /\ es.toList = xs.map (entryOfKey (tupleKind (mixKind P w))) /\ (xs.map (·.1)).Nodup
  | .set S n => h.SetOf (intKind P w) a S n
  | .ins C dx fs => H dx = some (.own a) /\ fs.length <= 1000 /\ dx ≠ a /\ h.get? a = some (PySem.W.instObj C dx) /\
      ∃ mA, h.Ns1 dx mA /\ (∀ f, RelO (fs.lookup f) (mA f)) /\ PySem.Within mA (fs.map (·.1))
  | .own _ => ∃ o, h.get? a = some o
  | .xd fs => ∃ mA, h.Ns1 a mA /\ ∀ f, RelO (fs.lookup f) (mA f)
  | .rng lo hi => ∃ t u v, h.get? a = some { cls := .type "range", data := .fields #[.int lo t, .int hi u, .int 1 v] }
  | .frz o u => h.get? a = some o /\ ObjOk H h a u
  | .tbl ps => h.get? a = some { cls := .none, data := .fields ps }
  | .met f x => h.get? a = some (PySem.W.methodObj (.ref f) (.ref x))
  | .ext φ => φ h /\ (∃ o, h.get? a = some o) /\ ∀ h1 h2 : Heap, φ h1 -> (∀ o, h1.get? a = some o -> h2.get? a = some o) -> φ h2
noncomputable def HOk (H : Hp) (h : Heap) : Prop := ∀ a o, H a = some o -> ObjOk P w H h a o
end
section
variable {P : Program} {w : World} {H H' : Hp} {h h' : Heap} {a : Addr} {o : HO}
theorem ObjOk.lt (x : ObjOk P w H h a o) : a < h.objs.size := by
  cases o with
  | lst xs => obtain ⟨_, _, _, _, e⟩ := x; exact Heap.lt_size e
  | tup xs => obtain ⟨_, _, _, p⟩ := x; exact p.lt
  | dK kvs => obtain ⟨_, _, _, _, o, _, _, e, _⟩ := x; exact Heap.lt_size e
  | dT kvs => obtain ⟨_, _, _, _, o, _, _, e, _⟩ := x; exact Heap.lt_size e
  | set S n => obtain ⟨o, _, _, _, e, _⟩ := x; exact Heap.lt_size e
  | ins C dx fs => obtain ⟨_, _, _, e, _⟩ := x; exact Heap.lt_size e
  | own y => obtain ⟨_, e⟩ := x; exact Heap.lt_size e
  | xd fs => obtain ⟨_, ⟨_, _, _, e, _⟩, _⟩ := x; exact Heap.lt_size e
  | rng lo hi => obtain ⟨_, _, _, e⟩ := x; exact Heap.lt_size e
  | frz ob u => obtain ⟨e, _⟩ := x; exact Heap.lt_size e
  | tbl ps => exact Heap.lt_size (show h.get? a = some _ from x)
  | met f y => exact Heap.lt_size (show h.get? a = some _ from x)
  | ext φ => obtain ⟨_, ⟨_, e⟩, _⟩ := x; exact Heap.lt_size e
theorem Paired.mapP {α β : Type} {F G : α -> β -> Prop} : ∀ {l₁ : List α} {l₂ : List β}, Paired F l₁ l₂ -> (∀ a b, F a b -> G a b) -> Paired G l₁ l₂
  | _, _, .nil, _ => .nil
  | _, _, .cons r t, f => .cons (f _ _ r) (Paired.mapP t f)
theorem ObjOk.stay (x : ObjOk P w H h a o) (k : ∀ b u, (b = a \/ H b = some (.own a)) -> h.get? b = some u -> h'.get? b = some u)
    (ho : ∀ b, H b = some (.own a) -> H' b = some (.own a)) (ht : ∀ b xs, H b = some (.tup xs) -> H' b = some (.tup xs)) : ObjOk P w H' h' a o := by
  induction o with
  | lst xs => obtain ⟨z, its, n, r, e⟩ := x; exact ⟨z, its, n, r, k _ _ (.inl rfl) e⟩
  | tup xs => obtain ⟨z, its, r, ob, e, c⟩ := x; exact ⟨z, its, r, ob, k _ _ (.inl rfl) e, c⟩
  | dK kvs => obtain ⟨z, y, vs, r, ob, es, ep, e, c⟩ := x; exact ⟨z, y, vs, r, ob, es, ep, k _ _ (.inl rfl) e, c⟩
  | dT kvs =>
    obtain ⟨z, y, xs, r, ob, es, ep, e, c⟩ := x
    exact ⟨z, y, xs, Paired.mapP r fun p q z => ⟨z.1, ht _ _ z.2.1, z.2.2⟩, ob, es, ep, k _ _ (.inl rfl) e, c⟩
  | set S n => obtain ⟨ob, es, ep, t, e, c⟩ := x; exact ⟨ob, es, ep, t, k _ _ (.inl rfl) e, c⟩
  | ins C dx fs =>
    obtain ⟨d, z, ne, e, mA, ⟨od, es, ep, e2, c⟩, r⟩ := x
    exact ⟨ho _ d, z, ne, k _ _ (.inl rfl) e, mA, ⟨od, es, ep, k _ _ (.inr d) e2, c⟩, r⟩
  | own y => obtain ⟨ob, e⟩ := x; exact ⟨ob, k _ _ (.inl rfl) e⟩
  | xd fs => obtain ⟨mA, ⟨od, es, ep, e, c⟩, r⟩ := x; exact ⟨mA, ⟨od, es, ep, k _ _ (.inl rfl) e, c⟩, r⟩
  | rng lo hi => obtain ⟨t, u, v, e⟩ := x; exact ⟨t, u, v, k _ _ (.inl rfl) e⟩
  | frz ob u ih => obtain ⟨e, q⟩ := x; exact ⟨k _ _ (.inl rfl) e, ih q⟩
  | tbl ps =>
    have e : h.get? a = some { cls := .none, data := .fields ps } := x
    show h'.get? a = some { cls := .none, data := .fields ps }
    exact k a _ (.inl rfl) e
  | met f y =>
    have e : h.get? a = some (PySem.W.methodObj (.ref f) (.ref y)) := x
    show h'.get? a = some (PySem.W.methodObj (.ref f) (.ref y))
    exact k a _ (.inl rfl) e
  | ext φ => obtain ⟨p, ⟨o, e⟩, st⟩ := x; exact ⟨st _ _ p fun o q => k _ _ (.inl rfl) q, ⟨o, k _ _ (.inl rfl) e⟩, st⟩
theorem HOk.lt (x : HOk P w H h) (e : H a = some o) : a < h.objs.size := (x a o e).lt
theorem HOk.fresh (x : HOk P w H h) (e : h.objs.size <= a) : H a = none := by
  cases q : H a with
  | none => rfl
  | some u => exact absurd (Nat.lt_of_lt_of_le (x.lt q) e) (Nat.lt_irrefl _)
theorem HOk.kept (x : HOk P w H h) (k : ∀ b u, h.get? b = some u -> h'.get? b = some u) : HOk P w H h' := fun a o e =>
  (x a o e).stay (fun b u _ q => k b u q) (fun _ q => q) fun _ _ q => q
theorem HOk.laid (x : HOk P w H h) (k : ∀ b u, h.get? b = some u -> h'.get? b = some u) (hp : h.objs.size <= a) (new : ObjOk P w (upd H a o) h' a o) : HOk P w (upd H a o) h' := fun b u e => by
  have hn := x.fresh hp
  by_cases hb : b = a
  . subst hb; rw [upd_same] at e; cases e; exact new
  . rw [upd_ne hb] at e
    exact (x b u e).stay (fun c v _ q => k c v q) (fun c q => by rw [upd_ne (ne_of_none q hn)]; exact q) fun c xs q => by rw [upd_ne (ne_of_none q hn)]; exact q
end
noncomputable def Rd (H : Hp) (a : Addr) (u : HO) : Prop := H a = some u \/ ∃ o, H a = some (.frz o u)
theorem Rd.ok {P : Program} {u : HO} (r : Rd H a u) (x : HOk P w H h) : ObjOk P w H h a u := by
  rcases r with r | ⟨o, r⟩
  . exact x a u r
  . obtain ⟨_, q⟩ := x a _ r
    exact q
noncomputable def Mut : Option HO -> Prop
  | some (.lst _) => True
  | some (.dK _) => True
  | some (.dT _) => True
  | some (.set _ _) => True
  | some (.ins _ _ _) => True
  | some (.ext _) => True
  | _ => False
section
variable {P : Program} {w : World} {H : Hp} {h h' : Heap} {x e : Addr} {o' : HO}
theorem HOk.write (ok : HOk P w H h) (mu : Mut (H x)) (he : e = x \/ H e = some (.own x)) (k : ∀ b u, b ≠ e -> h.get? b = some u -> h'.get? b = some u) (heo : ∃ u, h'.get? e = some u)
    (new : ObjOk P w (upd H x o') h' x o') : HOk P w (upd H x o') h' := fun b u q => by
  have nown : ∀ c y, H c = some (.own y) -> c ≠ x := fun c y r z => by subst z; rw [r] at mu; exact mu
  have ntup : ∀ c xs, H c = some (.tup xs) -> c ≠ x := fun c xs r z => by subst z; rw [r] at mu; exact mu
  by_cases hb : b = x
  . subst hb; rw [upd_same] at q; cases q; exact new
  . rw [upd_ne hb] at q
    by_cases hbe : b = e
    . have q' : H b = some (.own x) := by
        rcases he with z | z
        . exact absurd (hbe.trans z) hb
        . rw [hbe]; exact z
      rw [q] at q'; cases q'
      obtain ⟨v, hv⟩ := heo
      exact ⟨v, by rw [hbe]; exact hv⟩
    . refine (ok b u q).stay (fun c v hc r => k c v ?_ r) (fun c r => by rw [upd_ne (nown c b r)]; exact r) fun c xs r => by rw [upd_ne (ntup c xs r)]; exact r
      rcases hc with rfl | hc
      . exact hbe
      . rintro rfl
        rcases he with z | z
        . exact nown c b hc z
        . rw [hc] at z; cases z; exact hb rfl
end
structure Un (fs ex : List Addr) (H H' : Hp) (h h' : Heap) : Prop where
  keep : ∀ b o, h.get? b = some o -> H b = none -> b ∉ fs -> b ∉ ex -> h'.get? b = some o
  slot : ∀ b o, h.get? b = some o -> H b = none -> b ∈ fs -> b ∉ ex -> ∃ sl, h'.get? b = some { o with slots := sl }
  free : ∀ b o, h.get? b = some o -> H b = none -> b ∉ ex -> H' b = none
  there : ∀ b o, h.get? b = some o -> b ∉ ex -> ∃ o', h'.get? b = some o'
  tups : ∀ b xs, H b = some (.tup xs) -> H' b = some (.tup xs)
  frzs : ∀ b o u, H b = some (.frz o u) -> H' b = some (.frz o u)
  tbls : ∀ b ps, H b = some (.tbl ps) -> ∃ more, H' b = some (.tbl (ps ++ more))
section
variable {fs fs' ex ex' : List Addr} {H H1 H2 : Hp} {h h1 h2 h' : Heap} {a x e : Addr} {o : HO}
theorem Un.any (u : Un fs ex H H1 h h1) {ob : Obj} (q : h.get? b = some ob) (n : H b = none) (hx : b ∉ ex) : ∃ sl, h1.get? b = some { ob with slots := sl } := by
  by_cases hb : b ∈ fs
  . exact u.slot b ob q n hb hx
  . exact ⟨ob.slots, u.keep b ob q n hb hx⟩
theorem Un.kept (k : ∀ b u, h.get? b = some u -> h'.get? b = some u) : Un fs ex H H h h' :=
  ⟨fun b ob q _ _ _ => k b ob q, fun b ob q _ _ _ => ⟨ob.slots, k b ob q⟩, fun _ _ _ n _ => n, fun b ob q _ => ⟨ob, k b ob q⟩, fun _ _ q => q, fun _ _ _ q => q, fun _ ps q => ⟨#[], by rw [q]; simp⟩⟩
theorem Un.refl : Un fs ex H H h h := Un.kept fun _ _ q => q
theorem Un.laid (k : ∀ b u, h.get? b = some u -> h'.get? b = some u) (hp : h.objs.size <= a) (hn : H a = none) : Un fs ex H (upd H a o) h h' where
  keep := fun b u q _ _ _ => k b u q
  slot := fun b u q _ _ _ => ⟨u.slots, k b u q⟩
  free := fun b u q n _ => by rw [upd_ne (Nat.ne_of_lt (Nat.lt_of_lt_of_le (Heap.lt_size q) hp))]; exact n
  there := fun b u q _ => ⟨u, k b u q⟩
  tups := fun b xs q => by rw [upd_ne (ne_of_none q hn)]; exact q
  frzs := fun b u xs q => by rw [upd_ne (ne_of_none q hn)]; exact q
  tbls := fun b ps q => ⟨#[], by rw [upd_ne (ne_of_none q hn), q]; simp⟩
theorem Un.write (mu : Mut (H x)) (he : e = x \/ H e = some (.own x)) (k : ∀ b u, b ≠ e -> h.get? b = some u -> h'.get? b = some u) (heo : ∃ u, h'.get? e = some u) : Un fs ex H (upd H x o) h h' := by
  have hx : ∀ b, H b = none -> b ≠ x := fun b n z => by subst z; rw [n] at mu; exact mu
  have hb : ∀ b, H b = none -> b ≠ e := fun b n z => by
    subst z
    rcases he with r | r
    . exact hx b n r
    . rw [n] at r; cases r
  have hm : ∀ b u, H b = some u -> ¬ Mut (some u) -> b ≠ x := fun b u q nm z => by subst z; rw [q] at mu; exact nm mu
  refine ⟨fun b u q n _ _ => k b u (hb b n) q, fun b u q n _ _ => ⟨u.slots, k b u (hb b n) q⟩, fun b u q n _ => by rw [upd_ne (hx b n)]; exact n, fun b u q _ => ?_,
    fun b xs q => by rw [upd_ne (hm b _ q fun z => z)]; exact q, fun b u xs q => by rw [upd_ne (hm b _ q fun z => z)]; exact q, fun b ps q => ⟨#[], by rw [upd_ne (hm b _ q fun z => z), q]; simp⟩⟩
  by_cases hbe : b = e
  . subst hbe; exact heo
  . exact ⟨u, k b u hbe q⟩
end
noncomputable def trk (h : Heap) (H : Hp) : List Addr := (List.range h.objs.size).filter fun a => (H a).isSome
noncomputable def hidT (h : Heap) (H : Hp) : Heap := PySem.W.hideAll h (trk h H)
theorem hidT_size (h : Heap) (H : Hp) : (hidT h H).objs.size = h.objs.size := PySem.W.hideAll_size _ _
theorem hidT_get {o : Obj} (e : h.get? b = some o) (n : H b = none) : (hidT h H).get? b = some o :=
  PySem.W.hideAll_get _ e fun hm => by
    have q : (H b).isSome = true := (List.mem_filter.mp hm).2
    rw [n] at q; simp at q
theorem of_hidT {o : Obj} (e : (hidT h H).get? b = some o) : h.get? b = some o /\ H b = none := by
  have e' : h.get? b = some o := PySem.W.of_hideAll (trk h H) e
  refine ⟨e', ?_⟩
  cases q : H b with
  | none => rfl
  | some x =>
    have hm : b ∈ trk h H := List.mem_filter.mpr ⟨List.mem_range.mpr (Heap.lt_size e'), by simp [q]⟩
    have z : (hidT h H).get? b = none := PySem.W.hideAll_none (trk h H) hm
    rw [z] at e; cases e
noncomputable def allNews (g h : Heap) (L : Addr) : List (Addr × Obj) := (List.range h.objs.size).filterMap fun a => if a = L \/ (g.get? a).isSome = true then none else (h.get? a).map fun o => (a, o)
noncomputable def rest (g h : Heap) (L d : Addr) : List (Addr × Obj) := (allNews g h L).filter fun p => decide (p.1 ≠ d)
structure Mod (K : PySem.W.Frag) (mg : Str -> Option Value) (base : Heap) : Prop where
  kin : K.In base
  glob : base.Ns mainGlobals mg
  blt : ∃ mb, base.Ns builtinsNs mb /\ ∀ x : Str, x ≠ "__name__" -> mb x = bootBuiltins x
  nolimit : base.NoLimit
structure Cx where
  prog : Program
  w : World
  K : PySem.W.Frag
  mg : Str -> Option Value
  base : Heap
  A : Around
  N : List Str
  s₀ : Shared
  H₀ : Hp
  env : Env
  outer : List Env
  stack : List Env
  ex : List Addr
  fn : Str -> Bool
  calm : Bool
  pn : List (Addr × Obj)
  xe : Value -> Shared -> Prop
noncomputable def frs (l : List Env) : List Addr := l.filterMap (·.frame)
noncomputable abbrev Cx.fs (X : Cx) : List Addr := frs X.outer
noncomputable def Vis (sc : Scope) (x : Str) : Prop := sc.names.lookup x = some .local \/ sc.names.lookup x = some .cell \/ sc.names.lookup x = some .free
noncomputable def Loc (sc : Scope) (x : Str) : Prop := sc.names.lookup x = some .local \/ sc.names.lookup x = some .cell
noncomputable def Look (env : Env) (h : Heap) (m : Str -> Option Value) (x : Str) (u : Value) : Prop :=
  (env.kindOf x = some .local /\ m x = some u) \/ ((env.kindOf x = some .cell \/ env.kindOf x = some .free) /\ ∃ c, env.cells.lookup x = some c /\ h.IsCell c (some u))
structure Cx.Ok (X : Cx) : Prop where
  mod : Mod X.K X.mg X.base
  kind : X.env.scope.kind = .function
  glob : X.env.globals = mainGlobals
  blt : X.env.builtins = builtinsNs
  above : X.s₀.heap.objs.size <= X.env.locals
  inj : ∀ x y c, X.env.cells.lookup x = some c -> X.env.cells.lookup y = some c -> x = y
  has : ∀ x, (X.env.kindOf x = some .cell \/ X.env.kindOf x = some .free) -> ∃ c, X.env.cells.lookup x = some c
  cab : ∀ x c, X.fn x = true -> X.env.cells.lookup x = some c -> X.s₀.heap.objs.size <= c
  hd : X.calm = true -> X.A.handled = none
  frames : X.A.frames = some X.stack
  stk : X.stack = X.outer \/ (X.stack = X.env :: X.outer /\ X.env.frame = some X.env.locals)
  exf : ∀ b ∈ X.ex, b ≠ X.env.locals /\ ∀ x c, X.env.cells.lookup x = some c -> c ≠ b
  bs : ∀ b o, X.base.get? b = some o -> X.s₀.heap.get? b = some o /\ X.H₀ b = none
  bsz : X.base.objs.size <= X.s₀.heap.objs.size
  noex : ∀ b o, X.base.get? b = some o -> b ∉ X.ex
  exfs : ∀ b ∈ X.ex, b ∉ X.fs
  funs : X.s₀.heap.FunFrames X.base X.outer
  frf : ∀ b ∈ X.fs, X.H₀ b = none
structure Inv (X : Cx) (pins : List (Addr × Obj)) (σ : List (Option V)) (H : Hp) (s : Shared) : Prop where
  ok : X.Ok
  os : s.os = X.s₀.os
  bare : AllBare s.gens
  base : Un X.fs X.ex X.H₀ H X.s₀.heap s.heap
  loc : ∃ m, s.heap.Ns X.env.locals m /\ ∀ (i : Nat) (x : Str) (v : V), X.N[i]? = some x -> σ[i]? = some (some v) -> Vis X.env.scope x -> ∃ u, RelV v u /\ Look X.env s.heap m x u
  cell : ∀ x c, X.env.cells.lookup x = some c -> ∃ v, s.heap.IsCell c v
  free : H X.env.locals = none
  freeC : ∀ x c, X.env.cells.lookup x = some c -> H c = none
  pin : ∀ p ∈ X.pn ++ pins, s.heap.get? p.1 = some p.2 /\ H p.1 = none /\ p.1 ≠ X.env.locals /\ p.1 ∉ X.fs /\ ∀ v, p.2.data ≠ .cell v
  hok : HOk X.prog X.w H s.heap
  len : σ.length = X.N.length
section
variable {X : Cx} {pins : List (Addr × Obj)} {σ : List (Option V)} {H H' : Hp} {s : Shared} {h' : Heap}
theorem Cx.Ok.nofr (ok : X.Ok) {o : Obj} (e : X.base.get? b = some o) : b ∉ X.fs := fun hb => by
  have := (ok.funs.mem hb).1
  rw [e] at this; cases this
theorem Inv.bs (I : Inv X pins σ H s) : ∀ b o, X.base.get? b = some o -> s.heap.get? b = some o /\ H b = none := fun b o e =>
  ⟨I.base.keep b o (I.ok.bs b o e).1 (I.ok.bs b o e).2 (I.ok.nofr e) (I.ok.noex b o e), I.base.free b o (I.ok.bs b o e).1 (I.ok.bs b o e).2 (I.ok.noex b o e)⟩
theorem Inv.bk (I : Inv X pins σ H s) : ∀ b o, X.base.get? b = some o -> s.heap.get? b = some o := fun b o e => (I.bs b o e).1
theorem Inv.mod (I : Inv X pins σ H s) : Mod X.K X.mg X.base := I.ok.mod
theorem Inv.kIn (I : Inv X pins σ H s) : X.K.In s.heap := I.ok.mod.kin.keeps I.bk
theorem Inv.fr (I : Inv X pins σ H s) : ∃ m, Fr X.base X.env.locals s.heap m :=
  let ⟨m, hn, _⟩ := I.loc
  ⟨m, hn, I.bk, Nat.le_trans I.ok.bsz I.ok.above⟩
theorem Inv.lt (I : Inv X pins σ H s) : X.env.locals < s.heap.objs.size := let ⟨_, hn, _⟩ := I.loc; hn.lt
theorem Inv.sz (I : Inv X pins σ H s) : X.s₀.heap.objs.size <= s.heap.objs.size := Nat.le_trans I.ok.above (Nat.le_of_lt I.lt)
theorem Inv.nofs (I : Inv X pins σ H s) (h : s.heap.objs.size <= a) : a ∉ X.fs := fun hb => by
  obtain ⟨_, o, ho, _⟩ := I.ok.funs.mem hb
  exact absurd (Nat.lt_of_lt_of_le (Heap.lt_size ho) (Nat.le_trans I.sz h)) (Nat.lt_irrefl _)
theorem Inv.cne (I : Inv X pins σ H s) : ∀ x c, X.env.cells.lookup x = some c -> c ≠ X.env.locals := fun x c e z => by
  obtain ⟨v, o, ho, hd⟩ := I.cell x c e
  obtain ⟨m, ⟨o', es, ep, ho', hd', _⟩, _⟩ := I.loc
  rw [z, ho'] at ho; cases ho; rw [hd'] at hd; cases hd
theorem Inv.funs (I : Inv X pins σ H s) : s.heap.FunFrames X.base X.outer := by
  have all : ∀ (l : List Env), (∀ b ∈ frs l, b ∈ X.fs) -> X.s₀.heap.FunFrames X.base l -> s.heap.FunFrames X.base l := by
    intro l
    induction l with
    | nil => intro _ _; trivial
    | cons env r ih =>
      intro hs hl
      obtain ⟨hk, ⟨L, o, hf, hn, ho, hd⟩, hr⟩ := hl
      have hL : L ∈ X.fs := hs L (by unfold frs; rw [List.filterMap_cons, hf]; exact List.mem_cons_self)
      obtain ⟨sl, e⟩ := I.base.slot L o ho (I.ok.frf L hL) hL fun z => I.ok.exfs L z hL
      exact ⟨hk, ⟨L, _, hf, hn, e, hd⟩, ih (fun b hb => hs b (by unfold frs; rw [List.filterMap_cons, hf]; exact List.mem_cons_of_mem _ hb)) hr⟩
  exact all X.outer (fun _ hb => hb) I.ok.funs
theorem Inv.stack (I : Inv X pins σ H s) : s.heap.FunFrames X.base X.stack := by
  rcases I.ok.stk with e | ⟨e, hf⟩
  . rw [e]; exact I.funs
  . rw [e]
    obtain ⟨m, hn, _⟩ := I.loc
    refine .cons (by rw [I.ok.kind]; decide) hf hn ?_ I.funs
    exact Heap.get?_none_of_le (Nat.le_trans I.ok.bsz I.ok.above)
theorem Inv.stkSub (I : Inv X pins σ H s) : ∀ b ∈ frs X.stack, b ∈ X.env.locals :: X.fs := fun b hb => by
  rcases I.ok.stk with e | ⟨e, hf⟩
  . rw [e] at hb; exact List.mem_cons_of_mem _ hb
  . rw [e] at hb
    unfold frs at hb
    rw [List.filterMap_cons, hf] at hb
    exact hb
theorem Inv.stkFree (I : Inv X pins σ H s) : ∀ b ∈ frs X.stack, H b = none := fun b hb => by
  rcases List.mem_cons.mp (I.stkSub b hb) with e | hb
  . rw [e]; exact I.free
  . obtain ⟨_, o, ho, _⟩ := I.ok.funs.mem hb
    exact I.base.free b o ho (I.ok.frf b hb) fun z => I.ok.exfs b z hb
theorem Inv.step (I : Inv X pins σ H s)
    (hch : ∀ b ∈ ch, (b ∈ X.ex \/ X.s₀.heap.objs.size <= b) /\ b ≠ X.env.locals /\ (∀ x c, X.env.cells.lookup x = some c -> c ≠ b) /\ ∀ p ∈ X.pn ++ pins, p.1 ≠ b)
    (keep : ∀ b o, b ≠ X.env.locals -> b ∉ X.fs -> b ∉ ch -> s.heap.get? b = some o -> H b = none -> h'.get? b = some o)
    (slot : ∀ b o, b ≠ X.env.locals -> b ∈ X.fs -> b ∉ ch -> s.heap.get? b = some o -> H b = none -> ∃ sl, h'.get? b = some { o with slots := sl }) (free : ∀ b o, b ∉ ch -> s.heap.get? b = some o -> H b = none -> H' b = none)
    (there : ∀ b o, b ∉ ch -> s.heap.get? b = some o -> ∃ o', h'.get? b = some o')
    (tups : ∀ b xs, H b = some (.tup xs) -> H' b = some (.tup xs)) (frzs : ∀ b o u, H b = some (.frz o u) -> H' b = some (.frz o u)) (tbls : ∀ b ps, H b = some (.tbl ps) -> ∃ more, H' b = some (.tbl (ps ++ more)))
    (ns : ∀ m, s.heap.Ns X.env.locals m -> h'.Ns X.env.locals m) (hok : HOk X.prog X.w H' h') (hg : AllBare g') :
    Inv X pins σ H' { s with heap := h', gens := g', drawn := d', toks := t' } := by
  have neL : ∀ b o, X.s₀.heap.get? b = some o -> b ≠ X.env.locals := fun b o e => Nat.ne_of_lt (Nat.lt_of_lt_of_le (Heap.lt_size e) I.ok.above)
  have neC : ∀ b o, X.s₀.heap.get? b = some o -> b ∉ X.ex -> b ∉ ch := fun b o e hx hb => by
    rcases (hch b hb).1 with z | z
    . exact hx z
    . exact absurd (Nat.lt_of_lt_of_le (Heap.lt_size e) z) (Nat.lt_irrefl _)
  have cellK : ∀ x c, X.env.cells.lookup x = some c -> ∀ v, s.heap.IsCell c v -> h'.IsCell c v := fun x c e v ⟨o, ho, hd⟩ => by
    have nch : c ∉ ch := fun z => (hch c z).2.2.1 x c e rfl
    by_cases hc : c ∈ X.fs
    . obtain ⟨sl, q⟩ := slot c o (I.cne x c e) hc nch ho (I.freeC x c e)
      exact ⟨_, q, hd⟩
    . exact ⟨o, keep c o (I.cne x c e) hc nch ho (I.freeC x c e), hd⟩
  refine ⟨I.ok, I.os, hg, ⟨fun b o e n hb hx => ?_, fun b o e n hb hx => ?_, fun b o e n hx => ?_, fun b o e hx => ?_, fun b xs e => tups b xs (I.base.tups b xs e), fun b o xs e => frzs b o xs (I.base.frzs b o xs e), fun b ps e => ?_⟩, ?_, fun x c e => ?_, ?_, fun x c e => ?_, fun p hp => ?_, hok, I.len⟩
  . exact keep b o (neL b o e) hb (neC b o e hx) (I.base.keep b o e n hb hx) (I.base.free b o e n hx)
  . obtain ⟨sl, e1⟩ := I.base.slot b o e n hb hx
    obtain ⟨sl', e2⟩ := slot b _ (neL b o e) hb (neC b o e hx) e1 (I.base.free b o e n hx)
    exact ⟨sl', e2⟩
  . obtain ⟨o', e1⟩ := I.base.there b o e hx
    exact free b o' (neC b o e hx) e1 (I.base.free b o e n hx)
  . obtain ⟨o', e1⟩ := I.base.there b o e hx
    exact there b o' (neC b o e hx) e1
  . obtain ⟨m1, e1⟩ := I.base.tbls b ps e
    obtain ⟨m2, e2⟩ := tbls b _ e1
    exact ⟨m1 ++ m2, by rw [e2, Array.append_assoc]⟩
  . obtain ⟨m, hn, hl⟩ := I.loc
    refine ⟨m, ns m hn, fun i x v e1 e2 e3 => ?_⟩
    obtain ⟨u, r, l⟩ := hl i x v e1 e2 e3
    refine ⟨u, r, ?_⟩
    rcases l with l | ⟨k, c, e, z⟩
    . exact .inl l
    . exact .inr ⟨k, c, e, cellK x c e _ z⟩
  . obtain ⟨v, z⟩ := I.cell x c e
    exact ⟨v, cellK x c e v z⟩
  . obtain ⟨m, ⟨o, _, _, ho, _⟩, _⟩ := I.loc
    exact free _ o (fun z => (hch _ z).2.1 rfl) ho I.free
  . obtain ⟨v, o, ho, hd⟩ := I.cell x c e
    exact free c o (fun z => (hch c z).2.2.1 x c e rfl) ho (I.freeC x c e)
  . obtain ⟨e, n, ne, nf, d⟩ := I.pin p hp
    have nch : p.1 ∉ ch := fun z => (hch p.1 z).2.2.2 p hp rfl
    exact ⟨keep p.1 p.2 ne nf nch e n, free p.1 p.2 nch e n, ne, nf, d⟩
theorem Inv.un (I : Inv X pins σ H s) (u : Un X.fs [] H H' s.heap h') (hok : HOk X.prog X.w H' h') : Inv X pins σ H' { s with heap := h', toks := t' } := by
  obtain ⟨m, ⟨o, es, ep, ho, r⟩, _⟩ := id I.loc
  obtain ⟨sl, hL⟩ := u.any ho I.free (by simp)
  exact I.step (g' := s.gens) (d' := s.drawn) (ch := []) (fun _ z => nomatch z) (fun b o _ hb _ e n => u.keep b o e n hb (by simp)) (fun b o _ hb _ e n => u.slot b o e n hb (by simp)) (fun b o _ e n => u.free b o e n (by simp)) (fun b o _ e => u.there b o e (by simp)) u.tups u.frzs u.tbls (fun m' hm => by
    obtain ⟨o', es', ep', ho', r'⟩ := hm
    rw [ho] at ho'; cases ho'
    exact ⟨_, es', ep', hL, r'⟩) hok I.bare
theorem Inv.call {ch : List Addr} (I : Inv X pins σ H s) (u : Un (frs X.stack) ch H H' s.heap h') (hok : HOk X.prog X.w H' h') (hg : AllBare g')
    (hch : ∀ b ∈ ch, (b ∈ X.ex \/ X.s₀.heap.objs.size <= b) /\ b ≠ X.env.locals /\ (∀ x c, X.env.cells.lookup x = some c -> c ≠ b) /\ ∀ p ∈ X.pn ++ pins, p.1 ≠ b) :
    Inv X pins σ H' { s with heap := h', gens := g', drawn := d', toks := t' } := by
  obtain ⟨m, ⟨o, es, ep, ho, r⟩, _⟩ := id I.loc
  obtain ⟨sl, hL⟩ := u.any ho I.free fun z => (hch _ z).2.1 rfl
  exact I.step (ch := ch) hch (fun b o hL hb hc e n => u.keep b o e n (fun z => (List.mem_cons.mp (I.stkSub b z)).elim hL hb) hc) (fun b o _ _ hc e n => u.any e n hc) (fun b o hc e n => u.free b o e n hc) (fun b o hc e => u.there b o e hc) u.tups u.frzs u.tbls (fun m' hm => by
    obtain ⟨o', es', ep', ho', r'⟩ := hm
    rw [ho] at ho'; cases ho'
    exact ⟨_, es', ep', hL, r'⟩) hok hg
theorem Inv.turned (I : Inv X pins σ H s) (k : ∀ b o, b ≠ it -> s.heap.get? b = some o -> h'.get? b = some o) (hn : H it = none) (hL : it ≠ X.env.locals)
    (h1 : it ∈ X.ex \/ X.s₀.heap.objs.size <= it) (h2 : ∀ x c, X.env.cells.lookup x = some c -> c ≠ it) (h3 : ∀ p ∈ X.pn ++ pins, p.1 ≠ it) : Inv X pins σ H { s with heap := h', toks := t' } := by
  have nit : ∀ b u, H b = some u -> b ≠ it := fun b u e z => by rw [z, hn] at e; cases e
  refine I.step (g' := s.gens) (d' := s.drawn) (ch := [it]) (fun b hb => ?_) (fun b o _ _ hc e _ => k b o (fun z => hc (by simp [z])) e) (fun b o _ _ hc e _ => ⟨o.slots, k b o (fun z => hc (by simp [z])) e⟩) (fun _ _ _ _ n => n)
    (fun b o hc e => ⟨o, k b o (fun z => hc (by simp [z])) e⟩) (fun _ _ e => e) (fun _ _ _ e => e) (fun b ps e => ⟨#[], by rw [e]; simp⟩) (fun m hm => ?_) (fun b u e => ?_) I.bare
  . have e : b = it := by simpa using hb
    subst e
    exact ⟨h1, hL, h2, h3⟩
  . obtain ⟨o, es, ep, ho, r⟩ := hm
    exact ⟨o, es, ep, k _ o (Ne.symm hL) ho, r⟩
  . refine (I.hok b u e).stay (fun c v hc q => k c v ?_ q) (fun _ q => q) fun _ _ q => q
    rcases hc with z | z
    . rw [z]; exact nit b u e
    . exact nit c _ z
theorem Inv.tok (I : Inv X pins σ H s) (t : Nat) : Inv X pins σ H { s with toks := t } := I.un (h' := s.heap) (t' := t) Un.refl I.hok
theorem Inv.kept (I : Inv X pins σ H s) (k : ∀ b u, s.heap.get? b = some u -> h'.get? b = some u) : Inv X pins σ H { s with heap := h', toks := t' } := I.un (Un.kept k) (I.hok.kept k)
theorem Inv.laid (I : Inv X pins σ H s) (k : ∀ b u, s.heap.get? b = some u -> h'.get? b = some u) (hp : s.heap.objs.size <= a) (new : ObjOk X.prog X.w (upd H a o) h' a o) :
    Inv X pins σ (upd H a o) { s with heap := h', toks := t' } := I.un (Un.laid k hp (I.hok.fresh hp)) (I.hok.laid k hp new)
theorem Inv.write {x e : Addr} (I : Inv X pins σ H s) (mu : Mut (H x)) (he : e = x \/ H e = some (.own x)) (k : ∀ b u, b ≠ e -> s.heap.get? b = some u -> h'.get? b = some u) (heo : ∃ u, h'.get? e = some u)
    (new : ObjOk X.prog X.w (upd H x o) h' x o) : Inv X pins σ (upd H x o) { s with heap := h', toks := t' } := I.un (Un.write mu he k heo) (I.hok.write mu he k heo new)
theorem Inv.pins_of (I : Inv X pins σ H s) (h : ∀ p ∈ pins', s.heap.get? p.1 = some p.2 /\ H p.1 = none /\ p.1 ≠ X.env.locals /\ p.1 ∉ X.fs /\ ∀ v, p.2.data ≠ .cell v) : Inv X pins' σ H s :=
  ⟨I.ok, I.os, I.bare, I.base, I.loc, I.cell, I.free, I.freeC, fun p hp => (List.mem_append.mp hp).elim (fun z => I.pin p (List.mem_append_left _ z)) (h p), I.hok, I.len⟩
theorem nodup_ix (hN : N.Nodup) (a : N[i]? = some x) (b : N[j]? = some x) : i = j := by
  obtain ⟨h1, e1⟩ := List.getElem?_eq_some_iff.mp a
  obtain ⟨h2, e2⟩ := List.getElem?_eq_some_iff.mp b
  exact (List.getElem_inj hN).mp (e1.trans e2.symm)
theorem store_ok2 {M : Model} (I : Inv X pins σ H s) (hN : X.N.Nodup) (hi : X.N[i]? = some x) (hx : Loc X.env.scope x) (r : RelV v u)
    (h : ∀ s', Inv X pins (σ.set i (some v)) H s' -> (∃ a, Heap.SameBut a s.heap s'.heap /\ (a = X.env.locals \/ X.env.cells.lookup x = some a)) -> Q () s') (hf :autoParam (X.fn x = true \/ X.env.scope.names.lookup x = some .local) zu0._auto_1) : wpAny M A (storeName X.env x u) Q E s := by
  obtain ⟨m, hn, hl⟩ := id I.loc
  have hcls : (X.env.scope.kind == .class || (X.env.scope.kind == .module && X.env.locals != X.env.globals)) = false := by rw [I.ok.kind]; rfl
  have hiσ : i < σ.length := by rw [I.len]; exact (List.getElem?_eq_some_iff.mp hi).1
  have cne := I.cne
  have tracked : ∀ {a : Addr} {h' : Heap}, (∃ o, s.heap.get? a = some o /\ H a = none) -> Heap.SameBut a s.heap h' -> HOk X.prog X.w H h' := fun {a h'} ha hs b ob e => by
    obtain ⟨_, _, hfree⟩ := ha
    refine (I.hok b ob e).stay (fun c w' hc q => (hs.2 c ?_).trans q) (fun _ q => q) fun _ _ q => q
    rintro rfl
    rcases hc with rfl | hc
    . rw [hfree] at e; cases e
    . rw [hfree] at hc; cases hc
  rcases hx with hk | hk
  . refine wpAny_storeName_local hk hn (fun h' hn' hs => ?_) hcls
    obtain ⟨oL, _, _, hoL, _⟩ := id hn
    refine h _ ⟨I.ok, I.os, I.bare, ⟨fun b o e n hb hx => ?_, fun b o e n hb hx => ?_, I.base.free, fun b o e hx => ?_, I.base.tups, I.base.frzs, I.base.tbls⟩, ⟨_, hn', fun j y v' e1 e2 e3 => ?_⟩, fun y c e => ?_, I.free, I.freeC, fun p hp => ?_, tracked ⟨oL, hoL, I.free⟩ hs, by simpa using I.len⟩ ⟨_, hs, .inl rfl⟩
    . exact (hs.2 b (Nat.ne_of_lt (Nat.lt_of_lt_of_le (Heap.lt_size e) I.ok.above))).trans (I.base.keep b o e n hb hx)
    . obtain ⟨sl, e1⟩ := I.base.slot b o e n hb hx
      exact ⟨sl, (hs.2 b (Nat.ne_of_lt (Nat.lt_of_lt_of_le (Heap.lt_size e) I.ok.above))).trans e1⟩
    . obtain ⟨o', e1⟩ := I.base.there b o e hx
      exact ⟨o', (hs.2 b (Nat.ne_of_lt (Nat.lt_of_lt_of_le (Heap.lt_size e) I.ok.above))).trans e1⟩
    . by_cases hj : j = i
      . subst hj
        rw [hi] at e1; cases e1
        rw [List.getElem?_set_self hiσ] at e2
        cases e2
        exact ⟨u, r, .inl ⟨hk, by simp⟩⟩
      . rw [List.getElem?_set_ne (Ne.symm hj)] at e2
        obtain ⟨u', r', q⟩ := hl j y v' e1 e2 e3
        refine ⟨u', r', ?_⟩
        rcases q with ⟨k, e⟩ | ⟨k, c, e, z⟩
        . refine .inl ⟨k, ?_⟩
          have : y ≠ x := fun e => hj (nodup_ix hN e1 (e ▸ hi))
          simp [this, e]
        . exact .inr ⟨k, c, e, z.sameBut hs (cne y c e)⟩
    . obtain ⟨w', z⟩ := I.cell y c e
      exact ⟨w', z.sameBut hs (cne y c e)⟩
    . obtain ⟨e, n, ne, nf, d⟩ := I.pin p hp
      exact ⟨(hs.2 p.1 ne).trans e, n, ne, nf, d⟩
  . have hfn : X.fn x = true := by
      rcases hf with z | z
      . exact z
      . rw [z] at hk; cases hk
    obtain ⟨c, hc⟩ := I.ok.has x (.inl hk)
    obtain ⟨w', z⟩ := I.cell x c hc
    refine wpAny_storeName_cell I.ok.kind hk hc z (fun h' hc' hs => ?_)
    obtain ⟨oc, hoc, hocd⟩ := id z
    refine h { s with heap := h' } ⟨I.ok, I.os, I.bare, ⟨fun b o e n hb hx => ?_, fun b o e n hb hx => ?_, I.base.free, fun b o e hx => ?_, I.base.tups, I.base.frzs, I.base.tbls⟩, ⟨m, hn.sameBut hs (Ne.symm (cne x c hc)), fun j y v' e1 e2 e3 => ?_⟩, fun y c' e => ?_, I.free, I.freeC, fun p hp => ?_, tracked ⟨oc, hoc, I.freeC x c hc⟩ hs, by simpa using I.len⟩ ⟨c, hs, .inr hc⟩
    . exact (hs.2 b (Nat.ne_of_lt (Nat.lt_of_lt_of_le (Heap.lt_size e) (I.ok.cab x c hfn hc)))).trans (I.base.keep b o e n hb hx)
    . obtain ⟨sl, e1⟩ := I.base.slot b o e n hb hx
      exact ⟨sl, (hs.2 b (Nat.ne_of_lt (Nat.lt_of_lt_of_le (Heap.lt_size e) (I.ok.cab x c hfn hc)))).trans e1⟩
    . obtain ⟨o', e1⟩ := I.base.there b o e hx
      exact ⟨o', (hs.2 b (Nat.ne_of_lt (Nat.lt_of_lt_of_le (Heap.lt_size e) (I.ok.cab x c hfn hc)))).trans e1⟩
    . by_cases hj : j = i
      . subst hj
        rw [hi] at e1; cases e1
        rw [List.getElem?_set_self hiσ] at e2
        cases e2
        exact ⟨u, r, .inr ⟨.inl hk, c, hc, hc'⟩⟩
      . rw [List.getElem?_set_ne (Ne.symm hj)] at e2
        obtain ⟨u', r', q⟩ := hl j y v' e1 e2 e3
        refine ⟨u', r', ?_⟩
        rcases q with q | ⟨k, c', e, z'⟩
        . exact .inl q
        . refine .inr ⟨k, c', e, z'.sameBut hs ?_⟩
          rintro rfl
          exact hj (nodup_ix hN e1 (I.ok.inj _ _ _ e hc ▸ hi))
    . by_cases hcc : c' = c
      . subst hcc; exact ⟨_, hc'⟩
      . obtain ⟨w2, z2⟩ := I.cell y c' e
        exact ⟨w2, z2.sameBut hs hcc⟩
    . obtain ⟨e, n, ne, nf, d⟩ := I.pin p hp
      refine ⟨(hs.2 p.1 ?_).trans e, n, ne, nf, d⟩
      intro q
      rw [q, hoc] at e
      have q' : oc = p.2 := Option.some.inj e
      exact d w' (by rw [<- q']; exact hocd)
theorem store_ok {M : Model} (I : Inv X pins σ H s) (hN : X.N.Nodup) (hi : X.N[i]? = some x) (hx : Loc X.env.scope x) (r : RelV v u)
    (h : ∀ s', Inv X pins (σ.set i (some v)) H s' -> Q () s') (hf :autoParam (X.fn x = true \/ X.env.scope.names.lookup x = some .local) zu0._auto_1) : wpAny M A (storeName X.env x u) Q E s :=
  store_ok2 I hN hi hx r (fun s' I' _ => h s' I') hf
theorem Inv.call' (I : Inv X pins σ H s) (ho : s'.os = s.os) (u : Un (frs X.stack) ch H H' s.heap s'.heap) (hok : HOk X.prog X.w H' s'.heap) (hg : AllBare s'.gens)
    (hch : ∀ b ∈ ch, (b ∈ X.ex \/ X.s₀.heap.objs.size <= b) /\ b ≠ X.env.locals /\ (∀ x c, X.env.cells.lookup x = some c -> c ≠ b) /\ ∀ p ∈ X.pn ++ pins, p.1 ≠ b) : Inv X pins σ H' s' := by
  obtain ⟨h', g', d', t', o'⟩ := s'
  have e : o' = s.os := ho
  subst e
  exact I.call (g' := g') (t' := t') (d' := d') u hok hg hch
end
noncomputable abbrev XK := Value -> Option Addr -> Hp -> Prop
noncomputable abbrev St := List (Option V)
noncomputable abbrev VK := V -> Hp -> Prop
noncomputable abbrev TE := St -> Hp -> VK -> Prop
noncomputable abbrev TT := St -> Hp -> (Bool -> Hp -> Prop) -> Prop
noncomputable abbrev TA := St -> Hp -> (List V -> Hp -> Prop) -> Prop
structure Ends where
  nx : St -> Hp -> Prop
  rt : VK
  bk : St -> Hp -> Prop := fun _ _ => False
  ct : St -> Hp -> Prop := fun _ _ => False
noncomputable abbrev TS := Ends -> St -> Hp -> Prop
noncomputable def EP (X : Cx) (pins : List (Addr × Obj)) (σ : St) (Q : VK) (u : Value) (s' : Shared) : Prop := ∃ v H', Inv X pins σ H' s' /\ RelV v u /\ Q v H'
noncomputable def TP (X : Cx) (pins : List (Addr × Obj)) (σ : St) (Q : Bool -> Hp -> Prop) (b : Bool) (s' : Shared) : Prop := ∃ H', Inv X pins σ H' s' /\ Q b H'
noncomputable def AP (X : Cx) (pins : List (Addr × Obj)) (σ : St) (Q : List V -> Hp -> Prop) (us : List Value) (s' : Shared) : Prop := ∃ vs H', Inv X pins σ H' s' /\ Vals vs us /\ Q vs H'
noncomputable def SP (X : Cx) (pins : List (Addr × Obj)) (D : Ends) (f : Flow) (s' : Shared) : Prop :=
  match f with
  | .next => ∃ σ' H', Inv X pins σ' H' s' /\ D.nx σ' H'
  | .brk => ∃ σ' H', Inv X pins σ' H' s' /\ D.bk σ' H'
  | .cont => ∃ σ' H', Inv X pins σ' H' s' /\ D.ct σ' H'
  | .ret u => ∃ v σ' H', Inv X pins σ' H' s' /\ RelV v u /\ D.rt v H'
noncomputable def PE (X : Cx) (e : Expr) (t : TE) : Prop :=
  ∀ (pins : List (Addr × Obj)) (s : Shared) (σ : St) (H : Hp) (Q : VK), Inv X pins σ H s -> t σ H Q -> wpAny (model X.prog X.w) X.A (eval e X.env) (EP X pins σ Q) X.xe s
noncomputable def PT (X : Cx) (e : Expr) (t : TT) : Prop :=
  ∀ (pins : List (Addr × Obj)) (s : Shared) (σ : St) (H : Hp) (Q : Bool -> Hp -> Prop), Inv X pins σ H s -> t σ H Q -> wpAny (model X.prog X.w) X.A (isTrue e X.env (eval e X.env)) (TP X pins σ Q) X.xe s
noncomputable def PW (X : Cx) (e : Expr) (t : TT) : Prop :=
  ∀ (whole : Sem Value) (pins : List (Addr × Obj)) (s : Shared) (σ : St) (H : Hp) (Q : Bool -> Hp -> Prop), Inv X pins σ H s -> t σ H Q -> wpAny (model X.prog X.w) X.A (isTrue e X.env whole) (TP X pins σ Q) X.xe s
theorem PW.pt {t : TT} (h : PW X e t) : PT X e t := h _
noncomputable def PA (X : Cx) (es : List Expr) (t : TA) : Prop :=
  ∀ (pos : Pos) (pins : List (Addr × Obj)) (s : Shared) (σ : St) (H : Hp) (Q : List V -> Hp -> Prop), Inv X pins σ H s -> t σ H Q -> wpAny (model X.prog X.w) X.A (spliced (backTo pos (starEach es X.env))) (AP X pins σ Q) X.xe s
noncomputable def PS (X : Cx) (st : Stmt) (t : TS) : Prop :=
  ∀ (pins : List (Addr × Obj)) (s : Shared) (σ : St) (H : Hp) (D : Ends), Inv X pins σ H s -> t D σ H -> wpAny (model X.prog X.w) X.A (exec st X.env) (SP X pins D) X.xe s
noncomputable def PSs (X : Cx) (st : List Stmt) (t : TS) : Prop :=
  ∀ (pins : List (Addr × Obj)) (s : Shared) (σ : St) (H : Hp) (D : Ends), Inv X pins σ H s -> t D σ H -> wpAny (model X.prog X.w) X.A (execs st X.env) (SP X pins D) X.xe s
theorem thn {α : Type} {t : Sem α} {Q Q' : α -> Shared -> Prop} {M : Model} (h : wpAny M A t Q E s) (hQ : ∀ a s, Q a s -> Q' a s) : wpAny M A t Q' E s := wpAny_mono h hQ fun _ _ x => x
section
variable {X : Cx}
noncomputable def tVar (i : Nat) : TE := fun σ H Q => ∃ v, σ[i]? = some (some v) /\ Q v H
noncomputable def tC (v : V) : TE := fun _ H Q => Q v H
theorem pe_var (hN : X.N[i]? = some x) (hv : Vis X.env.scope x) (hd :autoParam ((x == ("__debug__" : Str)) = false) zu1._auto_1) (hcd :autoParam ((x == ("__classdict__" : Str)) = false) zu1._auto_1) : PE X (.Name x pos) (tVar i) := by
  intro pins s σ H Q I h
  obtain ⟨v, e, h⟩ := h
  obtain ⟨m, hn, hl⟩ := I.loc
  obtain ⟨u, r, l⟩ := hl i x v hN e hv
  have fin : EP X pins σ Q u s := ⟨v, H, I, r, h⟩
  rcases l with ⟨hk, hm⟩ | ⟨hk, c, hc, hcell⟩
  . exact wpAny_Name (wpAny_loadName_local I.ok.kind hk hn hm fin) hd
  . rcases hk with hk | hk
    . exact wpAny_Name (wpAny_loadName_cell I.ok.kind hk hc hcell fin) hd
    . exact wpAny_Name (wpAny_loadName_free I.ok.kind hk hc hcell fin hcd) hd
theorem pe_int {i j pos} : PE X (.Constant (.int i) j pos) (tC (.int i)) := fun _ _ _ H _ I h => wpAny_Constant_int ⟨.int i, H, I.tok _, ⟨_, rfl⟩, h⟩
theorem pe_bl {b j pos} : PE X (.Constant (.bool b) j pos) (tC (.bl b)) := fun _ _ _ H _ I h => Constant_bool ⟨.bl b, H, I, rfl, h⟩
theorem pe_non {j pos} : PE X (.Constant .none j pos) (tC .non) := fun _ _ _ H _ I h => Constant_none ⟨.non, H, I, rfl, h⟩
theorem pe_str {x j pos} : PE X (.Constant (.str x) j pos) (tC (.str x)) := fun _ _ _ H _ I h => Calls.Constant_str ⟨.str x, H, I.tok _, ⟨_, rfl⟩, h⟩
noncomputable def Gl (X : Cx) (x : Str) : Prop := X.env.kindOf x = some .globalImplicit
theorem ld_glob {Q : Value -> Shared -> Prop} (I : Inv X pins σ H s) (hg : Gl X x) (hm : X.mg x = some u) (h : Q u s)
    (hd :autoParam ((x == ("__debug__" : Str)) = false) zu1._auto_1) : wpAny (model X.prog X.w) X.A (eval (.Name x pos) X.env) Q E s :=
  Calls.Name_function_global I.ok.kind hg (Calls.loadGlobal_global (by rw [I.ok.glob]; exact I.mod.glob.keeps I.bk) hm h) hd
theorem ld_blt {Q : Value -> Shared -> Prop} (I : Inv X pins σ H s) (hg : Gl X x) (hm : X.mg x = none) (hv : bootBuiltins x = some u) (h : Q u s)
    (hn :autoParam (x ≠ "__name__") zu1._auto_1) (hd :autoParam ((x == ("__debug__" : Str)) = false) zu1._auto_1) : wpAny (model X.prog X.w) X.A (eval (.Name x pos) X.env) Q E s := by
  obtain ⟨mb, h1, h2⟩ := I.mod.blt
  exact Calls.Name_function_global I.ok.kind hg (Calls.loadGlobal_builtin (by rw [I.ok.glob]; exact I.mod.glob.keeps I.bk) hm (by rw [I.ok.blt]; exact h1.keeps I.bk) ((h2 x hn).trans hv) h) hd
theorem pe_glob (hg : Gl X x) (hm : X.mg x = some u) (r : RelV v u) (hd :autoParam ((x == ("__debug__" : Str)) = false) zu1._auto_1) : PE X (.Name x pos) (tC v) :=
  fun _ _ _ H _ I h => ld_glob I hg hm ⟨v, H, I, r, h⟩ hd
theorem pe_bltn (hg : Gl X x) (hm : X.mg x = none) (hv : bootBuiltins x = some u) (r : RelV v u) (hn :autoParam (x ≠ "__name__") zu1._auto_1) (hd :autoParam ((x == ("__debug__" : Str)) = false) zu1._auto_1) : PE X (.Name x pos) (tC v) :=
  fun _ _ _ H _ I h => ld_blt I hg hm hv ⟨v, H, I, r, h⟩ hn hd
variable {a b : Expr} {ta tb : TE} {pos : Pos}
variable {tA tB' : TT} {rest : List Expr}
noncomputable def tAnd (t u : TT) : TT := fun σ H Q => t σ H fun c H1 => if c = true then u σ H1 Q else Q false H1
noncomputable def tOr (t u : TT) : TT := fun σ H Q => t σ H fun c H1 => if c = true then Q true H1 else u σ H1 Q
noncomputable def tNot (t : TT) : TT := fun σ H Q => t σ H fun c H1 => Q (!c) H1
theorem pw_and1 (ha : PT X a tA) : PW X (.BoolOp .And [a] pos) tA := by
  intro wh pins s σ H Q I h
  refine isTrue_and (thn (ha pins s σ H Q I h) fun c s1 e => ?_)
  cases c with
  | true => exact isTrue_and_nil e
  | false => exact e
theorem pw_or1 (ha : PT X a tA) : PW X (.BoolOp .Or [a] pos) tA := by
  intro wh pins s σ H Q I h
  refine isTrue_or (thn (ha pins s σ H Q I h) fun c s1 e => ?_)
  cases c with
  | false => exact isTrue_or_nil e
  | true => exact e
theorem pw_and (ha : PT X a tA) (hb : PW X (.BoolOp .And (b :: rest) pos) tB') : PW X (.BoolOp .And (a :: b :: rest) pos) (tAnd tA tB') := by
  intro wh pins s σ H Q I h
  refine isTrue_and (thn (ha pins s σ H _ I h) fun c s1 ⟨H1, I1, q1⟩ => ?_)
  cases c with
  | true => exact hb wh pins s1 σ H1 Q I1 q1
  | false => exact ⟨H1, I1, q1⟩
theorem pw_or (ha : PT X a tA) (hb : PW X (.BoolOp .Or (b :: rest) pos) tB') : PW X (.BoolOp .Or (a :: b :: rest) pos) (tOr tA tB') := by
  intro wh pins s σ H Q I h
  refine isTrue_or (thn (ha pins s σ H _ I h) fun c s1 ⟨H1, I1, q1⟩ => ?_)
  cases c with
  | true => exact ⟨H1, I1, q1⟩
  | false => exact hb wh pins s1 σ H1 Q I1 q1
theorem pt_not (ha : PT X a tA) : PT X (.UnaryOp .Not a pos) (tNot tA) := by
  intro pins s σ H Q I h
  exact isTrue_not (ha pins s σ H (fun c H1 => Q (!c) H1) I h)
noncomputable def tAndV (ta tb : TE) : TE := fun σ H Q => ta σ H fun x H1 => ∃ c, x = .bl c /\ if c = true then tb σ H1 Q else Q (.bl false) H1
noncomputable def tNotV (ta : TE) : TE := fun σ H Q => ta σ H fun x H1 => ∃ c, x = .bl c /\ Q (.bl (!c)) H1
theorem pe_one {op} {t : TE} (h : PE X a t) : PE X (.BoolOp op [a] pos) t := fun pins s σ H Q I hw => BoolOp_one (h pins s σ H Q I hw)
theorem pe_and (ha : PE X a ta) (hb : PE X (.BoolOp .And (b :: rest) pos) tb) : PE X (.BoolOp .And (a :: b :: rest) pos) (tAndV ta tb) := by
  intro pins s σ H Q I h
  refine BoolOp_and (thn (ha pins s σ H _ I h) fun v s1 ⟨x, H1, I1, r1, q1⟩ => ?_)
  obtain ⟨c, rfl, q1⟩ := q1
  cases r1
  refine wpAny_truthy_bool ?_
  cases c with
  | true => exact hb pins s1 σ H1 Q I1 q1
  | false => exact ⟨.bl false, H1, I1, rfl, q1⟩
theorem pe_not (ha : PE X a ta) : PE X (.UnaryOp .Not a pos) (tNotV ta) := by
  intro pins s σ H Q I h
  refine UnaryOp_ (thn (ha pins s σ H _ I h) fun v s1 ⟨x, H1, I1, r1, q1⟩ => ?_)
  obtain ⟨c, rfl, q1⟩ := q1
  cases r1
  exact not_of (wpAny_truthy_bool ⟨.bl (!c), H1, I1, rfl, q1⟩)
end
noncomputable def SqL (K : PySem.W.Frag) (H : Hp) (a : Addr) (xs : List V) : Prop :=
  Rd H a (.lst xs) \/
    ∃ (o : Obj) (its : Array Value) (n : Nat), K.lookup a = some o /\ o.cls = .type "list" /\ o.dict = none /\ o.data = .seq its n /\ its.size <= sizeLine /\ Vals xs its.toList
noncomputable def SqT (K : PySem.W.Frag) (H : Hp) (a : Addr) (xs : List V) : Prop :=
  Rd H a (.tup xs) \/
    ∃ (o : Obj) (its : Array Value) (n : Nat), K.lookup a = some o /\ o.cls = .type "tuple" /\ o.data = .seq its n /\ its.size <= sizeLine /\ Vals xs its.toList
noncomputable def absV : Value -> Option V
  | .none => some .non
  | .bool b => some (.bl b)
  | .int i _ => some (.int i)
  | .str x _ => some (.str x)
  | .bytes b _ => some (.byt b)
  | .float b _ => some (.flt b)
  | .ref a => some (.ref a)
  | .type n => some (.ty n)
  | _ => none
theorem RelV.abs {x : V} (r : RelV x u) : absV u = some x := by
  cases x with
  | non => cases r; rfl
  | bl _ => cases r; rfl
  | int _ => obtain ⟨t, rfl⟩ := r; rfl
  | str _ => obtain ⟨t, rfl⟩ := r; rfl
  | byt _ => obtain ⟨t, rfl⟩ := r; rfl
  | flt _ => obtain ⟨t, rfl⟩ := r; rfl
  | ref _ => cases r; rfl
  | ty _ => cases r; rfl
theorem RelV.inj {x y : V} (r : RelV x u) (q : RelV y u) : x = y := Option.some.inj (r.abs.symm.trans q.abs)
theorem Vals.inj : ∀ {xs ys : List V} {us : List Value}, Vals xs us -> Vals ys us -> xs = ys
  | _, _, _, .nil, .nil => rfl
  | _, _, _, .cons r t, .cons r' t' => by rw [r.inj r', Vals.inj t t']
section
variable {X : Cx} {pins : List (Addr × Obj)} {σ : St} {H : Hp} {s : Shared} {a : Addr} {xs ys : List V}
theorem SqL.of (h : H a = some (.lst xs)) : SqL K H a xs := .inl (.inl h)
theorem SqT.of (h : H a = some (.tup xs)) : SqT K H a xs := .inl (.inl h)
theorem Inv.list (I : Inv X pins σ H s) (h : SqL X.K H a xs) : ∃ its : List Value, Vals xs its /\ PlainL s.heap a its.toArray /\ xs.length <= sizeLine := by
  rcases h with h | ⟨o, its, n, hk, hc, hd, hs, hz, r⟩
  . obtain ⟨z, its, n, r, e⟩ := h.ok I.hok
    exact ⟨its, r, ⟨_, n, e, rfl, rfl, rfl⟩, z⟩
  . refine ⟨its.toList, r, ⟨o, n, I.kIn a o hk, hc, hd, by simpa using hs⟩, ?_⟩
    have e := r.length
    simp only [Array.length_toList] at e
    lia
theorem Inv.tuple (I : Inv X pins σ H s) (h : SqT X.K H a xs) : ∃ its : List Value, Vals xs its /\ IsTup s.heap a its.toArray /\ xs.length <= sizeLine := by
  rcases h with h | ⟨o, its, n, hk, hc, hs, hz, r⟩
  . obtain ⟨z, its, r, p⟩ := h.ok I.hok
    exact ⟨its, r, p, z⟩
  . refine ⟨its.toList, r, ⟨o, I.kIn a o hk, hc, n, by simpa using hs⟩, ?_⟩
    have e := r.length
    simp only [Array.length_toList] at e
    lia
theorem Inv.list_inj (I : Inv X pins σ H s) (h : SqL X.K H a xs) (h' : SqL X.K H a ys) : xs = ys := by
  obtain ⟨its, r, ⟨o, n, e, _, _, d⟩, _⟩ := I.list h
  obtain ⟨its', r', ⟨o', n', e', _, _, d'⟩, _⟩ := I.list h'
  rw [e] at e'; cases e'
  rw [d] at d'
  injection d' with d1 _
  have : its = its' := by simpa using congrArg Array.toList d1
  subst this
  exact r.inj r'
theorem Inv.tuple_inj (I : Inv X pins σ H s) (h : SqT X.K H a xs) (h' : SqT X.K H a ys) : xs = ys := by
  obtain ⟨its, r, ⟨o, e, _, n, d⟩, _⟩ := I.tuple h
  obtain ⟨its', r', ⟨o', e', _, n', d'⟩, _⟩ := I.tuple h'
  rw [e] at e'; cases e'
  rw [d] at d'
  injection d' with d1 _
  have : its = its' := by simpa using congrArg Array.toList d1
  subst this
  exact r.inj r'
end
noncomputable abbrev Cx.wish (X : Cx) (E : Value -> Shared -> Prop) : Cx := { X with xe := E }
noncomputable abbrev Cx.nox (X : Cx) : Cx := X.wish fun _ _ => False
theorem Cx.Ok.wish (ok : X.Ok) (E : Value -> Shared -> Prop) : (X.wish E).Ok :=
  ⟨ok.mod, ok.kind, ok.glob, ok.blt, ok.above, ok.inj, ok.has, ok.cab, ok.hd, ok.frames, ok.stk, ok.exf, ok.bs, ok.bsz, ok.noex, ok.exfs, ok.funs, ok.frf⟩
theorem Cx.Ok.unwish (ok : (X.wish E).Ok) : X.Ok :=
  ⟨ok.mod, ok.kind, ok.glob, ok.blt, ok.above, ok.inj, ok.has, ok.cab, ok.hd, ok.frames, ok.stk, ok.exf, ok.bs, ok.bsz, ok.noex, ok.exfs, ok.funs, ok.frf⟩
section
variable {X : Cx} {pins : List (Addr × Obj)} {σ : St} {H : Hp} {s : Shared} {E : Value -> Shared -> Prop}
theorem Inv.wish (I : Inv X pins σ H s) (E : Value -> Shared -> Prop) : Inv (X.wish E) pins σ H s := ⟨I.ok.wish E, I.os, I.bare, I.base, I.loc, I.cell, I.free, I.freeC, I.pin, I.hok, I.len⟩
theorem Inv.unwish (I : Inv (X.wish E) pins σ H s) : Inv X pins σ H s := ⟨I.ok.unwish, I.os, I.bare, I.base, I.loc, I.cell, I.free, I.freeC, I.pin, I.hok, I.len⟩
theorem SP.unwish {D : Ends} {f : Flow} (h : SP (X.wish E) pins D f s') : SP X pins D f s' := by
  cases f with
  | next => obtain ⟨σ', H', I, q⟩ := h; exact ⟨σ', H', I.unwish, q⟩
  | brk => obtain ⟨σ', H', I, q⟩ := h; exact ⟨σ', H', I.unwish, q⟩
  | cont => obtain ⟨σ', H', I, q⟩ := h; exact ⟨σ', H', I.unwish, q⟩
  | ret u => obtain ⟨v, σ', H', I, r, q⟩ := h; exact ⟨v, σ', H', I.unwish, r, q⟩
theorem PSs.nox {st : List Stmt} {t : TS} (h : PSs X.nox st t) : PSs X st t := fun pins s σ H D I hw =>
  wpAny_mono (h pins s σ H D (I.wish _) hw) (fun _ _ q => q.unwish) fun _ _ z => False.elim z
end
section
variable {X : Cx} {st : Stmt} {rest : List Stmt} {t u : TS} {e : Expr} {te : TE} {pos : Pos}
noncomputable def tNext : TS := fun D σ H => D.nx σ H
noncomputable def tSeq (t u : TS) : TS := fun D σ H => t { D with nx := u D } σ H
theorem pss_nil : PSs X [] tNext := fun _ _ σ H _ I h => wpAny_execs_nil ⟨σ, H, I, h⟩
theorem pss_cons (h1 : PS X st t) (h2 : PSs X rest u) : PSs X (st :: rest) (tSeq t u) := by
  intro pins s σ H D I h
  refine wpAny_execs_cons (thn (h1 pins s σ H { D with nx := u D } I h) fun f s1 q => ?_)
  cases f with
  | next =>
    obtain ⟨σ', H', I', q⟩ := q
    exact h2 pins s1 σ' H' D I' q
  | ret v => exact q
  | brk => exact q
  | cont => exact q
theorem pss_one (h1 : PS X st t) : PSs X [st] t := by
  intro pins s σ H D I h
  refine wpAny_execs_cons (thn (h1 pins s σ H D I h) fun f s1 q => ?_)
  cases f with
  | next => exact wpAny_execs_nil q
  | ret v => exact q
  | brk => exact q
  | cont => exact q
theorem Inv.quiet (I : Inv X pins σ H s) : interactive X.env = false := by simp [interactive, I.ok.kind]
noncomputable def tDrop (te : TE) : TS := fun D σ H => te σ H fun _ H1 => D.nx σ H1
theorem ps_expr (he : PE X e te) (hs :autoParam (swapsWith e none pos.line X.env = pure false) zu2._auto_1) : PS X (.Expr e pos) (tDrop te) := by
  intro pins s σ H D I h
  exact wpAny_Expr_any (thn (he pins s σ H _ I h) fun v s1 ⟨x, H1, I1, r1, q1⟩ => ⟨σ, H1, I1, q1⟩) I.quiet hs
noncomputable def tRet (te : TE) : TS := fun D σ H => te σ H D.rt
theorem ps_ret (he : PE X e te) : PS X (.Return (some e) pos) (tRet te) := by
  intro pins s σ H D I h
  exact wpAny_Return_some (thn (he pins s σ H _ I h) fun v s1 ⟨x, H1, I1, r1, q1⟩ => ⟨x, σ, H1, I1, r1, q1⟩)
noncomputable def tIfS (c : TT) (t u : TS) : TS := fun D σ H => c σ H fun b H1 => if b = true then t D σ H1 else u D σ H1
theorem ps_if {a b : List Stmt} {tc : TT} (hc : PT X c tc) (ha : PSs X a t) (hb : PSs X b u) : PS X (.If c a b pos) (tIfS tc t u) := by
  intro pins s σ H D I h
  refine wpAny_If (thn (hc pins s σ H _ I h) fun d s1 ⟨H1, I1, q1⟩ => ?_)
  cases d with
  | true => exact ha pins s1 σ H1 D I1 q1
  | false => exact hb pins s1 σ H1 D I1 q1
noncomputable def tNever : TS := fun _ _ _ => False
theorem ps_never : PS X st tNever := fun _ _ _ _ _ _ h => h.elim
end
noncomputable abbrev TG := V -> St -> Hp -> (St -> Hp -> Prop) -> Prop
noncomputable abbrev TGs := List V -> St -> Hp -> (St -> Hp -> Prop) -> Prop
noncomputable def PG (X : Cx) (target : Expr) (t : TG) : Prop :=
  ∀ (pins : List (Addr × Obj)) (s : Shared) (σ : St) (H : Hp) (v : V) (u : Value) (Q : St -> Hp -> Prop), Inv X pins σ H s -> RelV v u -> t v σ H Q ->
    wpAny (model X.prog X.w) X.A (assign target X.env u) (fun _ s' => ∃ σ' H', Inv X pins σ' H' s' /\ Q σ' H') X.xe s
noncomputable def PGs (X : Cx) (ts : List Expr) (t : TGs) : Prop :=
  ∀ (pins : List (Addr × Obj)) (s : Shared) (σ : St) (H : Hp) (vs : List V) (us : List Value) (Q : St -> Hp -> Prop), Inv X pins σ H s -> Vals vs us -> t vs σ H Q ->
    wpAny (model X.prog X.w) X.A (assignInOrder ((assignEach ts X.env).map (·.2)) us) (fun _ s' => ∃ σ' H', Inv X pins σ' H' s' /\ Q σ' H') X.xe s
noncomputable abbrev TSet := V -> V -> V -> Hp -> (Hp -> Prop) -> Prop
noncomputable def PSet (X : Cx) (t : TSet) : Prop :=
  ∀ (pins : List (Addr × Obj)) (s : Shared) (σ : St) (H : Hp) (o i v : V) (ov iv u : Value) (Q : Hp -> Prop), Inv X pins σ H s -> RelV o ov -> RelV i iv -> RelV v u -> t o i v H Q ->
    wpAny (model X.prog X.w) X.A (setItem ov iv u) (fun _ s' => ∃ H', Inv X pins σ H' s' /\ Q H') X.xe s
section
variable {X : Cx} {pos : Pos}
noncomputable def gName (i : Nat) : TG := fun v σ H Q => Q (σ.set i (some v)) H
theorem pg_name (hN : X.N.Nodup) (hi : X.N[i]? = some x) (hx : Loc X.env.scope x) (hf :autoParam (X.fn x = true \/ X.env.scope.names.lookup x = some .local) zu0._auto_1) : PG X (.Name x pos) (gName i) := by
  intro pins s σ H v u Q I r h
  exact wpAny_assign_Name (store_ok I hN hi hx r (fun s' I' => ⟨_, H, I', h⟩) hf)
noncomputable def gNil : TGs := fun vs σ H Q => vs = [] /\ Q σ H
noncomputable def gCons (t : TG) (u : TGs) : TGs := fun vs σ H Q => ∃ v r, vs = v :: r /\ t v σ H fun σ' H' => u r σ' H' Q
theorem pgs_nil : PGs X [] gNil := by
  intro pins s σ H vs us Q I r h
  obtain ⟨e, h⟩ := h
  subst e
  cases r
  exact assignInOrder_nil ⟨σ, H, I, h⟩
theorem pgs_cons {t : TG} {u : TGs} (h1 : PG X e t) (h2 : PGs X es u)
    (hs :autoParam ((assignEach (e :: es) X.env).map (·.2) = assign e X.env :: (assignEach es X.env).map (·.2)) zu2._auto_1) : PGs X (e :: es) (gCons t u) := by
  intro pins s σ H vs us Q I r h
  obtain ⟨v, vr, e1, h⟩ := h
  subst e1
  cases r with
  | cons r rr =>
    rw [hs]
    refine assignInOrder_cons (thn (h1 pins s σ H _ _ _ I r h) fun _ s1 ⟨σ1, H1, I1, q1⟩ => ?_)
    exact h2 pins s1 σ1 H1 _ _ Q I1 rr q1
noncomputable def gTup (K : PySem.W.Frag) (n : Nat) (t : TGs) : TG := fun v σ H Q => ∃ a xs, v = .ref a /\ SqT K H a xs /\ xs.length = n /\ t xs σ H Q
theorem pg_tup {t : TGs} (hc : X.calm = true) (h : PGs X es t)
    (hn :autoParam ((assignEach es X.env).length = n) zu2._auto_1) (hst :autoParam ((assignEach es X.env).findIdx? (·.1) = none) zu2._auto_1) : PG X (.Tuple es k pos) (gTup X.K n t) := by
  intro pins s σ H v u Q I r hw
  obtain ⟨a, xs, e1, hq, hl, hw⟩ := hw
  subst e1
  cases r
  obtain ⟨its, rv, ht, hz⟩ := I.tuple hq
  refine assign_Tuple_tuple (I.ok.hd hc) ht (by simp [hn, <- hl, rv.length]) hst fun h' hx => ?_
  have I1 : Inv X pins σ H { s with heap := h' } := I.kept (t' := s.toks) fun b o e => hx b o (Nat.ne_of_lt (Heap.lt_size e)) e
  exact h pins _ σ H xs _ Q I1 (by simpa using rv) hw
noncomputable def gSub (to ti : TE) (t : TSet) : TG := fun v σ H Q => to σ H fun o H1 => ti σ H1 fun i H2 => t o i v H2 fun H3 => Q σ H3
theorem pg_sub {o i : Expr} {to ti : TE} (ho : PE X o to) (hi : PE X i ti) (hs : PSet X t)
    (ha :autoParam (∀ v, assign (.Subscript o i pos) X.env v = (do
      let ov <- holding [v] (eval o X.env)
      let iv <- holding [v, ov] (eval i X.env)
      standAt pos
      holding [v, ov, iv] (setItem ov iv v)
      release [v, ov, iv] [])) zu3._auto_1) : PG X (.Subscript o i pos) (gSub to ti t) := by
  intro pins s σ H v u Q I r h
  rw [ha]
  refine wpAny_bind (wpAny_holding (thn (ho pins s σ H _ I h) fun ov s1 ⟨x, H1, I1, r1, q1⟩ => ?_))
  refine wpAny_bind (wpAny_holding (thn (hi pins s1 σ H1 _ I1 q1) fun iv s2 ⟨y, H2, I2, r2, q2⟩ => ?_))
  refine wpAny_bind (wpAny_standAt (wpAny_bind (wpAny_holding (thn (hs pins s2 σ H2 x y v ov iv u _ I2 r1 r2 r q2) fun _ s3 ⟨H3, I3, q3⟩ => ?_))))
  exact wpAny_release ⟨σ, H3, I3, q3⟩
noncomputable def tAsg (te : TE) (g : TG) : TS := fun D σ H => te σ H fun x H1 => g x σ H1 D.nx
theorem ps_asg {g : TG} (he : PE X e te) (hg : PG X tg g) (hs :autoParam (swapsWithSole [tg] e pos.line X.env = pure false) zu2._auto_1) (hw :autoParam (swappedStores [tg] e X.env = pure none) zu2._auto_1)
    (h1 :autoParam ((assignEach [tg] X.env).map (·.2) = [assign tg X.env]) zu2._auto_1) : PS X (.Assign [tg] e pos) (tAsg te g) := by
  intro pins s σ H D I h
  refine wpAny_Assign_stores (thn (he pins s σ H _ I h) fun v s1 ⟨x, H1, I1, r1, q1⟩ => ?_) hs hw
  rw [h1]
  exact thn (hg pins s1 σ H1 x v _ I1 r1 q1) fun _ s2 q => q
theorem ps_set {pos' : Pos} (hN : X.N.Nodup) (hi : X.N[i]? = some x) (hx : Loc X.env.scope x) (he : PE X e te) (hs :autoParam (swapsWith e (some (.Name x pos')) pos.line X.env = pure false) zu2._auto_1) (hf :autoParam (X.fn x = true \/ X.env.scope.names.lookup x = some .local) zu0._auto_1) :
    PS X (.Assign [.Name x pos'] e pos) (tAsg te (gName i)) := by
  intro pins s σ H D I h
  refine wpAny_Assign_Name (thn (he pins s σ H _ I h) fun v s1 ⟨y, H1, I1, r1, q1⟩ => ?_) hs
  exact store_ok I1 hN hi hx r1 (fun s2 I2 => ⟨_, H1, I2, q1⟩) hf
end
structure It where
  go : Nat -> Hp -> Prop
  yld : Nat -> Hp -> V -> Hp -> Prop
  stop : Nat -> Hp -> Prop
noncomputable def FpOk (X : Cx) (pins : List (Addr × Obj)) (H : Hp) (b : Addr) : Prop :=
  H b = none /\ b ≠ X.env.locals /\ b ∉ X.fs /\ (b ∈ X.ex \/ X.s₀.heap.objs.size <= b) /\ (∀ x c, X.env.cells.lookup x = some c -> c ≠ b) /\ ∀ p ∈ X.pn ++ pins, p.1 ≠ b
theorem Inv.fpOk {H H' : Hp} (I : Inv X pins σ H s) (hb : s.heap.objs.size <= b) (hn : H' b = none) : FpOk X pins H' b := by
  refine ⟨hn, Nat.ne_of_gt (Nat.lt_of_lt_of_le I.lt hb), I.nofs hb, .inr (Nat.le_trans I.sz hb), fun x c e z => ?_, fun p hp z => ?_⟩
  . obtain ⟨v, q⟩ := I.cell x c e
    exact absurd (Nat.lt_of_lt_of_le q.lt (by rw [z]; exact hb)) (Nat.lt_irrefl _)
  . exact absurd (Nat.lt_of_lt_of_le (Heap.lt_size (I.pin p hp).1) (by rw [z]; exact hb)) (Nat.lt_irrefl _)
structure Turn (P : Program) (w : World) (K : PySem.W.Frag) (tg : Expr) (J : It) (fp : List Addr) (it : Addr) (tn : Nat -> Heap -> Prop) : Prop where
  mem : it ∈ fp
  obj : ∀ i h, tn i h -> ∀ b ∈ fp, ∃ o, h.get? b = some o /\ ∀ v, o.data ≠ .cell v
  keep : ∀ i h h', tn i h -> (∀ b ∈ fp, ∀ o, h.get? b = some o -> h'.get? b = some o) -> tn i h'
  item : ∀ (X : Cx), X.prog = P -> X.w = w -> X.K = K -> X.calm = true -> ∀ (i : Nat) (pins : List (Addr × Obj)) (s : Shared) (σ : St) (H : Hp) (E : Value -> Shared -> Prop), Inv X pins σ H s -> (∀ b ∈ fp, FpOk X pins H b) -> tn i s.heap -> J.go i H ->
    wpAny (model P w) X.A (pyNext (.ref it)) (fun r s1 => ∃ u, r = some u /\
      wpAny (model P w) X.A (letOwnedTupleGo tg (.ref it) u) (fun _ s2 => ∃ x H', Inv X pins σ H' s2 /\ RelV x u /\ J.yld i H x H' /\ tn (i + 1) s2.heap /\ ∀ b ∈ fp, H' b = none) E s1) E s
  done : ∀ (X : Cx), X.prog = P -> X.w = w -> X.K = K -> X.calm = true -> ∀ (i : Nat) (pins : List (Addr × Obj)) (s : Shared) (σ : St) (H : Hp) (E : Value -> Shared -> Prop), Inv X pins σ H s -> (∀ b ∈ fp, FpOk X pins H b) -> tn i s.heap -> J.stop i H ->
    wpAny (model P w) X.A (pyNext (.ref it)) (fun r s1 => r = none /\ Inv X pins σ H s1) E s
  self : ∀ (A : Around) (i : Nat) (s : Shared) (Q : Value -> Shared -> Prop) (E : Value -> Shared -> Prop), tn i s.heap -> Q (.ref it) s -> wpAny (model P w) A (pyIter (.ref it)) Q E s
noncomputable abbrev TI := St -> Hp -> (It -> Hp -> Prop) -> Prop
noncomputable def PIE (X : Cx) (pins : List (Addr × Obj)) (σ : St) (tg : Expr) (R : It -> Hp -> Prop) (itv : Value) (s2 : Shared) : Prop :=
  ∃ (it : Addr) (fp : List Addr) (tn : Nat -> Heap -> Prop) (J : It) (H' : Hp), itv = .ref it /\ Inv X pins σ H' s2 /\ Turn X.prog X.w X.K tg J fp it tn /\ tn 0 s2.heap /\ (∀ b ∈ fp, FpOk X pins H' b) /\ R J H'
noncomputable def PI (X : Cx) (tg iter : Expr) (wi : TI) : Prop :=
  ∀ (pins : List (Addr × Obj)) (s : Shared) (σ : St) (H : Hp) (R : It -> Hp -> Prop), Inv X pins σ H s -> wi σ H R ->
    wpAny (model X.prog X.w) X.A (eval iter X.env) (fun v s1 => wpAny (model X.prog X.w) X.A (pyIter v) (PIE X pins σ tg R) X.xe s1) X.xe s
theorem go_of {M : Model} {o : Obj} {n : String} {vs : Array Value} (ho : s.heap.get? it = some o) (hc : o.cls = .type n) (hd : o.data = .fields vs)
    (hn : ["enumerate", "zip", "dict_itemiterator", "dict_reverseitemiterator", "odict_iterator", "itertools.zip_longest", "itertools.pairwise"].contains n = false) (hQ : Q () s) : wpAny M A (letOwnedTupleGo tg (.ref it) u) Q E s := by
  unfold letOwnedTupleGo
  cases tg <;> first
    | exact wpAny_pure hQ
    | (cases u <;> first
        | exact wpAny_pure hQ
        | (refine wpAny_bind (wpAny_load ho ?_)
           rw [hc, hd]
           show wpAny M A (if (["enumerate", "zip", "dict_itemiterator", "dict_reverseitemiterator", "odict_iterator", "itertools.zip_longest", "itertools.pairwise"].contains n && vs[0]? == some (rawInt _)) = true then _ else _) Q E s
           rw [if_neg (by intro h; rw [hn, Bool.false_and] at h; cases h)]
           exact wpAny_pure hQ))
noncomputable def Itl (K : PySem.W.Frag) (a : Addr) : It :=
  ⟨fun i H => ∃ xs x, SqL K H a xs /\ xs[i]? = some x, fun i H x H' => H' = H /\ ∀ xs, SqL K H a xs -> xs[i]? = some x, fun i H => ∃ xs, SqL K H a xs /\ xs.length <= i⟩
noncomputable def Itt (K : PySem.W.Frag) (a : Addr) : It :=
  ⟨fun i H => ∃ xs x, SqT K H a xs /\ xs[i]? = some x, fun i H x H' => H' = H /\ ∀ xs, SqT K H a xs -> xs[i]? = some x, fun i H => ∃ xs, SqT K H a xs /\ xs.length <= i⟩
noncomputable def Itr (lo : Int) (n : Nat) : It := ⟨fun i _ => i < n, fun i H x H' => H' = H /\ x = .int (lo + i), fun i _ => n <= i⟩
theorem turn_list {P : Program} (a it : Addr) : Turn P w K tg (Itl K a) [it] it (fun i h => h.IsListIter it a i) where
  mem := by simp
  obj := fun i h st b hb => by
    have e : b = it := by simpa using hb
    subst e
    obtain ⟨o, e, c, d⟩ := st
    exact ⟨o, e, fun v z => by rw [d] at z; cases z⟩
  keep := fun i h h' st k => st.at fun o e => k it (by simp) o e
  item := by
    intro X hP hw hK hc i pins s σ H E I hf st hg
    subst hP hw hK
    obtain ⟨xs, x, hq, hx⟩ := hg
    obtain ⟨its, rv, p, hz⟩ := I.list hq
    obtain ⟨u, hu, ru⟩ := rv.get hx
    obtain ⟨f0, f1, f2, f3, f4, f5⟩ := hf it (by simp)
    refine wpAny_pyNext_list_item st p.isList (x := u) (by simpa using hu) fun h' st' sb => ?_
    have I1 : Inv X pins σ H { s with heap := h' } := I.turned (t' := s.toks) (fun b o hb e => (sb.2 b hb).trans e) f0 f1 f3 f4 f5
    obtain ⟨o, e, c, d⟩ := id st'
    exact ⟨u, rfl, go_of (s := { s with heap := h' }) e c d (by decide) ⟨x, H, I1, ru, ⟨rfl, fun ys hy => by rw [I.list_inj hy hq]; exact hx⟩, st', fun b hb => (hf b hb).1⟩⟩
  done := by
    intro X hP hw hK hc i pins s σ H E I hf st hg
    subst hP hw hK
    obtain ⟨xs, hq, hx⟩ := hg
    obtain ⟨its, rv, p, hz⟩ := I.list hq
    obtain ⟨f0, f1, f2, f3, f4, f5⟩ := hf it (by simp)
    have hl := rv.length
    exact wpAny_pyNext_list_end (I.ok.hd hc) st p.isList (by simp; lia) fun h' eb => ⟨rfl, I.turned (t' := s.toks) (fun b o hb e => eb b o hb e) f0 f1 f3 f4 f5⟩
  self := fun _ _ _ _ _ st h => wpAny_pyIter_listiter st h
theorem turn_tuple {P : Program} (a it : Addr) : Turn P w K tg (Itt K a) [it] it (fun i h => h.IsTupleIter it a i) where
  mem := by simp
  obj := fun i h st b hb => by
    have e : b = it := by simpa using hb
    subst e
    obtain ⟨o, e, c, d⟩ := st
    exact ⟨o, e, fun v z => by rw [d] at z; cases z⟩
  keep := fun i h h' st k => st.at fun o e => k it (by simp) o e
  item := by
    intro X hP hw hK hc i pins s σ H E I hf st hg
    subst hP hw hK
    obtain ⟨xs, x, hq, hx⟩ := hg
    obtain ⟨its, rv, p, hz⟩ := I.tuple hq
    obtain ⟨u, hu, ru⟩ := rv.get hx
    obtain ⟨f0, f1, f2, f3, f4, f5⟩ := hf it (by simp)
    refine wpAny_pyNext_tuple_item st (show s.heap.IsTuple a its.toArray from p) (x := u) (by simpa using hu) fun h' st' sb => ?_
    have I1 : Inv X pins σ H { s with heap := h' } := I.turned (t' := s.toks) (fun b o hb e => (sb.2 b hb).trans e) f0 f1 f3 f4 f5
    obtain ⟨o, e, c, d⟩ := id st'
    exact ⟨u, rfl, go_of (s := { s with heap := h' }) e c d (by decide) ⟨x, H, I1, ru, ⟨rfl, fun ys hy => by rw [I.tuple_inj hy hq]; exact hx⟩, st', fun b hb => (hf b hb).1⟩⟩
  done := by
    intro X hP hw hK hc i pins s σ H E I hf st hg
    subst hP hw hK
    obtain ⟨xs, hq, hx⟩ := hg
    obtain ⟨its, rv, p, hz⟩ := I.tuple hq
    obtain ⟨f0, f1, f2, f3, f4, f5⟩ := hf it (by simp)
    have hl := rv.length
    exact wpAny_pyNext_tuple_end (I.ok.hd hc) st (show s.heap.IsTuple a its.toArray from p) (by simp; lia) fun h' eb => ⟨rfl, I.turned (t' := s.toks) (fun b o hb e => eb b o hb e) f0 f1 f3 f4 f5⟩
  self := fun _ _ _ _ _ st h => wpAny_pyIter_tupleiter st h
theorem turn_range {P : Program} {w : World} (it : Addr) (lo : Int) (n : Nat) : Turn P w K tg (Itr lo n) [it] it (fun i h => IsRangeIter h it (lo + (i : Nat) * 1) ((n : Int) - (i : Nat)) 1) where
  mem := by simp
  obj := fun i h st b hb => by
    have e : b = it := by simpa using hb
    subst e
    exact ⟨_, st, fun v z => by
      have z' : Data.fields _ = Data.cell v := z
      cases z'⟩
  keep := fun i h h' st k => k it (by simp) _ st
  item := by
    intro X hP hw hK hc i pins s σ H E I hf st hg
    subst hP hw hK
    obtain ⟨f0, f1, f2, f3, f4, f5⟩ := hf it (by simp)
    have W := Walks.range (prog := X.prog) (w := X.w) (I.ok.hd hc) it lo 1 n
    refine W.item i s _ _ hg st fun v h' tk hv st' kk => ?_
    obtain ⟨t, rfl⟩ := hv
    have I1 : Inv X pins σ H { s with heap := h', toks := tk } := I.turned (fun b o hb e => kk b o (by simpa using hb) e) f0 f1 f3 f4 f5
    refine ⟨_, rfl, go_of (s := { s with heap := h', toks := tk }) (n := "range_iterator") st' rfl rfl (by decide) ⟨.int (lo + i), H, I1, ⟨t, ?_⟩, ⟨rfl, rfl⟩, st', fun b hb => (hf b hb).1⟩⟩
    rw [Int.mul_one]
  done := by
    intro X hP hw hK hc i pins s σ H E I hf st hg
    subst hP hw hK
    obtain ⟨f0, f1, f2, f3, f4, f5⟩ := hf it (by simp)
    exact wpAny_pyNext_range_end (I.ok.hd hc) st (by have : n <= i := hg; lia) fun h' eb => ⟨rfl, I.turned (t' := s.toks) (fun b o hb e => eb b o hb e) f0 f1 f3 f4 f5⟩
  self := fun _ _ _ _ _ st h => wpAny_pyIter_rangeiter st h
section
variable {X : Cx} {tg : Expr}
noncomputable def iTup (K : PySem.W.Frag) (tl : TE) : TI := fun σ H R => tl σ H fun x H1 => ∃ a, x = .ref a /\ (∃ xs, SqT K H1 a xs) /\ R (Itt K a) H1
theorem pi_tup {tl : TE} (hl : PE X l tl) : PI X tg l (iTup X.K tl) := by
  intro pins s σ H R I h
  refine thn (hl pins s σ H _ I h) fun v s1 ⟨x, H1, I1, r1, q1⟩ => ?_
  obtain ⟨a, e, ⟨xs, hq⟩, q⟩ := q1
  subst e
  cases r1
  obtain ⟨its, rv, p, hz⟩ := I1.tuple hq
  refine wpAny_pyIter_tuple (show s1.heap.IsTuple a its.toArray from p) ?_
  refine ⟨s1.heap.objs.size, [s1.heap.objs.size], _, _, H1, rfl, I1.kept (t' := s1.toks) fun b o e => Heap.get?_push_of_some _ e, turn_tuple a _, ⟨_, Heap.get?_push_size _ rfl, rfl, rfl⟩, fun b hb => ?_, q⟩
  have e : b = s1.heap.objs.size := by simpa using hb
  subst e
  exact I1.fpOk (Nat.le_refl _) (I1.hok.fresh (Nat.le_refl _))
theorem range_it {R : It -> Hp -> Prop} {lo hi : Int} {t u v : Tok} {tk : Nat} (I : Inv X pins σ H s) (h1 : -(2 ^ 62) <= lo) (h2 : lo < 2 ^ 62) (h3 : -(2 ^ 62) <= hi) (h4 : hi < 2 ^ 62)
    (q : R (Itr lo (hi - lo).toNat) H) : wpAny (model X.prog X.w) X.A (pyIter (.ref s.heap.objs.size)) (PIE X pins σ tg R) E { s with heap := s.heap.push { cls := .type "range", data := .fields #[.int lo t, .int hi u, .int 1 v] }, toks := tk } := by
  refine wpAny_pyIter_range (IsRange.new ..) (small_one h1 h2 h3 h4) ?_
  have I1 : Inv X pins σ H { s with heap := s.heap.push { cls := .type "range", data := .fields #[.int lo t, .int hi u, .int 1 v] }, toks := tk } := I.kept fun b o e => Heap.get?_push_of_some _ e
  refine ⟨(s.heap.push { cls := .type "range", data := .fields #[.int lo t, .int hi u, .int 1 v] }).objs.size, [(s.heap.push { cls := .type "range", data := .fields #[.int lo t, .int hi u, .int 1 v] }).objs.size], _, _, H, rfl,
    I1.kept (t' := tk) fun b o e => Heap.get?_push_of_some _ e, turn_range _ lo (hi - lo).toNat, ?_, fun b hb => ?_, q⟩
  . have e1 : lo + ((0 : Nat) : Int) * 1 = lo := by simp
    have e2 : (((hi - lo).toNat : Nat) : Int) - ((0 : Nat) : Int) = Builtin.Range.rangeSize lo hi 1 := by rw [rangeSize_one]; split <;> lia
    show IsRangeIter _ _ (lo + ((0 : Nat) : Int) * 1) ((((hi - lo).toNat : Nat) : Int) - ((0 : Nat) : Int)) 1
    rw [e1, e2]
    exact Heap.get?_push_size _ rfl
  . have e : b = (s.heap.push { cls := .type "range", data := .fields #[.int lo t, .int hi u, .int 1 v] }).objs.size := by simpa using hb
    subst e
    exact I1.fpOk (Nat.le_refl _) (I1.hok.fresh (Nat.le_refl _))
noncomputable def iRng1 (ta : TA) : TI := fun σ H R => ta σ H fun vs H1 => ∃ j : Int, vs = [.int j] /\ -(2 ^ 62) <= j /\ j < 2 ^ 62 /\ R (Itr 0 j.toNat) H1
theorem pi_range1 {a : Expr} {ta : TA} {p pos : Pos} (hg : Gl X "range") (hm : X.mg "range" = none) (ha : PA X [a] ta) (hs :autoParam (starEach [a] X.env = [(false, eval a X.env)]) zu2._auto_1) : PI X tg (.Call (.Name "range" p) [a] [] pos) (iRng1 ta) := by
  intro pins s σ H R I h
  refine Call_ (ld_blt I hg hm boot_range (PyProof.Rows.callWith_type1 (thn (ha pos pins s σ H _ I h) fun us s1 ⟨vs, H1, I1, r1, q1⟩ => ?_) hs rfl))
  obtain ⟨j, e, q1, q2, q⟩ := q1
  subst e
  cases r1 with
  | cons r rr =>
    cases rr
    obtain ⟨t, rfl⟩ := r
    exact call_range_1 (range_it I1 (by lia) (by lia) q1 q2 (by simpa using q))
noncomputable def tFor (wi : TI) (g : TG) (tb : TS) : TS := fun D σ H => wi σ H fun J H1 => ∃ W : Nat -> Nat -> St -> Hp -> Prop, (∃ m, W 0 m σ H1) /\ ∀ i m σ H, W i m σ H ->
  (J.stop i H /\ D.nx σ H) \/ (J.go i H /\ ∃ N : St -> Hp -> Prop, (∀ σ' H', N σ' H' -> ∃ m', m' < m /\ W (i + 1) m' σ' H') /\ ∀ x H', J.yld i H x H' -> g x σ H' fun σ2 H2 => tb { D with nx := N, ct := N, bk := D.nx } σ2 H2)
noncomputable def pinsAt (fp : List Addr) (h : Heap) : List (Addr × Obj) := fp.filterMap fun b => (h.get? b).map fun o => (b, o)
theorem mem_pinsAt {o : Obj} (hb : b ∈ fp) (e : h.get? b = some o) : (b, o) ∈ pinsAt fp h := List.mem_filterMap.mpr ⟨b, hb, by rw [e]; rfl⟩
theorem of_pinsAt (hp : p ∈ pinsAt fp h) : p.1 ∈ fp /\ h.get? p.1 = some p.2 := by
  obtain ⟨b, hb, e⟩ := List.mem_filterMap.mp hp
  cases q : h.get? b with
  | none => rw [q] at e; cases e
  | some o =>
    rw [q] at e
    have e' : (b, o) = p := Option.some.inj e
    subst e'
    exact ⟨hb, q⟩
theorem Inv.pinned (I : Inv X pins σ H s) (hf : ∀ b ∈ fp, FpOk X pins H b) (ho : ∀ b ∈ fp, ∃ o, s.heap.get? b = some o /\ ∀ v, o.data ≠ .cell v) : Inv X (pins ++ pinsAt fp s.heap) σ H s :=
  I.pins_of fun p hp => (List.mem_append.mp hp).elim (fun z => I.pin p (List.mem_append_right _ z)) fun z => by
    obtain ⟨hb, e⟩ := of_pinsAt z
    obtain ⟨f0, f1, f2, _⟩ := hf p.1 hb
    obtain ⟨o, e', d⟩ := ho p.1 hb
    rw [e] at e'; cases e'
    exact ⟨e, f0, f1, f2, d⟩
theorem Inv.unpinned (I : Inv X (pins ++ pl) σ H s) : Inv X pins σ H s := I.pins_of fun p hp => I.pin p (List.mem_append_right _ (List.mem_append_left _ hp))
theorem ps_for {iter : Expr} {wi : TI} {g : TG} {tb : TS} (hp : PassesOwn (model X.prog X.w) X.A X.env X.xe) (hc : X.calm = true) (hi : PI X tg iter wi) (hg : PG X tg g) (hb : PSs X body tb)
    (hs :autoParam (∀ x, foldedSetIterable iter X.env x = pure x) zu3._auto_1) : PS X (.For tg iter body [] pos) (tFor wi g tb) := by
  intro pins s σ H D I h
  refine wpAny_For (thn (hi pins s σ H _ I h) fun v s1 h1 => thn h1 fun itv s2 h2 => ?_) hs
  obtain ⟨it, fp, tn, J, H2, e, I2, T, st2, f2, W, ⟨m0, w0⟩, turn⟩ := h2
  subst e
  have stat : ∀ {H' : Hp}, (∀ b ∈ fp, H' b = none) -> ∀ b ∈ fp, FpOk X pins H' b := fun hn b hb => ⟨hn b hb, (f2 b hb).2⟩
  refine codeAny_forLoop_any (fun n s' => ∃ i σ' H', Inv X pins σ' H' s' /\ tn i s'.heap /\ (∀ b ∈ fp, H' b = none) /\ W i n σ' H') ?_ m0 ⟨0, σ, H2, I2, st2, fun b hb => (f2 b hb).1, w0⟩
  rintro n s3 ⟨i, σ3, H3, I3, st3, fr3, w3⟩
  rcases turn i n σ3 H3 w3 with ⟨stop, qn⟩ | ⟨go, N, hN, step⟩
  . refine wpAny_passesOwn hp (thn (T.done X rfl rfl rfl hc i pins s3 σ3 H3 X.xe I3 (stat fr3) st3 stop) fun r s4 ⟨hr, I4⟩ => ?_)
    subst hr
    exact wpAny_execs_nil ⟨σ3, H3, I4, qn⟩
  . refine wpAny_passesOwn hp (thn (T.item X rfl rfl rfl hc i pins s3 σ3 H3 X.xe I3 (stat fr3) st3 go) fun r s4 ⟨u, hr, h4⟩ => ?_)
    subst hr
    refine wpAny_passesOwn hp (thn h4 fun _ s5 ⟨x, H5, I5, r5, y5, st5, fr5⟩ => ?_)
    have I5' := I5.pinned (stat fr5) (T.obj _ _ st5)
    refine wpAny_passesOwn hp (thn (hg _ s5 σ3 H5 x u _ I5' r5 (step x H5 y5)) fun _ s6 ⟨σ6, H6, I6, q6⟩ => ?_)
    refine wpAny_passesOwn hp (thn (hb _ s6 σ6 H6 _ I6 q6) fun f s7 q7 => ?_)
    have again : ∀ {σ7 : St} {H7 : Hp}, Inv X (pins ++ pinsAt fp s5.heap) σ7 H7 s7 -> N σ7 H7 -> ∃ m, m < n /\ ∃ i σ' H', Inv X pins σ' H' s7 /\ tn i s7.heap /\ (∀ b ∈ fp, H' b = none) /\ W i m σ' H' := fun {σ7 H7} I7 n7 => by
      obtain ⟨m', hm, w7⟩ := hN σ7 H7 n7
      refine ⟨m', hm, i + 1, σ7, H7, I7.unpinned, T.keep _ _ _ st5 fun b hb o e => (I7.pin (b, o) (List.mem_append_right _ (List.mem_append_right _ (mem_pinsAt hb e)))).1, fun b hb => ?_, w7⟩
      obtain ⟨o, e, d⟩ := T.obj _ _ st5 b hb
      exact (I7.pin (b, o) (List.mem_append_right _ (List.mem_append_right _ (mem_pinsAt hb e)))).2.1
    cases f with
    | next => obtain ⟨σ7, H7, I7, n7⟩ := q7; exact again I7 n7
    | cont => obtain ⟨σ7, H7, I7, n7⟩ := q7; exact again I7 n7
    | brk => obtain ⟨σ7, H7, I7, q7⟩ := q7; exact ⟨σ7, H7, I7.unpinned, q7⟩
    | ret v => obtain ⟨x7, σ7, H7, I7, r7, q7⟩ := q7; exact ⟨x7, σ7, H7, I7.unpinned, r7, q7⟩
end
noncomputable abbrev R2 := V -> V -> Hp -> VK -> Prop
noncomputable def OpR (X : Cx) (f : Value -> Value -> Sem Value) (r : R2) : Prop :=
  ∀ (pins : List (Addr × Obj)) (s : Shared) (σ : St) (H : Hp) (x y : V) (v u : Value) (Q : VK), Inv X pins σ H s -> RelV x v -> RelV y u -> r x y H Q ->
    wpAny (model X.prog X.w) X.A (f v u) (EP X pins σ Q) X.xe s
noncomputable def UnR (X : Cx) (f : Value -> Sem Value) (r : V -> Hp -> VK -> Prop) : Prop :=
  ∀ (pins : List (Addr × Obj)) (s : Shared) (σ : St) (H : Hp) (x : V) (v : Value) (Q : VK), Inv X pins σ H s -> RelV x v -> r x H Q ->
    wpAny (model X.prog X.w) X.A (f v) (EP X pins σ Q) X.xe s
noncomputable def CallR (X : Cx) (f : Value) (r : List V -> Hp -> VK -> Prop) : Prop :=
  ∀ (pins : List (Addr × Obj)) (s : Shared) (σ : St) (H : Hp) (xs : List V) (us : List Value) (Q : VK), Inv X pins σ H s -> Vals xs us -> r xs H Q ->
    wpAny (model X.prog X.w) X.A (call f us) (EP X pins σ Q) X.xe s
noncomputable def TruR (X : Cx) (r : V -> Hp -> (Bool -> Hp -> Prop) -> Prop) : Prop :=
  ∀ (pins : List (Addr × Obj)) (s : Shared) (σ : St) (H : Hp) (x : V) (v : Value) (Q : Bool -> Hp -> Prop), Inv X pins σ H s -> RelV x v -> r x H Q ->
    wpAny (model X.prog X.w) X.A (truthy v) (TP X pins σ Q) X.xe s
noncomputable def tOp (r : R2) (ta tb : TE) : TE := fun σ H Q => ta σ H fun x H1 => tb σ H1 fun y H2 => r x y H2 Q
noncomputable def tUn (r : V -> Hp -> VK -> Prop) (ta : TE) : TE := fun σ H Q => ta σ H fun x H1 => r x H1 Q
noncomputable def rI (C : Int -> Int -> Prop) (g : Int -> Int -> V) : R2 := fun x y H Q => ∃ i j, x = .int i /\ y = .int j /\ C i j /\ Q (g i j) H
noncomputable def rI0 (g : Int -> Int -> V) : R2 := fun x y H Q => ∃ i j, x = .int i /\ y = .int j /\ Q (g i j) H
noncomputable def rU (g : Int -> V) : V -> Hp -> VK -> Prop := fun x H Q => ∃ i, x = .int i /\ Q (g i) H
section
variable {X : Cx} {a b c : Expr} {ta tb tc : TE} {pos : Pos}
theorem binT (ha : PE X a ta) (hb : PE X b tb) {R : V -> V -> Hp -> Prop} (I : Inv X pins σ H s)
    (h : ta σ H fun x H1 => tb σ H1 fun y H2 => R x y H2) {Q : Value -> Shared -> Prop} {f : Value -> Value -> Sem Value}
    (hf : ∀ v u s2 x y H2, Inv X pins σ H2 s2 -> RelV x v -> RelV y u -> R x y H2 -> wpAny (model X.prog X.w) X.A (f v u) Q X.xe s2) :
    wpAny (model X.prog X.w) X.A (eval a X.env) (fun v s₁ => wpAny (model X.prog X.w) X.A (eval b X.env) (fun u s₂ => wpAny (model X.prog X.w) X.A (f v u) Q X.xe s₂) X.xe s₁) X.xe s := by
  refine thn (ha pins s σ H _ I h) fun v s1 ⟨x, H1, I1, r1, q1⟩ => ?_
  refine thn (hb pins s1 σ H1 _ I1 q1) fun u s2 ⟨y, H2, I2, r2, q2⟩ => ?_
  exact hf v u s2 x y H2 I2 r1 r2 q2
theorem pe_op {op : Operator} {r : R2} (ho : OpR X (binaryOp op) r) (ha : PE X a ta) (hb : PE X b tb) : PE X (.BinOp a op b pos) (tOp r ta tb) := by
  intro pins s σ H Q I h
  exact wpAny_BinOp (binT ha hb I h fun v u s2 x y H2 I2 rx ry q => ho pins s2 σ H2 x y v u Q I2 rx ry q)
theorem pe_un {op : UnaryOp} (ho : UnR X (unaryOp op) r) (ha : PE X a ta) : PE X (.UnaryOp op a pos) (tUn r ta) := by
  intro pins s σ H Q I h
  exact UnaryOp_ (thn (ha pins s σ H _ I h) fun v s1 ⟨x, H1, I1, r1, q1⟩ => ho pins s1 σ H1 x v Q I1 r1 q1)
theorem opI 
    (rule : ∀ (i j : Int) (t u : Tok) (s : Shared) (Q : Value -> Shared -> Prop) (E : Value -> Shared -> Prop), C i j -> Q (.int (g i j) s.toks) { s with toks := s.toks + 1 } -> wpAny (model X.prog X.w) X.A (f (.int i t) (.int j u)) Q E s) :
    OpR X f (rI C fun i j => .int (g i j)) := by
  intro pins s σ H x y v u Q I rx ry h
  obtain ⟨i, j, rfl, rfl, hc, q⟩ := h
  obtain ⟨t, rfl⟩ := rx
  obtain ⟨t', rfl⟩ := ry
  exact rule i j t t' s _ _ hc ⟨.int (g i j), H, I.tok _, ⟨_, rfl⟩, q⟩
theorem opI0 
    (rule : ∀ (i j : Int) (t u : Tok) (s : Shared) (Q : Value -> Shared -> Prop) (E : Value -> Shared -> Prop), Q (.int (g i j) s.toks) { s with toks := s.toks + 1 } -> wpAny (model X.prog X.w) X.A (f (.int i t) (.int j u)) Q E s) :
    OpR X f (rI0 fun i j => .int (g i j)) := by
  intro pins s σ H x y v u Q I rx ry h
  obtain ⟨i, j, rfl, rfl, q⟩ := h
  obtain ⟨t, rfl⟩ := rx
  obtain ⟨t', rfl⟩ := ry
  exact rule i j t t' s _ _ ⟨.int (g i j), H, I.tok _, ⟨_, rfl⟩, q⟩
theorem opB0 {g : Int -> Int -> Bool}
    (rule : ∀ (i j : Int) (t u : Tok) (s : Shared) (Q : Value -> Shared -> Prop) (E : Value -> Shared -> Prop), Q (.bool (g i j)) s -> wpAny (model X.prog X.w) X.A (f (.int i t) (.int j u)) Q E s) :
    OpR X f (rI0 fun i j => .bl (g i j)) := by
  intro pins s σ H x y v u Q I rx ry h
  obtain ⟨i, j, rfl, rfl, q⟩ := h
  obtain ⟨t, rfl⟩ := rx
  obtain ⟨t', rfl⟩ := ry
  exact rule i j t t' s _ _ ⟨.bl (g i j), H, I, rfl, q⟩
noncomputable def CPow (i j : Int) : Prop := 0 <= j /\ j <= 1000000 /\ i.natAbs < 2 ^ 64
theorem op_add : OpR X (binaryOp .Add) (rI0 fun i j => .int (i + j)) := opI0 fun _ _ _ _ _ _ _ q => add_int q
theorem op_sub : OpR X (binaryOp .Sub) (rI0 fun i j => .int (i - j)) := opI0 fun _ _ _ _ _ _ _ q => sub_int q
theorem op_mod : OpR X (binaryOp .Mod) (rI (fun _ j => 0 < j) fun i j => .int (i % j)) := opI fun i j _ _ _ _ _ hc q => by
  have h1 : (0 : Int) < j := hc
  exact mod_int' (by lia) (by rw [Int.fmod_eq_emod_of_nonneg i (by lia)]; exact q)
theorem op_pow : OpR X (binaryOp .Pow) (rI CPow fun i j => .int (i ^ j.toNat)) := opI fun _ _ _ _ _ _ _ hc q => pow_int_small hc.1 hc.2.1 hc.2.2 q
theorem unI {f : Value -> Sem Value} {g : Int -> Int}
    (rule : ∀ (i : Int) (t : Tok) (s : Shared) (Q : Value -> Shared -> Prop) (E : Value -> Shared -> Prop), Q (.int (g i) s.toks) { s with toks := s.toks + 1 } -> wpAny (model X.prog X.w) X.A (f (.int i t)) Q E s) :
    UnR X f (rU fun i => .int (g i)) := by
  intro pins s σ H x v Q I rx h
  obtain ⟨i, rfl, q⟩ := h
  obtain ⟨t, rfl⟩ := rx
  exact rule i t s _ _ ⟨.int (g i), H, I.tok _, ⟨_, rfl⟩, q⟩
theorem un_neg : UnR X (unaryOp .USub) (rU fun i => .int (-i)) := unI fun _ _ _ _ _ q => neg_int q
end
section
variable {X : Cx} {a b c : Expr} {ta tb tc : TE} {pos : Pos}
theorem fin_bl {Q : VK} {k k' : Bool} (I : Inv X pins σ H s) (q : Q (.bl k) H) (e : k = k') : EP X pins σ Q (.bool k') s := by
  subst e
  exact ⟨.bl k, H, I, rfl, q⟩
theorem op_lt : OpR X (compareOp .Lt) (rI0 fun i j => .bl (decide (i < j))) := opB0 fun _ _ _ _ _ _ _ q => lt_int q
theorem op_le : OpR X (compareOp .LtE) (rI0 fun i j => .bl (decide (i <= j))) := opB0 fun _ _ _ _ _ _ _ q => le_int q
theorem op_gt : OpR X (compareOp .Gt) (rI0 fun i j => .bl (decide (j < i))) := opB0 fun _ _ _ _ _ _ _ q => gt_int q
theorem op_ge : OpR X (compareOp .GtE) (rI0 fun i j => .bl (decide (j <= i))) := opB0 fun _ _ _ _ _ _ _ q => ge_int q
theorem op_notN : OpR X (compareOp .IsNot) (fun x y H Q => y = .non /\ Q (.bl (!decide (x = .non))) H) := by
  intro pins s σ H x y v u Q I rx ry h
  obtain ⟨rfl, q⟩ := h
  cases ry
  refine isnot_none_gen (fin_bl I q ?_)
  cases x <;> first
    | (cases rx; rfl)
    | (obtain ⟨t, rfl⟩ := rx; rfl)
noncomputable def isObj : HO -> Bool
  | .lst _ => true
  | .ins _ _ _ => true
  | _ => false
theorem obj_there {a : Addr} (I : Inv X pins σ H s) (h : H a = some o) (p : isObj o = true) : ∃ ob, s.heap.get? a = some ob /\ ob.cls ≠ .type "tuple" := by
  cases o with
  | lst xs =>
    obtain ⟨_, its, n, _, e⟩ : xs.length <= sizeLine /\ ∃ (its : List Value) (n : Nat), Vals xs its /\ s.heap.get? a = some { cls := .type "list", data := .seq its.toArray n } := I.hok a _ h
    exact ⟨_, e, (by show Value.type "list" ≠ .type "tuple"; decide +kernel)⟩
  | ins C dx fs =>
    have x := I.hok a _ h
    obtain ⟨_, _, _, e, _⟩ := x
    exact ⟨_, e, (by show Value.ref C ≠ .type "tuple"; exact fun z => by cases z)⟩
  | _ => exact absurd (show false = true from p) Bool.false_ne_true
theorem OpR.or {r r' : R2} (h : OpR X f r) (h' : OpR X f r') : OpR X f (fun x y H Q => r x y H Q \/ r' x y H Q) := by
  intro pins s σ H x y v u Q I rx ry q
  rcases q with q | q
  . exact h pins s σ H x y v u Q I rx ry q
  . exact h' pins s σ H x y v u Q I rx ry q
theorem nomark (b : Expr) (h :autoParam (op ≠ .In) zu1._auto_1) (h2 :autoParam (op ≠ .NotIn) zu1._auto_1) : behindInMarks op b = false := by
  have e1 : (op == CmpOp.In) = false := by cases op <;> first | rfl | exact absurd rfl h
  have e2 : (op == CmpOp.NotIn) = false := by cases op <;> first | rfl | exact absurd rfl h2
  cases b <;> simp [behindInMarks, e1, e2]
theorem pe_cmpR {r : R2} (ho : OpR X (compareOp op) r) (ha : PE X a ta) (hb : PE X b tb) (hm : behindInMarks op b = false) : PE X (.Compare a [op] [b] pos) (tOp r ta tb) := by
  intro pins s σ H Q I h
  exact wpAny_Compare1 (binT ha hb I h fun v u s2 x y H2 I2 rx ry q => ho pins s2 σ H2 x y v u Q I2 rx ry q) hm
noncomputable def tTest (t : TE) : TT := fun σ H Q => t σ H fun x H' => ∃ k, x = .bl k /\ Q k H'
theorem pt_cmpR {r : R2} (ho : OpR X (compareOp op) r) (ha : PE X a ta) (hb : PE X b tb) (hm : behindInMarks op b = false) : PT X (.Compare a [op] [b] pos) (tTest (tOp r ta tb)) := by
  intro pins s σ H Q I h
  refine wpAny_isTrue_Compare1 (thn (ha pins s σ H _ I h) fun v s1 ⟨x, H1, I1, r1, q1⟩ => thn (hb pins s1 σ H1 _ I1 q1) fun u s2 ⟨y, H2, I2, r2, q2⟩ =>
    thn (ho pins s2 σ H2 x y v u _ I2 r1 r2 q2) fun c s3 ⟨z, H3, I3, r3, k, e, q3⟩ => ?_) hm
  subst e
  cases r3
  exact wpAny_truthy_bool ⟨H3, I3, q3⟩
noncomputable def tChain (r r' : R2) (ta tb tc : TE) : TE := fun σ H Q => ta σ H fun x H1 => tb σ H1 fun y H2 => r x y H2 fun z H3 => ∃ k, z = .bl k /\
  (if k = true then tc σ H3 fun w' H4 => r' y w' H4 Q else Q (.bl false) H3)
theorem pe_chain {op op' : CmpOp} {r r' : R2} (ho : OpR X (compareOp op) r) (ho' : OpR X (compareOp op') r') (ha : PE X a ta) (hb : PE X b tb) (hc : PE X c tc)
    (hm :autoParam (lastMarks [op, op'] [b, c] = false) zu4._auto_1) : PE X (.Compare a [op, op'] [b, c] pos) (tChain r r' ta tb tc) := by
  intro pins s σ H Q I h
  refine Compare_chain (thn (ha pins s σ H _ I h) fun v s1 ⟨x, H1, I1, r1, q1⟩ => chain_link (thn (hb pins s1 σ H1 _ I1 q1) fun u s2 ⟨y, H2, I2, r2, q2⟩ =>
    thn (ho pins s2 σ H2 x y v u _ I2 r1 r2 q2) fun d s3 ⟨z, H3, I3, r3, k, e, q3⟩ => ?_)) hm
  subst e
  cases r3
  refine wpAny_truthy_bool ?_
  cases k with
  | false => exact ite_ff ⟨.bl false, H3, I3, rfl, q3⟩
  | true => exact ite_tt (chain_last (thn (hc pins s3 σ H3 _ I3 q3) fun w' s4 ⟨z', H4, I4, r4, q4⟩ => ho' pins s4 σ H4 y z' u w' Q I4 r2 r4 q4))
noncomputable def TruV (K : PySem.W.Frag) (x : V) (H : Hp) (k : Bool) : Prop :=
  match x with
  | .non => k = false
  | .bl b => k = b
  | .int i => k = (i != 0)
  | .str y => y.length <= sizeLine /\ k = ((y.length : Int) != 0)
  | .byt y => y.size <= sizeLine /\ k = ((y.size : Int) != 0)
  | .ref p => (∃ xs, SqL K H p xs /\ k = !xs.isEmpty) \/ (∃ xs, SqT K H p xs /\ k = !xs.isEmpty) \/ ∃ kvs, H p = some (.dK kvs) /\ k = !kvs.isEmpty
  | _ => False
theorem isEmpty_kv {κ : Type} {kvs : List (κ × V)} {vs : List (κ × Value)} (r : KV kvs vs) : (!vs.isEmpty) = !kvs.isEmpty := by
  cases r <;> rfl
theorem isEmpty_of (r : Vals xs its) : (!its.toArray.isEmpty) = !xs.isEmpty := by
  cases r <;> simp
theorem line63 : (sizeLine : Nat) < 2 ^ 63 := by rw [sizeLine_eq]; decide
theorem tru_ok : TruR X (fun x H Q => ∃ k, TruV X.K x H k /\ Q k H) := by
  intro pins s σ H x v Q I rx h
  obtain ⟨k, e, q⟩ := h
  have hl := line63
  have hs : sizeLine = 16777216 := sizeLine_eq
  cases x with
  | non =>
    cases rx
    have e' : k = false := e
    subst e'
    exact truthy_none ⟨H, I, q⟩
  | bl b =>
    cases rx
    have e' : k = b := e
    subst e'
    exact wpAny_truthy_bool ⟨H, I, q⟩
  | int i =>
    obtain ⟨t, rfl⟩ := rx
    have e' : k = (i != 0) := e
    subst e'
    exact PySem.P.truthy_int ⟨H, I, q⟩
  | str y =>
    obtain ⟨t, rfl⟩ := rx
    obtain ⟨hy, e'⟩ : y.length <= sizeLine /\ k = ((y.length : Int) != 0) := e
    subst e'
    exact PySem.P.truthy_str (by lia) ⟨H, I.tok _, q⟩
  | byt y =>
    obtain ⟨t, rfl⟩ := rx
    obtain ⟨hy, e'⟩ : y.size <= sizeLine /\ k = ((y.size : Int) != 0) := e
    subst e'
    exact PySem.W.truthy_bytes (by lia) ⟨H, I.tok _, q⟩
  | ref p =>
    cases rx
    have e' : (∃ xs, SqL X.K H p xs /\ k = !xs.isEmpty) \/ (∃ xs, SqT X.K H p xs /\ k = !xs.isEmpty) \/ ∃ kvs, H p = some (.dK kvs) /\ k = !kvs.isEmpty := e
    rcases e' with ⟨xs, hx, e'⟩ | ⟨xs, hx, e'⟩ | ⟨kvs, hx, e'⟩
    . subst e'
      obtain ⟨its, r, pl, hz⟩ := I.list hx
      have hlen := r.length
      exact wpAny_truthy_list pl.isList (by simp only [List.size_toArray]; lia) ⟨H, I.tok _, by rw [isEmpty_of r]; exact q⟩
    . subst e'
      obtain ⟨its, r, pl, hz⟩ := I.tuple hx
      have hlen := r.length
      exact truthy_tuple pl (by simp only [List.size_toArray]; lia) ⟨H, I.tok _, by rw [isEmpty_of r]; exact q⟩
    . subst e'
      obtain ⟨hz, hS, vs, r, m⟩ : kvs.length <= sizeLine /\ (p == sysModules) = false /\ ∃ vs, KV kvs vs /\ s.heap.DictOf (mixKind X.prog X.w) p vs := I.hok p _ hx
      have hlen : kvs.length = vs.length := Paired.length r
      exact wpAny_truthy_dict hS m (by lia) ⟨H, I.tok _, by rw [isEmpty_kv r]; exact q⟩
  | _ => exact (show False from e).elim
theorem pt_truth (ha : PE X a ta) (he : ∀ whole, isTrue a X.env whole = (do let v <- whole; standAt a.pos; holding [v] (truthy v))) :
    PT X a (fun σ H Q => ta σ H fun x H' => ∃ k, TruV X.K x H' k /\ Q k H') := by
  intro pins s σ H Q I h
  exact isTrue_plain (thn (ha pins s σ H _ I h) fun v s1 ⟨x, H1, I1, r1, q1⟩ => tru_ok pins s1 σ H1 x v Q I1 r1 q1) (he _)
theorem op_add_str : OpR X (binaryOp .Add) (fun x y H Q => ∃ i j, x = .str i /\ y = .str j /\ i.length + j.length <= sizeLine /\ Q (.str (i ++ j)) H) := by
  intro pins s σ H x y v u Q I rx ry h
  obtain ⟨i, j, rfl, rfl, hz, q⟩ := h
  obtain ⟨t, rfl⟩ := rx
  obtain ⟨t', rfl⟩ := ry
  exact add_str (fun t' tk => ⟨.str (i ++ j), H, I.tok _, ⟨_, rfl⟩, q⟩) hz
theorem vals1 {x : V} (r : Vals [x] us) : ∃ u, us = [u] /\ RelV x u := by
  cases r with
  | cons r1 r2 => cases r2; exact ⟨_, rfl, r1⟩
theorem vals2 {x y : V} (r : Vals [x, y] us) : ∃ u w', us = [u, w'] /\ RelV x u /\ RelV y w' := by
  cases r with
  | cons r1 r2 =>
    cases r2 with
    | cons r3 r4 => cases r4; exact ⟨_, _, rfl, r1, r3⟩
theorem call_max2 (hc : X.calm = true) : CallR X (.builtin "max") (fun xs H Q => ∃ i j, xs = [.int i, .int j] /\ Q (.int (if j > i then j else i)) H) := by
  intro pins s σ H xs us Q I r h
  obtain ⟨i, j, rfl, q⟩ := h
  obtain ⟨u, w', rfl, ⟨t, rfl⟩, ⟨t', rfl⟩⟩ := vals2 r
  refine max_two_ints (I.ok.hd hc) fun h' tk k => ⟨_, H, I.kept k, ?_, q⟩
  by_cases hj : j > i
  . rw [if_pos hj, if_pos hj]; exact ⟨_, rfl⟩
  . rw [if_neg hj, if_neg hj]; exact ⟨_, rfl⟩
theorem call_min2 (hc : X.calm = true) : CallR X (.builtin "min") (fun xs H Q => ∃ i j, xs = [.int i, .int j] /\ Q (.int (if j < i then j else i)) H) := by
  intro pins s σ H xs us Q I r h
  obtain ⟨i, j, rfl, q⟩ := h
  obtain ⟨u, w', rfl, ⟨t, rfl⟩, ⟨t', rfl⟩⟩ := vals2 r
  refine min_two_ints (I.ok.hd hc) fun h' tk k => ⟨_, H, I.kept k, ?_, q⟩
  by_cases hj : j < i
  . rw [if_pos hj, if_pos hj]; exact ⟨_, rfl⟩
  . rw [if_neg hj, if_neg hj]; exact ⟨_, rfl⟩
theorem call_int1 : CallR X (.type "int") (fun xs H Q => (∃ i, xs = [.int i] /\ Q (.int i) H) \/ ∃ k, xs = [.bl k] /\ Q (.int (if k then 1 else 0)) H) := by
  intro pins s σ H xs us Q I r h
  rcases h with ⟨i, rfl, q⟩ | ⟨k, rfl, q⟩
  . obtain ⟨u, rfl, t, rfl⟩ := vals1 r
    exact call_int_int ⟨.int i, H, I, ⟨_, rfl⟩, q⟩
  . obtain ⟨u, rfl, r1⟩ := vals1 r
    cases r1
    exact call_int_bool ⟨.int (if k then 1 else 0), H, I.tok _, ⟨_, rfl⟩, q⟩
end
structure ObjM (h : Heap) (x dx C : Addr) (mA : Str -> Option Value) : Prop where
  obj : h.get? x = some (PySem.W.instObj C dx)
  ns : h.Ns1 dx mA
  ne : dx ≠ x
theorem lookIn_ns (n : h.Ns1 dx mA) : ∃ od, h.get? dx = some od /\ ∀ name, PySem.W.lookIn name od = some (mA name) := by
  obtain ⟨o, es, ep, ho, hd, hk, _, hm⟩ := n
  refine ⟨o, ho, fun name => ?_⟩
  have e := hm name
  unfold nsFind findBy at e
  rw [<- Array.find?_toList] at e
  unfold PySem.W.lookIn
  rw [hd]
  dsimp only
  split
  . rename_i y q
    rw [q] at e
    exact congrArg some e
  . rename_i q
    rw [q] at e
    have a : es.toList.any (·.refKey) = false := by
      rw [List.any_eq_false]
      intro y hy
      obtain ⟨z, t, hkey⟩ := hk y (Array.mem_toList_iff.mp hy)
      simp [DictEntry.refKey, hkey]
    have a' : ¬ es.toList.any (·.refKey) = true := by rw [a]; exact Bool.false_ne_true
    rw [if_neg a']
    exact congrArg some e
theorem ObjM.look {x dx C : Addr} (I : ObjM h x dx C mA) : ∃ od, PySem.W.InstAt h x (PySem.W.instObj C dx) C (some od) /\ ∀ name, PySem.W.lookIn name od = some (mA name) :=
  let ⟨od, ho, hl⟩ := lookIn_ns I.ns
  ⟨od, ⟨I.obj, rfl, rfl, ho⟩, hl⟩
section
variable {P : Program} {w : World} {H H' : Hp} {h h' : Heap} {a C dx : Addr} {fs fs' : List (Str × V)}
theorem ins_get (hok : HOk P w H h) (e : H a = some (.ins C dx fs)) : ∃ mA, ObjM h a dx C mA /\ (∀ f, RelO (fs.lookup f) (mA f)) /\ PySem.Within mA (fs.map (·.1)) /\ fs.length <= 1000 /\ H dx = some (.own a) := by
  obtain ⟨d, z, ne, ob, mA, n, r, q⟩ := (show ObjOk P w H h a (.ins C dx fs) from hok a _ e)
  exact ⟨mA, ⟨ob, n, ne⟩, r, q, z, d⟩
end
structure Cls (K : PySem.W.Frag) (C : Addr) : Prop where
  pg : PySem.W.plainGet K C Str.empty = true
  hd : PySem.W.hasDictIn K C = true
  po : PySem.W.plainOver K C = true
  sa : PySem.W.findIn K (.ref C) "__setattr__" = some (some (.builtin "object.__setattr__"))
theorem Cls.get {C : Addr} (c : Cls K C) (f : Str) : PySem.W.plainGet K C f = true := c.pg
section
variable {X : Cx} {pins : List (Addr × Obj)} {σ : St} {H : Hp} {s : Shared} {A : Around} {E : Value -> Shared -> Prop} {Q : Value -> Shared -> Prop} {c : Value} {b : Bool}
inductive TyOf (K : PySem.W.Frag) (H : Hp) : V -> Value -> Prop where
  | non : TyOf K H .non (.type "NoneType")
  | bl (x : Bool) : TyOf K H (.bl x) (.type "bool")
  | int (i : Int) : TyOf K H (.int i) (.type "int")
  | str (x : Str) : TyOf K H (.str x) (.type "str")
  | flt (x : UInt64) : TyOf K H (.flt x) (.type "float")
  | lst {a : Addr} {xs : List V} (e : H a = some (.lst xs)) : TyOf K H (.ref a) (.type "list")
  | frz {a : Addr} {o : Obj} {xs : List V} (e : H a = some (.frz o (.lst xs))) : TyOf K H (.ref a) (.type "list")
  | tup {a : Addr} {xs : List V} (e : H a = some (.tup xs)) : TyOf K H (.ref a) (.type "tuple")
  | dK {a : Addr} {kvs : List (Key × V)} (e : H a = some (.dK kvs)) : TyOf K H (.ref a) (.type "dict")
  | dT {a : Addr} {kvs : List (List Key × V)} (e : H a = some (.dT kvs)) : TyOf K H (.ref a) (.type "dict")
  | ins {a C dx : Addr} {fs : List (Str × V)} (e : H a = some (.ins C dx fs)) (cl : Cls K C) (ha : PySem.W.findIn K (.ref C) "__class__" = some (some (.builtin "object.__class__")))
      (hn : PySem.W.specialIn K (.builtin "object.__class__") "__get__" = some (some (.builtin "getset_descriptor.__get__"))) (htk : PySem.W.takesIn K (.builtin "object.__class__") = some true)
      (hm : PySem.W.mroIn K C (.type "object") = some true) : TyOf K H (.ref a) (.ref C)
theorem isinst_ok {x : V} {u t : Value} (I : Inv X pins σ H s) (rx : RelV x u) (ty : TyOf X.K H x t) (e : PySem.W.kitOne X.K t c = some b) (h : ∀ tk, Q (.bool b) { s with toks := tk }) :
    wpAny (model X.prog X.w) A (call (.builtin "isinstance") [u, c]) Q E s := by
  cases ty with
  | non => cases (show u = Value.none from rx); exact PySem.W.kia_one PySem.W.kitx_none I.kIn True.intro e (fun z => nomatch z) h
  | bl y => cases (show u = Value.bool y from rx); exact PySem.W.kia_one PySem.W.kitx_bool I.kIn True.intro e (fun z => nomatch z) h
  | int i => obtain ⟨t, q⟩ := (show ∃ t, u = Value.int i t from rx); cases q; exact PySem.W.kia_one PySem.W.kitx_int I.kIn True.intro e (fun z => nomatch z) h
  | str y => obtain ⟨t, q⟩ := (show ∃ t, u = Value.str y t from rx); cases q; exact PySem.W.kia_one PySem.W.kitx_str I.kIn True.intro e (fun z => nomatch z) h
  | flt y => obtain ⟨t, q⟩ := (show ∃ t, u = Value.float y t from rx); cases q; exact PySem.W.kia_one PySem.W.kitx_float I.kIn True.intro e (fun z => nomatch z) h
  | @lst a xs ea =>
    cases (show u = Value.ref a from rx)
    obtain ⟨_, _, n, _, h1⟩ := (show ObjOk X.prog X.w H s.heap a (.lst xs) from I.hok a _ ea)
    exact PySem.W.kia_one PySem.W.kitx_list I.kIn ⟨_, h1, rfl⟩ e (fun z => nomatch z) h
  | @frz a ob xs ea =>
    cases (show u = Value.ref a from rx)
    obtain ⟨_, _, _, n, _, h1⟩ := (show ObjOk X.prog X.w H s.heap a (.frz ob (.lst xs)) from I.hok a _ ea)
    exact PySem.W.kia_one PySem.W.kitx_list I.kIn ⟨_, h1, rfl⟩ e (fun z => nomatch z) h
  | @tup a xs ea =>
    cases (show u = Value.ref a from rx)
    obtain ⟨_, _, _, p⟩ := (show ObjOk X.prog X.w H s.heap a (.tup xs) from I.hok a _ ea)
    obtain ⟨o, h1, h2, _⟩ := p
    exact PySem.W.kia_one PySem.W.kitx_tuple I.kIn ⟨o, h1, h2⟩ e (fun z => nomatch z) h
  | @dK a kvs ea =>
    cases (show u = Value.ref a from rx)
    obtain ⟨_, _, vs, _, p⟩ := (show ObjOk X.prog X.w H s.heap a (.dK kvs) from I.hok a _ ea)
    obtain ⟨o, es, ep, h1, h2, _⟩ := p
    exact PySem.W.kia_one PySem.W.kitx_dict I.kIn ⟨o, h1, h2.1⟩ e (fun z => nomatch z) h
  | @dT a kvs ea =>
    cases (show u = Value.ref a from rx)
    obtain ⟨_, _, xs, _, o, es, ep, h1, h2, _⟩ := (show ObjOk X.prog X.w H s.heap a (.dT kvs) from I.hok a _ ea)
    exact PySem.W.kia_one PySem.W.kitx_dict I.kIn ⟨o, h1, h2.1⟩ e (fun z => nomatch z) h
  | @ins a C dx fs ea cl ha hn htk hm =>
    cases (show u = Value.ref a from rx)
    obtain ⟨mA, O, _⟩ := ins_get I.hok ea
    obtain ⟨od, J, _⟩ := O.look
    exact PySem.W.kia_one (PySem.W.kitx_own (cl.get _) cl.hd ha hn htk hm) I.kIn J e (fun z => nomatch z) h
end
structure Room (k : Nat) (A : Around) : Prop where
  hd : A.handled = none
  dp : A.depth + 3 * k + 5 < recursionLimit
  un : A.units + 16 * k + 200 < cLine
  gd : A.guards = some []
theorem Room.mono (r : Room k A) (h : j <= k) : Room j A := ⟨r.hd, by have := r.dp; lia, by have := r.un; lia, r.gd⟩
theorem Room.deeper (r : Room (k + 1) A) (env : Env) : Room k (A.deeper env) :=
  ⟨r.hd, by have := r.dp; show A.depth + 1 + 3 * k + 5 < _; lia, by have := r.un; show A.units + 3 + 16 * k + 200 < _; lia, r.gd⟩
theorem Room.depth (r : Room k A) : A.depth < recursionLimit := by have := r.dp; lia
theorem Room.units (r : Room k A) : A.units + 64 < cLine := by have := r.un; lia
noncomputable def tNil : TA := fun _ H Q => Q [] H
noncomputable def tCons (ta : TE) (tr : TA) : TA := fun σ H Q => ta σ H fun x H1 => tr σ H1 fun xs H2 => Q (x :: xs) H2
section
variable {X : Cx} {e : Expr} {es : List Expr} {te : TE} {t : TA} {pos : Pos}
theorem pa_nil : PA X [] tNil := fun _ _ _ _ H Q I h => Calls.spliced_nil ⟨[], H, I, .nil, h⟩
theorem pa_cons (ha : PE X e te) (hr : PA X es t) (hs :autoParam (starEach (e :: es) X.env = (false, eval e X.env) :: starEach es X.env) zu2._auto_1) : PA X (e :: es) (tCons te t) := by
  intro pos pins s σ H Q I h
  rw [hs]
  show wpAny _ _ (spliced ((false, eval e X.env) :: backTo pos (starEach es X.env))) _ _ s
  refine Calls.spliced_cons (thn (ha pins s σ H _ I h) fun u s1 ⟨x, H1, I1, r1, q1⟩ => ?_)
  exact thn (hr pos pins s1 σ H1 _ I1 q1) fun us s2 ⟨xs, H2, I2, r2, q2⟩ => ⟨x :: xs, H2, I2, .cons r1 r2, q2⟩
noncomputable def tTup (t : TA) : TE := fun σ H Q => t σ H fun xs H1 => xs.length <= sizeLine /\ ∀ p, H1 p = none -> Q (.ref p) (upd H1 p (.tup xs))
noncomputable def tLst (t : TA) : TE := fun σ H Q => t σ H fun xs H1 => xs.length <= sizeLine /\ ∀ p, H1 p = none -> Q (.ref p) (upd H1 p (.lst xs))
theorem pe_tup {x1} (h : PA X es t) : PE X (.Tuple es x1 pos) (tTup t) := by
  intro pins s σ H Q I hq
  refine wpAny_Tuple_spliced (thn (h pos pins s σ H _ I hq) fun us s1 ⟨xs, H1, I1, r, z, q⟩ => ⟨by rw [<- r.length]; exact z, ?_⟩)
  have hf : H1 s1.heap.objs.size = none := I1.hok.fresh (Nat.le_refl _)
  refine ⟨.ref s1.heap.objs.size, upd H1 s1.heap.objs.size (.tup xs), I1.laid (t' := s1.toks) (fun b u e => Heap.get?_push_of_some _ e) (Nat.le_refl _) ?_, rfl, q _ hf⟩
  exact ⟨z, us, r, ⟨_, Heap.get?_push_size _ rfl, rfl, _, rfl⟩⟩
theorem pe_lst (h : PA X es t) : PE X (.List es pos) (tLst t) := by
  intro pins s σ H Q I hq
  refine wpAny_List_spliced (thn (h pos pins s σ H _ I hq) fun us s1 ⟨xs, H1, I1, r, z, q⟩ => ⟨by rw [<- r.length]; exact z, ?_⟩)
  have hf : H1 s1.heap.objs.size = none := I1.hok.fresh (Nat.le_refl _)
  refine ⟨.ref s1.heap.objs.size, upd H1 s1.heap.objs.size (.lst xs), I1.laid (t' := s1.toks) (fun b u e => Heap.get?_push_of_some _ e) (Nat.le_refl _) ?_, rfl, q _ hf⟩
  exact ⟨z, us, 0, r, Heap.get?_push_size _ rfl⟩
end
noncomputable abbrev Sp := List V -> Hp -> VK -> XK -> Prop
noncomputable abbrev CXT := List Env -> Hp -> Shared -> XK -> Value -> Shared -> Prop
structure Env0 (P : Program) (w : World) (K : PySem.W.Frag) (mg : Str -> Option Value) (base : Heap) (A : Around) (outer : List Env) (s : Shared) (H : Hp) : Prop where
  frames : A.frames = some outer
  mod : Mod K mg base
  bs : ∀ b o, base.get? b = some o -> s.heap.get? b = some o /\ H b = none
  bsz : base.objs.size <= s.heap.objs.size
  funs : s.heap.FunFrames base outer
  frf : ∀ b ∈ frs outer, H b = none
  hok : HOk P w H s.heap
  bare : AllBare s.gens
noncomputable def CE (outer : List Env) (P : Program) (w : World) (H : Hp) (s : Shared) (Q : VK) (u : Value) (s' : Shared) : Prop :=
  ∃ v H', s'.os = s.os /\ AllBare s'.gens /\ Un (frs outer) [] H H' s.heap s'.heap /\ HOk P w H' s'.heap /\ RelV v u /\ Q v H'
noncomputable def CR (CX : CXT) (outer : List Env) (P : Program) (w : World) (H : Hp) (s : Shared) (Q : VK) (E : XK) (r : Result) (s' : Shared) : Prop :=
  match r with
  | .ok (.ret u) => CE outer P w H s Q u s'
  | .ok _ => False
  | .error e => CX outer H s E e s'
structure FnOk (P : Program) (w : World) (K : PySem.W.Frag) (mg : Str -> Option Value) (base : Heap) (CX : CXT) (k : Nat) (f : Addr) (fd : FuncData) (ps : List Str) (sp : Sp) : Prop where
  len : ∀ vs H Q E, sp vs H Q E -> vs.length = ps.length
  run : ∀ (A : Around) (outer : List Env) (s : Shared) (H : Hp) (args : Args) (us : List Value) (vs : List V) (Q : VK) (E : XK), Room k A -> Env0 P w K mg base A outer s H -> BindsTo s fd args (ps.zip us) -> Vals vs us -> sp vs H Q E ->
    codeAny (model P w) A (.call (.ref f) args) (CR CX outer P w H s Q E) s
section
variable {X : Cx} {pins : List (Addr × Obj)} {σ : St} {H : Hp} {s s' : Shared}
theorem Inv.env0 (I : Inv X pins σ H s) : Env0 X.prog X.w X.K X.mg X.base X.A X.stack s H :=
  ⟨I.ok.frames, I.ok.mod, I.bs, Nat.le_trans I.ok.bsz I.sz, I.stack, I.stkFree, I.hok, I.bare⟩
theorem Inv.after {Q : VK} (I : Inv X pins σ H s) (h : CE X.stack X.prog X.w H s Q u s') : EP X pins σ Q u s' := by
  obtain ⟨v, H', os, bare, un, hok, r, q⟩ := h
  obtain ⟨hh, g, d, t, os'⟩ := s'
  obtain rfl : os' = s.os := os
  exact ⟨v, H', I.call (h' := hh) (g' := g) (d' := d) (t' := t) (ch := []) un hok bare (fun b z => absurd z (by simp)), r, q⟩
end
noncomputable def tCall (sp : Sp) (dvs : List V) (E : XK) (t : TA) : TE := fun σ H Q => t σ H fun vs H1 => sp (vs ++ dvs) H1 Q E
noncomputable def Binds (K : PySem.W.Frag) (fd : FuncData) (ps : List Str) (ds : List Value) : Prop :=
  ∀ (s : Shared) (us : List Value), K.In s.heap -> (us ++ ds).length = ps.length -> BindsTo s fd ⟨us, []⟩ (ps.zip (us ++ ds))
theorem Binds.all (h : ∀ us : List Value, us.length = ps.length -> bindArgs fd ⟨us, []⟩ = pure (ps.zip us)) : Binds K fd ps [] := fun s us _ hl => by
  rw [List.append_nil] at hl ⊢
  exact .of_eq (h us hl)
noncomputable def Passes (CX : CXT) (X : Cx) (E : XK) : Prop := ∀ (pins : List (Addr × Obj)) (σ : St) (H : Hp) (s : Shared) (e : Value) (s' : Shared), Inv X pins σ H s -> CX X.stack H s E e s' -> X.xe e s'
section
variable {X : Cx} {CX : CXT} {k : Nat} {f C : Addr} {fd : FuncData} {ps : List Str} {sp : Sp} {dvs : List V} {ds : List Value} {E : XK} {x m : Str} {p pos apos : Pos} {e o : Expr} {es : List Expr} {ta : TE} {t : TA}
theorem run_fn {Q : VK} (F : FnOk X.prog X.w X.K X.mg X.base CX k f fd ps sp) (hr : Room k X.A) (hb : Binds X.K fd ps ds) (hd : Vals dvs ds) (hx : Passes CX X E)
    (I : Inv X pins σ H s) (r : Vals vs us) (h : sp (vs ++ dvs) H Q E) : wpAny (model X.prog X.w) X.A (call (.ref f) us) (EP X pins σ Q) X.xe s := by
  have r2 : Vals (vs ++ dvs) (us ++ ds) := r.append hd
  have hl : (us ++ ds).length = ps.length := by rw [<- r2.length]; exact F.len _ _ _ _ h
  refine wpAny_call (codeAny_mono (F.run X.A X.stack s H ⟨us, []⟩ (us ++ ds) (vs ++ dvs) Q E hr I.env0 (hb s us I.kIn hl) r2 h) fun r s' hq => ?_)
  cases r with
  | error e => exact hx pins σ H s e s' I hq
  | ok fl =>
    cases fl with
    | ret u => exact I.after hq
    | next => exact False.elim hq
    | brk => exact False.elim hq
    | cont => exact False.elim hq
theorem pe_call (F : FnOk X.prog X.w X.K X.mg X.base CX k f fd ps sp) (hr : Room k X.A) (hg : Gl X x) (hm : X.mg x = some (.ref f)) (hk : PySem.W.keepIn X.K (.ref f) = true) (hb : Binds X.K fd ps ds) (hd : Vals dvs ds) (hx : Passes CX X E)
    (ha : PA X (e :: es) t) (hdb :autoParam ((x == ("__debug__" : Str)) = false) zu1._auto_1) (he :autoParam (starEach (e :: es) X.env = (false, eval e X.env) :: starEach es X.env) zu2._auto_1) (hpl :autoParam ((backTo pos (starEach es X.env)).any (·.1) = false) zu2._auto_1) :
    PE X (.Call (.Name x p) (e :: es) [] pos) (tCall sp dvs E t) := by
  intro pins s σ H Q I h
  refine wpAny_Call_Name_kw (ld_glob I hg hm ?_ hdb)
  refine PySem.W.callWith_K (h₀ := X.base) I.ok.mod.kin hk (thn (ha pos pins s σ H _ I h) fun us s1 ⟨vs, H1, I1, r, q⟩ => ⟨I1.kIn, ?_⟩) he hpl
  exact run_fn F hr hb hd hx I1 r q
theorem pe_call0 (F : FnOk X.prog X.w X.K X.mg X.base CX k f fd ps sp) (hr : Room k X.A) (hg : Gl X x) (hm : X.mg x = some (.ref f)) (hk : PySem.W.keepIn X.K (.ref f) = true) (hb : Binds X.K fd ps ds) (hd : Vals dvs ds) (hx : Passes CX X E)
    (hdb :autoParam ((x == ("__debug__" : Str)) = false) zu1._auto_1) : PE X (.Call (.Name x p) [] [] pos) (tCall sp dvs E tNil) := by
  intro pins s σ H Q I h
  refine wpAny_Call_Name_kw (ld_glob I hg hm ?_ hdb)
  exact PySem.W.callWith_K0 I.kIn hk (run_fn (us := []) F hr hb hd hx I .nil h)
end
structure FnScope (N P : List Str) (sc : Scope) : Prop where
  kind : sc.kind = .function
  co : sc.isCoroutine = false
  gen : sc.isGenerator = false
  nd : N.Nodup
  pre : N.take P.length = P
  par : ∀ x ∈ P, sc.names.lookup x = some .local \/ sc.names.lookup x = some .cell
  nofree : ∀ y ∈ sc.names, y.2 ≠ .free
theorem bindL_out : ∀ {binds : List (Str × Value)} {m : Str -> Option Value}, (∀ v, (x, v) ∉ binds) -> bindL kindOf binds m x = m x
  | [], _, _ => rfl
  | (n, v) :: r, m, h => by
    unfold bindL
    rw [bindL_out fun w hw => h w (List.mem_cons_of_mem _ hw)]
    split
    . have : x ≠ n := by rintro rfl; exact h v List.mem_cons_self
      simp [this]
    . rfl
theorem bindC_out : ∀ {binds : List (Str × Value)} {m : Str -> Option Value}, (∀ v, (x, v) ∉ binds) -> bindC kindOf binds m x = m x
  | [], _, _ => rfl
  | (n, v) :: r, m, h => by
    unfold bindC
    rw [bindC_out fun w hw => h w (List.mem_cons_of_mem _ hw)]
    split
    . rfl
    . have : x ≠ n := by rintro rfl; exact h v List.mem_cons_self
      simp [this]
theorem bindL_get {v : Value} : ∀ {P : List Str} {vs : List Value} {i : Nat} {m : Str -> Option Value}, P.Nodup -> P[i]? = some x -> vs[i]? = some v -> kindOf x = some .local ->
    bindL kindOf (P.zip vs) m x = some v
  | [], _, _, _, _, h, _, _ => by simp at h
  | _ :: _, [], _, _, _, _, h, _ => by simp at h
  | p :: P, w :: vs, 0, m, nd, h1, h2, hk => by
    simp at h1 h2; subst h1; subst h2
    show bindL kindOf ((p, w) :: P.zip vs) m p = _
    unfold bindL
    rw [bindL_out fun v hv => (List.nodup_cons.mp nd).1 (List.of_mem_zip hv).1, if_pos hk]
    simp
  | p :: P, w :: vs, i + 1, m, nd, h1, h2, hk => by
    show bindL kindOf ((p, w) :: P.zip vs) m x = _
    unfold bindL
    exact bindL_get (i := i) (List.nodup_cons.mp nd).2 (by simpa using h1) (by simpa using h2) hk
theorem bindC_get {v : Value} : ∀ {P : List Str} {vs : List Value} {i : Nat} {m : Str -> Option Value}, P.Nodup -> P[i]? = some x -> vs[i]? = some v -> kindOf x ≠ some .local ->
    bindC kindOf (P.zip vs) m x = some v
  | [], _, _, _, _, h, _, _ => by simp at h
  | _ :: _, [], _, _, _, _, h, _ => by simp at h
  | p :: P, w :: vs, 0, m, nd, h1, h2, hk => by
    simp at h1 h2; subst h1; subst h2
    show bindC kindOf ((p, w) :: P.zip vs) m p = _
    unfold bindC
    rw [bindC_out fun v hv => (List.nodup_cons.mp nd).1 (List.of_mem_zip hv).1, if_neg hk]
    simp
  | p :: P, w :: vs, i + 1, m, nd, h1, h2, hk => by
    show bindC kindOf ((p, w) :: P.zip vs) m x = _
    unfold bindC
    exact bindC_get (i := i) (List.nodup_cons.mp nd).2 (by simpa using h1) (by simpa using h2) hk
noncomputable def start (N : List Str) (vs : List V) : St := vs.map some ++ List.replicate (N.length - vs.length) none
noncomputable def cxOf (CX : CXT) (P : Program) (w : World) (K : PySem.W.Frag) (mg : Str -> Option Value) (base : Heap) (N : List Str) (qual : Str) (scope : Scope) (f : Addr) (cd : Value) (A : Around) (outer : List Env) (s : Shared) (H : Hp) (E : XK) : Cx where
  prog := P
  w := w
  K := K
  mg := mg
  base := base
  A := A.deeper (envOfC qual scope s.heap.objs.size f cd)
  N := N
  s₀ := s
  H₀ := H
  env := envOfC qual scope s.heap.objs.size f cd
  outer := outer
  stack := envOfC qual scope s.heap.objs.size f cd :: outer
  ex := []
  calm := true
  fn := fun _ => true
  pn := []
  xe := fun e s' => wpAny (model P w) (A.deeper (envOfC qual scope s.heap.objs.size f cd)) (leaving (envOfC qual scope s.heap.objs.size f cd) e) (fun _ s'' => CX outer H s E e s'') (fun e' s'' => CX outer H s E e' s'') s'
theorem cell_has (h : sc.names.lookup x = some .cell) : ∃ c, (cellsFrom n sc.names []).lookup x = some c := by
  have q := PySem.W.cellsFrom_some sc.names n [] (.inl h)
  exact Option.isSome_iff_exists.mp q
theorem inv_start {P : Program} {f : Addr} {s s1 : Shared} {E : XK} 
    (S : FnScope N ps scope) (hd : A.handled = none) (e0 : Env0 P w K mg base A outer s H) (hl : vs.length = ps.length) (r : Vals vs us)
    (x : InCallC s s.heap.objs.size (bindL (envOfC qual scope s.heap.objs.size f cd).kindOf (ps.zip us) fun _ => none) (cellsFrom (s.heap.objs.size + 1) scope.names []) (bindC (envOfC qual scope s.heap.objs.size f cd).kindOf (ps.zip us) fun _ => none) s1) :
    Inv (cxOf CX P w K mg base N qual scope f cd A outer s H E) [] (start N vs) H s1 := by
  have hpl : ps.length <= N.length := by have := congrArg List.length S.pre; rw [List.length_take] at this; lia
  obtain ⟨h1, tk, rfl, hk⟩ := x.done
  have noA : ∀ b : Addr, b ∉ (cxOf CX P w K mg base N qual scope f cd A outer s H E).ex := fun b z => absurd (show b ∈ ([] : List Addr) from z) (by simp)
  refine ⟨⟨e0.mod, S.kind, rfl, rfl, Nat.le_refl _, fun y z c h1 h2 => ?_, fun y hy => ?_, fun y c _ h => ?_, fun _ => hd, Around.frames_deeper e0.frames, .inr ⟨rfl, rfl⟩, fun b z => absurd z (noA b), e0.bs, e0.bsz, fun b _ _ => noA b, fun b z => absurd z (noA b), e0.funs, e0.frf⟩,
    rfl, e0.bare, Un.kept hk, ⟨_, x.toInCall.ns, fun i y v h1 h2 h3 => ?_⟩, fun y c h => ⟨_, x.cell y c h⟩, e0.hok.fresh (Nat.le_refl _), fun y c h => ?_, fun p hp => absurd (show p ∈ ([] : List (Addr × Obj)) from hp) (by simp), e0.hok.kept hk, ?_⟩
  . exact name_of_addr x.apart (PySem.mem_of_lookup h1) (PySem.mem_of_lookup h2)
  . have hy : scope.names.lookup y = some .cell \/ scope.names.lookup y = some .free := hy
    rcases hy with hy | hy
    . exact cell_has hy
    . exact absurd rfl (S.nofree _ (PySem.mem_of_lookup hy))
  . exact Nat.le_of_lt (x.above y c (PySem.mem_of_lookup h))
  . have hi : i < vs.length := by
      unfold start at h2
      by_cases hi : i < vs.length
      . exact hi
      . rw [List.getElem?_append_right (by simpa using hi)] at h2
        rw [List.getElem?_replicate] at h2
        split at h2 <;> cases h2
    have ha : vs[i]? = some v := by
      unfold start at h2
      rw [List.getElem?_append_left (by simpa using hi), List.getElem?_map] at h2
      cases e : vs[i]? with
      | none => rw [e] at h2; cases h2
      | some a => rw [e] at h2; cases h2; rfl
    obtain ⟨u, hu, rv⟩ := r.get ha
    have hp : ps[i]? = some y := by
      rw [<- S.pre, List.getElem?_take_of_lt (by lia)]; exact h1
    have ndP : ps.Nodup := by rw [<- S.pre]; exact S.nd.sublist (List.take_sublist _ _)
    refine ⟨u, rv, ?_⟩
    rcases S.par y (List.mem_of_getElem? hp) with k | k
    . exact .inl ⟨k, bindL_get ndP hp hu k⟩
    . obtain ⟨c, e⟩ := cell_has (n := s.heap.objs.size + 1) k
      refine .inr ⟨.inl k, c, e, ?_⟩
      have q := x.cell y c e
      rw [bindC_get ndP hp hu (by show scope.names.lookup y ≠ _; rw [k]; decide)] at q
      exact q
  . exact e0.hok.fresh (Nat.le_of_lt (x.above y c (PySem.mem_of_lookup h)))
  . unfold start
    show _ = N.length
    rw [List.length_append, List.length_map, List.length_replicate]
    lia
theorem fn_of {P : Program} {f : Addr} {name qual : Str} {dV kV doc pm cdv ct oc : Value} {an od : Option Addr}
    {osl : Array (Option Value)} {N ps : List Str} {sp : Sp} (lk : K.lookup f = some ⟨oc, od, .func (PySem.W.fnOf name qual params body scope dV kV doc pm an cdv ct), osl⟩) (hcd : PySem.W.codeIn K cdv qual = true) (S : FnScope N ps scope)
    (len : ∀ vs H Q E, sp vs H Q E -> vs.length = ps.length)
    (hbody : ∀ (A : Around) (outer : List Env) (s : Shared) (H : Hp) (vs : List V) (Q : VK) (E : XK), Room k (A.deeper (envOfC qual scope s.heap.objs.size f cdv)) -> sp vs H Q E ->
      ∃ t, PSs (cxOf CX P w K mg base N qual scope f cdv A outer s H E) body t /\ t { nx := fun _ H' => Q .non H', rt := Q } (start N vs) H) :
    FnOk P w K mg base CX (k + 1) f (PySem.W.fnOf name qual params body scope dV kV doc pm an cdv ct) ps sp := by
  refine ⟨len, fun A outer s H args us vs Q E hr e0 hb r hsp => ?_⟩
  have hl := len _ _ _ _ hsp
  have KX : K.In s.heap := e0.mod.kin.keeps fun b o e => (e0.bs b o e).1
  have lim : s.heap.NoLimit := e0.mod.nolimit.keeps fun b o e => (e0.bs b o e).1
  have hkind : ∀ y ∈ ps.zip us, scope.names.lookup y.1 = some .local \/ (scope.names.lookup y.1 = some .cell /\ ((cellsFrom (s.heap.objs.size + 1) scope.names []).lookup y.1).isSome = true) := fun ⟨n, v⟩ hy => by
    rcases S.par n (List.of_mem_zip hy).1 with q | q
    . exact .inl q
    . exact .inr ⟨q, PySem.W.cellsFrom_some _ _ _ (.inl q)⟩
  refine codeAny_call_function hr.depth (KX _ _ lk) rfl S.co S.gen rfl (PySem.W.codeRec_of KX hcd) (hb _ _ _ _ ?_)
  refine wpAny_newFunctionEnv_cells S.kind hkind fun env he s1 x => ?_
  subst he
  refine ⟨lim.keeps x.toInCall.keep, codeAny_func ?_⟩
  obtain ⟨t, ht, hq⟩ := hbody A outer s H vs Q E (hr.deeper _) hsp
  have I : Inv (cxOf CX P w K mg base N qual scope f cdv A outer s H E) [] (start N vs) H s1 := inv_start S hr.hd e0 hl r x
  refine wpAny_mono (ht [] s1 (start N vs) H _ I hq) (fun fl s' hs => ?_) fun e s' hs => hs
  have fin : ∀ {σ' : St} {H' : Hp} {v : V} {u : Value}, Inv (cxOf CX P w K mg base N qual scope f cdv A outer s H E) [] σ' H' s' -> RelV v u -> Q v H' -> CE outer P w H s Q u s' :=
    fun {σ' H' v u} J rv q => ⟨v, H', J.os, J.bare, J.base, J.hok, rv, q⟩
  cases fl with
  | ret u =>
    obtain ⟨v, σ', H', J, rv, q⟩ := hs
    exact fin J rv q
  | next =>
    obtain ⟨σ', H', J, q⟩ := hs
    exact fin (v := V.non) (u := Value.none) J rfl q
  | brk =>
    obtain ⟨_, _, _, q⟩ := hs
    exact False.elim q
  | cont =>
    obtain ⟨_, _, _, q⟩ := hs
    exact False.elim q
section
variable {X : Cx} {x : Str} {p pos : Pos} {e : Expr} {es : List Expr} {t : TA} {id T : String} {r : List V -> Hp -> VK -> Prop}
noncomputable def tCB (r : List V -> Hp -> VK -> Prop) (t : TA) : TE := fun σ H Q => t σ H fun vs H1 => r vs H1 Q
theorem pe_callB (hc : CallR X (.builtin id) r) (hg : Gl X x) (hm : X.mg x = none) (hv : bootBuiltins x = some (.builtin id)) (ha : PA X (e :: es) t) (hn :autoParam (x ≠ "__name__") zu1._auto_1) (hdb :autoParam ((x == ("__debug__" : Str)) = false) zu1._auto_1)
    (he :autoParam (starEach (e :: es) X.env = (false, eval e X.env) :: starEach es X.env) zu2._auto_1) (hpl :autoParam ((backTo pos (starEach es X.env)).any (·.1) = false) zu2._auto_1) : PE X (.Call (.Name x p) (e :: es) [] pos) (tCB r t) := by
  intro pins s σ H Q I h
  refine wpAny_Call_Name_kw (ld_blt I hg hm hv ?_ hn hdb)
  exact PyProof.Rows.callWith_builtin1 (thn (ha pos pins s σ H _ I h) fun us s1 ⟨vs, H1, I1, r1, q1⟩ => hc pins s1 σ H1 vs us Q I1 r1 q1) he hpl
theorem pe_callTy (hc : CallR X (.type T) r) (hg : Gl X x) (hm : X.mg x = none) (hv : bootBuiltins x = some (.type T)) (ha : PA X (e :: es) t) (hn :autoParam (x ≠ "__name__") zu1._auto_1) (hdb :autoParam ((x == ("__debug__" : Str)) = false) zu1._auto_1)
    (he :autoParam (starEach (e :: es) X.env = (false, eval e X.env) :: starEach es X.env) zu2._auto_1) (hpl :autoParam ((backTo pos (starEach es X.env)).any (·.1) = false) zu2._auto_1) : PE X (.Call (.Name x p) (e :: es) [] pos) (tCB r t) := by
  intro pins s σ H Q I h
  refine wpAny_Call_Name_kw (ld_blt I hg hm hv ?_ hn hdb)
  exact PyProof.Rows.callWith_type1 (thn (ha pos pins s σ H _ I h) fun us s1 ⟨vs, H1, I1, r1, q1⟩ => hc pins s1 σ H1 vs us Q I1 r1 q1) he hpl
end
end L2
namespace HT
open PyProof.Rows PySem
section
variable {prog : Program} {w : World} {A : Around} {E : Value -> Shared -> Prop} {s : Shared}
theorem cat_tup {t b : Addr} {vs ws : List Value} {Q : Value -> Shared -> Prop} (ht : IsTup s.heap t vs.toArray) (hb : IsTup s.heap b ws.toArray) (hv : vs ≠ [])
    (h1 : ws = [] -> Q (.ref t) s) (h2 : ws ≠ [] -> Q (.ref s.heap.objs.size) { s with heap := s.heap.push { cls := .type "tuple", data := .seq (vs ++ ws).toArray } })
    (hsz : vs.length + ws.length <= sizeLine) : wpAny (model prog w) A (binaryOp .Add (.ref t) (.ref b)) Q E s := by
  obtain ⟨⟨cls, dd, data, sl⟩, ho, hc, n, hd⟩ := id ht
  obtain ⟨⟨cls2, dd2, data2, sl2⟩, ho2, hc2, n2, hd2⟩ := id hb
  simp only at hc hd hc2 hd2
  subst hc hd hc2 hd2
  have e : vs.toArray ++ ws.toArray = (vs ++ ws).toArray := by simp
  by_cases hw : ws = []
  . exact concat_meets ⟨_, ho, rfl⟩ ⟨_, ho2, rfl⟩ noFill_tuple_add seq_tuple_add PySem.F.slot_tuple_add PySem.F.entry_tuple_add (PySem.F.args_tuple_add_2 _ _)
      (tuple_addW1 t b vs.toArray ws.toArray n n2 dd dd2 sl sl2 (by simpa using hv) (by simp [hw])) ⟨ho, ho2, h1 hw⟩
  . refine concat_meets ⟨_, ho, rfl⟩ ⟨_, ho2, rfl⟩ noFill_tuple_add seq_tuple_add PySem.F.slot_tuple_add PySem.F.entry_tuple_add (PySem.F.args_tuple_add_2 _ _)
      (tuple_addW2 t b vs.toArray ws.toArray n n2 dd dd2 sl sl2 (by simpa using hv) (by simpa using hw) (by rw [List.size_toArray, List.size_toArray]; exact hsz)) ⟨ho, ho2, ?_⟩
    rw [e]
    exact h2 hw
noncomputable def sIx (n d : Nat) : Option Int -> Nat
  | none => d
  | some v => if v < 0 then (v + (n : Int)).toNat else min v.toNat n
end
end HT
namespace L2
open PyProof.Rows PySem PySem.Spec
variable {xs : List V} {us its its' : List Value} {n j t' : Nat} {i : Int} {pins : List (Addr × Obj)} {σ : St} {H : Hp} {s : Shared} {p : Addr} {f : Array Value -> Array Value} {v : Value}
noncomputable abbrev TO := St -> Hp -> (Option Int -> Hp -> Prop) -> Prop
section
variable {X : Cx} {e : Expr} {te : TE} {lo hi : Option Expr} {tl th : TO} {pos p2 : Pos}
noncomputable def rCatT (K : PySem.W.Frag) : R2 := fun x y H Q => ∃ a b xs ys, x = .ref a /\ y = .ref b /\ SqT K H a xs /\ SqT K H b ys /\ xs ≠ [] /\ xs.length + ys.length <= sizeLine /\
  (ys = [] -> Q (.ref a) H) /\ (ys ≠ [] -> ∀ p, H p = none -> Q (.ref p) (upd H p (.tup (xs ++ ys))))
theorem Vals.nil_iff (r : Vals xs us) : us = [] ↔ xs = [] := by
  cases r with
  | nil => simp
  | cons _ _ => simp
theorem op_catT : OpR X (binaryOp .Add) (rCatT X.K) := by
  intro pins s σ H x y v u Q I rx ry h
  obtain ⟨a, b, xs, ys, rfl, rfl, ha, hb, hx, hz, q1, q2⟩ := h
  cases rx
  cases ry
  obtain ⟨its, r1, p1, _⟩ := I.tuple ha
  obtain ⟨its2, r2, p2, _⟩ := I.tuple hb
  refine HT.cat_tup p1 p2 (fun z => hx (r1.nil_iff.mp z)) (fun z => ⟨.ref a, H, I, rfl, q1 (r2.nil_iff.mp z)⟩) (fun z => ?_) (by rw [<- r1.length, <- r2.length]; exact hz)
  refine ⟨.ref s.heap.objs.size, _, I.laid (t' := s.toks) (o := .tup (xs ++ ys)) (fun b ob q => Heap.get?_push_of_some _ q) (Nat.le_refl _) ?_, rfl, q2 (fun w => z (r2.nil_iff.mpr w)) _ (I.hok.fresh (Nat.le_refl _))⟩
  exact ⟨by rw [List.length_append]; exact hz, _, r1.append r2, IsTup.new _ _⟩
end
noncomputable def ixN (n : Nat) (i : Int) : Option Nat := if 0 <= i then (if i < n then some i.toNat else none) else if -(n : Int) <= i then some (i + n).toNat else none
noncomputable def atI {α : Type} (xs : List α) (i : Int) : Option α := (ixN xs.length i).bind fun j => xs[j]?
theorem ixN_seq {n : Nat} (h : ixN n i = some j) : seqIndex? i n = some j /\ j < n /\ -(n : Int) <= i /\ i < n := by
  unfold ixN at h
  by_cases h0 : 0 <= i
  . rw [if_pos h0] at h
    by_cases h1 : i < n
    . rw [if_pos h1] at h
      have e : i.toNat = j := Option.some.inj h
      exact ⟨by rw [seqIndex_of h0 h1, e], by lia, by lia, h1⟩
    . rw [if_neg h1] at h; cases h
  . rw [if_neg h0] at h
    by_cases h1 : -(n : Int) <= i
    . rw [if_pos h1] at h
      have e : (i + n).toNat = j := Option.some.inj h
      exact ⟨by rw [seqIndex_neg (by lia) h1, e], by lia, h1, by lia⟩
    . rw [if_neg h1] at h; cases h
theorem atI_get {α : Type} {xs : List α} {v : α} (h : atI xs i = some v) : ∃ j, seqIndex? i xs.length = some j /\ xs[j]? = some v /\ j < xs.length /\ -(xs.length : Int) <= i /\ i < xs.length := by
  unfold atI at h
  cases e : ixN xs.length i with
  | none => rw [e] at h; cases h
  | some j =>
    rw [e] at h
    obtain ⟨h1, h2, h3, h4⟩ := ixN_seq e
    exact ⟨j, h1, h, h2, h3, h4⟩
noncomputable def PlainIx (b : Expr) : Prop := ∀ o i, subscripted b false o i = operate [o, i] (getItem o i)
noncomputable def IxR (X : Cx) (r : R2) : Prop :=
  ∀ (value slice : Expr) (pins : List (Addr × Obj)) (s : Shared) (σ : St) (H : Hp) (x y : V) (v u : Value) (Q : VK), Inv X pins σ H s -> RelV x v -> RelV y u -> r x y H Q ->
    subscripted slice false v u = operate [v, u] (getItem v u) -> wpAny (model X.prog X.w) X.A (subscriptTail value slice v u) (EP X pins σ Q) X.xe s
noncomputable def MtR (X : Cx) (id : String) (r : V -> List V -> Hp -> VK -> Prop) : Prop :=
  ∀ (pins : List (Addr × Obj)) (s : Shared) (σ : St) (H : Hp) (x : V) (xs : List V) (v : Value) (us : List Value) (Q : VK), Inv X pins σ H s -> RelV x v -> Vals xs us -> r x xs H Q ->
    wpAny (model X.prog X.w) X.A (call (.builtin id) (v :: us)) (EP X pins σ Q) X.xe s
section
variable {X : Cx} {a b : Expr} {ta tb : TE} {pos : Pos}
theorem IxR.or {r r' : R2} (h : IxR X r) (h' : IxR X r') : IxR X (fun x y H Q => r x y H Q \/ r' x y H Q) := by
  intro value slice pins s σ H x y v u Q I rx ry q hs
  rcases q with q | q
  . exact h value slice pins s σ H x y v u Q I rx ry q hs
  . exact h' value slice pins s σ H x y v u Q I rx ry q hs
theorem pe_ix {r : R2} (hr : IxR X r) (ha : PE X a ta) (hb : PE X b tb) (hs : PlainIx b) : PE X (.Subscript a b pos) (tOp r ta tb) := by
  intro pins s σ H Q I h
  exact Subscript_ (binT ha hb I h fun v u s2 x y H2 I2 rx ry q => hr a b pins s2 σ H2 x y v u Q I2 rx ry q (hs _ _))
noncomputable def rIxL (K : PySem.W.Frag) : R2 := fun x y H Q => ∃ p xs i v, x = .ref p /\ y = .int i /\ SqL K H p xs /\ atI xs i = some v /\ Q v H
noncomputable def rIxT (K : PySem.W.Frag) : R2 := fun x y H Q => ∃ p xs i v, x = .ref p /\ y = .int i /\ SqT K H p xs /\ atI xs i = some v /\ Q v H
noncomputable def rIxS : R2 := fun x y H Q => ∃ z i c, x = .str z /\ y = .int i /\ z.length <= sizeLine /\ atI z.cps.toList i = some c /\ Q (.str ⟨#[c]⟩) H
theorem ix_list : IxR X (rIxL X.K) := by
  intro value slice pins s σ H x y v u Q I rx ry h hs
  obtain ⟨p, xs, i, z, rfl, rfl, hq, he, q⟩ := h
  cases rx
  obtain ⟨t, rfl⟩ := ry
  obtain ⟨its, r, pl, hz⟩ := I.list hq
  obtain ⟨j, h1, h2, h3, h4, h5⟩ := atI_get he
  obtain ⟨w, ew, rw'⟩ := r.get h2
  have hl := r.length
  have hn := line63
  have fin : EP X pins σ Q w s := ⟨z, H, I, rw', q⟩
  by_cases h0 : 0 <= i
  . have hj : i.toNat = j := by
      rw [seqIndex_of h0 h5] at h1
      exact Option.some.inj h1
    exact item_listR pl.isList h0 (by lia) (by rw [hj]; simpa using ew) fin hs
  . have hj : (i + (its.toArray.size : Int)).toNat = j := by
      rw [seqIndex_neg (by lia) h4] at h1
      rw [List.size_toArray, <- hl]
      exact Option.some.inj h1
    exact subscriptTail_builtinR (x := w) pl.isList.typeIs slot_list_getitem.lookup
      (wpAny_getItem_list_neg (Q := fun r s' => r = w /\ EP X pins σ Q r s') pl.isList (by lia) (by rw [List.size_toArray] <;> lia) (by lia) (by rw [hj]; simpa using ew) ⟨rfl, fin⟩) hs
theorem ix_tup : IxR X (rIxT X.K) := by
  intro value slice pins s σ H x y v u Q I rx ry h hs
  obtain ⟨p, xs, i, z, rfl, rfl, hq, he, q⟩ := h
  cases rx
  obtain ⟨t, rfl⟩ := ry
  obtain ⟨its, r, pl, hz⟩ := I.tuple hq
  obtain ⟨j, h1, h2, h3, h4, h5⟩ := atI_get he
  obtain ⟨w, ew, rw'⟩ := r.get h2
  have hl := r.length
  have hn := line63
  have fin : EP X pins σ Q w s := ⟨z, H, I, rw', q⟩
  exact subscriptTail_builtinR (x := w) pl.typeIs slot_tuple_getitem.lookup
    (getItem_tuple (j := j) (Q := fun r s' => r = w /\ EP X pins σ Q r s') pl (by lia) (by lia) (by rw [List.size_toArray, <- hl]; exact h1) (by simpa using ew) ⟨rfl, fin⟩) hs
theorem ix_str : IxR X rIxS := by
  intro value slice pins s σ H x y v u Q I rx ry h hs
  obtain ⟨z, i, c, rfl, rfl, hz, he, q⟩ := h
  obtain ⟨t, rfl⟩ := rx
  obtain ⟨t', rfl⟩ := ry
  obtain ⟨j, h1, h2, h3, h4, h5⟩ := atI_get he
  have hl : z.cps.toList.length = z.length := by simp [Str.length]
  rw [hl] at h1 h4 h5
  have hn := line63
  exact tail_any (typeIs_str s z t) slot_str_getitem.lookup (getItem_str (c := c) (by
    have e1 : decide (i < -(2 ^ 63 : Int)) = false := decide_eq_false (by lia)
    have e2 : decide (i >= 2 ^ 63) = false := decide_eq_false (by lia)
    rw [e1, e2, Bool.or_false]) (by rw [h1]; simpa using h2) ⟨.str ⟨#[c]⟩, H, I.tok _, ⟨_, rfl⟩, q⟩) hs
noncomputable def rIx (K : PySem.W.Frag) : R2 := fun x y H Q => rIxL K x y H Q \/ rIxT K x y H Q \/ rIxS x y H Q
theorem ix_seq : IxR X (rIx X.K) := ix_list.or (ix_tup.or ix_str)
theorem mapSeq_set (its : List Value) (n j : Nat) (u : Value) : Obj.mapSeq (·.setIfInBounds j u) { cls := .type "list", data := .seq its.toArray n } = { cls := .type "list", data := .seq (its.set j u).toArray n } := by
  simp [Obj.mapSeq]
theorem Inv.lst (I : Inv X pins σ H s) (h : H p = some (.lst xs)) :
    ∃ (its : List Value) (n : Nat), Vals xs its /\ s.heap.get? p = some { cls := .type "list", data := .seq its.toArray n } /\ xs.length <= sizeLine := by
  obtain ⟨z, its, n, r, e⟩ := I.hok p _ h
  exact ⟨its, n, r, e, z⟩
theorem Inv.lstUpd {xs ys : List V} {n n' : Nat} {f : Obj -> Obj} (I : Inv X pins σ H s) (h : H p = some (.lst xs))
    (ho : s.heap.get? p = some { cls := .type "list", data := .seq its.toArray n }) (hf : f { cls := .type "list", data := .seq its.toArray n } = { cls := .type "list", data := .seq its'.toArray n' }) (r : Vals ys its') (hz : ys.length <= sizeLine) (t : Nat) :
    Inv X pins σ (upd H p (.lst ys)) { s with heap := s.heap.update p f, toks := t } := by
  have e : (s.heap.update p f).get? p = some { cls := .type "list", data := .seq its'.toArray n' } := by
    rw [Heap.get?_update_self f ho (by rw [hf] <;> rfl), hf]
  refine I.write (x := p) (e := p) (by rw [h]; trivial) (.inl rfl) (fun b u hb q => (Heap.get?_update_other _ _ (Ne.symm hb)).trans q) ⟨_, e⟩ ?_
  exact ⟨hz, its', n', r, e⟩
noncomputable def rSetL : V -> V -> V -> Hp -> (Hp -> Prop) -> Prop := fun o i v H Q => ∃ p xs k j, o = .ref p /\ i = .int k /\ H p = some (.lst xs) /\ ixN xs.length k = some j /\ Q (upd H p (.lst (xs.set j v)))
theorem set_list : PSet X rSetL := by
  intro pins s σ H o i v ov iv u Q I ro ri rv h
  obtain ⟨p, xs, k, j, rfl, rfl, hp, hj, q⟩ := h
  cases ro
  obtain ⟨t, rfl⟩ := ri
  obtain ⟨its, n, r, ho, hz⟩ := I.lst hp
  obtain ⟨h1, h2, h3, h4⟩ := ixN_seq hj
  have hl := r.length
  have hn := line63
  have I' : Inv X pins σ (upd H p (.lst (xs.set j v))) { s with heap := s.heap.update p (Obj.mapSeq (·.setIfInBounds j u)) } :=
    I.lstUpd hp ho (mapSeq_set its n j u) (r.set rv j) (by rw [List.length_set]; exact hz) s.toks
  by_cases h0 : 0 <= k
  . have hk : k.toNat = j := by
      rw [seqIndex_of h0 h4] at h1
      exact Option.some.inj h1
    exact PySem.W.ki_setAt ho h0 (by lia) (by rw [List.size_toArray, <- hl]; exact h4) (by rw [hk]; exact ⟨_, I', q⟩)
  . have hk : (k + (its.toArray.size : Int)).toNat = j := by
      rw [seqIndex_neg (by lia) h3] at h1
      rw [List.size_toArray, <- hl]
      exact Option.some.inj h1
    exact PySem.W.ki_setBack ho (by lia) (by rw [List.size_toArray, <- hl]; exact h3) (by lia) (by rw [hk]; exact ⟨_, I', q⟩)
theorem call_len_seq : CallR X (.builtin "len") (fun xs H Q => ∃ p ys, xs = [.ref p] /\ (SqL X.K H p ys \/ SqT X.K H p ys) /\ Q (.int ys.length) H) := by
  intro pins s σ H xs us Q I r h
  obtain ⟨p, ys, rfl, hq, q⟩ := h
  obtain ⟨u, rfl, rx⟩ := vals1 r
  cases rx
  have hn := line63
  rcases hq with hq | hq
  . obtain ⟨its, r', pl, hz⟩ := I.list hq
    have hlen := r'.length
    exact Calls.call_len_list pl.isList (by simp only [List.size_toArray] <;> lia) ⟨.int ys.length, H, I.tok _, ⟨s.toks + 1, by rw [List.size_toArray, hlen]⟩, q⟩
  . obtain ⟨its, r', pl, hz⟩ := I.tuple hq
    have hlen := r'.length
    exact len_tuple pl (by simp only [List.size_toArray] <;> lia) ⟨.int ys.length, H, I.tok _, ⟨s.toks + 1, by rw [List.size_toArray, hlen]⟩, q⟩
theorem call_list_of : CallR X (.type "list") (fun xs H Q => ∃ p ys, xs = [.ref p] /\ (SqL X.K H p ys \/ SqT X.K H p ys) /\ ∀ l, H l = none -> Q (.ref l) (upd H l (.lst ys))) := by
  intro pins s σ H xs us Q I r h
  obtain ⟨p, ys, rfl, hq, q⟩ := h
  obtain ⟨u, rfl, rx⟩ := vals1 r
  cases rx
  have fin : ∀ (its : List Value), Vals ys its -> ys.length <= sizeLine -> ∀ (h' : Heap) (c' : Nat), (∀ b o', s.heap.get? b = some o' -> h'.get? b = some o') ->
      h'.get? s.heap.objs.size = some { cls := .type "list", dict := none, data := .seq its.toArray c', slots := #[] } -> EP X pins σ Q (.ref s.heap.objs.size) { s with heap := h' } := fun its r' hz h' c' kp e =>
    ⟨.ref s.heap.objs.size, _, I.laid (t' := s.toks) kp (Nat.le_refl _) (show ObjOk X.prog X.w _ h' _ (.lst ys) from ⟨hz, its, c', r', e⟩), rfl, q _ (I.hok.fresh (Nat.le_refl _))⟩
  rcases hq with hq | hq
  . obtain ⟨its, r', pl, hz⟩ := I.list hq
    have hlen := r'.length
    obtain ⟨o, ho, hc, n, hd⟩ := pl.isList
    exact call_list_seq p (.inl rfl) ho hc hd (fun h' c' kp e => fin its r' hz h' c' kp e) (by simp only [List.size_toArray] <;> lia)
  . obtain ⟨its, r', pl, hz⟩ := I.tuple hq
    have hlen := r'.length
    obtain ⟨o, ho, hc, n, hd⟩ := pl
    exact call_list_seq p (.inr rfl) ho hc hd (fun h' c' kp e => fin its r' hz h' c' kp e) (by simp only [List.size_toArray] <;> lia)
theorem call_tuple_of : CallR X (.type "tuple") (fun xs H Q => ∃ p ys, xs = [.ref p] /\ ((SqL X.K H p ys /\ ∀ l, H l = none -> Q (.ref l) (upd H l (.tup ys))) \/ (SqT X.K H p ys /\ Q (.ref p) H))) := by
  intro pins s σ H xs us Q I r h
  obtain ⟨p, ys, rfl, h⟩ := h
  obtain ⟨u, rfl, rx⟩ := vals1 r
  cases rx
  rcases h with ⟨hq, q⟩ | ⟨hq, q⟩
  . obtain ⟨its, r', pl, hz⟩ := I.list hq
    have hlen := r'.length
    refine call_tuple_list pl.isList (fun h' kp => ?_) (by simp only [List.size_toArray] <;> lia)
    have I1 : Inv X pins σ H { s with heap := h' } := I.kept (t' := s.toks) kp
    have I2 : Inv X pins σ (upd H h'.objs.size (.tup ys)) { s with heap := h'.push { cls := .type "tuple", data := .seq its.toArray } } :=
      I1.laid (t' := s.toks) (fun b o e => Heap.get?_push_of_some _ e) (Nat.le_refl _) (show ObjOk X.prog X.w _ _ _ (.tup ys) from ⟨hz, its, r', IsTup.new _ _⟩)
    exact ⟨.ref h'.objs.size, _, I2, rfl, q _ (I1.hok.fresh (Nat.le_refl _))⟩
  . obtain ⟨its, r', pl, hz⟩ := I.tuple hq
    exact call_tuple_same pl ⟨.ref p, H, I, rfl, q⟩
noncomputable def tyV (K : PySem.W.Frag) (T : String) (x : V) (H : Hp) : Prop := match x with
  | .str _ => T = "str"
  | .int _ => T = "int"
  | .ref p => (T = "list" /\ ∃ xs, SqL K H p xs) \/ (T = "tuple" /\ ∃ o, K.lookup p = some o /\ o.cls = .type "tuple" /\ o.dict = none) \/
      (T = "dict" /\ ((∃ kvs, H p = some (.dK kvs)) \/ ∃ kvs, H p = some (.dT kvs))) \/ (T = "set" /\ ∃ S n, H p = some (.set S n))
  | _ => False
theorem tyV_is {T : String} {x : V} (I : Inv X pins σ H s) (r : RelV x v) (ty : tyV X.K T x H) :
    s.TypeIs v T /\ ∀ a, v = .ref a -> ∃ ob, s.heap.get? a = some ob /\ ob.dict = none := by
  cases x with
  | str z =>
    obtain ⟨t, rfl⟩ := r
    cases (show T = "str" from ty)
    exact ⟨typeIs_str s z t, fun _ e => nomatch e⟩
  | int i =>
    obtain ⟨t, rfl⟩ := r
    cases (show T = "int" from ty)
    exact ⟨typeIs_int s i t, fun _ e => nomatch e⟩
  | ref p =>
    cases r
    rcases ty with ⟨rfl, xs, hq⟩ | ⟨rfl, o, hk, hc, hd⟩ | ⟨rfl, hk⟩ | ⟨rfl, S, n, hk⟩
    . obtain ⟨its, _, pl, _⟩ := I.list hq
      refine ⟨pl.isList.typeIs, fun a e => ?_⟩
      cases e
      obtain ⟨o, n, e, c, hd, _⟩ := pl
      exact ⟨o, e, hd⟩
    . refine ⟨⟨o, I.kIn p o hk, hc⟩, fun a e => ?_⟩
      cases e
      exact ⟨o, I.kIn _ o hk, hd⟩
    . have z : ∃ o, s.heap.get? p = some o /\ o.ExactDict := by
        rcases hk with ⟨kvs, hk⟩ | ⟨kvs, hk⟩
        . obtain ⟨_, _, _, _, o, _, _, e, ex, _⟩ := I.hok p _ hk
          exact ⟨o, e, ex⟩
        . obtain ⟨_, _, _, _, o, _, _, e, ex, _⟩ := I.hok p _ hk
          exact ⟨o, e, ex⟩
      obtain ⟨o, e, ex⟩ := z
      refine ⟨⟨o, e, ex.1⟩, fun a e2 => ?_⟩
      cases e2
      exact ⟨o, e, ex.2.1⟩
    . obtain ⟨o, _, _, _, e, ex, _⟩ := I.hok p _ hk
      refine ⟨⟨o, e, ex.1⟩, fun a e2 => ?_⟩
      cases e2
      exact ⟨o, e, ex.2.1⟩
  | _ => exact False.elim ty
noncomputable def tBM (K : PySem.W.Frag) (T : String) (r : V -> List V -> Hp -> VK -> Prop) (to : TE) (t : TA) : TE := fun σ H Q => to σ H fun x H1 => tyV K T x H1 /\ t σ H1 fun xs H2 => r x xs H2 Q
variable {o e : Expr} {es : List Expr} {to : TE} {t : TA} {name : Str} {apos cpos : Pos} {T id : String} {r : V -> List V -> Hp -> VK -> Prop}
theorem pe_bm (pa : PlainAttrs T) (slot : Slot T name id) (hty : typeOf (.builtin id) = pure (.type "method_descriptor")) (hm : MtR X id r) (ho : PE X o to) (ha : PA X (e :: es) t)
    (hbase :autoParam (attributeBase o name X.env (eval o X.env) = eval o X.env) zu2._auto_1)
    (hfew :autoParam (((backTo cpos (starEach (e :: es) X.env)).all (fun x => !x.1) && (backToKw cpos (keywordEach [] X.env)).all (fun x => x.1.isSome)
      && decide ((e :: es).length + ([] : List Keyword).length + (if ([] : List Keyword).isEmpty then 0 else 1) < 30)) = true) zu2._auto_1)
    (hline :autoParam ((apos.endLine == cpos.line) = true) zu2._auto_1) (hs :autoParam (starEach (e :: es) X.env = (false, eval e X.env) :: starEach es X.env) zu2._auto_1) (hplain :autoParam ((backTo cpos (starEach es X.env)).any (·.1) = false) zu2._auto_1) :
    PE X (.Call (.Attribute o name apos) (e :: es) [] cpos) (tBM X.K T r to t) := by
  intro pins s σ H Q I h
  refine wpAny_Call_method_late hbase hfew hline rfl (thn (ho pins s σ H _ I h) fun v s1 ⟨x, H1, I1, r1, ty, q1⟩ => ?_)
  obtain ⟨h1, h2⟩ := tyV_is I1 r1 ty
  refine ⟨T, id, pa, slot, hty, h1, h2, ?_⟩
  have hA := ha cpos pins s1 σ H1 _ I1 q1
  rw [hs] at hA ⊢
  refine Calls.callWith_builtin (by show (false || (backTo cpos (starEach es X.env)).any (·.1)) = false; rw [hplain] <;> rfl) (Calls.evalArgs_plain ?_)
  exact thn hA fun us s2 ⟨vs, H2, I2, r2, q2⟩ => hm pins s2 σ H2 x vs v us Q I2 r1 r2 q2
end
noncomputable def MtM (X : Cx) (id : String) (r : V -> List V -> Hp -> VK -> Prop) : Prop :=
  ∀ (pins : List (Addr × Obj)) (s : Shared) (σ : St) (H : Hp) (x : V) (xs : List V) (v : Value) (us : List Value) (Q : VK), Inv X pins σ H s -> RelV x v -> Vals xs us -> r x xs H Q ->
    wpAny (model X.prog X.w) X.A (call (.builtin id) (v :: us)) (EP X pins σ Q) X.xe s
theorem Vals.one : ∀ {x : V} {us : List Value}, Vals [x] us -> ∃ u, us = [u] /\ RelV x u
  | _, _, .cons r .nil => ⟨_, rfl, r⟩
theorem Vals.two : ∀ {x y : V} {us : List Value}, Vals [x, y] us -> ∃ u v, us = [u, v] /\ RelV x u /\ RelV y v
  | _, _, _, .cons r (.cons q .nil) => ⟨_, _, rfl, r, q⟩
theorem Vals.rep (h : Vals xs us) : ∀ k : Nat, Vals (List.replicate k xs).flatten (List.replicate k us).flatten
  | 0 => .nil
  | k + 1 => by
    rw [List.replicate_succ, List.replicate_succ, List.flatten_cons, List.flatten_cons]
    exact Vals.append h (Vals.rep h k)
theorem foldl_rep (its : List Value) : ∀ (k : Nat) (acc : List Value),
    List.foldl (fun x1 x2 => x1 ++ x2) acc.toArray (List.replicate k its.toArray) = (acc ++ (List.replicate k its).flatten).toArray
  | 0, acc => by simp
  | k + 1, acc => by
    have e : acc.toArray ++ its.toArray = (acc ++ its).toArray := by simp
    have e2 : (acc ++ its) ++ (List.replicate k its).flatten = acc ++ (List.replicate (k + 1) its).flatten := by
      rw [List.replicate_succ, List.flatten_cons, List.append_assoc]
    rw [<- e2, <- foldl_rep its k (acc ++ its), <- e, List.replicate_succ, List.foldl_cons]
section
variable {X : Cx} {pins : List (Addr × Obj)} {σ : St} {H : Hp} {s : Shared} {l b : Addr} {xs ys zs : List V}
theorem Inv.lset (I : Inv X pins σ H s) (hH : H l = some (.lst xs))
    (e : s.heap.get? l = some { cls := .type "list", data := .seq its.toArray n }) (hf : f its.toArray = its'.toArray) (hv : Vals ys its') (hz : ys.length <= sizeLine) :
    Inv X pins σ (upd H l (.lst ys)) { s with heap := s.heap.update l (Obj.mapSeq f), toks := t' } := by
  have q := PySem.IsL.update e f
  rw [hf] at q
  refine I.write (x := l) (e := l) (by rw [hH]; exact trivial) (.inl rfl) (fun b' u hb hu => (Heap.get?_update_other s.heap (Obj.mapSeq f) (Ne.symm hb)).trans hu) ⟨_, q⟩ ?_
  exact ⟨hz, its', _, hv, q⟩
theorem Inv.lnew (I : Inv X pins σ H s) (hv : Vals ys its) (hz : ys.length <= sizeLine) :
    Inv X pins σ (upd H s.heap.objs.size (.lst ys)) { s with heap := s.heap.push { cls := .type "list", data := .seq its.toArray }, toks := t' } :=
  I.laid (fun _ _ q => Heap.get?_push_of_some _ q) (Nat.le_refl _) ⟨hz, its, 0, hv, Heap.get?_push_size _ rfl⟩
theorem Inv.fresh (I : Inv X pins σ H s) : H s.heap.objs.size = none := I.hok.fresh (Nat.le_refl _)
theorem Inv.lstM (I : Inv X pins σ H s) (hH : H l = some (.lst xs)) : xs.length <= sizeLine /\ ∃ (its : List Value) (n : Nat), Vals xs its /\ xs.length = its.length /\ s.heap.get? l = some { cls := .type "list", data := .seq its.toArray n } := by
  obtain ⟨z, its, n, r, e⟩ := I.hok l _ hH
  exact ⟨z, its, n, r, r.length, e⟩
theorem notLongL (h : n <= sizeLine) : Builtin.List.listTooLong n = false := by
  unfold Builtin.List.listTooLong
  exact decide_eq_false (by lia)
end
section
variable {X : Cx}
noncomputable def rAppend : V -> List V -> Hp -> VK -> Prop := fun x vs H Q => ∃ l xs y, x = .ref l /\ vs = [y] /\ H l = some (.lst xs) /\ xs.length < sizeLine /\ Q .non (upd H l (.lst (xs ++ [y])))
theorem mt_append : MtM X "list.append" rAppend := by
  intro pins s σ H x vs v us Q I rx rv h
  obtain ⟨l, xs, y, rfl, rfl, hH, hz, q⟩ := h
  cases rx
  obtain ⟨u, rfl, ru⟩ := rv.one
  obtain ⟨z, its, n, r, hl, e⟩ := I.lstM hH
  refine call_meets F.slot_list_append ⟨_, e, rfl⟩ F.entry_list_append (F.args_list_append_2 _ _) (PySem.list_append l its.toArray n u (by rw [List.size_toArray]; lia)) ⟨e, ?_⟩
  refine ⟨.non, _, I.lset (its' := its ++ [u]) hH e (by simp) (r.append (.cons ru .nil)) ?_, rfl, q⟩
  rw [List.length_append, List.length_singleton]
  lia
noncomputable def rCat : R2 := fun x y H Q => ∃ l b xs zs, x = .ref l /\ y = .ref b /\ H l = some (.lst xs) /\ H b = some (.lst zs) /\ xs.length + zs.length <= sizeLine /\ ∀ p, H p = none -> Q (.ref p) (upd H p (.lst (xs ++ zs)))
theorem op_cat : OpR X (binaryOp .Add) rCat := by
  intro pins s σ H x y v u Q I rx ry h
  obtain ⟨l, b, xs, zs, rfl, rfl, hH, hB, hz, q⟩ := h
  cases rx
  cases ry
  obtain ⟨z, its, n, r, hl, e⟩ := I.lstM hH
  obtain ⟨z2, its2, n2, r2, hl2, e2⟩ := I.lstM hB
  refine PySem.P.add_list e e2 ?_ (by rw [List.size_toArray, List.size_toArray]; lia)
  have ea : its.toArray ++ its2.toArray = (its ++ its2).toArray := by simp
  rw [ea]
  exact ⟨.ref _, _, I.lnew (t' := s.toks) (r.append r2) (by rw [List.length_append]; lia), rfl, q _ I.fresh⟩
noncomputable def rRep : R2 := fun x y H Q => ∃ l k xs, x = .ref l /\ y = .int k /\ H l = some (.lst xs) /\ -(2 ^ 63) <= k /\ k < 2 ^ 63 /\ xs.length * k.toNat <= sizeLine /\
  ∀ p, H p = none -> Q (.ref p) (upd H p (.lst (List.replicate k.toNat xs).flatten))
theorem len_rep {α : Type} (xs : List α) (k : Nat) : (List.replicate k xs).flatten.length = k * xs.length := by
  induction k with
  | zero => simp
  | succ k ih => rw [List.replicate_succ, List.flatten_cons, List.length_append, ih, Nat.succ_mul, Nat.add_comm]
theorem op_rep : OpR X (binaryOp .Mult) rRep := by
  intro pins s σ H x y v u Q I rx ry h
  obtain ⟨l, k, xs, rfl, rfl, hH, h1, h2, hz, q⟩ := h
  cases rx
  obtain ⟨t, rfl⟩ := ry
  obtain ⟨z, its, n, r, hl, e⟩ := I.lstM hH
  have hlen : its.toArray.size * k.toNat <= sizeLine := by rw [List.size_toArray, <- hl]; exact hz
  have hcap : ¬ its.toArray.size * k.toNat > (2 ^ 63 - 1) / 8 := by
    have : (sizeLine : Nat) <= (2 ^ 63 - 1) / 8 := by decide
    lia
  have hfit : ¬ (!Builtin.List.listFitsIndex k) = true := by
    rw [fitsIndex_both h1 h2]
    exact Bool.false_ne_true
  have hlong : ¬ Builtin.List.listTooLong (its.toArray.size * k.toNat) = true := by
    rw [notLongL hlen]
    exact Bool.false_ne_true
  have hnew : List.foldl (fun x1 x2 => x1 ++ x2) #[] (List.replicate (if its.toArray.isEmpty = true then 0 else k.toNat) its.toArray) = (List.replicate k.toNat its).flatten.toArray := by
    have f0 : ∀ m : Nat, List.foldl (fun x1 x2 => x1 ++ x2) #[] (List.replicate m its.toArray) = (List.replicate m its).flatten.toArray := fun m => by
      have := foldl_rep its m []
      rw [List.nil_append] at this
      exact this
    rw [f0]
    cases its with
    | nil => simp
    | cons a r' => rw [if_neg (by simp)]
  refine wpAny_binaryOp_repeat_ref (T := "list") (U := "int") (by decide) ⟨_, e, rfl⟩ (fun s' => typeIs_int s' k t) noFill_list_mul F.fills_int_mul F.slot_int_rmul repeat_list F.slot_int_index.lookup
    (call_meets F.slot_int_rmul (typeIs_int s k t) F.entry_int_rmul (F.args_int_rmul_2 _ _) (int___rmul___int_list k t l its.toArray n)
      ⟨e, rfl, ⟨_, e, rfl⟩, call_meets F.slot_list_mul ⟨_, e, rfl⟩ F.entry_list_mul (F.args_list_mul_2 _ _) (AutoListH.list___mul___list_int_3 l its.toArray n k t hfit hcap hlong) ⟨e, ?_⟩⟩)
  rw [hnew]
  exact ⟨.ref _, _, I.lnew (t' := s.toks) (r.rep k.toNat) (by rw [len_rep, Nat.mul_comm]; exact hz), rfl, q _ I.fresh⟩
end
section
variable {prog : Program} {w : World} {A : Around} {E : Value -> Shared -> Prop} {s : Shared}
theorem splice_eq (its its2 : List Value) (a c : Nat) : its.toArray.extract 0 a ++ its2.toArray ++ its.toArray.extract c its.toArray.size = (its.take a ++ its2 ++ its.drop c).toArray := by
  apply Array.toList_inj.mp
  first
    | (simp
       exact List.take_of_length_le (by simp))
    | simp [List.take_of_length_le]
    | simp
end
end L2
namespace Att
open PyProof.Rows PySem PySem.Calls PySem.W
theorem ints_of_wellAll {P : Params} {h : Heap} : ∀ (ns : List Int) (vs : List Value), WellAll P h vs (ns.map WData.int) -> IntsAre vs ns := by
  intro ns
  induction ns with
  | nil =>
    intro vs w
    rw [List.map_nil] at w
    cases w
    exact .nil
  | cons n ns ih =>
    intro vs w
    rw [List.map_cons] at w
    cases w with
    | cons a b =>
      cases a
      exact .cons _ _ (ih _ b)
theorem script_of {l : OpenLaw} {n : Nat} (hn : l.most = some n) {P : Params} {h : Heap} {args : List WData} {vals : List Value}
    (hpre : l.row.toRowW.claim.pre args = true) (hwl : WellAll P h vals args) :
    ∃ a vs ns, vals = [Value.ref a] /\ args = [WData.list (ns.map WData.int)] /\ h.get? a = some { cls := .type "list", data := .seq vs.toArray } /\ IntsAre vs ns /\ ns.length <= n := by
  have hsh : WShape.hasAll [] args [.list .int] = true := (pre_splitW hpre).1
  have hc : l.pre.holds [] { args := args } = true := (pre_splitW hpre).2
  obtain ⟨d, r, rfl, h1, h2⟩ := hasAllW_cons hsh
  obtain rfl := hasAllW_nil h2
  obtain ⟨xs, rfl, h3⟩ := hasW_list h1
  obtain ⟨ns, rfl⟩ := items_int h3
  have hlen : ns.length <= n := by
    unfold OpenLaw.pre at hc
    have h4 : (WTm.not (.lt (.lit (.int (n : Int))) (.len (.arg 0)))).holds [] { args := [.list (ns.map .int)] } = true := by
      have h4 := (holds_andW hc).1
      rw [hn] at h4
      exact h4
    have h5 := condW_of h4 (w_not (w_lt w_lit (w_len_list (w_arg rfl))))
    rw [List.length_map] at h5
    refine Nat.le_of_not_lt fun q => ?_
    have q' : (n : Int) < ((ns.length : Nat) : Int) := by lia
    first
      | (rw [decide_eq_true q'] at h5; exact absurd h5 (by decide))
      | (simp at h5; lia)
  cases hwl with
  | cons w1 w2 =>
    cases w2
    cases w1 with
    | list ho hall => exact ⟨_, _, ns, rfl, rfl, ho, ints_of_wellAll ns _ hall, hlen⟩
theorem post_true (l : OpenLaw) (args : List WData) : l.row.toRowW.claim.post args (.bool true) args = true :=
  postW_of (r := l.row.toRowW) (X := (true == true))
    (show WShape.has [] (.bool true) .bool = true by first | rfl | decide | simp [WShape.has, WShape.arms, WShape.armsAll])
    (show (WTm.eq .res (.lit (.bool true))).value [] { args := args, res := some (.bool true), after := args } = some (.bool (true == true)) from w_eq_bool (w_res rfl) w_lit) rfl
theorem attach_call {l : OpenLaw} {n : Nat} {q : Program} {loose : List Str} {XP : (Str -> Option Value) -> Heap -> Prop} {YP : World -> Heap -> Prop} {d : DefRec}
    (hn : l.most = some n) (hdf : d.params.defaults = [])
    (call : ∀ (w : World) (s₀ s₁ : Shared) (mg mb : Str -> Option Value) (fa : Addr) (o : Obj) (pm cd doc : Value) (a : Addr) (vs : List Value) (ns : List Int),
      Ground q loose [] XP w s₀ mg mb s₁.heap -> YP w s₁.heap ->
      s₁.heap.get? fa = some o -> o.data = .func (docDef d.name d.params d.body d.scope pm cd doc) -> s₁.heap.CodeRec cd d.name -> mg d.name = some (.ref fa) ->
      s₁.heap.get? a = some { cls := .type "list", data := .seq vs.toArray } -> IntsAre vs ns -> ns.length <= n -> s₁.gens = #[] ->
      codeAny (model l.prog w) callerA (.call (.ref fa) ⟨[.ref a], []⟩) (fun r s' => r = .ok (.ret (.bool true)) /\ OldK s₁.heap s'.heap /\ s'.os = s₁.os /\ AllBare s'.gens) s₁) :
    WalkO q loose XP YP l.row.toRowW d [] (fun f vs => PySem.call f vs) := by
  intro w s₀ s₁ mg mb G Y fa o pm cd doc dV kV ho hd hcd hD hmg hg args vals as hpre hlay hrd hwl hlo
  obtain rfl : dV = .none := Dflts.none hD hdf
  obtain rfl : kV = .none := Dflts.noKw hD
  obtain ⟨a, vs, ns, rfl, rfl, hobj, hints, hlen⟩ := script_of hn hpre hwl
  refine enter_call (codeAny_mono (call w s₀ s₁ mg mb fa o pm cd doc a vs ns G Y ho (fd_plain hd) hcd hmg hobj hints hlen hg) fun r s' hq => ?_)
  obtain ⟨rfl, h2, h3, h4⟩ := hq
  exact ⟨.inl ⟨.bool true, .bool true, [], rfl, fun _ => rfl, .bool true, post_true l _, fun _ => ⟨List.Pairwise.nil, fun _ hm => (nomatch hm)⟩⟩, h2, h3, h4⟩
end Att
namespace L2
open PyProof.Rows PySem PySem.Spec
variable {w : World} {K : PySem.W.Frag} {mg mb : Str -> Option Value} {CX : World -> CXT} {k n : Nat} {a f : Addr} {fd : FuncData} {x qual : Str} {sp : Sp} {vs : List Value} {ns : List Int} {l : PySem.W.OpenLaw} {q : Program} {loose ps : List Str} {XP : (Str -> Option Value) -> Heap -> Prop} {YP : World -> Heap -> Prop} {d : DefRec} {oc : Value} {osl : Array (Option Value)} {xs : List V} {Q : Unit -> Shared -> Prop}
theorem vals_ints : ∀ {vs : List Value} {ns : List Int}, IntsAre vs ns -> Vals (ns.map V.int) vs
  | _, _, .nil => .nil
  | _, _, .cons n t h => .cons ⟨t, rfl⟩ (vals_ints h)
noncomputable def Only (H : Hp) : Prop := ∀ b, H b = none \/ ∃ o xs, H b = some (.frz o (.lst xs))
theorem law_call {P : Program} {CX : CXT} {fa a : Addr} {s₁ : Shared} 
    (KX : K.In s₁.heap) (hns : s₁.heap.Ns mainGlobals mg) (hb : s₁.heap.Ns builtinsNs mb) (hbb : ∀ x : Str, x ≠ "__name__" -> mb x = bootBuiltins x) (hlim : s₁.heap.NoLimit) (hg : s₁.gens = #[])
    (ha : s₁.heap.get? a = some { cls := .type "list", data := .seq vs.toArray }) (hi : IntsAre vs ns) (hl : ns.length <= sizeLine) (hr : Room k callerA)
    (F : ∀ base : Heap, K.In base -> base.Ns mainGlobals mg -> FnOk P w K mg base CX k fa fd [x] sp) (hbind : ∀ (s : Shared) (u : Value), BindsTo s fd ⟨[u], []⟩ [(x, u)])
    (hsp : ∀ H : Hp, Only H -> SqL K H a (ns.map V.int) -> sp [.ref a] H (fun v _ => v = .bl true) fun _ _ _ => False)
    (hCX : ∀ H e s', CX [] H s₁ (fun _ _ _ => False) e s' -> False) :
    codeAny (model P w) callerA (.call (.ref fa) ⟨[.ref a], []⟩) (fun r s' => r = .ok (.ret (.bool true)) /\ OldK s₁.heap s'.heap /\ s'.os = s₁.os /\ AllBare s'.gens) s₁ := by
  have rv := vals_ints hi
  have lenV := hi.length
  have core : ∀ H : Hp, Only H -> SqL K H a (ns.map V.int) -> HOk P w H s₁.heap -> (∀ b, H b ≠ none -> b = a) -> (H a ≠ none -> K.lookup a = none) ->
      codeAny (model P w) callerA (.call (.ref fa) ⟨[.ref a], []⟩) (fun r s' => r = .ok (.ret (.bool true)) /\ OldK s₁.heap s'.heap /\ s'.os = s₁.os /\ AllBare s'.gens) s₁ := by
    intro H hO hS hok hA hK
    have base_of : ∀ {b : Addr} {o : Obj}, s₁.heap.get? b = some o -> H b = none -> (hidT s₁.heap H).get? b = some o := fun e n => hidT_get e n
    have noA : ∀ {b : Addr} {o : Obj} {es : Array DictEntry} {ep : Nat}, s₁.heap.get? b = some o -> o.data = .dict es ep -> H b = none := fun {b o es ep} e d => by
      cases q : H b with
      | none => rfl
      | some u =>
        have e' : b = a := hA b (by rw [q]; simp)
        subst e'
        rw [ha] at e; cases e
        have d' : Data.seq vs.toArray _ = Data.dict es ep := d
        cases d'
    have nsK : ∀ {b : Addr} {m : Str -> Option Value}, s₁.heap.Ns b m -> (hidT s₁.heap H).Ns b m := fun {b m} ⟨o, es, ep, e, d, r⟩ => ⟨o, es, ep, base_of e (noA e d), d, r⟩
    have hKb : K.In (hidT s₁.heap H) := fun b o e => base_of (KX b o e) (by
      cases q : H b with
      | none => rfl
      | some u =>
        have e' : b = a := hA b (by rw [q]; simp)
        subst e'
        rw [hK (by rw [q]; simp)] at e; cases e)
    have hM : Mod K mg (hidT s₁.heap H) := ⟨hKb, nsK hns, ⟨mb, nsK hb, hbb⟩, let ⟨mc, h1, h2⟩ := hlim; ⟨mc, nsK h1, h2⟩⟩
    have e0 : Env0 P w K mg (hidT s₁.heap H) callerA [] s₁ H := ⟨rfl, hM, fun b o e => of_hidT e, Nat.le_of_eq (hidT_size _ _), trivial, fun b hb => absurd (show b ∈ ([] : List Addr) from hb) (by simp), hok, .of_eq hg⟩
    refine codeAny_mono ((F _ hKb (nsK hns)).run callerA [] s₁ H ⟨[.ref a], []⟩ [.ref a] [.ref a] _ _ hr e0 (hbind s₁ (.ref a)) (.cons rfl .nil) (hsp H hO hS)) fun r s' h => ?_
    cases r with
    | error e => exact (hCX H e s' h).elim
    | ok fl =>
      cases fl with
      | next => exact False.elim h
      | brk => exact False.elim h
      | cont => exact False.elim h
      | ret u =>
        obtain ⟨v, H', os, bare, un, hok', r', q⟩ := h
        have q' : v = .bl true := q
        subst q'
        obtain rfl : u = Value.bool true := r'
        refine ⟨rfl, OldK.of_keep fun b o e => ?_, os, bare⟩
        cases q : H b with
        | none => exact un.keep b o e q (by intro z; exact absurd (show b ∈ ([] : List Addr) from z) (by simp)) (by simp)
        | some u =>
          rcases hO b with z | ⟨ob, xs, z⟩
          . rw [q] at z; cases z
          . have z2 := un.frzs b ob _ z
            obtain ⟨e1, _⟩ := hok b _ z
            obtain ⟨e2, _⟩ := hok' b _ z2
            rw [e] at e1; cases e1
            exact e2
  cases hk : K.lookup a with
  | some o =>
    have e := KX a o hk
    rw [ha] at e
    cases e
    refine core (fun _ => none) (fun _ => .inl rfl) (.inr ⟨_, vs.toArray, _, hk, rfl, rfl, rfl, by rw [List.size_toArray, lenV]; exact hl, by simpa using rv⟩) (fun b u z => by have z' : (none : Option HO) = some u := z; cases z') (fun b z => absurd rfl z) fun z => absurd rfl z
  | none =>
    refine core (fun b => if b = a then some (.frz { cls := .type "list", data := .seq vs.toArray } (.lst (ns.map V.int))) else none) (fun b => ?_) (.inl (.inr ⟨{ cls := .type "list", data := .seq vs.toArray }, if_pos rfl⟩)) (fun b u z => ?_) (fun b z => ?_) fun _ => hk
    . by_cases hb : b = a
      . exact .inr ⟨_, _, if_pos hb⟩
      . exact .inl (if_neg hb)
    . by_cases hb : b = a
      . have z' := (if_pos hb).symm.trans z
        cases z'
        subst hb
        exact ⟨ha, by rw [List.length_map]; exact hl, vs, _, rv, ha⟩
      . have z' := (if_neg hb).symm.trans z
        cases z'
    . by_cases hb : b = a
      . exact hb
      . exact absurd (if_neg hb) z
theorem walk_of {K : Params -> PySem.W.Frag} {sp : World -> Sp} 
    (hn : l.most = some n) (hn2 : n <= sizeLine) (hdf : d.params.defaults = []) (hr : Room k callerA)
    (hY : ∀ (w : World) (h : Heap), YP w h -> (K w.params).In h)
    (F : ∀ (w : World) (mg : Str -> Option Value) (fa : Addr) (h : Heap), (K w.params).In h -> h.Ns mainGlobals mg -> mg d.name = some (.ref fa) ->
      ∃ fd : FuncData, (∀ (s : Shared) (u : Value), BindsTo s fd ⟨[u], []⟩ [(x, u)]) /\
        ∀ base : Heap, (K w.params).In base -> base.Ns mainGlobals mg -> FnOk l.prog w (K w.params) mg base (CX w) k fa fd [x] (sp w))
    (hsp : ∀ (w : World) (H : Hp) (a : Addr) (ns : List Int), ns.length <= n -> Only H -> SqL (K w.params) H a (ns.map V.int) -> sp w [.ref a] H (fun v _ => v = .bl true) fun _ _ _ => False)
    (hCX : ∀ (w : World) (H : Hp) (s : Shared) (e : Value) (s' : Shared), CX w [] H s (fun _ _ _ => False) e s' -> False) :
    PySem.W.WalkO q loose XP YP l.row.toRowW d [] (fun f vs => PySem.call f vs) := by
  refine Att.attach_call hn hdf fun w s₀ s₁ mg mb fa o pm cd doc a vs ns G Y ho hd hcd hmg hobj hints hlen hg => ?_
  have KX := hY w _ Y
  obtain ⟨fd, hb, hF⟩ := F w mg fa _ KX G.T.g hmg
  exact law_call KX G.T.g G.T.b G.T.builtins G.T.nolimit hg hobj hints (Nat.le_trans hlen hn2) hr hF hb (fun H hO hS => hsp w H a ns hlen hO hS) fun H e s' => hCX w H s₁ e s'
noncomputable def defArgs (s : Stmt) : Arguments := match s with
  | .FunctionDef _ a _ _ _ _ _ _ _ _ => a
  | _ => { posonlyargs := [], args := [], vararg := none, kwonlyargs := [], kw_defaults := [], kwarg := none, defaults := [] }
noncomputable def defBody (s : Stmt) : List Stmt := match s with
  | .FunctionDef _ _ b _ _ _ _ _ _ _ => b
  | _ => []
noncomputable def defScope (s : Stmt) : Scope := match s with
  | .FunctionDef _ _ _ _ _ _ sc _ _ _ => sc
  | _ => { kind := .function, names := [], isGenerator := false, isCoroutine := false }
noncomputable abbrev CX0 : CXT := fun _ _ _ _ _ _ => False
noncomputable abbrev E0 : XK := fun _ _ _ => False
theorem pass0 {X : Cx} : Passes CX0 X E0 := fun _ _ _ _ _ _ _ h => h.elim
structure Fun (K : PySem.W.Frag) (x qual : Str) (st : Stmt) (f : Addr) (fd : FuncData) : Prop where
  ex : ∃ (oc : Value) (od : Option Addr) (kV doc pm : Value) (an : Option Addr) (cdv ct : Value) (osl : Array (Option Value)),
    fd = PySem.W.fnOf x qual (defArgs st) (defBody st) (defScope st) .none kV doc pm an cdv ct /\ K.lookup f = some ⟨oc, od, .func fd, osl⟩ /\ PySem.W.codeIn K cdv qual = true
  kp : PySem.W.keepIn K (.ref f) = true
section
variable {P : Program} {w : World} {K : PySem.W.Frag} {mg : Str -> Option Value} {base : Heap}
theorem Fun.ok {st : Stmt} {N ps : List Str} (F : Fun K x qual st f fd) (S : FnScope N ps (defScope st)) (len : ∀ vs H Q E, sp vs H Q E -> vs.length = ps.length)
    (hbody : ∀ (cdv : Value) (A : Around) (outer : List Env) (s : Shared) (H : Hp) (vs : List V) (Q : VK) (E : XK), Room k (A.deeper (envOfC qual (defScope st) s.heap.objs.size f cdv)) -> sp vs H Q E ->
      ∃ t, PSs (cxOf CX0 P w K mg base N qual (defScope st) f cdv A outer s H E).nox (defBody st) t /\ t { nx := fun _ H' => Q .non H', rt := Q } (start N vs) H) : FnOk P w K mg base CX0 (k + 1) f fd ps sp := by
  obtain ⟨oc, od, kV, doc, pm, an, cdv, ct, osl, rfl, lk, hcd⟩ := F.ex
  refine fn_of lk hcd S len fun A outer s H vs Q E hr hsp => ?_
  obtain ⟨t, h, q⟩ := hbody cdv A outer s H vs Q E hr hsp
  exact ⟨t, h.nox, q⟩
theorem Fun.binds {st : Stmt} (F : Fun K x qual st f fd)
    (h : ∀ (kV doc pm : Value) (an : Option Addr) (cdv ct : Value) (us : List Value), us.length = ps.length -> bindArgs (PySem.W.fnOf x qual (defArgs st) (defBody st) (defScope st) .none kV doc pm an cdv ct) ⟨us, []⟩ = pure (ps.zip us)) : Binds K fd ps [] := by
  obtain ⟨oc, od, kV, doc, pm, an, cdv, ct, osl, rfl, lk, hcd⟩ := F.ex
  exact .all (h kV doc pm an cdv ct)
theorem fun_mk {st : Stmt} {od an : Option Addr} {kV doc pm cdv ct : Value} (l : K.lookup f = some ⟨oc, od, .func (PySem.W.fnOf x qual (defArgs st) (defBody st) (defScope st) .none kV doc pm an cdv ct), osl⟩)
    (c : PySem.W.codeIn K cdv qual = true) (k : PySem.W.keepIn K (.ref f) = true) : Fun K x qual st f (PySem.W.fnOf x qual (defArgs st) (defBody st) (defScope st) .none kV doc pm an cdv ct) := ⟨⟨oc, od, kV, doc, pm, an, cdv, ct, osl, rfl, l, c⟩, k⟩
end
noncomputable def Same (H H' : Hp) : Prop := ∀ b o, H b = some o -> H' b = some o
theorem Same.seq {H H' : Hp} (e : Same H H') (h : SqL K H a xs) : SqL K H' a xs := by
  rcases h with (h | ⟨o, h⟩) | h
  . exact .inl (.inl (e _ _ h))
  . exact .inl (.inr ⟨o, e _ _ h⟩)
  . exact .inr h
section
variable {prog : Program} {w : World} {A : Around} {E : Value -> Shared -> Prop} {s : Shared}
theorem bounds_runC {a c n : Nat} (hac : a <= c) (hc : a <= n) : sliceBounds (some (a : Int)) (some (c : Int)) none n = ((a : Int), ((min c n : Nat) : Int), 1) := by
  simp only [sliceBounds, Option.getD_none]
  have h1 : ¬ ((a : Int) < 0) := by lia
  have h2 : ¬ ((c : Int) < 0) := by lia
  simp only [h1, h2, if_false, show (1 : Int) > 0 by decide, if_true]
  congr 1
  . lia
  . congr 1; lia
theorem setItem_sliceC {l b sl : Addr} {items new : Array Value} {n n2 : Nat} {vl vu : Value} {a c : Nat} 
    (e : s.heap.get? l = some { cls := .type "list", data := .seq items n }) (e2 : s.heap.get? b = some { cls := .type "list", data := .seq new n2 }) (hne : l ≠ b)
    (hs : s.heap.IsSliceOf sl vl vu .none) (pl : IsPart vl (some (a : Int))) (pu : IsPart vu (some (c : Int))) (hac : a <= c) (hc : a <= items.size)
    (hsz : items.size + new.size <= sizeLine) (h : Q () { s with heap := s.heap.update l (Obj.mapSeq fun xs => xs.extract 0 a ++ new ++ xs.extract (min c items.size) xs.size) }) :
    wpAny (model prog w) A (setItem (.ref l) (.ref sl) (.ref b)) Q E s := by
  have hl : s.heap.IsList l items := PySem.IsL.isList e
  have hb : s.heap.IsList b new := PySem.IsL.isList e2
  obtain ⟨os, hos, hcs, hds⟩ := id hs
  have hTs : s.TypeIs (.ref sl) "slice" := ⟨os, hos, hcs⟩
  have hstep : ¬ ((rawPart none == rawInt 0) = true) := Bool.false_ne_true
  have hsame : Builtin.List.listSameRef (.ref l) (.ref b) = false := by
    unfold Builtin.List.listSameRef
    exact beq_eq_false_iff_ne.mpr hne
  have hmax : (max (a : Int) ((min c items.size : Nat) : Int)).toNat = min c items.size := by lia
  have hz' : ((fun xs : Array Value => xs.extract 0 a ++ new ++ xs.extract (min c items.size) xs.size) items).size <= sizeLine + 1 := by
    simp only [Array.size_append, Array.size_extract]
    lia
  unfold setItem
  try with_reducible refine wpAny_holding ?_
  first | refine wpAny_bind (wpAny_pure ?_) | skip
  refine wpAny_bind (wpAny_sequenceKey hl.typeIs (by decide) ?_)
  refine wpAny_bind (wpAny_callSpecial?_slot (name := Str.ofString "__setitem__") hl.typeIs slot_list_setitem
    (wpAny_call_entry slot_list_setitem hl.typeIs entry_list_setitem ?_ (args_list_setitem _ _ _)))
  show wpAny _ _ (Builtin.List.listSubscript? (.ref sl) >>= _) _ _ s
  refine wpAny_bind ?_
  unfold Builtin.List.listSubscript?
  refine wpAny_bind (wpAny_specialOf hTs slice_no_index ?_)
  simp only [Option.isNone_none, if_true]
  refine wpAny_pure ?_
  show wpAny _ _ (typeOf (.ref sl) >>= _) _ _ s
  refine wpAny_bind (wpAny_typeOf hTs ?_)
  first
    | rw [if_neg (by decide)]
    | refine PySem.W.KFB.if_not (by decide) ?_
  rw [listSliceParts_eq]
  refine wpAny_bind (wpAny_bind (wpAny_field hos hds (x := .none) rfl (wpAny_bind (wpAny_listPart .none ?_))))
  rw [if_neg hstep]
  refine wpAny_bind (wpAny_field hos hds (x := vl) rfl (wpAny_bind (wpAny_listPart pl ?_)))
  refine wpAny_bind (wpAny_field hos hds (x := vu) rfl (wpAny_bind (wpAny_listPart pu (wpAny_pure ?_))))
  first
    | simp only [hsame, Bool.false_eq_true, if_false]
    | refine PySem.W.KFB.if_not hsame ?_
    | (dsimp only
       rw [if_neg (by rw [hsame]; exact Bool.false_ne_true)])
  refine wpAny_bind (m := Builtin.List.listAllItems (.ref b) "must assign iterable to extended slice") ?_
  unfold Builtin.List.listAllItems
  refine wpAny_bind (wpAny_typeOf hb.typeIs ?_)
  first
    | refine PySem.W.KFB.if_so (by decide) ?_
    | rw [if_pos (by decide)]
    | simp only [beq_self_eq_true, Bool.true_or, if_true]
  unfold Builtin.List.listItems
  refine wpAny_bind (wpAny_seqItems e2 rfl (wpAny_pure ?_))
  refine wpAny_bind (wpAny_bind (wpAny_seqItems e rfl (wpAny_pure ?_)))
  refine wpAny_bind (wpAny_of_eq ((sliceIndices_raw (some (a : Int)) (some (c : Int)) none items.size (by simp)).trans (congrArg (pure : Int × Int × Int -> Sem (Int × Int × Int)) (bounds_runC hac hc))) ?_)
  show wpAny _ _ (if ((1 : Int) == 1) = true then _ else _) _ _ s
  rw [if_pos (by decide)]
  refine wpAny_bind (wpAny_rule ?_)
  first
    | simp only [notLongL hsz, Bool.false_eq_true, if_false]
    | refine PySem.W.KFB.if_not (notLongL hsz) ?_
  first | refine wpAny_bind (wpAny_pure ?_) | skip
  show wpAny _ _ (updateSeq l (fun xs => xs.extract 0 ((a : Int)).toNat ++ new ++ xs.extract (max (a : Int) ((min c items.size : Nat) : Int)).toNat xs.size) >>= _) _ _ s
  rw [hmax, Int.toNat_natCast]
  refine wpAny_bind (wpAny_updateSeq (hz := Nat.le_trans (Nat.le_add_right _ _) hsz) (_hz' := hz') e rfl ?_)
  refine wpAny_bind (wpAny_letGo ?_)
  first
    | exact wpAny_bind (wpAny_pure (wpAny_pure ⟨.none, rfl, wpAny_pure h⟩))
    | exact wpAny_pure ⟨.none, rfl, wpAny_pure h⟩
end
end L2
namespace M
open L2 PySem
variable {G G' H : Hp} {a p l : Addr} {o : Obj} {xs ys : List V} {ks : List (List Int)} {A A' : List Addr} {K : PySem.W.Frag} {x v : V} {d : D} {ds es : List D} {i : Nat} {c : Ch} {t : T} {ov : Option (Option V)} {s : Sl} {ρ ρ' : R} {e : Expr} {b : Bool} {f : D -> D -> Option D} {ma : ME} {op : Operator} {r : V -> Hp -> VK -> Prop} {g : D -> Option D}
inductive D where
  | non | bl (b : Bool) | int (i : Int) | str (x : Str) | lst (ds : List D) | tup (ds : List D) | scr (ns : List Int) | exc (c : Str) | dic (ks : List Int) (ds : List D) | dit (ks : List (List Int)) (ds : List D)
noncomputable def ExcIs (a C : Addr) (h : Heap) : Prop := ∃ o, h.get? a = some o /\ o.cls = .ref C
noncomputable def kI (n : Int) : Key := Sum.inl n
noncomputable def kn (a : Addr) (o : Obj) : HO := .ext (fun h => h.get? a = some o)
noncomputable def hI : Key -> Int
  | .inl k => hashInt k
  | .inr _ => 0
noncomputable def DtN (o : Obj) (xs : List (List Key × Addr × Value)) : Prop := o.ExactDict /\ (∃ es ep, o.data = .dict es ep /\ es.toList = xs.map fun x => ⟨reduceHash (Builtin.Tuple.tupleHashOf (x.1.map hI)), .ref x.2.1, x.2.2⟩) /\ (xs.map (·.1)).Nodup
structure DtI (G : Hp) (a : Addr) (o : Obj) (xs : List (List Key × Addr × Value)) (ks : List (List Int)) (ys : List (List Key × V)) : Prop where
  sys : (a == sysModules) = false
  dn : DtN o xs
  len : ys.length <= sizeLine
  key : ys.map (·.1) = ks.map (·.map kI)
  kt : Paired (fun (p : List Key × V) (q : List Key × Addr × Value) => p.1 = q.1 /\ G q.2.1 = some (.tup (p.1.map kV)) /\ RelV p.2 q.2.2) ys xs
mutual
noncomputable def RepD (K : PySem.W.Frag) (G : Hp) (v : V) : D -> Prop
  | .non => v = .non
  | .bl b => v = .bl b
  | .int i => v = .int i
  | .str x => v = .str x
  | .lst ds => ∃ a xs, v = .ref a /\ G a = some (.lst xs) /\ RepL K G xs ds
  | .tup ds => ∃ a xs, v = .ref a /\ G a = some (.tup xs) /\ RepL K G xs ds
  | .scr ns => ∃ a, v = .ref a /\ SqL K G a (ns.map V.int)
  | .exc c => ∃ a C, v = .ref a /\ PySem.W.nsIn K mainGlobals c = some (some (.ref C)) /\ G a = some (.ext (ExcIs a C))
  | .dic ks ds => ∃ a ys, v = .ref a /\ Rd G a (.dK ys) /\ ys.map (·.1) = ks.map kI /\ RepL K G (ys.map (·.2)) ds
  | .dit ks ds => ∃ a ys o xs, v = .ref a /\ G a = some (kn a o) /\ DtI G a o xs ks ys /\ RepL K G (ys.map (·.2)) ds
noncomputable def RepL (K : PySem.W.Frag) (G : Hp) (xs : List V) : List D -> Prop
  | [] => xs = []
  | d :: ds => ∃ x ys, xs = x :: ys /\ RepD K G x d /\ RepL K G ys ds
end
noncomputable def Fz (G H : Hp) : Prop := ∀ a o, G a = some o -> H a = some o
theorem DtI.mono {xs : List (List Key × Addr × Value)} {ys : List (List Key × V)} (d : DtI G a o xs ks ys) (h : Fz G G') : DtI G' a o xs ks ys := { d with kt := Paired.mapP d.kt fun _ _ z => ⟨z.1, h _ _ z.2.1, z.2.2⟩ }
theorem Fz.refl (G : Hp) : Fz G G := fun _ _ h => h
theorem Fz.trans {A B C : Hp} (h : Fz A B) (k : Fz B C) : Fz A C := fun a o e => k a o (h a o e)
theorem Fz.free (h : Fz G H) (e : H p = none) : G p = none := by
  cases q : G p with
  | none => rfl
  | some o => rw [h p o q] at e; cases e
theorem Fz.new (e : G p = none) (o : HO) : Fz G (upd G p o) := fun a u q => by
  rw [upd_ne (ne_of_none q e)]; exact q
theorem Fz.upd2 (h : Fz G H) (p : Addr) (o : HO) : Fz (upd G p o) (upd H p o) := fun a u q => by
  by_cases e : a = p
  . subst e; rw [upd_same] at q ⊢; exact q
  . rw [upd_ne e] at q ⊢; exact h a u q
theorem Fz.right (h : Fz G H) (e : G p = none) (o : HO) : Fz G (upd H p o) := fun a u q => by
  rw [upd_ne (ne_of_none q e)]; exact h a u q
theorem Fz.sql {G H : Hp} (h : Fz G H) (q : SqL K G a xs) : SqL K H a xs := Same.seq (H := G) (H' := H) h q
mutual
theorem RepD.mono (h : Fz G G') : ∀ {v : V} {d : D}, RepD K G v d -> RepD K G' v d
  | _, .non, e => e
  | _, .bl _, e => e
  | _, .int _, e => e
  | _, .str _, e => e
  | _, .lst _, ⟨a, xs, e, q, r⟩ => ⟨a, xs, e, h a _ q, RepL.mono h r⟩
  | _, .tup _, ⟨a, xs, e, q, r⟩ => ⟨a, xs, e, h a _ q, RepL.mono h r⟩
  | _, .scr _, ⟨a, e, q⟩ => ⟨a, e, h.sql q⟩
  | _, .exc _, ⟨a, C, e, n, q⟩ => ⟨a, C, e, n, h a _ q⟩
  | _, .dic _ _, ⟨a, ys, e, q, f, r⟩ => ⟨a, ys, e, q.imp (h a _) fun ⟨o, z⟩ => ⟨o, h a _ z⟩, f, RepL.mono h r⟩
  | _, .dit _ _, ⟨a, ys, o, xs, e, q, f, r⟩ => ⟨a, ys, o, xs, e, h a _ q, f.mono h, RepL.mono h r⟩
theorem RepL.mono (h : Fz G G') : ∀ {xs : List V} {ds : List D}, RepL K G xs ds -> RepL K G' xs ds
  | _, [], e => e
  | _, _ :: _, ⟨x, ys, e, q, r⟩ => ⟨x, ys, e, RepD.mono h q, RepL.mono h r⟩
end
section
variable {K : PySem.W.Frag} {G : Hp}
theorem RepL.nil : RepL K G [] [] := rfl
theorem RepL.cons {x : V} {d : D} (h : RepD K G x d) (t : RepL K G xs ds) : RepL K G (x :: xs) (d :: ds) := ⟨x, xs, rfl, h, t⟩
theorem RepL.length : ∀ {xs : List V} {ds : List D}, RepL K G xs ds -> xs.length = ds.length
  | _, [], e => by cases e; rfl
  | _, _ :: _, ⟨x, ys, e, _, r⟩ => by subst e; rw [List.length_cons, List.length_cons, RepL.length r]
theorem RepL.get : ∀ {xs : List V} {ds : List D} {i : Nat} {d : D}, RepL K G xs ds -> ds[i]? = some d -> ∃ x, xs[i]? = some x /\ RepD K G x d
  | _, [], _, _, _, h => by simp at h
  | _, _ :: _, 0, _, ⟨x, ys, e, q, r⟩, h => by subst e; simp at h; subst h; exact ⟨x, rfl, q⟩
  | _, _ :: _, i + 1, _, ⟨x, ys, e, q, r⟩, h => by
    subst e
    obtain ⟨y, h1, h2⟩ := RepL.get (i := i) r (by simpa using h)
    exact ⟨y, by simpa using h1, h2⟩
theorem RepL.append : ∀ {xs ys : List V} {ds es : List D}, RepL K G xs ds -> RepL K G ys es -> RepL K G (xs ++ ys) (ds ++ es)
  | _, _, [], _, e, r => by cases e; exact r
  | _, _, _ :: _, _, ⟨x, zs, e, q, r⟩, s => by subst e; exact ⟨x, zs ++ _, rfl, q, RepL.append r s⟩
theorem RepL.snoc (h : RepL K G xs ds) (q : RepD K G x d) : RepL K G (xs ++ [x]) (ds ++ [d]) := h.append (.cons q .nil)
theorem RepL.take : ∀ {xs : List V} {ds : List D} (n : Nat), RepL K G xs ds -> RepL K G (xs.take n) (ds.take n)
  | _, _, 0, _ => by simp; exact .nil
  | _, [], n + 1, e => by cases e; exact .nil
  | _, _ :: _, n + 1, ⟨x, zs, e, q, r⟩ => by subst e; exact ⟨x, zs.take n, rfl, q, RepL.take n r⟩
theorem RepL.drop : ∀ {xs : List V} {ds : List D} (n : Nat), RepL K G xs ds -> RepL K G (xs.drop n) (ds.drop n)
  | _, _, 0, r => by simpa using r
  | _, [], n + 1, e => by cases e; exact .nil
  | _, _ :: _, n + 1, ⟨x, zs, e, q, r⟩ => by subst e; exact RepL.drop n r
theorem RepL.set : ∀ {xs : List V} {ds : List D} (i : Nat) {x : V} {d : D}, RepL K G xs ds -> RepD K G x d -> RepL K G (xs.set i x) (ds.set i d)
  | _, [], _, _, _, e, _ => by cases e; exact .nil
  | _, _ :: _, 0, _, _, ⟨x, zs, e, q, r⟩, h => by subst e; exact ⟨_, zs, rfl, h, r⟩
  | _, _ :: _, i + 1, _, _, ⟨x, zs, e, q, r⟩, h => by subst e; exact ⟨x, _, rfl, q, RepL.set i r h⟩
theorem RepL.rep (h : RepL K G xs ds) : ∀ k : Nat, RepL K G (List.replicate k xs).flatten (List.replicate k ds).flatten
  | 0 => .nil
  | k + 1 => by rw [List.replicate_succ, List.replicate_succ, List.flatten_cons, List.flatten_cons]; exact h.append (RepL.rep h k)
theorem RepL.ints : ∀ (ns : List Int), RepL K G (ns.map V.int) (ns.map D.int)
  | [] => .nil
  | n :: ns => ⟨.int n, ns.map V.int, rfl, rfl, RepL.ints ns⟩
theorem RepL.ints_eq : ∀ {ns : List Int} {xs : List V}, RepL K G xs (ns.map D.int) -> xs = ns.map V.int
  | [], _, e => e
  | n :: ns, _, ⟨x, ys, e, q, r⟩ => by subst e; cases (show x = V.int n from q); rw [RepL.ints_eq r]; rfl
theorem RepL.at {i : Int} (h : RepL K G xs ds) (e : atI ds i = some d) : ∃ x, atI xs i = some x /\ RepD K G x d := by
  unfold atI at e ⊢
  rw [h.length]
  cases q : ixN ds.length i with
  | none => rw [q] at e; cases e
  | some j => rw [q] at e; exact h.get e
end
inductive Ch where
  | d (x : D) | l (xs : List D) | t (xss : List (List D))
inductive T where
  | lst (cs : List Ch) | tup (cs : List Ch) | ins (c : Str) (fs : List (Str × Ch)) | dic (ks : List Int) (ds : List D) | dit (ks : List (List Int)) (ds : List D)
inductive Sl where
  | emp | val (d : D) | own (ds : List D) | par (ds : List D) | two (ds es : List D) | tre (t : T) | ptr (t : T)
noncomputable abbrev R := List Sl
noncomputable def Sl.items : Sl -> Option (List D)
  | .own ds => some ds
  | .par ds => some ds
  | _ => none
structure Bs where
  G : Hp
  H : Hp
  O : List (Nat × Addr)
noncomputable def RepTb (K : PySem.W.Frag) (G H : Hp) : List V -> List (List D) -> List Addr -> Prop
  | [], [], A => A = []
  | x :: xs, ds :: dss, A => ∃ r ys A2, x = .ref r /\ H r = some (.lst ys) /\ RepL K G ys ds /\ RepTb K G H xs dss A2 /\ A = r :: A2
  | _, _, _ => False
noncomputable def RepC (K : PySem.W.Frag) (G H : Hp) (x : V) : Ch -> List Addr -> Prop
  | .d y, A => RepD K G x y /\ A = []
  | .l ds, A => ∃ l xs, x = .ref l /\ H l = some (.lst xs) /\ RepL K G xs ds /\ A = [l]
  | .t xss, A => ∃ p xs A', x = .ref p /\ H p = some (.lst xs) /\ RepTb K G H xs xss A' /\ A = p :: A'
noncomputable def RepCs (K : PySem.W.Frag) (G H : Hp) : List V -> List Ch -> List Addr -> Prop
  | [], [], A => A = []
  | x :: xs, c :: cs, A => ∃ A1 A2, RepC K G H x c A1 /\ RepCs K G H xs cs A2 /\ A = A1 ++ A2
  | _, _, _ => False
noncomputable def RepT (K : PySem.W.Frag) (G H : Hp) (v : V) : T -> List Addr -> Prop
  | .lst cs, A => ∃ p xs A', v = .ref p /\ H p = some (.lst xs) /\ RepCs K G H xs cs A' /\ A = p :: A'
  | .tup cs, A => ∃ p xs A', v = .ref p /\ H p = some (.tup xs) /\ RepCs K G H xs cs A' /\ A = p :: A'
  | .ins c fs, A => ∃ p C dx vs A', v = .ref p /\ PySem.W.nsIn K mainGlobals c = some (some (.ref C)) /\ H p = some (.ins C dx vs) /\ H dx = some (.own p) /\ vs.map (·.1) = fs.map (·.1) /\ RepCs K G H (vs.map (·.2)) (fs.map (·.2)) A' /\ A = p :: dx :: A'
  | .dic ks ds, A => ∃ p ys, v = .ref p /\ H p = some (.dK ys) /\ ys.map (·.1) = ks.map kI /\ RepL K G (ys.map (·.2)) ds /\ A = [p]
  | .dit ks ds, A => ∃ p ys o xs, v = .ref p /\ H p = some (kn p o) /\ DtI G p o xs ks ys /\ RepL K G (ys.map (·.2)) ds /\ A = [p]
section
variable {K : PySem.W.Frag} {G G' H H' : Hp}
theorem RepTb.move : ∀ {xs : List V} {dss : List (List D)} {A : List Addr}, RepTb K G H xs dss A -> Fz G G' -> (∀ a ∈ A, H' a = H a) -> RepTb K G' H' xs dss A
  | [], [], _, h, _, _ => h
  | x :: xs, ds :: dss, A, ⟨r, ys, A2, e1, e2, e3, e4, e5⟩, hg, hh => ⟨r, ys, A2, e1, by rw [hh r (by rw [e5]; simp)]; exact e2, e3.mono hg, e4.move hg fun a m => hh a (by rw [e5]; simp [m]), e5⟩
  | [], _ :: _, _, h, _, _ => h.elim
  | _ :: _, [], _, h, _, _ => h.elim
theorem RepTb.det : ∀ {xs : List V} {dss : List (List D)} {A A' : List Addr}, RepTb K G H xs dss A -> RepTb K G' H' xs dss A' -> A = A'
  | [], [], _, _, h, h' => by rw [show _ = [] from h, show _ = [] from h']
  | x :: xs, ds :: dss, _, _, ⟨r, ys, A2, e1, _, _, e4, e5⟩, ⟨r', ys', A2', e1', _, _, e4', e5'⟩ => by
    rw [e1] at e1'; cases e1'
    rw [e5, e5', e4.det e4']
  | [], _ :: _, _, _, h, _ => h.elim
  | _ :: _, [], _, _, h, _ => h.elim
theorem RepTb.here : ∀ {xs : List V} {dss : List (List D)} {A : List Addr}, RepTb K G H xs dss A -> ∀ {a : Addr}, a ∈ A -> ∃ xs, H a = some (.lst xs)
  | [], [], _, h, a, m => by rw [show _ = [] from h] at m; cases m
  | x :: xs, ds :: dss, _, ⟨r, ys, A2, e1, e2, _, e4, e5⟩, a, m => by
    rw [e5] at m
    rcases List.mem_cons.mp m with rfl | m
    . exact ⟨ys, e2⟩
    . exact e4.here m
  | [], _ :: _, _, h, _, _ => h.elim
  | _ :: _, [], _, h, _, _ => h.elim
theorem RepC.move (h : RepC K G H x c A) (hg : Fz G G') (hh : ∀ a ∈ A, H' a = H a) : RepC K G' H' x c A := by
  cases c with
  | d y => exact ⟨h.1.mono hg, h.2⟩
  | l ds => obtain ⟨l, xs, e, q, r, rfl⟩ := h; exact ⟨l, xs, e, by rw [hh l (by simp)]; exact q, r.mono hg, rfl⟩
  | t xss => obtain ⟨p, xs, A', e, q, r, rfl⟩ := h; exact ⟨p, xs, A', e, by rw [hh p (by simp)]; exact q, r.move hg fun a m => hh a (by simp [m]), rfl⟩
theorem RepCs.move : ∀ {xs : List V} {cs : List Ch} {A : List Addr}, RepCs K G H xs cs A -> Fz G G' -> (∀ a ∈ A, H' a = H a) -> RepCs K G' H' xs cs A
  | [], [], _, h, _, _ => h
  | x :: xs, c :: cs, A, ⟨A1, A2, h1, h2, e⟩, hg, hh => ⟨A1, A2, h1.move hg fun a m => hh a (by rw [e]; exact List.mem_append_left _ m), h2.move hg fun a m => hh a (by rw [e]; exact List.mem_append_right _ m), e⟩
  | [], _ :: _, _, h, _, _ => h.elim
  | _ :: _, [], _, h, _, _ => h.elim
theorem RepT.move (h : RepT K G H v t A) (hg : Fz G G') (hh : ∀ a ∈ A, H' a = H a) : RepT K G' H' v t A := by
  cases t with
  | lst cs => obtain ⟨p, xs, A', e, q, r, rfl⟩ := h; exact ⟨p, xs, A', e, by rw [hh p (by simp)]; exact q, r.move hg fun a m => hh a (by simp [m]), rfl⟩
  | tup cs => obtain ⟨p, xs, A', e, q, r, rfl⟩ := h; exact ⟨p, xs, A', e, by rw [hh p (by simp)]; exact q, r.move hg fun a m => hh a (by simp [m]), rfl⟩
  | ins c fs => obtain ⟨p, C, dx, vs, A', e, n, q, q2, f, r, rfl⟩ := h; exact ⟨p, C, dx, vs, A', e, n, by rw [hh p (by simp)]; exact q, by rw [hh dx (by simp)]; exact q2, f, r.move hg fun a m => hh a (by simp [m]), rfl⟩
  | dic ks ds => obtain ⟨p, ys, e, q, f, r, rfl⟩ := h; exact ⟨p, ys, e, by rw [hh p (by simp)]; exact q, f, r.mono hg, rfl⟩
  | dit ks ds => obtain ⟨p, ys, o, xs, e, q, f, r, rfl⟩ := h; exact ⟨p, ys, o, xs, e, by rw [hh p (by simp)]; exact q, f.mono hg, r.mono hg, rfl⟩
theorem RepC.det (h : RepC K G H x c A) (h' : RepC K G' H' x c A') (hh : ∀ a ∈ A, H' a = H a) : A = A' := by
  cases c with
  | d y => rw [h.2, h'.2]
  | l ds => obtain ⟨l, xs, e, _, _, rfl⟩ := h; obtain ⟨l', xs', e', _, _, rfl⟩ := h'; rw [e] at e'; cases e'; rfl
  | t xss =>
    obtain ⟨p, xs, B, e, q, r, rfl⟩ := h; obtain ⟨p', xs', B', e', q', r', rfl⟩ := h'
    rw [e] at e'; cases e'
    rw [hh p (by simp), q] at q'; cases q'
    rw [r.det r']
theorem RepCs.det : ∀ {xs : List V} {cs : List Ch} {A A' : List Addr}, RepCs K G H xs cs A -> RepCs K G' H' xs cs A' -> (∀ a ∈ A, H' a = H a) -> A = A'
  | [], [], _, _, h, h', _ => by rw [show _ = [] from h, show _ = [] from h']
  | x :: xs, c :: cs, _, _, ⟨A1, A2, h1, h2, e⟩, ⟨B1, B2, k1, k2, e'⟩, hh => by rw [e, e', h1.det k1 fun a m => hh a (by rw [e]; exact List.mem_append_left _ m), h2.det k2 fun a m => hh a (by rw [e]; exact List.mem_append_right _ m)]
  | [], _ :: _, _, _, h, _, _ => h.elim
  | _ :: _, [], _, _, h, _, _ => h.elim
theorem RepT.det (h : RepT K G H v t A) (h' : RepT K G' H' v t A') (hh : ∀ a ∈ A, H' a = H a) : A = A' := by
  cases t with
  | lst cs =>
    obtain ⟨p, xs, B, e, q, r, rfl⟩ := h; obtain ⟨p', xs', B', e', q', r', rfl⟩ := h'
    rw [e] at e'; cases e'
    rw [hh p (by simp), q] at q'; cases q'
    rw [r.det r' fun a m => hh a (by simp [m])]
  | tup cs =>
    obtain ⟨p, xs, B, e, q, r, rfl⟩ := h; obtain ⟨p', xs', B', e', q', r', rfl⟩ := h'
    rw [e] at e'; cases e'
    rw [hh p (by simp), q] at q'; cases q'
    rw [r.det r' fun a m => hh a (by simp [m])]
  | ins c fs =>
    obtain ⟨p, C, dx, vs, B, e, n, q, q2, f, r, rfl⟩ := h; obtain ⟨p', C', dx', vs', B', e', n', q', q2', f', r', rfl⟩ := h'
    rw [e] at e'; cases e'
    rw [hh p (by simp), q] at q'; cases q'
    rw [r.det r' fun a m => hh a (by simp [m])]
  | dic ks ds => obtain ⟨p, ys, e, q, f, r, rfl⟩ := h; obtain ⟨p', ys', e', q', f', r', rfl⟩ := h'; rw [e] at e'; cases e'; rfl
  | dit ks ds => obtain ⟨p, ys, o, xs, e, q, f, r, rfl⟩ := h; obtain ⟨p', ys', o', xs', e', q', f', r', rfl⟩ := h'; rw [e] at e'; cases e'; rfl
theorem RepC.here (h : RepC K G H x c A) (m : a ∈ A) : ∃ xs, H a = some (.lst xs) := by
  cases c with
  | d y => rw [h.2] at m; cases m
  | l ds => obtain ⟨l, xs, _, q, _, rfl⟩ := h; simp at m; subst m; exact ⟨xs, q⟩
  | t xss =>
    obtain ⟨p, xs, A', _, q, r, rfl⟩ := h
    rcases List.mem_cons.mp m with rfl | m
    . exact ⟨xs, q⟩
    . exact r.here m
theorem RepCs.here : ∀ {xs : List V} {cs : List Ch} {A : List Addr}, RepCs K G H xs cs A -> ∀ {a : Addr}, a ∈ A -> ∃ xs, H a = some (.lst xs)
  | [], [], _, h, a, m => by rw [show _ = [] from h] at m; cases m
  | x :: xs, c :: cs, _, ⟨A1, A2, h1, h2, e⟩, a, m => by
    rw [e] at m
    rcases List.mem_append.mp m with m | m
    . exact h1.here m
    . exact h2.here m
  | [], _ :: _, _, h, _, _ => h.elim
  | _ :: _, [], _, h, _, _ => h.elim
theorem RepT.here (h : RepT K G H v t A) (m : a ∈ A) : H a ≠ none := by
  cases t with
  | lst cs =>
    obtain ⟨p, xs, B, e, q, r, rfl⟩ := h
    rcases List.mem_cons.mp m with rfl | m
    . rw [q]; simp
    . obtain ⟨ys, z⟩ := r.here m; rw [z]; simp
  | tup cs =>
    obtain ⟨p, xs, B, e, q, r, rfl⟩ := h
    rcases List.mem_cons.mp m with rfl | m
    . rw [q]; simp
    . obtain ⟨ys, z⟩ := r.here m; rw [z]; simp
  | ins c fs =>
    obtain ⟨p, C, dx, vs, B, e, n, q, q2, f, r, rfl⟩ := h
    rcases List.mem_cons.mp m with rfl | m
    . rw [q]; simp
    rcases List.mem_cons.mp m with rfl | m
    . rw [q2]; simp
    . obtain ⟨ys, z⟩ := r.here m; rw [z]; simp
  | dic ks ds => obtain ⟨p, ys, e, q, f, r, rfl⟩ := h; simp at m; subst m; rw [q]; simp
  | dit ks ds => obtain ⟨p, ys, o, xs, e, q, f, r, rfl⟩ := h; simp at m; subst m; rw [q]; simp
end
noncomputable def SlotOk (K : PySem.W.Frag) (B : Bs) (G H : Hp) (i : Nat) (ov : Option (Option V)) : Sl -> Prop
  | .emp => True
  | .two _ _ => True
  | .val d => ∃ v, ov = some (some v) /\ RepD K G v d
  | .own ds => ∃ l xs, ov = some (some (.ref l)) /\ G l = none /\ H l = some (.lst xs) /\ RepL K G xs ds /\ B.H l = none
  | .par ds => ∃ l xs, ov = some (some (.ref l)) /\ G l = none /\ H l = some (.lst xs) /\ RepL K G xs ds /\ (i, l) ∈ B.O
  | .tre t => ∃ v A, ov = some (some v) /\ RepT K G H v t A /\ A.Nodup /\ ∀ a ∈ A, G a = none /\ B.H a = none
  | .ptr t => ∃ v A, ov = some (some v) /\ RepT K G H v t A /\ (A.Nodup /\ ∃ p, v = .ref p /\ (i + 4096, p) ∈ B.O) /\ ∀ a ∈ A, G a = none /\ (i, a) ∈ B.O
noncomputable def Wr (ρ : R) (i : Nat) : Prop := ∃ s ds, ρ[i]? = some s /\ s.items = some ds
noncomputable def OwS (K : PySem.W.Frag) (G H : Hp) (ov : Option (Option V)) (a : Addr) : Sl -> Prop
  | .own _ => ov = some (some (.ref a))
  | .par _ => ov = some (some (.ref a))
  | .tre t => ∃ v A, ov = some (some v) /\ RepT K G H v t A /\ a ∈ A
  | .ptr t => ∃ v A, ov = some (some v) /\ RepT K G H v t A /\ a ∈ A
  | _ => False
noncomputable def Nw (K : PySem.W.Frag) (G H : Hp) (σ : St) (ρ : R) (a : Addr) : Prop := ∀ (i : Nat) (s : Sl), ρ[i]? = some s -> ¬ OwS K G H σ[i]? a s
structure SI (K : PySem.W.Frag) (B : Bs) (G H : Hp) (σ : St) (ρ : R) : Prop where
  fz : Fz G H
  g0 : Fz B.G G
  new : ∀ b o, G b = some o -> B.G b ≠ none \/ B.H b = none
  keep : ∀ b o, B.H b = some o -> (∀ i, (i, b) ∉ B.O) -> H b = some o
  there : ∀ b, H b = none -> B.H b = none
  len : σ.length = ρ.length
  ob : ∀ i b, (i, b) ∈ B.O -> B.H b ≠ none
  slot : ∀ i s, ρ[i]? = some s -> SlotOk K B G H i σ[i]? s
  dis : ∀ (i j : Nat) (s t : Sl) (a : Addr), i ≠ j -> ρ[i]? = some s -> ρ[j]? = some t -> OwS K G H σ[i]? a s -> ¬ OwS K G H σ[j]? a t
section
variable {K : PySem.W.Frag} {B : Bs} {G G' H H' : Hp} {σ : St} {ρ : R}
theorem SlotOk.own (h : SlotOk K B G H i ov s) (w : OwS K G H ov a s) : G a = none /\ H a ≠ none /\ (B.H a = none \/ (i, a) ∈ B.O) := by
  cases s with
  | emp => exact w.elim
  | two _ _ => exact w.elim
  | val d => exact w.elim
  | own ds => obtain ⟨l, xs, e, g, k, r, n⟩ := h; rw [show ov = _ from w] at e; cases e; exact ⟨g, by rw [k]; simp, .inl n⟩
  | par ds => obtain ⟨l, xs, e, g, k, r, n⟩ := h; rw [show ov = _ from w] at e; cases e; exact ⟨g, by rw [k]; simp, .inr n⟩
  | tre t =>
    obtain ⟨v, A, e, r, nd, f⟩ := h
    obtain ⟨v', A', e', r', m⟩ := w
    rw [e] at e'; cases e'
    rw [<- r.det r' fun _ _ => rfl] at m
    exact ⟨(f a m).1, r.here m, .inl (f a m).2⟩
  | ptr t =>
    obtain ⟨v, A, e, r, nd, f⟩ := h
    obtain ⟨v', A', e', r', m⟩ := w
    rw [e] at e'; cases e'
    rw [<- r.det r' fun _ _ => rfl] at m
    exact ⟨(f a m).1, r.here m, .inr (f a m).2⟩
theorem SlotOk.mono (h : SlotOk K B G H i ov s) (hg : Fz G G') (hw : ∀ a, OwS K G H ov a s -> G a = none -> H a ≠ none -> G' a = none /\ H' a = H a) : SlotOk K B G' H' i ov s := by
  have ow := fun a (w : OwS K G H ov a s) => h.own w
  cases s with
  | emp => trivial
  | two _ _ => trivial
  | val d => obtain ⟨v, e, r⟩ := h; exact ⟨v, e, r.mono hg⟩
  | own ds =>
    obtain ⟨l, xs, e, g, k, r, n⟩ := h
    obtain ⟨h1, h2⟩ := hw l e g (by rw [k]; simp)
    exact ⟨l, xs, e, h1, h2.trans k, r.mono hg, n⟩
  | par ds =>
    obtain ⟨l, xs, e, g, k, r, n⟩ := h
    obtain ⟨h1, h2⟩ := hw l e g (by rw [k]; simp)
    exact ⟨l, xs, e, h1, h2.trans k, r.mono hg, n⟩
  | tre t =>
    obtain ⟨v, A, e, r, nd, f⟩ := h
    have w := fun a m => hw a ⟨v, A, e, r, m⟩ (f a m).1 (r.here m)
    exact ⟨v, A, e, r.move hg fun a m => (w a m).2, nd, fun a m => ⟨(w a m).1, (f a m).2⟩⟩
  | ptr t =>
    obtain ⟨v, A, e, r, nd, f⟩ := h
    have w := fun a m => hw a ⟨v, A, e, r, m⟩ (f a m).1 (r.here m)
    exact ⟨v, A, e, r.move hg fun a m => (w a m).2, nd, fun a m => ⟨(w a m).1, (f a m).2⟩⟩
theorem SlotOk.back (h : SlotOk K B G H i ov s) (hw : ∀ a, OwS K G H ov a s -> G a = none -> H a ≠ none -> G' a = none /\ H' a = H a) (w : OwS K G' H' ov a s) : OwS K G H ov a s := by
  cases s with
  | emp => exact w
  | two _ _ => exact w
  | val d => exact w
  | own ds => exact w
  | par ds => exact w
  | tre t =>
    obtain ⟨v, A, e, r, nd, f⟩ := h
    obtain ⟨v', A', e', r', m⟩ := w
    rw [e] at e'; cases e'
    have q := r.det r' fun a m => (hw a ⟨v, A, e, r, m⟩ (f a m).1 (r.here m)).2
    subst q
    exact ⟨v, A, e, r, m⟩
  | ptr t =>
    obtain ⟨v, A, e, r, nd, f⟩ := h
    obtain ⟨v', A', e', r', m⟩ := w
    rw [e] at e'; cases e'
    have q := r.det r' fun a m => (hw a ⟨v, A, e, r, m⟩ (f a m).1 (r.here m)).2
    subst q
    exact ⟨v, A, e, r, m⟩
theorem SI.move (I : SI K B G H σ ρ) (fz : Fz G' H') (fg : Fz G G') (new : ∀ b o, G' b = some o -> B.G b ≠ none \/ B.H b = none) (keep : ∀ b o, B.H b = some o -> (∀ i, (i, b) ∉ B.O) -> H' b = some o) (there : ∀ b, H' b = none -> B.H b = none)
    (ow : ∀ (i : Nat) (s : Sl) (a : Addr), ρ[i]? = some s -> OwS K G H σ[i]? a s -> G a = none -> H a ≠ none -> G' a = none /\ H' a = H a) : SI K B G' H' σ ρ where
  fz := fz
  g0 := I.g0.trans fg
  new := new
  keep := keep
  there := there
  len := I.len
  ob := I.ob
  slot := fun i s e => (I.slot i s e).mono fg fun a w g h => ow i s a e w g h
  dis := fun i j s t a n e1 e2 w1 w2 => I.dis i j s t a n e1 e2 ((I.slot i s e1).back (fun a w g h => ow i s a e1 w g h) w1) ((I.slot j t e2).back (fun a w g h => ow j t a e2 w g h) w2)
theorem SI.chg (I : SI K B G H σ ρ) {ov : Option V} {s' : Sl} (fz : Fz G' H') (fg : Fz G G') (new : ∀ b o, G' b = some o -> B.G b ≠ none \/ B.H b = none) (keep : ∀ b o, B.H b = some o -> (∀ i, (i, b) ∉ B.O) -> H' b = some o) (there : ∀ b, H' b = none -> B.H b = none)
    (ow : ∀ (j : Nat) (s : Sl) (a : Addr), j ≠ i -> ρ[j]? = some s -> OwS K G H σ[j]? a s -> G a = none -> H a ≠ none -> G' a = none /\ H' a = H a /\ ¬ OwS K G' H' (some ov) a s') (sl : SlotOk K B G' H' i (some ov) s') : SI K B G' H' (σ.set i ov) (ρ.set i s') := by
  have atI : ∀ {s}, (ρ.set i s')[i]? = some s -> s = s' /\ (σ.set i ov)[i]? = some ov := fun {s} e => by
    rw [List.getElem?_set, if_pos rfl] at e ⊢
    split at e
    . rename_i h; cases e; rw [if_pos (by rw [I.len]; exact h)]; exact ⟨rfl, rfl⟩
    . cases e
  have atJ : ∀ {j s}, j ≠ i -> (ρ.set i s')[j]? = some s -> ρ[j]? = some s /\ (σ.set i ov)[j]? = σ[j]? := fun {j s} n e => by
    rw [List.getElem?_set_ne (Ne.symm n)] at e ⊢
    exact ⟨e, rfl⟩
  refine ⟨fz, I.g0.trans fg, new, keep, there, by rw [List.length_set, List.length_set]; exact I.len, I.ob, fun j s e => ?_, fun j k s t a n e1 e2 w1 w2 => ?_⟩
  . by_cases z : j = i
    . subst z; obtain ⟨rfl, q⟩ := atI e; rw [q]; exact sl
    . obtain ⟨e1, q⟩ := atJ z e
      rw [q]
      exact (I.slot j s e1).mono fg fun a w g h => ⟨(ow j s a z e1 w g h).1, (ow j s a z e1 w g h).2.1⟩
  . have one : ∀ j s, j ≠ i -> (ρ.set i s')[j]? = some s -> OwS K G' H' (σ.set i ov)[j]? a s -> ρ[j]? = some s /\ OwS K G H σ[j]? a s := fun j s z e w => by
      obtain ⟨e1, q⟩ := atJ z e
      rw [q] at w
      exact ⟨e1, (I.slot j s e1).back (fun a w g h => ⟨(ow j s a z e1 w g h).1, (ow j s a z e1 w g h).2.1⟩) w⟩
    by_cases z1 : j = i
    . subst z1
      obtain ⟨rfl, q1⟩ := atI e1
      obtain ⟨f2, w2⟩ := one k t (Ne.symm n) e2 w2
      obtain ⟨o1, o2, _⟩ := (I.slot k t f2).own w2
      rw [q1] at w1
      exact (ow k t a (Ne.symm n) f2 w2 o1 o2).2.2 w1
    . have p1 := one j s z1 e1 w1
      by_cases z2 : k = i
      . subst z2
        obtain ⟨rfl, q2⟩ := atI e2
        obtain ⟨o1, o2, _⟩ := (I.slot j s p1.1).own p1.2
        rw [q2] at w2
        exact (ow j s a z1 p1.1 p1.2 o1 o2).2.2 w2
      . have p2 := one k t z2 e2 w2
        exact I.dis j k s t a n p1.1 p2.1 p1.2 p2.2
theorem SI.nw (I : SI K B G H σ ρ) (hp : H p = none) : Nw K G H σ ρ p := fun i s e w => ((I.slot i s e).own w).2.1 hp
theorem SI.nw_move (I : SI K B G H σ ρ) (n : Nw K G H σ ρ p) (ow : ∀ (i : Nat) (s : Sl) (a : Addr), ρ[i]? = some s -> OwS K G H σ[i]? a s -> G a = none -> H a ≠ none -> G' a = none /\ H' a = H a) : Nw K G' H' σ ρ p :=
  fun i s e w => n i s e ((I.slot i s e).back (fun a w g h => ow i s a e w g h) w)
theorem SI.allocF (I : SI K B G H σ ρ) (hp : H p = none) (o : HO) : SI K B (upd G p o) (upd H p o) σ ρ :=
  I.move (I.fz.upd2 p o) (Fz.new (I.fz.free hp) o) (fun b u e => by
    by_cases q : b = p
    . subst q; exact .inr (I.there b hp)
    . rw [upd_ne q] at e; exact I.new b u e) (fun b u e n => by
    have q := I.keep b u e n
    rw [upd_ne (ne_of_none q hp)]; exact q) (fun b e => by
    by_cases q : b = p
    . subst q; rw [upd_same] at e; cases e
    . rw [upd_ne q] at e; exact I.there b e) (fun i s a _ _ g h => by
    have q : a ≠ p := fun z => h (by rw [z]; exact hp)
    rw [upd_ne q, upd_ne q]; exact ⟨g, rfl⟩)
theorem SI.allocO (I : SI K B G H σ ρ) (hp : H p = none) (o : HO) : SI K B G (upd H p o) σ ρ :=
  I.move (I.fz.right (I.fz.free hp) o) (Fz.refl G) I.new (fun b u e n => by
    have q := I.keep b u e n
    rw [upd_ne (ne_of_none q hp)]; exact q) (fun b e => by
    by_cases q : b = p
    . subst q; rw [upd_same] at e; cases e
    . rw [upd_ne q] at e; exact I.there b e) (fun i s a _ _ g h => by
    have q : a ≠ p := fun z => h (by rw [z]; exact hp)
    rw [upd_ne q]; exact ⟨g, rfl⟩)
theorem SI.frz (I : SI K B G H σ ρ) {o : HO} (hl : H l = some o) (hB : B.H l = none) (hn : Nw K G H σ ρ l) (hg : G l = none) : SI K B (upd G l o) H σ ρ :=
  I.move (fun a u q => by
    by_cases e : a = l
    . subst e; rw [upd_same] at q; cases q; exact hl
    . rw [upd_ne e] at q; exact I.fz a u q) (Fz.new hg o) (fun b u e => by
    by_cases q : b = l
    . subst q; exact .inr hB
    . rw [upd_ne q] at e; exact I.new b u e) I.keep I.there (fun i s a e w g _ => by
    refine ⟨?_, rfl⟩
    rw [upd_ne (fun z => ?_)]
    . exact g
    . subst z; exact hn i s e w)
theorem SI.set (I : SI K B G H σ ρ) (h : RepD K G v d) : SI K B G H (σ.set i (some v)) (ρ.set i (.val d)) :=
  I.chg I.fz (Fz.refl G) I.new I.keep I.there (fun _ _ _ _ _ _ g _ => ⟨g, rfl, id⟩) ⟨v, rfl, h⟩
theorem SI.setO (I : SI K B G H σ ρ) (hg : G l = none) (hl : H l = some (.lst xs)) (h : RepL K G xs ds) (hB : B.H l = none) (hn : Nw K G H σ ρ l) :
    SI K B G H (σ.set i (some (.ref l))) (ρ.set i (.own ds)) :=
  I.chg I.fz (Fz.refl G) I.new I.keep I.there (fun j s a _ e w g _ => ⟨g, rfl, fun z => by cases (show some (some (V.ref l)) = some (some (.ref a)) from z); exact hn j s e w⟩) ⟨l, xs, rfl, hg, hl, h, hB⟩
theorem SI.wr (I : SI K B G H σ ρ) (e : ρ[i]? = some s) (q : s.items = some ds) : ∃ l xs, σ[i]? = some (some (.ref l)) /\ G l = none /\ H l = some (.lst xs) /\ RepL K G xs ds := by
  have h := I.slot i s e
  cases s with
  | emp => cases q
  | two _ _ => cases q
  | val d => cases q
  | tre _ => cases q
  | ptr _ => cases q
  | own es => cases q; obtain ⟨l, xs, h1, h2, h3, h4, _⟩ := h; exact ⟨l, xs, h1, h2, h3, h4⟩
  | par es => cases q; obtain ⟨l, xs, h1, h2, h3, h4, _⟩ := h; exact ⟨l, xs, h1, h2, h3, h4⟩
noncomputable def Sl.put (s : Sl) (ds : List D) : Sl := match s with
  | .own _ => .own ds
  | .par _ => .par ds
  | s => s
theorem ows_items (q : s.items = some ds) : OwS K G H ov a s ↔ ov = some (some (.ref a)) := by
  cases s with
  | own _ => exact Iff.rfl
  | par _ => exact Iff.rfl
  | _ => cases q
theorem put_items (q : s.items = some ds) (es : List D) : (s.put es).items = some es := by
  cases s with
  | own _ => rfl
  | par _ => rfl
  | _ => cases q
theorem set_at {α : Type} {l : List α} {x : α} (e : l[i]? = some x) : l.set i x = l := by
  obtain ⟨h, rfl⟩ := List.getElem?_eq_some_iff.mp e
  exact List.set_getElem_self h
theorem SI.chgW (I : SI K B G H σ ρ) {i : Nat} (e : ρ[i]? = some s) (q : s.items = some ds) (hl : σ[i]? = some (some (.ref l))) (fz : Fz G' H') (fg : Fz G G') (nw : ∀ b o, G' b = some o -> G b ≠ none \/ H b = none)
    (kp : ∀ b o, b ≠ l -> H b = some o -> H' b = some o) (gl : G' l = none) (hl' : H' l = some (.lst ys)) (r : RepL K G' ys es) : SI K B G' H' σ (ρ.set i (s.put es)) := by
  obtain ⟨l', xs, e1, e2, e3, e4⟩ := I.wr e q
  rw [hl] at e1; cases e1
  have sl := I.slot i s e
  have nb : ∀ b o, B.H b = some o -> (∀ i, (i, b) ∉ B.O) -> b ≠ l := fun b o h1 h2 z => by
    subst z
    rcases (sl.own ((ows_items q).mpr hl)).2.2 with z | z
    . rw [h1] at z; cases z
    . exact h2 i z
  have h := I.chg (i := i) (ov := some (.ref l)) (s' := s.put es) (G' := G') (H' := H') fz fg (fun b o k => ?_) (fun b o k1 k2 => kp b o (nb b o k1 k2) (I.keep b o k1 k2)) (fun b k => ?_) (fun j t a z ej w g ha => ?_) ?_
  . rwa [set_at hl] at h
  . rcases nw b o k with h | h
    . cases q2 : G b with
      | none => exact absurd q2 h
      | some u => exact I.new b u q2
    . exact .inr (I.there b h)
  . refine I.there b ?_
    cases q2 : H b with
    | none => rfl
    | some u =>
      by_cases z : b = l
      . subst z; rw [hl'] at k; cases k
      . rw [kp b u z q2] at k; cases k
  . have na : a ≠ l := fun w' => by subst w'; exact I.dis j i t s a z ej e w ((ows_items q).mpr hl)
    obtain ⟨u, hu⟩ := Option.ne_none_iff_exists'.mp ha
    refine ⟨?_, (kp a u na hu).trans hu.symm, fun z => na ?_⟩
    . cases q2 : G' a with
      | none => rfl
      | some u =>
        rcases nw a u q2 with z | z
        . exact absurd g z
        . exact absurd z ha
    . cases (ows_items (put_items q es)).mp z; rfl
  . cases s with
    | own es' => obtain ⟨l', xs', k1, k2, k3, k4, k5⟩ := sl; rw [hl] at k1; cases k1; exact ⟨_, ys, rfl, gl, hl', r, k5⟩
    | par es' => obtain ⟨l', xs', k1, k2, k3, k4, k5⟩ := sl; rw [hl] at k1; cases k1; exact ⟨_, ys, rfl, gl, hl', r, k5⟩
    | _ => cases q
theorem SI.write (I : SI K B G H σ ρ) (e : ρ[i]? = some s) (q : s.items = some ds) (hl : σ[i]? = some (some (.ref l))) (h : RepL K G ys es) :
    SI K B G (upd H l (.lst ys)) σ (ρ.set i (s.put es)) := by
  obtain ⟨l', xs, e1, e2, e3, e4⟩ := I.wr e q
  rw [hl] at e1; cases e1
  exact I.chgW e q hl (I.fz.right e2 _) (Fz.refl G) (fun b o k => .inl (by rw [k]; simp)) (fun b o z k => by rw [upd_ne z]; exact k) e2 upd_same h
theorem SI.freeze (I : SI K B G H σ ρ) {i : Nat} (e : ρ[i]? = some (.own ds)) : ∃ l xs, σ[i]? = some (some (.ref l)) /\ Fz G (upd G l (.lst xs)) /\ RepD K (upd G l (.lst xs)) (.ref l) (.lst ds) /\
    SI K B (upd G l (.lst xs)) H σ (ρ.set i (.val (.lst ds))) := by
  obtain ⟨l, xs, h1, h2, h3, h4, h5⟩ := I.slot i _ e
  have fz := Fz.new h2 (.lst xs)
  have rep : RepD K (upd G l (.lst xs)) (.ref l) (.lst ds) := ⟨l, xs, rfl, upd_same, h4.mono fz⟩
  refine ⟨l, xs, h1, fz, rep, ?_⟩
  have h := I.chg (i := i) (ov := some (.ref l)) (s' := .val (.lst ds)) (G' := upd G l (.lst xs)) (H' := H) (fun a u q => ?_) fz (fun b u q => ?_) I.keep I.there (fun j t a z ej w g _ => ⟨?_, rfl, id⟩) ⟨.ref l, rfl, rep⟩
  . rwa [set_at h1] at h
  . by_cases z : a = l
    . subst z; rw [upd_same] at q; cases q; exact h3
    . rw [upd_ne z] at q; exact I.fz a u q
  . by_cases z : b = l
    . subst z; exact .inr h5
    . rw [upd_ne z] at q; exact I.new b u q
  . rw [upd_ne (fun q => by subst q; exact I.dis j i t _ a z ej e w h1)]; exact g
end
noncomputable abbrev ME := R -> Option (D × R)
noncomputable abbrev MO := R -> Option (List D × R)
noncomputable abbrev MT := R -> Option (Bool × R)
noncomputable abbrev MA := R -> Option (List D × R)
noncomputable def SE (X : Cx) (e : Expr) (m : ME) : Prop :=
  ∃ t, PE X e t /\ ∀ B G H σ ρ d ρ' (Q : VK), SI X.K B G H σ ρ -> m ρ = some (d, ρ') -> (∀ G' H' v, SI X.K B G' H' σ ρ' -> Fz G G' -> RepD X.K G' v d -> Q v H') -> t σ H Q
noncomputable def SO (X : Cx) (e : Expr) (m : MO) : Prop :=
  ∃ t, PE X e t /\ ∀ B G H σ ρ ds ρ' (Q : VK), SI X.K B G H σ ρ -> m ρ = some (ds, ρ') ->
    (∀ G' H' l xs, SI X.K B G' H' σ ρ' -> Fz G G' -> G' l = none -> H' l = some (.lst xs) -> RepL X.K G' xs ds -> B.H l = none -> Nw X.K G' H' σ ρ' l -> Q (.ref l) H') -> t σ H Q
noncomputable def STt (X : Cx) (e : Expr) (m : MT) : Prop :=
  ∃ t, PT X e t /\ ∀ B G H σ ρ d ρ' (Q : Bool -> Hp -> Prop), SI X.K B G H σ ρ -> m ρ = some (d, ρ') -> (∀ G' H', SI X.K B G' H' σ ρ' -> Fz G G' -> Q d H') -> t σ H Q
noncomputable def SA (X : Cx) (es : List Expr) (m : MA) : Prop :=
  ∃ t, PA X es t /\ ∀ B G H σ ρ ds ρ' (Q : List V -> Hp -> Prop), SI X.K B G H σ ρ -> m ρ = some (ds, ρ') -> (∀ G' H' vs, SI X.K B G' H' σ ρ' -> Fz G G' -> RepL X.K G' vs ds -> Q vs H') -> t σ H Q
theorem frz_of {B : Bs} {σ : St} (I : SI K B G H σ ρ) (hg : G l = none) (hl : H l = some (.lst xs)) (h : RepL K G xs ds) (hB : B.H l = none) (hn : Nw K G H σ ρ l) :
    SI K B (upd G l (.lst xs)) H σ ρ /\ Fz G (upd G l (.lst xs)) /\ RepD K (upd G l (.lst xs)) (.ref l) (.lst ds) :=
  ⟨I.frz hl hB hn hg, Fz.new hg _, ⟨l, xs, rfl, upd_same, h.mono (Fz.new hg _)⟩⟩
noncomputable def eFz (m : MO) : ME := fun ρ => (m ρ).map fun p => (.lst p.1, p.2)
theorem SO.se {X : Cx} {m : MO} (h : SO X e m) : SE X e (eFz m) := by
  obtain ⟨t, p, s⟩ := h
  refine ⟨t, p, fun B G H σ ρ d ρ' Q I hm k => ?_⟩
  unfold eFz at hm
  cases q : m ρ with
  | none => rw [q] at hm; cases hm
  | some r =>
    obtain ⟨ds, ρ1⟩ := r
    rw [q] at hm
    cases hm
    refine s B G H σ ρ ds _ Q I q fun G' H' l xs I' fz hg hl hr hB hn => ?_
    obtain ⟨I2, f2, r2⟩ := frz_of I' hg hl hr hB hn
    exact k _ _ _ I2 (fz.trans f2) r2
noncomputable def eC (d : D) : ME := fun ρ => some (d, ρ)
noncomputable def eVar (i : Nat) : ME := fun ρ => match ρ[i]? with
  | some (.val d) => some (d, ρ)
  | some (.own ds) => some (.lst ds, ρ.set i (.val (.lst ds)))
  | _ => none
section
variable {X : Cx} {pos : Pos}
theorem se_var (i : Nat) {x : Str} (hN :autoParam (X.N[i]? = some x) zu2._auto_1) (hv :autoParam (Vis X.env.scope x) zu5._auto_1) (hd :autoParam ((x == ("__debug__" : Str)) = false) zu1._auto_1)
    (hcd :autoParam ((x == ("__classdict__" : Str)) = false) zu1._auto_1) : SE X (.Name x pos) (eVar i) := by
  refine ⟨_, pe_var hN hv hd hcd, fun B G H σ ρ d ρ' Q I hm k => ?_⟩
  unfold eVar at hm
  cases e : ρ[i]? with
  | none => rw [e] at hm; cases hm
  | some s =>
    rw [e] at hm
    cases s with
    | emp => cases hm
    | two _ _ => cases hm
    | tre _ => cases hm
    | ptr _ => cases hm
    | par ds => cases hm
    | val d' =>
      cases hm
      obtain ⟨v, h1, h2⟩ := I.slot i _ e
      exact ⟨v, h1, k G H v I (Fz.refl G) h2⟩
    | own ds =>
      cases hm
      obtain ⟨l, xs, h1, f, r, I'⟩ := I.freeze e
      exact ⟨.ref l, h1, k _ H _ I' f r⟩
theorem se_int {i : Int} {j} : SE X (.Constant (.int i) j pos) (eC (.int i)) := ⟨_, pe_int, fun B G H σ ρ d ρ' Q I hm k => by cases hm; exact k G H _ I (Fz.refl G) rfl⟩
theorem se_bl {j} : SE X (.Constant (.bool b) j pos) (eC (.bl b)) := ⟨_, pe_bl, fun B G H σ ρ d ρ' Q I hm k => by cases hm; exact k G H _ I (Fz.refl G) rfl⟩
theorem se_non {j} : SE X (.Constant .none j pos) (eC .non) := ⟨_, pe_non, fun B G H σ ρ d ρ' Q I hm k => by cases hm; exact k G H _ I (Fz.refl G) rfl⟩
theorem se_globI {x : Str} {i : Int} {t : Tok} (hm : X.mg x = some (.int i t)) (hg :autoParam (Gl X x) zu2._auto_1) (hd :autoParam ((x == ("__debug__" : Str)) = false) zu1._auto_1) : SE X (.Name x pos) (eC (.int i)) :=
  ⟨_, pe_glob (v := .int i) hg hm ⟨t, rfl⟩ hd, fun B G H σ ρ d ρ' Q I hm k => by cases hm; exact k G H _ I (Fz.refl G) rfl⟩
end
noncomputable def aNil : MA := fun ρ => some ([], ρ)
noncomputable def aCons (m : ME) (r : MA) : MA := fun ρ => (m ρ).bind fun p => (r p.2).map fun q => (p.1 :: q.1, q.2)
section
variable {X : Cx} {e : Expr} {es : List Expr} {m : ME} {r : MA}
theorem sa_nil : SA X [] aNil := ⟨_, pa_nil, fun B G H σ ρ ds ρ' Q I hm k => by cases hm; exact k G H [] I (Fz.refl G) .nil⟩
theorem sa_cons (h : SE X e m) (hr : SA X es r) (hs :autoParam (starEach (e :: es) X.env = (false, eval e X.env) :: starEach es X.env) zu2._auto_1) : SA X (e :: es) (aCons m r) := by
  obtain ⟨t, p, s⟩ := h
  obtain ⟨u, q, z⟩ := hr
  refine ⟨_, pa_cons p q hs, fun B G H σ ρ ds ρ' Q I hm k => ?_⟩
  unfold aCons at hm
  cases e1 : m ρ with
  | none => rw [e1] at hm; cases hm
  | some a =>
    obtain ⟨d, ρ1⟩ := a
    rw [e1] at hm
    cases e2 : r ρ1 with
    | none => simp [e2] at hm
    | some b =>
      obtain ⟨es', ρ2⟩ := b
      simp only [Option.bind_some, e2, Option.map_some, Option.some.injEq, Prod.mk.injEq] at hm
      obtain ⟨rfl, rfl⟩ := hm
      exact s B G H σ ρ d ρ1 _ I e1 fun G1 H1 v I1 f1 r1 => z B G1 H1 σ ρ1 es' ρ2 _ I1 e2 fun G2 H2 vs I2 f2 r2 => k G2 H2 (v :: vs) I2 (f1.trans f2) (.cons (r1.mono f2) r2)
end
noncomputable def V2 (X : Cx) (r : R2) (f : D -> D -> Option D) : Prop := ∀ B G H σ ρ x y a b d (Q : VK), SI X.K B G H σ ρ -> RepD X.K G x a -> RepD X.K G y b -> f a b = some d -> (∀ G' H' v, SI X.K B G' H' σ ρ -> Fz G G' -> RepD X.K G' v d -> Q v H') -> r x y H Q
noncomputable def V1 (X : Cx) (r : V -> Hp -> VK -> Prop) (f : D -> Option D) : Prop := ∀ B G H σ ρ x a d (Q : VK), SI X.K B G H σ ρ -> RepD X.K G x a -> f a = some d -> (∀ G' H' v, SI X.K B G' H' σ ρ -> Fz G G' -> RepD X.K G' v d -> Q v H') -> r x H Q
noncomputable def VC (X : Cx) (r : List V -> Hp -> VK -> Prop) (f : List D -> Option D) : Prop := ∀ B G H σ ρ xs ds d (Q : VK), SI X.K B G H σ ρ -> RepL X.K G xs ds -> f ds = some d -> (∀ G' H' v, SI X.K B G' H' σ ρ -> Fz G G' -> RepD X.K G' v d -> Q v H') -> r xs H Q
noncomputable def m2 (f : D -> D -> Option D) (ma mb : ME) : ME := fun ρ => (ma ρ).bind fun p => (mb p.2).bind fun q => (f p.1 q.1).map fun d => (d, q.2)
noncomputable def m1 (f : D -> Option D) (ma : ME) : ME := fun ρ => (ma ρ).bind fun p => (f p.1).map fun d => (d, p.2)
noncomputable def mC (f : List D -> Option D) (ma : MA) : ME := fun ρ => (ma ρ).bind fun p => (f p.1).map fun d => (d, p.2)
theorem m2_inv {ma mb : ME} (h : m2 f ma mb ρ = some (d, ρ')) : ∃ a ρ1 b, ma ρ = some (a, ρ1) /\ mb ρ1 = some (b, ρ') /\ f a b = some d := by
  unfold m2 at h
  cases e1 : ma ρ with
  | none => rw [e1] at h; cases h
  | some p =>
    obtain ⟨a, ρ1⟩ := p
    rw [e1] at h
    cases e2 : mb ρ1 with
    | none => simp [e2] at h
    | some q =>
      obtain ⟨b, ρ2⟩ := q
      simp only [Option.bind_some, e2] at h
      cases e3 : f a b with
      | none => rw [e3] at h; cases h
      | some c => rw [e3] at h; cases h; exact ⟨a, ρ1, b, rfl, e2, e3⟩
theorem m1_inv {f : D -> Option D} (h : m1 f ma ρ = some (d, ρ')) : ∃ a, ma ρ = some (a, ρ') /\ f a = some d := by
  unfold m1 at h
  cases e1 : ma ρ with
  | none => rw [e1] at h; cases h
  | some p =>
    obtain ⟨a, ρ1⟩ := p
    rw [e1] at h
    simp only [Option.bind_some] at h
    cases e3 : f a with
    | none => rw [e3] at h; cases h
    | some c => rw [e3] at h; cases h; exact ⟨a, rfl, e3⟩
theorem mC_inv {f : List D -> Option D} {ma : MA} (h : mC f ma ρ = some (d, ρ')) : ∃ a, ma ρ = some (a, ρ') /\ f a = some d := by
  unfold mC at h
  cases e1 : ma ρ with
  | none => rw [e1] at h; cases h
  | some p =>
    obtain ⟨a, ρ1⟩ := p
    rw [e1] at h
    simp only [Option.bind_some] at h
    cases e3 : f a with
    | none => rw [e3] at h; cases h
    | some c => rw [e3] at h; cases h; exact ⟨a, rfl, e3⟩
section
variable {X : Cx} {a b : Expr} {ma mb : ME} {pos : Pos} {f : D -> D -> Option D}
theorem sound2 {r : R2} {ta tb : TE} (hv : V2 X r f)
    (sa : ∀ B G H σ ρ d ρ' (Q : VK), SI X.K B G H σ ρ -> ma ρ = some (d, ρ') -> (∀ G' H' v, SI X.K B G' H' σ ρ' -> Fz G G' -> RepD X.K G' v d -> Q v H') -> ta σ H Q)
    (sb : ∀ B G H σ ρ d ρ' (Q : VK), SI X.K B G H σ ρ -> mb ρ = some (d, ρ') -> (∀ G' H' v, SI X.K B G' H' σ ρ' -> Fz G G' -> RepD X.K G' v d -> Q v H') -> tb σ H Q) :
    ∀ B G H σ ρ d ρ' (Q : VK), SI X.K B G H σ ρ -> m2 f ma mb ρ = some (d, ρ') -> (∀ G' H' v, SI X.K B G' H' σ ρ' -> Fz G G' -> RepD X.K G' v d -> Q v H') -> tOp r ta tb σ H Q := by
  intro B G H σ ρ d ρ' Q I hm k
  obtain ⟨x, ρ1, y, e1, e2, e3⟩ := m2_inv hm
  exact sa B G H σ ρ x ρ1 _ I e1 fun G1 H1 v I1 f1 r1 => sb B G1 H1 σ ρ1 y ρ' _ I1 e2 fun G2 H2 u I2 f2 r2 =>
    hv B G2 H2 σ ρ' v u x y d Q I2 (r1.mono f2) r2 e3 fun G3 H3 z I3 f3 r3 => k G3 H3 z I3 (f1.trans (f2.trans f3)) r3
theorem se_op {r : R2} (ho : OpR X (binaryOp op) r) (hv : V2 X r f) (ha : SE X a ma) (hb : SE X b mb) : SE X (.BinOp a op b pos) (m2 f ma mb) := by
  obtain ⟨ta, pa, sa⟩ := ha
  obtain ⟨tb, pb, sb⟩ := hb
  exact ⟨_, pe_op ho pa pb, sound2 hv sa sb⟩
theorem se_cmp {op : CmpOp} {r : R2} (ho : OpR X (compareOp op) r) (hv : V2 X r f) (ha : SE X a ma) (hb : SE X b mb) (hm : behindInMarks op b = false) : SE X (.Compare a [op] [b] pos) (m2 f ma mb) := by
  obtain ⟨ta, pa, sa⟩ := ha
  obtain ⟨tb, pb, sb⟩ := hb
  exact ⟨_, pe_cmpR ho pa pb hm, sound2 hv sa sb⟩
theorem se_un {op : UnaryOp} (ho : UnR X (unaryOp op) r) (hv : V1 X r g) (ha : SE X a ma) : SE X (.UnaryOp op a pos) (m1 g ma) := by
  obtain ⟨ta, pa, sa⟩ := ha
  refine ⟨_, pe_un ho pa, fun B G H σ ρ d ρ' Q I hm k => ?_⟩
  obtain ⟨x, e1, e2⟩ := m1_inv hm
  exact sa B G H σ ρ x ρ' _ I e1 fun G1 H1 v I1 f1 r1 => hv B G1 H1 σ ρ' v x d Q I1 r1 e2 fun G2 H2 z I2 f2 r2 => k G2 H2 z I2 (f1.trans f2) r2
theorem se_ix {r : R2} (hr : IxR X r) (hv : V2 X r f) (ha : SE X a ma) (hb : SE X b mb) (hs : PlainIx b) : SE X (.Subscript a b pos) (m2 f ma mb) := by
  obtain ⟨ta, pa, sa⟩ := ha
  obtain ⟨tb, pb, sb⟩ := hb
  exact ⟨_, pe_ix hr pa pb hs, sound2 hv sa sb⟩
end
section
variable {X : Cx} {x : Str} {p pos : Pos} {e : Expr} {es : List Expr} {ma : MA} {id T : String} {r : List V -> Hp -> VK -> Prop} {f : List D -> Option D}
theorem soundC {t : TA} (hv : VC X r f) (sa : ∀ B G H σ ρ ds ρ' (Q : List V -> Hp -> Prop), SI X.K B G H σ ρ -> ma ρ = some (ds, ρ') -> (∀ G' H' vs, SI X.K B G' H' σ ρ' -> Fz G G' -> RepL X.K G' vs ds -> Q vs H') -> t σ H Q) :
    ∀ B G H σ ρ d ρ' (Q : VK), SI X.K B G H σ ρ -> mC f ma ρ = some (d, ρ') -> (∀ G' H' v, SI X.K B G' H' σ ρ' -> Fz G G' -> RepD X.K G' v d -> Q v H') -> tCB r t σ H Q := by
  intro B G H σ ρ d ρ' Q I hm k
  obtain ⟨ds, e1, e2⟩ := mC_inv hm
  exact sa B G H σ ρ ds ρ' _ I e1 fun G1 H1 vs I1 f1 r1 => hv B G1 H1 σ ρ' vs ds d Q I1 r1 e2 fun G2 H2 z I2 f2 r2 => k G2 H2 z I2 (f1.trans f2) r2
theorem se_callB (hc : CallR X (.builtin id) r) (hv : VC X r f) (hb : bootBuiltins x = some (.builtin id)) (hm : X.mg x = none) (ha : SA X (e :: es) ma) (hg :autoParam (Gl X x) zu2._auto_1) (hn :autoParam (x ≠ "__name__") zu1._auto_1) (hdb :autoParam ((x == ("__debug__" : Str)) = false) zu1._auto_1)
    (he :autoParam (starEach (e :: es) X.env = (false, eval e X.env) :: starEach es X.env) zu2._auto_1) (hpl :autoParam ((backTo pos (starEach es X.env)).any (·.1) = false) zu2._auto_1) : SE X (.Call (.Name x p) (e :: es) [] pos) (mC f ma) := by
  obtain ⟨t, pa, sa⟩ := ha
  exact ⟨_, pe_callB hc hg hm hb pa hn hdb he hpl, soundC hv sa⟩
theorem se_callTy (hc : CallR X (.type T) r) (hv : VC X r f) (hb : bootBuiltins x = some (.type T)) (hm : X.mg x = none) (ha : SA X (e :: es) ma) (hg :autoParam (Gl X x) zu2._auto_1) (hn :autoParam (x ≠ "__name__") zu1._auto_1) (hdb :autoParam ((x == ("__debug__" : Str)) = false) zu1._auto_1)
    (he :autoParam (starEach (e :: es) X.env = (false, eval e X.env) :: starEach es X.env) zu2._auto_1) (hpl :autoParam ((backTo pos (starEach es X.env)).any (·.1) = false) zu2._auto_1) : SE X (.Call (.Name x p) (e :: es) [] pos) (mC f ma) := by
  obtain ⟨t, pa, sa⟩ := ha
  exact ⟨_, pe_callTy hc hg hm hb pa hn hdb he hpl, soundC hv sa⟩
end
end M
namespace M
open L2 PySem PySem.Spec
open PyProof.Rows hiding St
variable {v : V} {ds cs out : List D} {p pos pos' : Pos} {xs vs ys : List V} {X : Cx} {C : Int -> Int -> Prop} {c l : Addr} {g : D -> R -> Option R} {a b e : Expr} {ma : MA} {k i j n t : Nat} {mb : ME} {K : PySem.W.Frag} {G H H' G' : Hp} {us its : List Value} {u : Value} {d : D} {B : Bs} {σ σc : St} {ρ ρ' : R} {s : Sl} {x qual : Str} {Q E : Value -> Shared -> Prop} {f : D -> D -> Option D} {op : CmpOp} {m : MS} {es ifs : List Expr} {h : List D -> R -> Option R} {body : List Stmt} {N ps : List Str} {fd : FuncData} {env : Env} {scope : Scope} {A : Around} {cl : List (Str × Addr)} {h' : Heap} {prog : Program} {w : World} {use : Option (Value -> Sem Unit)} {ov : Option (Option V)} {cap : List Nat} {tg' : Addr -> Shared -> Hp -> List Addr -> TG} {tt : Addr -> Shared -> Hp -> List Addr -> TT} {te : Addr -> Shared -> Hp -> List Addr -> TE}
section
variable {X : Cx} {K : PySem.W.Frag} {B : Bs} {G H : Hp} {σ : St} {ρ : R}
theorem SI.lst (I : SI K B G H σ ρ) (h : RepD K G v (.lst ds)) : ∃ a xs, v = .ref a /\ H a = some (.lst xs) /\ RepL K G xs ds := by
  obtain ⟨a, xs, e, q, r⟩ := h
  exact ⟨a, xs, e, I.fz a _ q, r⟩
theorem SI.tup (I : SI K B G H σ ρ) (h : RepD K G v (.tup ds)) : ∃ a xs, v = .ref a /\ H a = some (.tup xs) /\ RepL K G xs ds := by
  obtain ⟨a, xs, e, q, r⟩ := h
  exact ⟨a, xs, e, I.fz a _ q, r⟩
theorem SI.newT (I : SI K B G H σ ρ) {p : Addr} (hp : H p = none) (h : RepL K G xs ds) : SI K B (upd G p (.tup xs)) (upd H p (.tup xs)) σ ρ /\ Fz G (upd G p (.tup xs)) /\ RepD K (upd G p (.tup xs)) (.ref p) (.tup ds) :=
  ⟨I.allocF hp _, Fz.new (I.fz.free hp) _, ⟨p, xs, rfl, upd_same, h.mono (Fz.new (I.fz.free hp) _)⟩⟩
theorem SI.newL (I : SI K B G H σ ρ) {p : Addr} (hp : H p = none) (h : RepL K G xs ds) : SI K B (upd G p (.lst xs)) (upd H p (.lst xs)) σ ρ /\ Fz G (upd G p (.lst xs)) /\ RepD K (upd G p (.lst xs)) (.ref p) (.lst ds) :=
  ⟨I.allocF hp _, Fz.new (I.fz.free hp) _, ⟨p, xs, rfl, upd_same, h.mono (Fz.new (I.fz.free hp) _)⟩⟩
end
noncomputable def dI2 (c : Int -> Int -> Bool) (g : Int -> Int -> D) : D -> D -> Option D
  | .int i, .int j => if c i j then some (g i j) else none
  | _, _ => none
theorem v2_int {c : Int -> Int -> Bool} {g : Int -> Int -> Int} (hc : ∀ i j, c i j = true -> C i j) : V2 X (rI C fun i j => .int (g i j)) (dI2 c fun i j => .int (g i j)) := by
  intro B G H σ ρ x y a b d Q I ra rb hf k
  cases a <;> cases b <;> simp only [dI2] at hf <;> try cases hf
  rename_i i j
  split at hf
  . rename_i h
    cases hf
    exact ⟨i, j, ra, rb, hc i j h, k G H _ I (Fz.refl G) rfl⟩
  . cases hf
theorem v2_int0 {g : Int -> Int -> Int} : V2 X (rI0 fun i j => .int (g i j)) (dI2 (fun _ _ => true) fun i j => .int (g i j)) := by
  intro B G H σ ρ x y a b d Q I ra rb hf k
  cases a <;> cases b <;> simp only [dI2] at hf <;> try cases hf
  rename_i i j
  exact ⟨i, j, ra, rb, k G H _ I (Fz.refl G) rfl⟩
theorem v2_cmp {g : Int -> Int -> Bool} : V2 X (rI0 fun i j => .bl (g i j)) (dI2 (fun _ _ => true) fun i j => .bl (g i j)) := by
  intro B G H σ ρ x y a b d Q I ra rb hf k
  cases a <;> cases b <;> simp only [dI2] at hf <;> try cases hf
  rename_i i j
  exact ⟨i, j, ra, rb, k G H _ I (Fz.refl G) rfl⟩
noncomputable def dSub : D -> D -> Option D := dI2 (fun _ _ => true) fun i j => .int (i - j)
noncomputable def divOk (j : Int) : Bool := decide (0 < j) && decide (j.natAbs.log2 < 9000)
theorem op_fdivW : OpR X (binaryOp .FloorDiv) (rI (fun _ j => 0 < j /\ j.natAbs.log2 < 9000) fun i j => .int (i / j)) := opI fun i j _ _ _ _ _ hc q => by
  have h1 : (0 : Int) < j := hc.1
  exact PyProof.Rows.floordiv_int (by lia) (by rw [Int.fdiv_eq_ediv_of_nonneg i (by lia)]; exact q) (.inl (PyProof.noPylong_of_log2 hc.2))
noncomputable def dDiv : D -> D -> Option D := dI2 (fun _ j => divOk j) fun i j => .int (i / j)
noncomputable def dMod : D -> D -> Option D := dI2 (fun _ j => decide (0 < j)) fun i j => .int (i % j)
noncomputable def dPow : D -> D -> Option D := dI2 (fun i j => decide (0 <= j) && decide (j <= 1000000) && decide (i.natAbs < 2 ^ 64)) fun i j => .int (i ^ j.toNat)
noncomputable def dLt : D -> D -> Option D := dI2 (fun _ _ => true) fun i j => .bl (decide (i < j))
noncomputable def dLe : D -> D -> Option D := dI2 (fun _ _ => true) fun i j => .bl (decide (i <= j))
noncomputable def dGt : D -> D -> Option D := dI2 (fun _ _ => true) fun i j => .bl (decide (j < i))
noncomputable def dGe : D -> D -> Option D := dI2 (fun _ _ => true) fun i j => .bl (decide (j <= i))
section
variable {X : Cx} {a b : Expr} {ma mb : ME} {pos : Pos}
theorem se_sub (ha : SE X a ma) (hb : SE X b mb) : SE X (.BinOp a .Sub b pos) (m2 dSub ma mb) := se_op op_sub v2_int0 ha hb
theorem se_div (ha : SE X a ma) (hb : SE X b mb) : SE X (.BinOp a .FloorDiv b pos) (m2 dDiv ma mb) := se_op op_fdivW (v2_int fun i j h => by simpa [divOk] using h) ha hb
theorem se_mod (ha : SE X a ma) (hb : SE X b mb) : SE X (.BinOp a .Mod b pos) (m2 dMod ma mb) := se_op op_mod (v2_int fun i j h => by simpa using h) ha hb
theorem se_pow (ha : SE X a ma) (hb : SE X b mb) : SE X (.BinOp a .Pow b pos) (m2 dPow ma mb) := se_op op_pow (v2_int fun i j h => by simp only [Bool.and_eq_true, decide_eq_true_eq] at h; exact ⟨h.1.1, h.1.2, h.2⟩) ha hb
theorem se_le (ha : SE X a ma) (hb : SE X b mb) : SE X (.Compare a [.LtE] [b] pos) (m2 dLe ma mb) := se_cmp op_le v2_cmp ha hb (nomark _)
theorem se_gt (ha : SE X a ma) (hb : SE X b mb) : SE X (.Compare a [.Gt] [b] pos) (m2 dGt ma mb) := se_cmp op_gt v2_cmp ha hb (nomark _)
end
noncomputable def dNeg : D -> Option D
  | .int i => some (.int (-i))
  | _ => none
theorem se_neg {ma : ME} (ha : SE X a ma) : SE X (.UnaryOp .USub a pos) (m1 dNeg ma) :=
  se_un un_neg (fun B G H σ ρ x a d Q I ra hf k => by
    cases a <;> simp only [dNeg] at hf <;> try cases hf
    exact ⟨_, ra, k G H _ I (Fz.refl G) rfl⟩) ha
noncomputable def mulOk (i j : Int) : Bool := (decide (i.natAbs < 2 ^ 64) || decide (j.natAbs < 2 ^ 64)) || (decide (i.natAbs < 2 ^ 4000) && decide (j.natAbs < 2 ^ 4000))
noncomputable def dMul : D -> D -> Option D
  | .int i, .int j => if mulOk i j then some (.int (i * j)) else none
  | .lst ds, .int k => if decide (-1000000 <= k) && decide (k <= 1000000) && decide (ds.length * k.toNat <= 1000000) then some (.lst (List.replicate k.toNat ds).flatten) else none
  | _, _ => none
theorem intBits_le {k : Int} (h : k.natAbs < 2 ^ 4000) : Builtin.Int.intBits k <= 4000 := by
  unfold Builtin.Int.intBits
  split
  . exact Nat.zero_le _
  . have : k.natAbs.log2 < 4000 := by
      rcases Nat.eq_zero_or_pos k.natAbs with h0 | hp
      . rw [h0]; decide
      . exact (Nat.log2_lt (Nat.ne_of_gt hp)).mpr h
    lia
theorem mulOk_ok {i j : Int} (h : mulOk i j = true) : IntMulOk i j := by
  unfold mulOk at h
  simp only [Bool.or_eq_true, Bool.and_eq_true, decide_eq_true_eq] at h
  rcases h with (h | h) | ⟨h1, h2⟩
  . exact .of_left (intBits_le_64 (by lia) (by lia))
  . exact .of_right (intBits_le_64 (by lia) (by lia))
  . have b1 := intBits_le h1
    have b2 := intBits_le h2
    unfold IntMulOk
    intro z
    simp only [Bool.and_eq_true] at z
    have z2 := z.2
    unfold Builtin.Int.intTooBig at z2
    revert z2
    generalize Builtin.Int.intBits i = p at *
    generalize Builtin.Int.intBits j = q at *
    intro z2
    have z3 := of_decide_eq_true z2
    have hb := bitsLine_eq
    lia
theorem op_mulG : OpR X (binaryOp .Mult) (rI IntMulOk fun i j => .int (i * j)) := opI fun _ _ _ _ _ _ _ hc q => mul_int q hc
theorem se_mul {ma mb : ME} (ha : SE X a ma) (hb : SE X b mb) : SE X (.BinOp a .Mult b pos) (m2 dMul ma mb) := by
  refine se_op (op_mulG.or op_rep) (fun B G H σ ρ x y a b d Q I ra rb hf k => ?_) ha hb
  cases a <;> cases b <;> simp only [dMul] at hf <;> try cases hf
  . rename_i i j
    split at hf
    . rename_i h
      cases hf
      exact .inl ⟨i, j, ra, rb, mulOk_ok h, k G H _ I (Fz.refl G) rfl⟩
    . cases hf
  . rename_i ds j
    split at hf
    . rename_i h
      cases hf
      simp only [Bool.and_eq_true, decide_eq_true_eq] at h
      obtain ⟨a, xs, rfl, ha, r⟩ := I.lst ra
      have hl := r.length
      refine .inr ⟨a, j, xs, rfl, rb, ha, by lia, by lia, by rw [hl, sizeLine_eq]; lia, fun p hp => ?_⟩
      obtain ⟨I2, f2, r2⟩ := I.newL hp (r.rep j.toNat)
      exact k _ _ _ I2 f2 r2
    . cases hf
noncomputable def dAdd : D -> D -> Option D
  | .int i, .int j => some (.int (i + j))
  | .tup a, .tup b => if a.length + b.length <= 16777216 then some (.tup (a ++ b)) else none
  | .lst a, .lst b => if a.length + b.length <= 16777216 then some (.lst (a ++ b)) else none
  | .str a, .str b => if a.length + b.length <= 16777216 then some (.str (a ++ b)) else none
  | _, _ => none
theorem op_catT0 : OpR X (binaryOp .Add) (fun x y H Q => ∃ a b ys, x = .ref a /\ y = .ref b /\ SqT X.K H a [] /\ SqT X.K H b ys /\ Q (.ref b) H) := by
  intro pins s σ H x y v u Q I rx ry h
  obtain ⟨a, b, ys, rfl, rfl, ha, hb, q⟩ := h
  cases rx
  cases ry
  obtain ⟨its, r1, p1, _⟩ := I.tuple ha
  obtain ⟨its2, r2, p2, _⟩ := I.tuple hb
  obtain rfl : its = [] := by cases r1; rfl
  obtain ⟨⟨cls, dd, data, sl⟩, ho, hc, n, hd⟩ := id p1
  obtain ⟨⟨cls2, dd2, data2, sl2⟩, ho2, hc2, n2, hd2⟩ := id p2
  simp only at hc hd hc2 hd2
  subst hc hd hc2 hd2
  exact concat_meets ⟨_, ho, rfl⟩ ⟨_, ho2, rfl⟩ noFill_tuple_add seq_tuple_add PySem.F.slot_tuple_add PySem.F.entry_tuple_add (PySem.F.args_tuple_add_2 _ _)
      (tuple_addW0 a b _ _ n n2 dd dd2 sl sl2 (by simp)) ⟨ho, ho2, ⟨.ref b, H, I, rfl, q⟩⟩
theorem se_add {ma mb : ME} (ha : SE X a ma) (hb : SE X b mb) : SE X (.BinOp a .Add b pos) (m2 dAdd ma mb) := by
  refine se_op (op_add.or (op_catT.or (op_catT0.or (op_cat.or op_add_str)))) (fun B G H σ ρ x y a b d Q I ra rb hf k => ?_) ha hb
  cases a <;> cases b <;> simp only [dAdd] at hf <;> try cases hf
  . exact .inl ⟨_, _, ra, rb, k G H _ I (Fz.refl G) rfl⟩
  . rename_i i j
    split at hf
    . rename_i h
      cases hf
      exact .inr (.inr (.inr (.inr ⟨i, j, ra, rb, by rw [sizeLine_eq]; exact h, k G H _ I (Fz.refl G) rfl⟩)))
    . cases hf
  . rename_i as bs
    split at hf
    . rename_i h
      cases hf
      obtain ⟨a, xs, rfl, ha, r⟩ := I.lst ra
      obtain ⟨b, ys, rfl, hb, r2⟩ := I.lst rb
      refine .inr (.inr (.inr (.inl ⟨a, b, xs, ys, rfl, rfl, ha, hb, by rw [r.length, r2.length, sizeLine_eq]; exact h, fun p hp => ?_⟩)))
      obtain ⟨I2, f2, r2⟩ := I.newL hp (r.append r2)
      exact k _ _ _ I2 f2 r2
    . cases hf
  . rename_i as bs
    split at hf
    . rename_i h
      cases hf
      obtain ⟨a, xs, rfl, ha, r⟩ := I.tup ra
      obtain ⟨b, ys, rfl, hb, r2⟩ := I.tup rb
      by_cases z : xs = []
      . subst z
        have z' : as = [] := List.eq_nil_of_length_eq_zero r.length.symm
        subst z'
        exact .inr (.inr (.inl ⟨a, b, ys, rfl, rfl, SqT.of ha, SqT.of hb, k G H _ I (Fz.refl G) rb⟩))
      . refine .inr (.inl ⟨a, b, xs, ys, rfl, rfl, SqT.of ha, SqT.of hb, z, by rw [r.length, r2.length, sizeLine_eq]; exact h, fun w => ?_, fun w p hp => ?_⟩)
        . subst w
          have w' : bs = [] := List.eq_nil_of_length_eq_zero r2.length.symm
          subst w'
          rw [List.append_nil] at k
          exact k G H _ I (Fz.refl G) ra
        . obtain ⟨I2, f2, r2⟩ := I.newT hp (r.append r2)
          exact k _ _ _ I2 f2 r2
    . cases hf
mutual
noncomputable def noS : D -> Bool
  | .scr _ => false
  | .exc _ => false
  | .dic _ _ => false
  | .dit _ _ => false
  | .lst ds => noSL ds
  | .tup ds => noSL ds
  | _ => true
noncomputable def noSL : List D -> Bool
  | [] => true
  | d :: ds => noS d && noSL ds
end
mutual
noncomputable def eqB : D -> D -> Bool
  | .non, .non => true
  | .bl a, .bl b => a == b
  | .int a, .int b => a == b
  | .str a, .str b => a == b
  | .bl a, .int b => (if a then 1 else 0) == b
  | .int a, .bl b => a == (if b then 1 else 0)
  | .lst a, .lst b => eqBL a b
  | .tup a, .tup b => eqBL a b
  | _, _ => false
noncomputable def eqBL : List D -> List D -> Bool
  | [], [] => true
  | a :: as, b :: bs => eqB a b && eqBL as bs
  | _, _ => false
end
theorem eqBL_len : ∀ {as bs : List D}, as.length ≠ bs.length -> eqBL as bs = false
  | [], [], h => absurd rfl h
  | [], _ :: _, _ => rfl
  | _ :: _, [], _ => rfl
  | a :: as, b :: bs, h => by
    have := eqBL_len (as := as) (bs := bs) (fun e => h (by simp [e]))
    simp [eqBL, this]
mutual
theorem eqB_refl : ∀ d, noS d = true -> eqB d d = true
  | .non, _ => rfl
  | .bl b, _ => by simp [eqB]
  | .int b, _ => by simp [eqB]
  | .str b, _ => by simp [eqB]
  | .lst ds, h => by simp only [noS] at h; simp only [eqB]; exact eqBL_refl ds h
  | .tup ds, h => by simp only [noS] at h; simp only [eqB]; exact eqBL_refl ds h
  | .scr _, h => by simp [noS] at h
  | .exc _, h => by simp [noS] at h
  | (.dic _ _), h => by simp [noS] at h
  | (.dit _ _), h => by simp [noS] at h
theorem eqBL_refl : ∀ ds, noSL ds = true -> eqBL ds ds = true
  | [], _ => rfl
  | d :: ds, h => by
    simp only [noSL, Bool.and_eq_true] at h
    simp only [eqBL, Bool.and_eq_true]
    exact ⟨eqB_refl d h.1, eqBL_refl ds h.2⟩
end
mutual
noncomputable def depth : D -> Nat
  | .lst ds => depthL ds + 1
  | .tup ds => depthL ds + 1
  | _ => 0
noncomputable def depthL : List D -> Nat
  | [] => 0
  | d :: ds => max (depth d) (depthL ds)
end
theorem depthL_get : ∀ {l : List D} {i : Nat} {d : D}, l[i]? = some d -> depth d <= depthL l
  | [], _, _, h => by simp at h
  | c :: l, 0, d, h => by simp at h; subst h; simp only [depthL]; lia
  | c :: l, i + 1, d, h => by
    have := depthL_get (l := l) (i := i) (d := d) (by simpa using h)
    simp only [depthL]; lia
theorem noSL_get : ∀ {l : List D} {i : Nat} {d : D}, l[i]? = some d -> noSL l = true -> noS d = true
  | [], _, _, h, _ => by simp at h
  | c :: l, 0, d, h, z => by simp at h; subst h; simp only [noSL, Bool.and_eq_true] at z; exact z.1
  | c :: l, i + 1, d, h, z => by simp only [noSL, Bool.and_eq_true] at z; exact noSL_get (l := l) (i := i) (by simpa using h) z.2
mutual
theorem RepD.inj : ∀ {a b : D} {x : V}, noS a = true -> noS b = true -> RepD K G x a -> RepD K G x b -> a = b
  | .non, b, x, _, nb, ra, rb => by
    cases (show x = V.non from ra)
    cases b <;> simp_all [RepD, noS]
  | .bl c, b, x, _, nb, ra, rb => by
    cases (show x = V.bl c from ra)
    cases b <;> simp_all [RepD, noS]
  | .int c, b, x, _, nb, ra, rb => by
    cases (show x = V.int c from ra)
    cases b <;> simp_all [RepD, noS]
  | .str c, b, x, _, nb, ra, rb => by
    cases (show x = V.str c from ra)
    cases b <;> simp_all [RepD, noS]
  | .lst ds, b, x, na, nb, ra, rb => by
    obtain ⟨p, xs, rfl, q, r⟩ := ra
    cases b with
    | lst es =>
      obtain ⟨p2, ys, e, q2, r2⟩ := rb
      cases e
      rw [q] at q2
      cases q2
      simp only [noS] at na nb
      rw [RepL.inj na nb r r2]
    | tup es =>
      obtain ⟨p2, ys, e, q2, r2⟩ := rb
      cases e
      rw [q] at q2
      cases q2
    | scr _ => simp [noS] at nb
    | exc _ => simp [noS] at nb
    | dic _ _ => simp [noS] at nb
    | dit _ _ => simp [noS] at nb
    | non => simp [RepD] at rb
    | bl _ => simp [RepD] at rb
    | int _ => simp [RepD] at rb
    | str _ => simp [RepD] at rb
  | .tup ds, b, x, na, nb, ra, rb => by
    obtain ⟨p, xs, rfl, q, r⟩ := ra
    cases b with
    | tup es =>
      obtain ⟨p2, ys, e, q2, r2⟩ := rb
      cases e
      rw [q] at q2
      cases q2
      simp only [noS] at na nb
      rw [RepL.inj na nb r r2]
    | lst es =>
      obtain ⟨p2, ys, e, q2, r2⟩ := rb
      cases e
      rw [q] at q2
      cases q2
    | scr _ => simp [noS] at nb
    | exc _ => simp [noS] at nb
    | dic _ _ => simp [noS] at nb
    | dit _ _ => simp [noS] at nb
    | non => simp [RepD] at rb
    | bl _ => simp [RepD] at rb
    | int _ => simp [RepD] at rb
    | str _ => simp [RepD] at rb
  | .scr _, _, _, na, _, _, _ => by simp [noS] at na
  | .exc _, _, _, na, _, _, _ => by simp [noS] at na
  | (.dic _ _), _, _, na, _, _, _ => by simp [noS] at na
  | (.dit _ _), _, _, na, _, _, _ => by simp [noS] at na
theorem RepL.inj : ∀ {as bs : List D} {xs : List V}, noSL as = true -> noSL bs = true -> RepL K G xs as -> RepL K G xs bs -> as = bs
  | [], [], _, _, _, _, _ => rfl
  | [], _ :: _, xs, _, _, e, h => by
    obtain ⟨_, _, e2, _⟩ := h
    cases (show xs = [] from e)
    cases e2
  | _ :: _, [], xs, _, _, h, e => by
    obtain ⟨_, _, e2, _⟩ := h
    cases (show xs = [] from e)
    cases e2
  | a :: as, b :: bs, xs, na, nb, h, h2 => by
    obtain ⟨x, ys, e, q, r⟩ := h
    obtain ⟨x2, ys2, e2, q2, r2⟩ := h2
    subst e
    cases e2
    simp only [noSL, Bool.and_eq_true] at na nb
    rw [RepD.inj na.1 nb.1 q q2, RepL.inj na.2 nb.2 r r2]
end
noncomputable def eqJ (ds es : List D) (j : Nat) : Bool := match ds[j]?, es[j]? with
  | some a, some b => eqB a b
  | _, _ => false
theorem eqBL_range : ∀ (as bs : List D), as.length = bs.length -> (List.range as.length).all (eqJ as bs) = eqBL as bs
  | [], [], _ => by simp [eqBL]
  | a :: as, b :: bs, h => by
    have ih := eqBL_range as bs (by simpa using h)
    rw [List.length_cons, List.range_succ_eq_map, List.all_cons, List.all_map]
    simp only [eqBL, <- ih]
    congr 1
  | [], _ :: _, h => by simp at h
  | _ :: _, [], h => by simp at h
section
variable {X : Cx} {pins : List (Addr × Obj)} {σ : St} {H G : Hp} {s : Shared}
theorem rel_get (r : Vals xs us) (h : RepL X.K G xs ds) (e : us[j]? = some u) : ∃ x d, ds[j]? = some d /\ RelV x u /\ RepD X.K G x d := by
  have hl := r.length
  have hl2 := h.length
  have hj : j < us.length := (List.getElem?_eq_some_iff.mp e).1
  have ej : ds[j]? = some ds[j] := List.getElem?_eq_getElem (by lia)
  obtain ⟨x, q1, q2⟩ := h.get ej
  obtain ⟨u', h1, h2⟩ := r.get q1
  have : u' = u := by rw [h1] at e; exact Option.some.inj e
  subst this
  exact ⟨x, _, ej, h2, q2⟩
theorem eqAt_D (I : Inv X pins σ H s) (fz : Fz G H) : ∀ (n : Nat) (A : Around) (a b : D) (x y : V) (u v : Value), depth a <= n -> noS a = true -> noS b = true -> A.units + n + 1 < cLine -> RepD X.K G x a -> RepD X.K G y b -> RelV x u -> RelV y v ->
    SeqAt.EqAt A s u v (eqB a b) /\ SeqAt.RcAt A s u v (eqB a b) := by
  intro n
  induction n with
  | zero =>
    intro A a b x y u v hd na nb hu ra rb rx ry
    have hu' : A.units < cLine := by lia
    cases a with
    | non =>
      cases (show x = V.non from ra); cases (show u = Value.none from rx)
      cases b with
      | non => cases (show y = V.non from rb); cases (show v = Value.none from ry); exact ⟨.same _, .none_none⟩
      | bl c => cases (show y = V.bl c from rb); cases (show v = Value.bool c from ry); exact ⟨.none_bool _, .none_bool _⟩
      | int c => cases (show y = V.int c from rb); obtain ⟨t, rfl⟩ := ry; exact ⟨.none_int _ _, .none_int _ _⟩
      | str c => cases (show y = V.str c from rb); obtain ⟨t, rfl⟩ := ry; exact ⟨.none_str _ _, .none_str _ _⟩
      | lst ds =>
        obtain ⟨p, xs, rfl, q, r⟩ := rb
        cases (show v = Value.ref p from ry)
        obtain ⟨its, rv, pl, hz⟩ := I.list (SqL.of (fz _ _ q))
        exact ⟨.none_list pl.isList hu', .none_list pl.isList hu'⟩
      | tup ds =>
        obtain ⟨p, xs, rfl, q, r⟩ := rb
        cases (show v = Value.ref p from ry)
        obtain ⟨its, rv, pl, hz⟩ := I.tuple (SqT.of (fz _ _ q))
        exact ⟨.none_tuple pl hu', .none_tuple pl hu'⟩
      | scr _ => simp [noS] at nb
      | exc _ => simp [noS] at nb
      | dic _ _ => simp [noS] at nb
      | dit _ _ => simp [noS] at nb
    | bl c0 =>
      cases (show x = V.bl c0 from ra); cases (show u = Value.bool c0 from rx)
      cases b with
      | non => cases (show y = V.non from rb); cases (show v = Value.none from ry); exact ⟨.bool_none _, .bool_none _⟩
      | bl c => cases (show y = V.bl c from rb); cases (show v = Value.bool c from ry); exact ⟨.bool_bool _ _, .bool_bool _ _⟩
      | int c => cases (show y = V.int c from rb); obtain ⟨t, rfl⟩ := ry; exact ⟨.bool_int _ _ _, .bool_int _ _ _⟩
      | str c => cases (show y = V.str c from rb); obtain ⟨t, rfl⟩ := ry; exact ⟨.bool_str _ _ _, .bool_str _ _ _⟩
      | lst ds =>
        obtain ⟨p, xs, rfl, q, r⟩ := rb
        cases (show v = Value.ref p from ry)
        obtain ⟨its, rv, pl, hz⟩ := I.list (SqL.of (fz _ _ q))
        exact ⟨.bool_list _ pl.isList hu', .bool_list _ pl.isList hu'⟩
      | tup ds =>
        obtain ⟨p, xs, rfl, q, r⟩ := rb
        cases (show v = Value.ref p from ry)
        obtain ⟨its, rv, pl, hz⟩ := I.tuple (SqT.of (fz _ _ q))
        exact ⟨.bool_tuple _ pl hu', .bool_tuple _ pl hu'⟩
      | scr _ => simp [noS] at nb
      | exc _ => simp [noS] at nb
      | dic _ _ => simp [noS] at nb
      | dit _ _ => simp [noS] at nb
    | int c0 =>
      cases (show x = V.int c0 from ra); obtain ⟨t0, rfl⟩ := rx
      cases b with
      | non => cases (show y = V.non from rb); cases (show v = Value.none from ry); exact ⟨.int_none _ _, .int_none _ _⟩
      | bl c => cases (show y = V.bl c from rb); cases (show v = Value.bool c from ry); exact ⟨.int_bool _ _ _, .int_bool _ _ _⟩
      | int c => cases (show y = V.int c from rb); obtain ⟨t, rfl⟩ := ry; exact ⟨.int_int _ _ _ _, .int_int _ _ _ _⟩
      | str c => cases (show y = V.str c from rb); obtain ⟨t, rfl⟩ := ry; exact ⟨.int_str _ _ _ _, .int_str _ _ _ _⟩
      | lst ds =>
        obtain ⟨p, xs, rfl, q, r⟩ := rb
        cases (show v = Value.ref p from ry)
        obtain ⟨its, rv, pl, hz⟩ := I.list (SqL.of (fz _ _ q))
        exact ⟨.int_list _ _ pl.isList hu', .int_list _ _ pl.isList hu'⟩
      | tup ds =>
        obtain ⟨p, xs, rfl, q, r⟩ := rb
        cases (show v = Value.ref p from ry)
        obtain ⟨its, rv, pl, hz⟩ := I.tuple (SqT.of (fz _ _ q))
        exact ⟨.int_tuple _ _ pl hu', .int_tuple _ _ pl hu'⟩
      | scr _ => simp [noS] at nb
      | exc _ => simp [noS] at nb
      | dic _ _ => simp [noS] at nb
      | dit _ _ => simp [noS] at nb
    | str c0 =>
      cases (show x = V.str c0 from ra); obtain ⟨t0, rfl⟩ := rx
      cases b with
      | non => cases (show y = V.non from rb); cases (show v = Value.none from ry); exact ⟨.str_none _ _, .str_none _ _⟩
      | bl c => cases (show y = V.bl c from rb); cases (show v = Value.bool c from ry); exact ⟨.str_bool _ _ _, .str_bool _ _ _⟩
      | int c => cases (show y = V.int c from rb); obtain ⟨t, rfl⟩ := ry; exact ⟨.str_int _ _ _ _, .str_int _ _ _ _⟩
      | str c => cases (show y = V.str c from rb); obtain ⟨t, rfl⟩ := ry; exact ⟨.str_str _ _ _ _, .str_str _ _ _ _⟩
      | lst ds =>
        obtain ⟨p, xs, rfl, q, r⟩ := rb
        cases (show v = Value.ref p from ry)
        obtain ⟨its, rv, pl, hz⟩ := I.list (SqL.of (fz _ _ q))
        exact ⟨.str_list _ _ pl.isList hu', .str_list _ _ pl.isList hu'⟩
      | tup ds =>
        obtain ⟨p, xs, rfl, q, r⟩ := rb
        cases (show v = Value.ref p from ry)
        obtain ⟨its, rv, pl, hz⟩ := I.tuple (SqT.of (fz _ _ q))
        exact ⟨.str_tuple _ _ pl hu', .str_tuple _ _ pl hu'⟩
      | scr _ => simp [noS] at nb
      | exc _ => simp [noS] at nb
      | dic _ _ => simp [noS] at nb
      | dit _ _ => simp [noS] at nb
    | lst ds => simp [depth] at hd
    | tup ds => simp [depth] at hd
    | scr _ => simp [noS] at na
    | exc _ => simp [noS] at na
    | dic _ _ => simp [noS] at na
    | dit _ _ => simp [noS] at na
  | succ n ih =>
    intro A a b x y u v hd na nb hu ra rb rx ry
    have hu' : A.units < cLine := by lia
    have items : ∀ (ds es : List D) (xs ys : List V) (its its2 : List Value), depthL ds <= n -> noSL ds = true -> noSL es = true -> RepL X.K G xs ds -> RepL X.K G ys es -> Vals xs its -> Vals ys its2 ->
        ∀ j (h1 : j < its.toArray.size) (h2 : j < its2.toArray.size), SeqAt.EqAt A.in1 s its.toArray[j] its2.toArray[j] (eqJ ds es j) := by
      intro ds es xs ys its its2 hd nd ne r r2 rv rv2 j h1 h2
      simp only [List.size_toArray] at h1 h2
      obtain ⟨x1, d1, e1, k1, m1⟩ := rel_get rv r (j := j) (u := its[j]) (List.getElem?_eq_getElem h1)
      obtain ⟨x2, d2, e2, k2, m2⟩ := rel_get rv2 r2 (j := j) (u := its2[j]) (List.getElem?_eq_getElem h2)
      have e : eqJ ds es j = eqB d1 d2 := by unfold eqJ; rw [e1, e2]
      rw [e]
      have := depthL_get e1
      simpa using (ih A.in1 d1 d2 x1 x2 _ _ (by lia) (noSL_get e1 nd) (noSL_get e2 ne) (by show A.units + 1 + n + 1 < cLine; lia) m1 m2 k1 k2).1
    cases a with
    | scr _ => simp [noS] at na
    | exc _ => simp [noS] at na
    | dic _ _ => simp [noS] at na
    | dit _ _ => simp [noS] at na
    | non => exact ih A .non b x y u v (Nat.zero_le _) na nb (by lia) ra rb rx ry
    | bl c => exact ih A (.bl c) b x y u v (Nat.zero_le _) na nb (by lia) ra rb rx ry
    | int c => exact ih A (.int c) b x y u v (Nat.zero_le _) na nb (by lia) ra rb rx ry
    | str c => exact ih A (.str c) b x y u v (Nat.zero_le _) na nb (by lia) ra rb rx ry
    | lst ds =>
      have ra0 := ra
      obtain ⟨p, xs, rfl, q, r⟩ := ra
      cases (show u = Value.ref p from rx)
      obtain ⟨its, rv, pl, hz⟩ := I.list (SqL.of (fz _ _ q))
      cases b with
      | non => cases (show y = V.non from rb); cases (show v = Value.none from ry); exact ⟨.list_none pl.isList hu', .list_none pl.isList hu'⟩
      | bl c => cases (show y = V.bl c from rb); cases (show v = Value.bool c from ry); exact ⟨.list_bool _ pl.isList hu', .list_bool _ pl.isList hu'⟩
      | int c => cases (show y = V.int c from rb); obtain ⟨t, rfl⟩ := ry; exact ⟨.list_int _ _ pl.isList hu', .list_int _ _ pl.isList hu'⟩
      | str c => cases (show y = V.str c from rb); obtain ⟨t, rfl⟩ := ry; exact ⟨.list_str _ _ pl.isList hu', .list_str _ _ pl.isList hu'⟩
      | scr _ => simp [noS] at nb
      | exc _ => simp [noS] at nb
      | dic _ _ => simp [noS] at nb
      | dit _ _ => simp [noS] at nb
      | tup es =>
        obtain ⟨p2, ys, rfl, q2, r2⟩ := rb
        cases (show v = Value.ref p2 from ry)
        obtain ⟨its2, rv2, pl2, hz2⟩ := I.tuple (SqT.of (fz _ _ q2))
        exact ⟨.list_tuple pl.isList pl2 hu', .list_tuple pl.isList pl2 hu'⟩
      | lst es =>
        have rb0 := rb
        obtain ⟨p2, ys, rfl, q2, r2⟩ := rb
        cases (show v = Value.ref p2 from ry)
        obtain ⟨its2, rv2, pl2, hz2⟩ := I.list (SqL.of (fz _ _ q2))
        simp only [depth] at hd
        have l1 := rv.length; have l2 := r.length; have l3 := rv2.length; have l4 := r2.length
        have rc : SeqAt.RcAt A s (.ref p) (.ref p2) (eqBL ds es) := by
          by_cases hl : ds.length = es.length
          . have z := SeqAt.RcAt.lists (A := A) (s := s) (e := eqJ ds es) pl.isList pl2.isList (by simp only [List.size_toArray]; lia) hu' (items ds es xs ys its its2 (by lia) (by simpa only [noS] using na) (by simpa only [noS] using nb) r r2 rv rv2)
            rw [List.size_toArray, <- l1, l2, eqBL_range ds es hl] at z
            exact z
          . rw [eqBL_len hl]
            refine .lists_lengths pl.isList pl2.isList ?_ hu'
            simp only [List.size_toArray, bne_iff_ne, ne_eq]
            lia
        refine ⟨?_, by simp only [eqB]; exact rc⟩
        by_cases hp : p = p2
        . subst hp
          have e := RepD.inj na nb ra0 rb0
          cases e
          rw [eqB_refl _ na]
          exact .same _
        . simp only [eqB]
          exact .of_refs hp rc
    | tup ds =>
      have ra0 := ra
      obtain ⟨p, xs, rfl, q, r⟩ := ra
      cases (show u = Value.ref p from rx)
      obtain ⟨its, rv, pl, hz⟩ := I.tuple (SqT.of (fz _ _ q))
      cases b with
      | non => cases (show y = V.non from rb); cases (show v = Value.none from ry); exact ⟨.tuple_none pl hu', .tuple_none pl hu'⟩
      | bl c => cases (show y = V.bl c from rb); cases (show v = Value.bool c from ry); exact ⟨.tuple_bool _ pl hu', .tuple_bool _ pl hu'⟩
      | int c => cases (show y = V.int c from rb); obtain ⟨t, rfl⟩ := ry; exact ⟨.tuple_int _ _ pl hu', .tuple_int _ _ pl hu'⟩
      | str c => cases (show y = V.str c from rb); obtain ⟨t, rfl⟩ := ry; exact ⟨.tuple_str _ _ pl hu', .tuple_str _ _ pl hu'⟩
      | scr _ => simp [noS] at nb
      | exc _ => simp [noS] at nb
      | dic _ _ => simp [noS] at nb
      | dit _ _ => simp [noS] at nb
      | lst es =>
        obtain ⟨p2, ys, rfl, q2, r2⟩ := rb
        cases (show v = Value.ref p2 from ry)
        obtain ⟨its2, rv2, pl2, hz2⟩ := I.list (SqL.of (fz _ _ q2))
        exact ⟨.tuple_list pl pl2.isList hu', .tuple_list pl pl2.isList hu'⟩
      | tup es =>
        have rb0 := rb
        obtain ⟨p2, ys, rfl, q2, r2⟩ := rb
        cases (show v = Value.ref p2 from ry)
        obtain ⟨its2, rv2, pl2, hz2⟩ := I.tuple (SqT.of (fz _ _ q2))
        simp only [depth] at hd
        have l1 := rv.length; have l2 := r.length; have l3 := rv2.length; have l4 := r2.length
        have rc : SeqAt.RcAt A s (.ref p) (.ref p2) (eqBL ds es) := by
          have z := SeqAt.RcAt.tuples (A := A) (s := s) (e := eqJ ds es) pl pl2 hu' (items ds es xs ys its its2 (by lia) (by simpa only [noS] using na) (by simpa only [noS] using nb) r r2 rv rv2)
          simp only [List.size_toArray] at z
          by_cases hl : ds.length = es.length
          . have e1 : min its.length its2.length = ds.length := by lia
            have e2 : (its.length == its2.length) = true := by simp; lia
            rw [e1, e2, Bool.and_true, eqBL_range ds es hl] at z
            exact z
          . have e2 : (its.length == its2.length) = false := by simp; lia
            rw [e2, Bool.and_false] at z
            rw [eqBL_len hl]
            exact z
        refine ⟨?_, by simp only [eqB]; exact rc⟩
        by_cases hp : p = p2
        . subst hp
          have e := RepD.inj na nb ra0 rb0
          cases e
          rw [eqB_refl _ na]
          exact .same _
        . simp only [eqB]
          exact .of_refs hp rc
end
noncomputable def dEq (a b : D) : Option D := if noS a && noS b && decide (depth a <= 50) then some (.bl (eqB a b)) else none
noncomputable def dNe (a b : D) : Option D := if noS a && noS b && decide (depth a <= 50) then some (.bl (!eqB a b)) else none
noncomputable def rEqD (K : PySem.W.Frag) (c : Bool -> Bool) : R2 := fun x y H Q => ∃ G a b, Fz G H /\ RepD K G x a /\ RepD K G y b /\ noS a = true /\ noS b = true /\ depth a <= 50 /\ Q (.bl (c (eqB a b))) H
theorem op_eqD (hu : X.A.units + 64 < cLine) : OpR X (compareOp .Eq) (rEqD X.K id) := by
  intro pins s σ H x y v u Q I rx ry h
  obtain ⟨G, a, b, fz, ra, rb, na, nb, hd, q⟩ := h
  exact (eqAt_D I fz 50 X.A a b x y v u hd na nb (by lia) ra rb rx ry).2 _ _ _ _ ⟨.bl _, H, I, rfl, q⟩
theorem se_eq {ma mb : ME} (hu : X.A.units + 64 < cLine) (ha : SE X a ma) (hb : SE X b mb) : SE X (.Compare a [.Eq] [b] pos) (m2 dEq ma mb) := by
  refine se_cmp (op_eqD hu) (fun B G H σ ρ x y a b d Q I ra rb hf k => ?_) ha hb (nomark _)
  unfold dEq at hf
  split at hf
  . rename_i h
    simp only [Bool.and_eq_true, decide_eq_true_eq] at h
    cases hf
    exact ⟨G, a, b, I.fz, ra, rb, h.1.1, h.1.2, h.2, k G H _ I (Fz.refl G) rfl⟩
  . cases hf
section
variable {X : Cx} {pins : List (Addr × Obj)} {σ : St} {H G : Hp} {s : Shared}
theorem neAt_D (I : Inv X pins σ H s) (fz : Fz G H) (A : Around) (a b : D) (x y : V) (u v : Value) (hd : depth a <= 50) (na : noS a = true) (nb : noS b = true) (hu : A.units + 64 < cLine) (ra : RepD X.K G x a) (rb : RepD X.K G y b) (rx : RelV x u) (ry : RelV y v) :
    SeqAt.RcNeAt A s u v (!eqB a b) := by
  have hu' : A.units < cLine := by lia
  have items : ∀ (ds es : List D) (xs ys : List V) (its its2 : List Value), depthL ds <= 49 -> noSL ds = true -> noSL es = true -> RepL X.K G xs ds -> RepL X.K G ys es -> Vals xs its -> Vals ys its2 ->
      ∀ j (h1 : j < its.toArray.size) (h2 : j < its2.toArray.size), SeqAt.EqAt A.in1 s its.toArray[j] its2.toArray[j] (eqJ ds es j) := by
    intro ds es xs ys its its2 hd nd ne r r2 rv rv2 j h1 h2
    simp only [List.size_toArray] at h1 h2
    obtain ⟨x1, d1, e1, k1, m1⟩ := rel_get rv r (j := j) (u := its[j]) (List.getElem?_eq_getElem h1)
    obtain ⟨x2, d2, e2, k2, m2⟩ := rel_get rv2 r2 (j := j) (u := its2[j]) (List.getElem?_eq_getElem h2)
    have e : eqJ ds es j = eqB d1 d2 := by unfold eqJ; rw [e1, e2]
    rw [e]
    have := depthL_get e1
    simpa using (eqAt_D I fz 49 A.in1 d1 d2 x1 x2 _ _ (by lia) (noSL_get e1 nd) (noSL_get e2 ne) (by show A.units + 1 + 49 + 1 < cLine; lia) m1 m2 k1 k2).1
  cases a with
  | scr _ => simp [noS] at na
  | exc _ => simp [noS] at na
  | dic _ _ => simp [noS] at na
  | dit _ _ => simp [noS] at na
  | non =>
    cases (show x = V.non from ra); cases (show u = Value.none from rx)
    cases b with
    | non => cases (show y = V.non from rb); cases (show v = Value.none from ry); exact .none_none
    | bl c => cases (show y = V.bl c from rb); cases (show v = Value.bool c from ry); exact .none_bool _
    | int c => cases (show y = V.int c from rb); obtain ⟨t, rfl⟩ := ry; exact .none_int _ _
    | str c => cases (show y = V.str c from rb); obtain ⟨t, rfl⟩ := ry; exact .none_str _ _
    | lst ds =>
      obtain ⟨p, xs, rfl, q, r⟩ := rb
      cases (show v = Value.ref p from ry)
      obtain ⟨its, rv, pl, hz⟩ := I.list (SqL.of (fz _ _ q))
      exact .none_list pl.isList hu'
    | tup ds =>
      obtain ⟨p, xs, rfl, q, r⟩ := rb
      cases (show v = Value.ref p from ry)
      obtain ⟨its, rv, pl, hz⟩ := I.tuple (SqT.of (fz _ _ q))
      exact .none_tuple pl hu'
    | scr _ => simp [noS] at nb
    | exc _ => simp [noS] at nb
    | dic _ _ => simp [noS] at nb
    | dit _ _ => simp [noS] at nb
  | bl c0 =>
    cases (show x = V.bl c0 from ra); cases (show u = Value.bool c0 from rx)
    cases b with
    | non => cases (show y = V.non from rb); cases (show v = Value.none from ry); exact .bool_none _
    | bl c => cases (show y = V.bl c from rb); cases (show v = Value.bool c from ry); exact .bool_bool _ _
    | int c => cases (show y = V.int c from rb); obtain ⟨t, rfl⟩ := ry; exact .bool_int _ _ _
    | str c => cases (show y = V.str c from rb); obtain ⟨t, rfl⟩ := ry; exact .bool_str _ _ _
    | lst ds =>
      obtain ⟨p, xs, rfl, q, r⟩ := rb
      cases (show v = Value.ref p from ry)
      obtain ⟨its, rv, pl, hz⟩ := I.list (SqL.of (fz _ _ q))
      exact .bool_list _ pl.isList hu'
    | tup ds =>
      obtain ⟨p, xs, rfl, q, r⟩ := rb
      cases (show v = Value.ref p from ry)
      obtain ⟨its, rv, pl, hz⟩ := I.tuple (SqT.of (fz _ _ q))
      exact .bool_tuple _ pl hu'
    | scr _ => simp [noS] at nb
    | exc _ => simp [noS] at nb
    | dic _ _ => simp [noS] at nb
    | dit _ _ => simp [noS] at nb
  | int c0 =>
    cases (show x = V.int c0 from ra); obtain ⟨t0, rfl⟩ := rx
    cases b with
    | non => cases (show y = V.non from rb); cases (show v = Value.none from ry); exact .int_none _ _
    | bl c => cases (show y = V.bl c from rb); cases (show v = Value.bool c from ry); exact .int_bool _ _ _
    | int c => cases (show y = V.int c from rb); obtain ⟨t, rfl⟩ := ry; exact .int_int _ _ _ _
    | str c => cases (show y = V.str c from rb); obtain ⟨t, rfl⟩ := ry; exact .int_str _ _ _ _
    | lst ds =>
      obtain ⟨p, xs, rfl, q, r⟩ := rb
      cases (show v = Value.ref p from ry)
      obtain ⟨its, rv, pl, hz⟩ := I.list (SqL.of (fz _ _ q))
      exact .int_list _ _ pl.isList hu'
    | tup ds =>
      obtain ⟨p, xs, rfl, q, r⟩ := rb
      cases (show v = Value.ref p from ry)
      obtain ⟨its, rv, pl, hz⟩ := I.tuple (SqT.of (fz _ _ q))
      exact .int_tuple _ _ pl hu'
    | scr _ => simp [noS] at nb
    | exc _ => simp [noS] at nb
    | dic _ _ => simp [noS] at nb
    | dit _ _ => simp [noS] at nb
  | str c0 =>
    cases (show x = V.str c0 from ra); obtain ⟨t0, rfl⟩ := rx
    cases b with
    | non => cases (show y = V.non from rb); cases (show v = Value.none from ry); exact .str_none _ _
    | bl c => cases (show y = V.bl c from rb); cases (show v = Value.bool c from ry); exact .str_bool _ _ _
    | int c => cases (show y = V.int c from rb); obtain ⟨t, rfl⟩ := ry; exact .str_int _ _ _ _
    | str c => cases (show y = V.str c from rb); obtain ⟨t, rfl⟩ := ry; exact .str_str _ _ _ _
    | lst ds =>
      obtain ⟨p, xs, rfl, q, r⟩ := rb
      cases (show v = Value.ref p from ry)
      obtain ⟨its, rv, pl, hz⟩ := I.list (SqL.of (fz _ _ q))
      exact .str_list _ _ pl.isList hu'
    | tup ds =>
      obtain ⟨p, xs, rfl, q, r⟩ := rb
      cases (show v = Value.ref p from ry)
      obtain ⟨its, rv, pl, hz⟩ := I.tuple (SqT.of (fz _ _ q))
      exact .str_tuple _ _ pl hu'
    | scr _ => simp [noS] at nb
    | exc _ => simp [noS] at nb
    | dic _ _ => simp [noS] at nb
    | dit _ _ => simp [noS] at nb
  | lst ds =>
    obtain ⟨p, xs, rfl, q, r⟩ := ra
    cases (show u = Value.ref p from rx)
    obtain ⟨its, rv, pl, hz⟩ := I.list (SqL.of (fz _ _ q))
    cases b with
    | non => cases (show y = V.non from rb); cases (show v = Value.none from ry); exact .list_none pl.isList hu'
    | bl c => cases (show y = V.bl c from rb); cases (show v = Value.bool c from ry); exact .list_bool _ pl.isList hu'
    | int c => cases (show y = V.int c from rb); obtain ⟨t, rfl⟩ := ry; exact .list_int _ _ pl.isList hu'
    | str c => cases (show y = V.str c from rb); obtain ⟨t, rfl⟩ := ry; exact .list_str _ _ pl.isList hu'
    | scr _ => simp [noS] at nb
    | exc _ => simp [noS] at nb
    | dic _ _ => simp [noS] at nb
    | dit _ _ => simp [noS] at nb
    | tup es =>
      obtain ⟨p2, ys, rfl, q2, r2⟩ := rb
      cases (show v = Value.ref p2 from ry)
      obtain ⟨its2, rv2, pl2, hz2⟩ := I.tuple (SqT.of (fz _ _ q2))
      exact .list_tuple pl.isList pl2 hu'
    | lst es =>
      obtain ⟨p2, ys, rfl, q2, r2⟩ := rb
      cases (show v = Value.ref p2 from ry)
      obtain ⟨its2, rv2, pl2, hz2⟩ := I.list (SqL.of (fz _ _ q2))
      simp only [depth] at hd
      have l1 := rv.length; have l2 := r.length; have l3 := rv2.length; have l4 := r2.length
      simp only [eqB]
      by_cases hl : ds.length = es.length
      . have z := SeqAt.RcNeAt.lists (A := A) (s := s) (e := eqJ ds es) pl.isList pl2.isList (by simp only [List.size_toArray]; lia) hu' (items ds es xs ys its its2 (by lia) (by simpa only [noS] using na) (by simpa only [noS] using nb) r r2 rv rv2)
        rw [List.size_toArray, <- l1, l2, eqBL_range ds es hl] at z
        exact z
      . rw [eqBL_len hl]
        refine .lists_lengths pl.isList pl2.isList ?_ hu'
        simp only [List.size_toArray, bne_iff_ne, ne_eq]
        lia
  | tup ds =>
    obtain ⟨p, xs, rfl, q, r⟩ := ra
    cases (show u = Value.ref p from rx)
    obtain ⟨its, rv, pl, hz⟩ := I.tuple (SqT.of (fz _ _ q))
    cases b with
    | non => cases (show y = V.non from rb); cases (show v = Value.none from ry); exact .tuple_none pl hu'
    | bl c => cases (show y = V.bl c from rb); cases (show v = Value.bool c from ry); exact .tuple_bool _ pl hu'
    | int c => cases (show y = V.int c from rb); obtain ⟨t, rfl⟩ := ry; exact .tuple_int _ _ pl hu'
    | str c => cases (show y = V.str c from rb); obtain ⟨t, rfl⟩ := ry; exact .tuple_str _ _ pl hu'
    | scr _ => simp [noS] at nb
    | exc _ => simp [noS] at nb
    | dic _ _ => simp [noS] at nb
    | dit _ _ => simp [noS] at nb
    | lst es =>
      obtain ⟨p2, ys, rfl, q2, r2⟩ := rb
      cases (show v = Value.ref p2 from ry)
      obtain ⟨its2, rv2, pl2, hz2⟩ := I.list (SqL.of (fz _ _ q2))
      exact .tuple_list pl pl2.isList hu'
    | tup es =>
      obtain ⟨p2, ys, rfl, q2, r2⟩ := rb
      cases (show v = Value.ref p2 from ry)
      obtain ⟨its2, rv2, pl2, hz2⟩ := I.tuple (SqT.of (fz _ _ q2))
      simp only [depth] at hd
      have l1 := rv.length; have l2 := r.length; have l3 := rv2.length; have l4 := r2.length
      have z := SeqAt.RcNeAt.tuples (A := A) (s := s) (e := eqJ ds es) pl pl2 hu' (items ds es xs ys its its2 (by lia) (by simpa only [noS] using na) (by simpa only [noS] using nb) r r2 rv rv2)
      simp only [List.size_toArray] at z
      simp only [eqB]
      by_cases hl : ds.length = es.length
      . have e1 : min its.length its2.length = ds.length := by lia
        have e2 : (its.length == its2.length) = true := by simp; lia
        rw [e1, e2, Bool.and_true, eqBL_range ds es hl] at z
        exact z
      . have e2 : (its.length == its2.length) = false := by simp; lia
        rw [e2, Bool.and_false] at z
        rw [eqBL_len hl]
        exact z
end
theorem op_neD (hu : X.A.units + 64 < cLine) : OpR X (compareOp .NotEq) (rEqD X.K not) := by
  intro pins s σ H x y v u Q I rx ry h
  obtain ⟨G, a, b, fz, ra, rb, na, nb, hd, q⟩ := h
  exact neAt_D I fz X.A a b x y v u hd na nb hu ra rb rx ry _ _ _ _ ⟨.bl _, H, I, rfl, q⟩
theorem v2_ne : V2 X (rEqD X.K not) dNe := by
  intro B G H σ ρ x y a b d Q I ra rb hf k
  unfold dNe at hf
  split at hf
  . rename_i h
    simp only [Bool.and_eq_true, decide_eq_true_eq] at h
    cases hf
    exact ⟨G, a, b, I.fz, ra, rb, h.1.1, h.1.2, h.2, k G H _ I (Fz.refl G) rfl⟩
  . cases hf
theorem v2_eq : V2 X (rEqD X.K id) dEq := by
  intro B G H σ ρ x y a b d Q I ra rb hf k
  unfold dEq at hf
  split at hf
  . rename_i h
    simp only [Bool.and_eq_true, decide_eq_true_eq] at h
    cases hf
    exact ⟨G, a, b, I.fz, ra, rb, h.1.1, h.1.2, h.2, k G H _ I (Fz.refl G) rfl⟩
  . cases hf
noncomputable def dIx : D -> D -> Option D
  | .lst ds, .int i => atI ds i
  | .tup ds, .int i => atI ds i
  | .scr ns, .int i => (atI ns i).map .int
  | _, _ => none
theorem atI_map {α β : Type} (f : α -> β) {xs : List α} {i : Int} {v : α} (h : atI xs i = some v) : atI (xs.map f) i = some (f v) := by
  unfold atI at h ⊢
  rw [List.length_map]
  cases q : ixN xs.length i with
  | none => rw [q] at h; cases h
  | some j =>
    rw [q] at h
    show (xs.map f)[j]? = _
    rw [List.getElem?_map, show xs[j]? = some v from h]
    rfl
noncomputable def ReadD (K : PySem.W.Frag) (G H : Hp) (v : V) : D -> Prop
  | .lst ds => ∃ a xs, v = .ref a /\ H a = some (.lst xs) /\ RepL K G xs ds
  | d => RepD K G v d
theorem ReadD.of (fz : Fz G H) (h : RepD K G v d) : ReadD K G H v d := by
  cases d with
  | lst ds => obtain ⟨a, xs, e, q, r⟩ := h; exact ⟨a, xs, e, fz a _ q, r⟩
  | _ => exact h
noncomputable def Sl.read : Sl -> Option D
  | .emp => none
  | .two _ _ => none
  | .tre _ => none
  | .ptr _ => none
  | .val d => some d
  | .own ds => some (.lst ds)
  | .par ds => some (.lst ds)
noncomputable def hasV (ρ : R) (j : Nat) : Bool := match ρ[j]? with
  | some (.val _) => true
  | some (.own _) => true
  | some (.par _) => true
  | _ => false
theorem SI.has (I : SI K B G H σ ρ) (h : hasV ρ j = true) : ∃ v, σ[j]? = some (some v) := by
  unfold hasV at h
  cases e : ρ[j]? with
  | none => rw [e] at h; cases h
  | some s =>
    rw [e] at h
    have q := I.slot j s e
    cases s with
    | emp => cases h
    | two _ _ => cases h
    | tre _ => cases h
    | ptr _ => cases h
    | val d => obtain ⟨v, e, _⟩ := q; exact ⟨v, e⟩
    | own d => obtain ⟨l, _, e, _⟩ := q; exact ⟨_, e⟩
    | par d => obtain ⟨l, _, e, _⟩ := q; exact ⟨_, e⟩
theorem SI.read (I : SI K B G H σ ρ) (hv : σ[j]? = some (some v)) (e : ρ[j]? = some s) (q : s.read = some d) : ReadD K G H v d := by
  have h := I.slot j s e
  cases s with
  | emp => cases q
  | two _ _ => cases q
  | tre _ => cases q
  | ptr _ => cases q
  | val d' =>
    cases q
    obtain ⟨w, e1, r⟩ := h
    rw [hv] at e1; cases e1
    exact .of I.fz r
  | own ds =>
    cases q
    obtain ⟨l, xs, e1, _, h3, h4, _⟩ := h
    rw [hv] at e1; cases e1
    exact ⟨l, xs, rfl, h3, h4⟩
  | par ds =>
    cases q
    obtain ⟨l, xs, e1, _, h3, h4, _⟩ := h
    rw [hv] at e1; cases e1
    exact ⟨l, xs, rfl, h3, h4⟩
theorem ix_read {x y : V} {a b d : D} {Q : VK} (I : SI K B G H σ ρ) (ra : ReadD K G H x a) (rb : RepD K G y b) (hf : dIx a b = some d) (k : ∀ v, RepD K G v d -> Q v H) : rIx K x y H Q := by
  cases a <;> cases b <;> simp only [dIx] at hf <;> try cases hf
  . rename_i ds i
    obtain ⟨p, xs, rfl, hp, r⟩ := ra
    obtain ⟨v, e, q⟩ := r.at hf
    exact .inl ⟨p, xs, i, v, rfl, rb, SqL.of hp, e, k _ q⟩
  . rename_i ds i
    obtain ⟨p, xs, rfl, hp, r⟩ := I.tup ra
    obtain ⟨v, e, q⟩ := r.at hf
    exact .inr (.inl ⟨p, xs, i, v, rfl, rb, SqT.of hp, e, k _ q⟩)
  . rename_i ns i
    obtain ⟨p, rfl, hp⟩ := ra
    cases e : atI ns i with
    | none => rw [e] at hf; cases hf
    | some n =>
      rw [e] at hf
      cases hf
      exact .inl ⟨p, _, i, .int n, rfl, rb, I.fz.sql hp, atI_map V.int e, k _ rfl⟩
theorem v2_ix : V2 X (rIx X.K) dIx := fun B G H σ ρ x y a b d Q I ra rb hf k => ix_read I (.of I.fz ra) rb hf fun v q => k G H v I (Fz.refl G) q
theorem se_item {ma mb : ME} (ha : SE X a ma) (hb : SE X b mb) (hs :autoParam (PlainIx b) zu6._auto_1) : SE X (.Subscript a b pos) (m2 dIx ma mb) := se_ix ix_seq v2_ix ha hb hs
noncomputable def eIxV (j : Nat) (mi : ME) : ME := fun ρ => if hasV ρ j then (mi ρ).bind fun p => (p.2[j]?.bind Sl.read).bind fun d => (dIx d p.1).map fun e => (e, p.2) else none
theorem se_itemV (j : Nat) (hb : SE X b mb) (hN :autoParam (X.N[j]? = some x) zu2._auto_1) (hv :autoParam (Vis X.env.scope x) zu5._auto_1) (hd :autoParam ((x == ("__debug__" : Str)) = false) zu1._auto_1)
    (hcd :autoParam ((x == ("__classdict__" : Str)) = false) zu1._auto_1) (hs :autoParam (PlainIx b) zu6._auto_1) : SE X (.Subscript (.Name x pos') b pos) (eIxV j mb) := by
  obtain ⟨tb, pb, sb⟩ := hb
  refine ⟨_, pe_ix ix_seq (pe_var hN hv hd hcd) pb hs, fun B G H σ ρ d ρ' Q I hm k => ?_⟩
  unfold eIxV at hm
  split at hm
  . rename_i hh
    obtain ⟨v, ev⟩ := I.has hh
    cases e1 : mb ρ with
    | none => rw [e1] at hm; cases hm
    | some q =>
      obtain ⟨i, ρ1⟩ := q
      rw [e1] at hm
      simp only [Option.bind_some] at hm
      cases e2 : ρ1[j]? with
      | none => rw [e2] at hm; cases hm
      | some s =>
        rw [e2] at hm
        simp only [Option.bind_some] at hm
        cases e3 : s.read with
        | none => rw [e3] at hm; cases hm
        | some a =>
          rw [e3] at hm
          simp only [Option.bind_some] at hm
          cases e4 : dIx a i with
          | none => rw [e4] at hm; cases hm
          | some c =>
            rw [e4] at hm
            cases hm
            exact ⟨v, ev, sb B G H σ ρ i ρ' _ I e1 fun G1 H1 y I1 f1 r1 => ix_read I1 (I1.read ev e2 e3) r1 e4 fun w q => k G1 H1 w I1 f1 q⟩
  . cases hm
noncomputable def dLen : List D -> Option D
  | [.lst ds] => some (.int ds.length)
  | [.tup ds] => some (.int ds.length)
  | [.scr ns] => some (.int ns.length)
  | _ => none
theorem len_read {x : V} {a d : D} {Q : VK} (I : SI K B G H σ ρ) (ra : ReadD K G H x a) (hf : dLen [a] = some d) (k : ∀ v, RepD K G v d -> Q v H) :
    ∃ p ys, [x] = [V.ref p] /\ (SqL K H p ys \/ SqT K H p ys) /\ Q (.int ys.length) H := by
  cases a <;> simp only [dLen] at hf <;> try cases hf
  . obtain ⟨p, xs, rfl, hp, r⟩ := ra
    exact ⟨p, xs, rfl, .inl (SqL.of hp), by rw [r.length]; exact k _ rfl⟩
  . obtain ⟨p, xs, rfl, hp, r⟩ := I.tup ra
    exact ⟨p, xs, rfl, .inr (SqT.of hp), by rw [r.length]; exact k _ rfl⟩
  . obtain ⟨p, rfl, hp⟩ := ra
    exact ⟨p, _, rfl, .inl (I.fz.sql hp), by rw [List.length_map]; exact k _ rfl⟩
theorem RepL.one (h : RepL K G xs [d]) : ∃ x, xs = [x] /\ RepD K G x d := by
  obtain ⟨x, ys, e, q, r⟩ := h
  cases (show ys = [] from r)
  exact ⟨x, e, q⟩
theorem RepL.two {a b : D} (h : RepL K G xs [a, b]) : ∃ x y, xs = [x, y] /\ RepD K G x a /\ RepD K G y b := by
  obtain ⟨x, ys, e, q, r⟩ := h
  obtain ⟨y, e2, q2⟩ := r.one
  subst e2
  exact ⟨x, y, e, q, q2⟩
noncomputable def eLenV (j : Nat) : ME := fun ρ => (ρ[j]?.bind Sl.read).bind fun d => (dLen [d]).map fun e => (e, ρ)
theorem se_lenV (j : Nat) (ml : X.mg "len" = none) (hN :autoParam (X.N[j]? = some x) zu2._auto_1) (hv :autoParam (Vis X.env.scope x) zu5._auto_1) (hd :autoParam ((x == ("__debug__" : Str)) = false) zu1._auto_1)
    (hcd :autoParam ((x == ("__classdict__" : Str)) = false) zu1._auto_1) (hg :autoParam (Gl X "len") zu2._auto_1) (he :autoParam (starEach [.Name x pos'] X.env = (false, eval (.Name x pos') X.env) :: starEach [] X.env) zu2._auto_1) : SE X (.Call (.Name "len" p) [.Name x pos'] [] pos) (eLenV j) := by
  refine ⟨_, pe_callB call_len_seq hg ml PySem.boot_len (pa_cons (pe_var hN hv hd hcd) pa_nil he) (by decide) (by decide) he rfl, fun B G H σ ρ d ρ' Q I hm k => ?_⟩
  unfold eLenV at hm
  cases e2 : ρ[j]? with
  | none => rw [e2] at hm; cases hm
  | some s =>
    rw [e2] at hm
    simp only [Option.bind_some] at hm
    cases e3 : s.read with
    | none => rw [e3] at hm; cases hm
    | some a =>
      rw [e3] at hm
      simp only [Option.bind_some] at hm
      cases e4 : dLen [a] with
      | none => rw [e4] at hm; cases hm
      | some c =>
        rw [e4] at hm
        cases hm
        have hh : hasV ρ j = true := by
          unfold hasV
          rw [e2]
          cases s <;> first | rfl | cases e3
        obtain ⟨v, ev⟩ := I.has hh
        exact ⟨v, ev, len_read I (I.read ev e2 e3) e4 fun w q => k G H w I (Fz.refl G) q⟩
noncomputable def dTuple : List D -> Option D
  | [.lst ds] => some (.tup ds)
  | [.tup ds] => some (.tup ds)
  | [.scr ns] => some (.tup (ns.map .int))
  | _ => none
theorem vc_tuple : VC X (fun xs H Q => ∃ p ys, xs = [.ref p] /\ ((SqL X.K H p ys /\ ∀ l, H l = none -> Q (.ref l) (upd H l (.tup ys))) \/ (SqT X.K H p ys /\ Q (.ref p) H))) dTuple := by
  intro B G H σ ρ xs ds d Q I r hf k
  match ds, hf with
  | [a], hf =>
    obtain ⟨x, rfl, ra⟩ := r.one
    cases a <;> simp only [dTuple] at hf <;> try cases hf
    . obtain ⟨p, ys, rfl, hp, q⟩ := I.lst ra
      refine ⟨p, ys, rfl, .inl ⟨SqL.of hp, fun l hl => ?_⟩⟩
      obtain ⟨I2, f2, r2⟩ := I.newT hl q
      exact k _ _ _ I2 f2 r2
    . obtain ⟨p, ys, e, hp, q⟩ := I.tup ra
      subst e
      exact ⟨p, ys, rfl, .inr ⟨SqT.of hp, k G H _ I (Fz.refl G) ra⟩⟩
    . obtain ⟨p, rfl, hp⟩ := ra
      refine ⟨p, _, rfl, .inl ⟨I.fz.sql hp, fun l hl => ?_⟩⟩
      obtain ⟨I2, f2, r2⟩ := I.newT hl (RepL.ints _)
      exact k _ _ _ I2 f2 r2
  | [], hf => cases hf
  | _ :: _ :: _, hf => simp [dTuple] at hf
theorem se_tuple (ml : X.mg "tuple" = none) (ha : SA X [e] ma) (hg :autoParam (Gl X "tuple") zu2._auto_1) (he :autoParam (starEach [e] X.env = (false, eval e X.env) :: starEach [] X.env) zu2._auto_1) (hb :autoParam (bootBuiltins "tuple" = some (.type "tuple")) zu7._auto_1) :
    SE X (.Call (.Name "tuple" p) [e] [] pos) (mC dTuple ma) :=
  se_callTy call_tuple_of vc_tuple hb ml ha hg (by decide) (by decide) he rfl
noncomputable def dItems : List D -> Option (List D)
  | [.lst ds] => some ds
  | [.tup ds] => some ds
  | [.scr ns] => some (ns.map .int)
  | _ => none
noncomputable def oC (f : List D -> Option (List D)) (ma : MA) : MO := fun ρ => (ma ρ).bind fun p => (f p.1).map fun d => (d, p.2)
theorem oC_inv {f : List D -> Option (List D)} {d : List D} (h : oC f ma ρ = some (d, ρ')) : ∃ a, ma ρ = some (a, ρ') /\ f a = some d := by
  unfold oC at h
  cases e1 : ma ρ with
  | none => rw [e1] at h; cases h
  | some p =>
    obtain ⟨a, ρ1⟩ := p
    rw [e1] at h
    simp only [Option.bind_some] at h
    cases e3 : f a with
    | none => rw [e3] at h; cases h
    | some c => rw [e3] at h; cases h; exact ⟨a, rfl, e3⟩
theorem SI.newO (I : SI K B G H σ ρ) {p : Addr} (hp : H p = none) (xs : List V) : SI K B G (upd H p (.lst xs)) σ ρ /\ G p = none /\ (upd H p (.lst xs)) p = some (.lst xs) /\ B.H p = none /\ Nw K G (upd H p (.lst xs)) σ ρ p :=
  ⟨I.allocO hp _, I.fz.free hp, upd_same, I.there p hp, I.nw_move (I.nw hp) fun i s a _ _ g h => ⟨g, upd_ne fun z => h (by rw [z]; exact hp)⟩⟩
theorem so_list (ml : X.mg "list" = none) (ha : SA X [e] ma) (hg :autoParam (Gl X "list") zu2._auto_1) (he :autoParam (starEach [e] X.env = (false, eval e X.env) :: starEach [] X.env) zu2._auto_1) (hb :autoParam (bootBuiltins "list" = some (.type "list")) zu7._auto_1) :
    SO X (.Call (.Name "list" p) [e] [] pos) (oC dItems ma) := by
  obtain ⟨t, pa, sa⟩ := ha
  refine ⟨_, pe_callTy call_list_of hg ml hb pa (by decide) (by decide) he rfl, fun B G H σ ρ ds ρ' Q I hm k => ?_⟩
  obtain ⟨as, e1, e2⟩ := oC_inv hm
  refine sa B G H σ ρ as ρ' _ I e1 fun G1 H1 vs I1 f1 r1 => ?_
  match as, e2 with
  | [a], e2 =>
    obtain ⟨x, rfl, ra⟩ := r1.one
    have fin : ∀ (q : Addr) (ys : List V) (sq : SqL X.K H1 q ys \/ SqT X.K H1 q ys), x = .ref q -> RepL X.K G1 ys ds -> ∃ p ys, [x] = [V.ref p] /\ (SqL X.K H1 p ys \/ SqT X.K H1 p ys) /\ ∀ l, H1 l = none -> Q (.ref l) (upd H1 l (.lst ys)) := fun q ys sq ex r => by
      refine ⟨q, ys, by rw [ex], sq, fun l hl => ?_⟩
      obtain ⟨I2, g2, h2, b2, n2⟩ := I1.newO hl ys
      exact k G1 _ l ys I2 f1 g2 h2 r b2 n2
    cases a <;> simp only [dItems] at e2 <;> try cases e2
    . obtain ⟨p, ys, ex, hp, q⟩ := I1.lst ra
      exact fin p ys (.inl (SqL.of hp)) ex q
    . obtain ⟨p, ys, ex, hp, q⟩ := I1.tup ra
      exact fin p ys (.inr (SqT.of hp)) ex q
    . obtain ⟨p, ex, hp⟩ := ra
      exact fin p _ (.inl (I1.fz.sql hp)) ex (RepL.ints _)
  | [], e2 => cases e2
  | _ :: _ :: _, e2 => simp [dItems] at e2
section
variable {X : Cx} {es : List Expr} {ma : MA} {pos : Pos}
noncomputable def eTup (ma : MA) : ME := fun ρ => (ma ρ).bind fun p => if p.1.length <= 16777216 then some (.tup p.1, p.2) else none
theorem se_tup {x1} (h : SA X es ma) : SE X (.Tuple es x1 pos) (eTup ma) := by
  obtain ⟨t, pa, sa⟩ := h
  refine ⟨_, pe_tup pa, fun B G H σ ρ d ρ' Q I hm k => ?_⟩
  unfold eTup at hm
  cases e1 : ma ρ with
  | none => rw [e1] at hm; cases hm
  | some q =>
    obtain ⟨ds, ρ1⟩ := q
    rw [e1] at hm
    simp only [Option.bind_some] at hm
    split at hm
    . rename_i hl
      cases hm
      refine sa B G H σ ρ ds ρ' _ I e1 fun G1 H1 vs I1 f1 r1 => ⟨by rw [r1.length, sizeLine_eq]; exact hl, fun p hp => ?_⟩
      obtain ⟨I2, f2, r2⟩ := I1.newT hp r1
      exact k _ _ _ I2 (f1.trans f2) r2
    . cases hm
noncomputable def oLst (ma : MA) : MO := fun ρ => (ma ρ).bind fun p => if p.1.length <= 16777216 then some (p.1, p.2) else none
theorem so_lst (h : SA X es ma) : SO X (.List es pos) (oLst ma) := by
  obtain ⟨t, pa, sa⟩ := h
  refine ⟨_, pe_lst pa, fun B G H σ ρ d ρ' Q I hm k => ?_⟩
  unfold oLst at hm
  cases e1 : ma ρ with
  | none => rw [e1] at hm; cases hm
  | some q =>
    obtain ⟨ds, ρ1⟩ := q
    rw [e1] at hm
    simp only [Option.bind_some] at hm
    split at hm
    . rename_i hl
      cases hm
      refine sa B G H σ ρ _ ρ' _ I e1 fun G1 H1 vs I1 f1 r1 => ⟨by rw [r1.length, sizeLine_eq]; exact hl, fun p hp => ?_⟩
      obtain ⟨I2, g2, h2, b2, n2⟩ := I1.newO hp vs
      exact k G1 _ p vs I2 f1 g2 h2 r1 b2 n2
    . cases hm
end
theorem bind_inv {α β : Type} {o : Option α} {f : α -> Option β} {b : β} (h : o.bind f = some b) : ∃ a, o = some a /\ f a = some b := by
  cases o with
  | none => cases h
  | some a => exact ⟨a, rfl, h⟩
theorem map_inv {α β : Type} {o : Option α} {f : α -> β} {b : β} (h : o.map f = some b) : ∃ a, o = some a /\ f a = b := by
  cases o with
  | none => cases h
  | some a => cases h; exact ⟨a, rfl, rfl⟩
noncomputable def dTru : D -> Option Bool
  | .bl b => some b
  | .int i => some (i != 0)
  | .non => some false
  | .lst ds => some (!ds.isEmpty)
  | .tup ds => some (!ds.isEmpty)
  | _ => none
noncomputable def tTru (ma : ME) : MT := fun ρ => (ma ρ).bind fun p => (dTru p.1).map fun b => (b, p.2)
section
variable {X : Cx} {a b c : Expr} {ma mb mc : ME} {pos : Pos}
theorem emp_len (h : RepL K G xs ds) : (!xs.isEmpty) = !ds.isEmpty := by
  have := h.length
  cases xs <;> cases ds <;> simp_all
theorem st_truth (ha : SE X a ma) (he :autoParam (∀ whole, isTrue a X.env whole = (do let v <- whole; standAt a.pos; holding [v] (truthy v))) zu8._auto_1) : STt X a (tTru ma) := by
  obtain ⟨ta, pa, sa⟩ := ha
  refine ⟨_, pt_truth pa he, fun B G H σ ρ d ρ' Q I hm k => ?_⟩
  obtain ⟨⟨x, ρ1⟩, e1, e2⟩ := bind_inv hm
  obtain ⟨t, e3, e4⟩ := map_inv e2
  obtain ⟨rfl, rfl⟩ := Prod.mk.inj e4
  refine sa B G H σ ρ x ρ1 _ I e1 fun G1 H1 v I1 f1 r1 => ⟨t, ?_, k G1 H1 I1 f1⟩
  cases x <;> simp only [dTru] at e3 <;> try cases e3
  . cases r1; exact rfl
  . cases r1; exact rfl
  . cases r1; exact rfl
  . obtain ⟨p, xs, rfl, hp, r⟩ := I1.lst r1
    exact .inl ⟨xs, SqL.of hp, (emp_len r).symm⟩
  . obtain ⟨p, xs, rfl, hp, r⟩ := I1.tup r1
    exact .inr (.inl ⟨xs, SqT.of hp, (emp_len r).symm⟩)
theorem st_cmp {r : R2} (ho : OpR X (compareOp op) r) (hv : V2 X r f) (hB : ∀ x y d, f x y = some d -> ∃ t, d = .bl t) (ha : SE X a ma) (hb : SE X b mb) (hm : behindInMarks op b = false) : STt X (.Compare a [op] [b] pos) (tTru (m2 f ma mb)) := by
  obtain ⟨ta, pa, sa⟩ := ha
  obtain ⟨tb, pb, sb⟩ := hb
  refine ⟨_, pt_cmpR ho pa pb hm, fun B G H σ ρ d ρ' Q I hm k => ?_⟩
  obtain ⟨⟨x, ρ1⟩, e1, e2⟩ := bind_inv hm
  obtain ⟨t, e3, e4⟩ := map_inv e2
  obtain ⟨rfl, rfl⟩ := Prod.mk.inj e4
  obtain ⟨_, _, _, _, _, e5⟩ := m2_inv e1
  obtain ⟨t', rfl⟩ := hB _ _ _ e5
  obtain rfl : t' = t := Option.some.inj e3
  refine sound2 hv sa sb B G H σ ρ (.bl t') ρ1 _ I e1 fun G1 H1 v I1 f1 r1 => ?_
  cases (show v = V.bl t' from r1)
  exact ⟨t', rfl, k G1 H1 I1 f1⟩
theorem bl_cmp {g : Int -> Int -> Bool} (x y d : D) (h : dI2 (fun _ _ => true) (fun i j => .bl (g i j)) x y = some d) : ∃ t, d = .bl t := by
  cases x <;> cases y <;> simp only [dI2] at h <;> try cases h
  exact ⟨_, rfl⟩
theorem bl_eq (x y d : D) (h : dEq x y = some d) : ∃ t, d = .bl t := by
  unfold dEq at h
  split at h
  . cases h; exact ⟨_, rfl⟩
  . cases h
theorem bl_ne (x y d : D) (h : dNe x y = some d) : ∃ t, d = .bl t := by
  unfold dNe at h
  split at h
  . cases h; exact ⟨_, rfl⟩
  . cases h
theorem st_lt (ha : SE X a ma) (hb : SE X b mb) : STt X (.Compare a [.Lt] [b] pos) (tTru (m2 dLt ma mb)) := st_cmp op_lt v2_cmp bl_cmp ha hb (nomark _)
theorem st_gt (ha : SE X a ma) (hb : SE X b mb) : STt X (.Compare a [.Gt] [b] pos) (tTru (m2 dGt ma mb)) := st_cmp op_gt v2_cmp bl_cmp ha hb (nomark _)
theorem st_ge (ha : SE X a ma) (hb : SE X b mb) : STt X (.Compare a [.GtE] [b] pos) (tTru (m2 dGe ma mb)) := st_cmp op_ge v2_cmp bl_cmp ha hb (nomark _)
theorem st_eq (hu : X.A.units + 64 < cLine) (ha : SE X a ma) (hb : SE X b mb) : STt X (.Compare a [.Eq] [b] pos) (tTru (m2 dEq ma mb)) := st_cmp (op_eqD hu) v2_eq bl_eq ha hb (nomark _)
theorem st_ne (hu : X.A.units + 64 < cLine) (ha : SE X a ma) (hb : SE X b mb) : STt X (.Compare a [.NotEq] [b] pos) (tTru (m2 dNe ma mb)) := st_cmp (op_neD hu) v2_ne bl_ne ha hb (nomark _)
end
noncomputable def STw (X : Cx) (e : Expr) (m : MT) : Prop :=
  ∃ t, PW X e t /\ ∀ B G H σ ρ d ρ' (Q : Bool -> Hp -> Prop), SI X.K B G H σ ρ -> m ρ = some (d, ρ') -> (∀ G' H', SI X.K B G' H' σ ρ' -> Fz G G' -> Q d H') -> t σ H Q
theorem STw.st {m : MT} (h : STw X e m) : STt X e m := let ⟨t, p, s⟩ := h; ⟨t, p.pt, s⟩
noncomputable def tAndM (a b : MT) : MT := fun ρ => (a ρ).bind fun p => if p.1 then b p.2 else some (false, p.2)
noncomputable def tOrM (a b : MT) : MT := fun ρ => (a ρ).bind fun p => if p.1 then some (true, p.2) else b p.2
noncomputable def tNotM (a : MT) : MT := fun ρ => (a ρ).map fun p => (!p.1, p.2)
section
variable {X : Cx} {a b c : Expr} {ma mb : MT} {pos : Pos} {rest : List Expr}
theorem sw_and1 (h : STt X a ma) : STw X (.BoolOp .And [a] pos) ma := let ⟨t, p, s⟩ := h; ⟨t, pw_and1 p, s⟩
theorem sw_or1 (h : STt X a ma) : STw X (.BoolOp .Or [a] pos) ma := let ⟨t, p, s⟩ := h; ⟨t, pw_or1 p, s⟩
theorem sw_and (ha : STt X a ma) (hb : STw X (.BoolOp .And (b :: rest) pos) mb) : STw X (.BoolOp .And (a :: b :: rest) pos) (tAndM ma mb) := by
  obtain ⟨ta, pa, sa⟩ := ha
  obtain ⟨tb, pb, sb⟩ := hb
  refine ⟨_, pw_and pa pb, fun B G H σ ρ d ρ' Q I hm k => ?_⟩
  obtain ⟨⟨x, ρ1⟩, e1, e2⟩ := bind_inv hm
  refine sa B G H σ ρ x ρ1 _ I e1 fun G1 H1 I1 f1 => ?_
  cases x with
  | true => exact sb B G1 H1 σ ρ1 d ρ' Q I1 e2 fun G2 H2 I2 f2 => k G2 H2 I2 (f1.trans f2)
  | false => cases e2; exact k G1 H1 I1 f1
theorem sw_or (ha : STt X a ma) (hb : STw X (.BoolOp .Or (b :: rest) pos) mb) : STw X (.BoolOp .Or (a :: b :: rest) pos) (tOrM ma mb) := by
  obtain ⟨ta, pa, sa⟩ := ha
  obtain ⟨tb, pb, sb⟩ := hb
  refine ⟨_, pw_or pa pb, fun B G H σ ρ d ρ' Q I hm k => ?_⟩
  obtain ⟨⟨x, ρ1⟩, e1, e2⟩ := bind_inv hm
  refine sa B G H σ ρ x ρ1 _ I e1 fun G1 H1 I1 f1 => ?_
  cases x with
  | false => exact sb B G1 H1 σ ρ1 d ρ' Q I1 e2 fun G2 H2 I2 f2 => k G2 H2 I2 (f1.trans f2)
  | true => cases e2; exact k G1 H1 I1 f1
theorem st_not (ha : STt X a ma) : STt X (.UnaryOp .Not a pos) (tNotM ma) := by
  obtain ⟨ta, pa, sa⟩ := ha
  refine ⟨_, pt_not pa, fun B G H σ ρ d ρ' Q I hm k => ?_⟩
  obtain ⟨⟨x, ρ1⟩, e1, e2⟩ := map_inv hm
  cases e2
  exact sa B G H σ ρ x ρ1 _ I e1 fun G1 H1 I1 f1 => k G1 H1 I1 f1
end
noncomputable def eAnd (a b : ME) : ME := fun ρ => (a ρ).bind fun p => match p.1 with
  | .bl true => b p.2
  | .bl false => some (.bl false, p.2)
  | _ => none
noncomputable def eOr (a b : ME) : ME := fun ρ => (a ρ).bind fun p => match p.1 with
  | .bl true => some (.bl true, p.2)
  | .bl false => b p.2
  | _ => none
noncomputable def dNot : D -> Option D
  | .bl b => some (.bl (!b))
  | _ => none
section
variable {X : Cx} {a b c : Expr} {ma mb : ME} {pos : Pos} {rest : List Expr} {op : BoolOp}
theorem se_one (h : SE X a ma) : SE X (.BoolOp op [a] pos) ma := let ⟨t, p, s⟩ := h; ⟨t, pe_one p, s⟩
theorem se_and (ha : SE X a ma) (hb : SE X (.BoolOp .And (b :: rest) pos) mb) : SE X (.BoolOp .And (a :: b :: rest) pos) (eAnd ma mb) := by
  obtain ⟨ta, pa, sa⟩ := ha
  obtain ⟨tb, pb, sb⟩ := hb
  refine ⟨_, pe_and pa pb, fun B G H σ ρ d ρ' Q I hm k => ?_⟩
  obtain ⟨⟨x, ρ1⟩, e1, e2⟩ := bind_inv hm
  refine sa B G H σ ρ x ρ1 _ I e1 fun G1 H1 v I1 f1 r1 => ?_
  cases x <;> try cases e2
  rename_i y
  refine ⟨y, r1, ?_⟩
  cases y with
  | true => exact sb B G1 H1 σ ρ1 d ρ' Q I1 e2 fun G2 H2 v I2 f2 r2 => k G2 H2 v I2 (f1.trans f2) r2
  | false => cases e2; exact k G1 H1 _ I1 f1 rfl
theorem se_not (ha : SE X a ma) : SE X (.UnaryOp .Not a pos) (m1 dNot ma) := by
  obtain ⟨ta, pa, sa⟩ := ha
  refine ⟨_, pe_not pa, fun B G H σ ρ d ρ' Q I hm k => ?_⟩
  obtain ⟨x, e1, e2⟩ := m1_inv hm
  refine sa B G H σ ρ x ρ' _ I e1 fun G1 H1 v I1 f1 r1 => ?_
  cases x <;> simp only [dNot] at e2 <;> try cases e2
  exact ⟨_, r1, k G1 H1 _ I1 f1 rfl⟩
noncomputable def eIf (c : MT) (a b : ME) : ME := fun ρ => (c ρ).bind fun p => if p.1 then a p.2 else b p.2
end
noncomputable def eChain (f g : D -> D -> Option D) (a b c : ME) : ME := fun ρ => (a ρ).bind fun p => (b p.2).bind fun q => (f p.1 q.1).bind fun t => match t with
  | .bl true => (c q.2).bind fun r => (g q.1 r.1).map fun d => (d, r.2)
  | .bl false => some (.bl false, q.2)
  | _ => none
section
variable {X : Cx} {a b c : Expr} {ma mb mc : ME} {pos : Pos}
theorem sound_chain {r r' : R2} {f g : D -> D -> Option D} {ta tb tc : TE} (hv : V2 X r f) (hw : V2 X r' g)
    (sa : ∀ B G H σ ρ d ρ' (Q : VK), SI X.K B G H σ ρ -> ma ρ = some (d, ρ') -> (∀ G' H' v, SI X.K B G' H' σ ρ' -> Fz G G' -> RepD X.K G' v d -> Q v H') -> ta σ H Q)
    (sb : ∀ B G H σ ρ d ρ' (Q : VK), SI X.K B G H σ ρ -> mb ρ = some (d, ρ') -> (∀ G' H' v, SI X.K B G' H' σ ρ' -> Fz G G' -> RepD X.K G' v d -> Q v H') -> tb σ H Q)
    (sc : ∀ B G H σ ρ d ρ' (Q : VK), SI X.K B G H σ ρ -> mc ρ = some (d, ρ') -> (∀ G' H' v, SI X.K B G' H' σ ρ' -> Fz G G' -> RepD X.K G' v d -> Q v H') -> tc σ H Q) :
    ∀ B G H σ ρ d ρ' (Q : VK), SI X.K B G H σ ρ -> eChain f g ma mb mc ρ = some (d, ρ') -> (∀ G' H' v, SI X.K B G' H' σ ρ' -> Fz G G' -> RepD X.K G' v d -> Q v H') -> tChain r r' ta tb tc σ H Q := by
  intro B G H σ ρ d ρ' Q I hm k
  obtain ⟨⟨x, ρ1⟩, e1, h1⟩ := bind_inv hm
  obtain ⟨⟨y, ρ2⟩, e2, h2⟩ := bind_inv h1
  obtain ⟨t, e3, h3⟩ := bind_inv h2
  refine sa B G H σ ρ x ρ1 _ I e1 fun G1 H1 v I1 f1 r1 => sb B G1 H1 σ ρ1 y ρ2 _ I1 e2 fun G2 H2 u I2 f2 r2 => hv B G2 H2 σ ρ2 v u x y t _ I2 (r1.mono f2) r2 e3 fun G3 H3 z I3 f3 r3 => ?_
  cases t <;> try cases h3
  rename_i t
  refine ⟨t, r3, ?_⟩
  cases t with
  | true =>
    obtain ⟨⟨w, ρ3⟩, e4, h4⟩ := bind_inv h3
    obtain ⟨d', e5, e6⟩ := map_inv h4
    cases e6
    exact sc B G3 H3 σ ρ2 w ρ3 _ I3 e4 fun G4 H4 s I4 f4 r4 => hw B G4 H4 σ ρ3 u s y w d Q I4 (r2.mono (f3.trans f4)) r4 e5 fun G5 H5 z5 I5 f5 r5 => k G5 H5 z5 I5 (f1.trans (f2.trans (f3.trans (f4.trans f5)))) r5
  | false => cases h3; exact k G3 H3 _ I3 (f1.trans (f2.trans f3)) rfl
theorem se_chain {op op' : CmpOp} {r r' : R2} {f g : D -> D -> Option D} (ho : OpR X (compareOp op) r) (ho' : OpR X (compareOp op') r') (hv : V2 X r f) (hw : V2 X r' g) (ha : SE X a ma) (hb : SE X b mb) (hc : SE X c mc)
    (hm :autoParam (lastMarks [op, op'] [b, c] = false) zu4._auto_1) : SE X (.Compare a [op, op'] [b, c] pos) (eChain f g ma mb mc) := by
  obtain ⟨ta, pa, sa⟩ := ha
  obtain ⟨tb, pb, sb⟩ := hb
  obtain ⟨tc, pc, sc⟩ := hc
  exact ⟨_, pe_chain ho ho' pa pb pc hm, sound_chain hv hw sa sb sc⟩
end
inductive Fl where
  | next | brk | cont | ret (r : Sl)
noncomputable abbrev MS := R -> Option (Fl × R)
noncomputable def ResOk (K : PySem.W.Frag) (B : Bs) (G H : Hp) (v : V) : Sl -> Prop
  | .val d => RepD K G v d
  | .own ds => ∃ l xs, v = .ref l /\ G l = none /\ H l = some (.lst xs) /\ RepL K G xs ds /\ B.H l = none
  | .tre t => ∃ A, RepT K G H v t A /\ A.Nodup /\ ∀ a ∈ A, G a = none /\ B.H a = none
  | .two ds es => ∃ t l xs m ys, v = .ref t /\ H t = some (.tup [.ref l, .ref m]) /\ l ≠ m /\ G l = none /\ H l = some (.lst xs) /\ RepL K G xs ds /\ B.H l = none /\ G m = none /\ H m = some (.lst ys) /\ RepL K G ys es /\ B.H m = none
  | _ => False
noncomputable def Post (K : PySem.W.Frag) (B : Bs) (G : Hp) (E : Ends) (fl : Fl) (ρ' : R) : Prop := match fl with
  | .next => ∀ G' H' σ', SI K B G' H' σ' ρ' -> Fz G G' -> E.nx σ' H'
  | .brk => ∀ G' H' σ', SI K B G' H' σ' ρ' -> Fz G G' -> E.bk σ' H'
  | .cont => ∀ G' H' σ', SI K B G' H' σ' ρ' -> Fz G G' -> E.ct σ' H'
  | .ret r => ∀ G' H' σ' v, SI K B G' H' σ' ρ' -> Fz G G' -> ResOk K B G' H' v r -> E.rt v H'
theorem Post.mono {G G1 : Hp} {E : Ends} {fl : Fl} (h : Post K B G E fl ρ') (f : Fz G G1) : Post K B G1 E fl ρ' := by
  cases fl with
  | next => exact fun G' H' σ' I g => h G' H' σ' I (f.trans g)
  | brk => exact fun G' H' σ' I g => h G' H' σ' I (f.trans g)
  | cont => exact fun G' H' σ' I g => h G' H' σ' I (f.trans g)
  | ret r => exact fun G' H' σ' v I g => h G' H' σ' v I (f.trans g)
noncomputable def SS (X : Cx) (st : Stmt) (m : MS) : Prop := ∃ t, PS X st t /\ ∀ B G H σ ρ fl ρ' (E : Ends), SI X.K B G H σ ρ -> m ρ = some (fl, ρ') -> Post X.K B G E fl ρ' -> t E σ H
noncomputable def SSs (X : Cx) (st : List Stmt) (m : MS) : Prop := ∃ t, PSs X st t /\ ∀ B G H σ ρ fl ρ' (E : Ends), SI X.K B G H σ ρ -> m ρ = some (fl, ρ') -> Post X.K B G E fl ρ' -> t E σ H
noncomputable def sNext : MS := fun ρ => some (.next, ρ)
noncomputable def sSeq (a b : MS) : MS := fun ρ => (a ρ).bind fun p => match p.1 with
  | .next => b p.2
  | f => some (f, p.2)
section
variable {X : Cx} {st : Stmt} {rest : List Stmt} {m n : MS} {e : Expr} {me : ME} {pos : Pos}
theorem sss_nil : SSs X [] sNext := ⟨_, pss_nil, fun B G H σ ρ fl ρ' E I hm k => by cases hm; exact k G H σ I (Fz.refl G)⟩
theorem sss_one (h : SS X st m) : SSs X [st] m := let ⟨t, p, s⟩ := h; ⟨t, pss_one p, s⟩
theorem sss_cons (h : SS X st m) (hr : SSs X rest n) : SSs X (st :: rest) (sSeq m n) := by
  obtain ⟨t, p, s⟩ := h
  obtain ⟨u, q, z⟩ := hr
  refine ⟨_, pss_cons p q, fun B G H σ ρ fl ρ' E I hm k => ?_⟩
  obtain ⟨⟨f, ρ1⟩, e1, e2⟩ := bind_inv hm
  refine s B G H σ ρ f ρ1 _ I e1 ?_
  cases f with
  | next => exact fun G1 H1 σ1 I1 f1 => z B G1 H1 σ1 ρ1 fl ρ' E I1 e2 (k.mono f1)
  | brk => cases e2; exact k
  | cont => cases e2; exact k
  | ret r => cases e2; exact k
noncomputable def sRet (m : ME) : MS := fun ρ => (m ρ).map fun p => (.ret (.val p.1), p.2)
theorem ss_ret (h : SE X e me) : SS X (.Return (some e) pos) (sRet me) := by
  obtain ⟨t, p, s⟩ := h
  refine ⟨_, ps_ret p, fun B G H σ ρ fl ρ' E I hm k => ?_⟩
  obtain ⟨⟨d, ρ1⟩, e1, e2⟩ := map_inv hm
  cases e2
  exact s B G H σ ρ d ρ1 _ I e1 fun G1 H1 v I1 f1 r1 => k G1 H1 σ v I1 f1 r1
noncomputable def sRetO (m : MO) : MS := fun ρ => (m ρ).map fun p => (.ret (.own p.1), p.2)
theorem ss_retO {mo : MO} (h : SO X e mo) : SS X (.Return (some e) pos) (sRetO mo) := by
  obtain ⟨t, p, s⟩ := h
  refine ⟨_, ps_ret p, fun B G H σ ρ fl ρ' E I hm k => ?_⟩
  obtain ⟨⟨d, ρ1⟩, e1, e2⟩ := map_inv hm
  cases e2
  exact s B G H σ ρ d ρ1 _ I e1 fun G1 H1 l xs I1 f1 g1 h1 r1 b1 _ => k G1 H1 σ _ I1 f1 ⟨l, xs, rfl, g1, h1, r1, b1⟩
theorem SI.emp (I : SI K B G H σ ρ) (i : Nat) : SI K B G H σ (ρ.set i .emp) := by
  by_cases hi : i < ρ.length
  . have hs : σ[i]? = some (σ[i]'(by rw [I.len]; exact hi)) := List.getElem?_eq_getElem _
    have h := I.chg (i := i) (ov := σ[i]'(by rw [I.len]; exact hi)) (s' := .emp) I.fz (Fz.refl G) I.new I.keep I.there (fun _ _ _ _ _ _ g _ => ⟨g, rfl, id⟩) trivial
    rwa [set_at hs] at h
  . rw [List.set_eq_of_length_le (by lia)]; exact I
noncomputable def sRetV (i : Nat) : MS := fun ρ => match ρ[i]? with
  | some (.val d) => some (.ret (.val d), ρ)
  | some (.own ds) => some (.ret (.own ds), ρ.set i .emp)
  | _ => none
theorem ss_retV (i : Nat) (hN :autoParam (X.N[i]? = some x) zu2._auto_1) (hv :autoParam (Vis X.env.scope x) zu5._auto_1) (hd :autoParam ((x == ("__debug__" : Str)) = false) zu1._auto_1)
    (hcd :autoParam ((x == ("__classdict__" : Str)) = false) zu1._auto_1) : SS X (.Return (some (.Name x pos')) pos) (sRetV i) := by
  refine ⟨_, ps_ret (pe_var hN hv hd hcd), fun B G H σ ρ fl ρ' E I hm k => ?_⟩
  unfold sRetV at hm
  cases e : ρ[i]? with
  | none => rw [e] at hm; cases hm
  | some s =>
    rw [e] at hm
    have h := I.slot i s e
    cases s with
    | emp => cases hm
    | two _ _ => cases hm
    | tre _ => cases hm
    | ptr _ => cases hm
    | par ds => cases hm
    | val d => cases hm; obtain ⟨v, h1, h2⟩ := h; exact ⟨v, h1, k G H σ v I (Fz.refl G) h2⟩
    | own ds =>
      cases hm
      obtain ⟨l, xs, h1, h2, h3, h4, h5⟩ := h
      exact ⟨.ref l, h1, k G H σ _ (I.emp i) (Fz.refl G) ⟨l, xs, rfl, h2, h3, h4, h5⟩⟩
noncomputable def sIf (c : MT) (a b : MS) : MS := fun ρ => (c ρ).bind fun p => if p.1 then a p.2 else b p.2
theorem ss_if {c : Expr} {a b : List Stmt} {mc : MT} {ma mb : MS} (hc : STt X c mc) (ha : SSs X a ma) (hb : SSs X b mb) : SS X (.If c a b pos) (sIf mc ma mb) := by
  obtain ⟨tc, pc, sc⟩ := hc
  obtain ⟨ta, pa, sa⟩ := ha
  obtain ⟨tb, pb, sb⟩ := hb
  refine ⟨_, ps_if pc pa pb, fun B G H σ ρ fl ρ' E I hm k => ?_⟩
  obtain ⟨⟨x, ρ1⟩, e1, e2⟩ := bind_inv hm
  refine sc B G H σ ρ x ρ1 _ I e1 fun G1 H1 I1 f1 => ?_
  cases x with
  | true => exact sa B G1 H1 σ ρ1 fl ρ' E I1 e2 (k.mono f1)
  | false => exact sb B G1 H1 σ ρ1 fl ρ' E I1 e2 (k.mono f1)
end
noncomputable def SG (X : Cx) (tg : Expr) (g : D -> R -> Option R) : Prop := ∃ t, PG X tg t /\ ∀ B G H σ ρ v d ρ' (Q : St -> Hp -> Prop), SI X.K B G H σ ρ -> RepD X.K G v d -> g d ρ = some ρ' -> (∀ G' H' σ', SI X.K B G' H' σ' ρ' -> Fz G G' -> Q σ' H') -> t v σ H Q
noncomputable def SGs (X : Cx) (tgs : List Expr) (g : List D -> R -> Option R) : Prop := ∃ t, PGs X tgs t /\ ∀ B G H σ ρ vs ds ρ' (Q : St -> Hp -> Prop), SI X.K B G H σ ρ -> RepL X.K G vs ds -> g ds ρ = some ρ' -> (∀ G' H' σ', SI X.K B G' H' σ' ρ' -> Fz G G' -> Q σ' H') -> t vs σ H Q
noncomputable def gN (i : Nat) : D -> R -> Option R := fun d ρ => some (ρ.set i (.val d))
noncomputable def gsNil : List D -> R -> Option R := fun ds ρ => match ds with
  | [] => some ρ
  | _ => none
noncomputable def gsCons (g : D -> R -> Option R) (h : List D -> R -> Option R) : List D -> R -> Option R := fun ds ρ => match ds with
  | d :: ds => (g d ρ).bind fun ρ1 => h ds ρ1
  | [] => none
noncomputable def gT (n : Nat) (g : List D -> R -> Option R) : D -> R -> Option R := fun d ρ => match d with
  | .tup ds => if ds.length = n then g ds ρ else none
  | _ => none
section
variable {X : Cx} {pos : Pos}
theorem sg_name (i : Nat) (hN : X.N.Nodup) (hi :autoParam (X.N[i]? = some x) zu2._auto_1) (hx :autoParam (Loc X.env.scope x) zu9._auto_1) (hf :autoParam (X.fn x = true \/ X.env.scope.names.lookup x = some .local) zu9._auto_1) : SG X (.Name x pos) (gN i) :=
  ⟨_, pg_name hN hi hx hf, fun B G H σ ρ v d ρ' Q I r hm k => by cases hm; exact k G H _ (I.set r) (Fz.refl G)⟩
theorem sgs_nil : SGs X [] gsNil := ⟨_, pgs_nil, fun B G H σ ρ vs ds ρ' Q I r hm k => by
  cases ds with
  | nil => cases hm; exact ⟨r, k G H σ I (Fz.refl G)⟩
  | cons => cases hm⟩
theorem sgs_cons {e : Expr} (h1 : SG X e g) (h2 : SGs X es h) (hs :autoParam ((assignEach (e :: es) X.env).map (·.2) = assign e X.env :: (assignEach es X.env).map (·.2)) zu2._auto_1) : SGs X (e :: es) (gsCons g h) := by
  obtain ⟨t, p, s⟩ := h1
  obtain ⟨u, q, z⟩ := h2
  refine ⟨_, pgs_cons p q hs, fun B G H σ ρ vs ds ρ' Q I r hm k => ?_⟩
  cases ds with
  | nil => cases hm
  | cons d ds =>
    obtain ⟨x, ys, rfl, rx, ry⟩ := r
    obtain ⟨ρ1, e1, e2⟩ := bind_inv hm
    exact ⟨x, ys, rfl, s B G H σ ρ x d ρ1 _ I rx e1 fun G1 H1 σ1 I1 f1 => z B G1 H1 σ1 ρ1 ys ds ρ' Q I1 (ry.mono f1) e2 fun G2 H2 σ2 I2 f2 => k G2 H2 σ2 I2 (f1.trans f2)⟩
theorem sg_tup {g : List D -> R -> Option R} (hc : X.calm = true) (h : SGs X es g) (hn :autoParam ((assignEach es X.env).length = n) zu2._auto_1) (hst :autoParam ((assignEach es X.env).findIdx? (·.1) = none) zu2._auto_1) : SG X (.Tuple es k pos) (gT n g) := by
  obtain ⟨t, p, s⟩ := h
  refine ⟨_, pg_tup hc p hn hst, fun B G H σ ρ v d ρ' Q I r hm k => ?_⟩
  cases d <;> try cases hm
  rename_i ds
  simp only [gT] at hm
  split at hm
  . rename_i hl
    obtain ⟨a, xs, e, ha, rx⟩ := I.tup r
    exact ⟨a, xs, e, SqT.of ha, by rw [rx.length]; exact hl, s B G H σ ρ xs ds ρ' Q I rx hm k⟩
  . cases hm
variable {e tg : Expr} {me : ME} {mo : MO}
noncomputable def sAsg (m : ME) (g : D -> R -> Option R) : MS := fun ρ => (m ρ).bind fun p => (g p.1 p.2).map fun ρ' => (.next, ρ')
theorem ss_asg (he : SE X e me) (hg : SG X tg g) (hs :autoParam (swapsWithSole [tg] e pos.line X.env = pure false) zu2._auto_1) (hw :autoParam (swappedStores [tg] e X.env = pure none) zu2._auto_1)
    (h1 :autoParam ((assignEach [tg] X.env).map (·.2) = [assign tg X.env]) zu2._auto_1) : SS X (.Assign [tg] e pos) (sAsg me g) := by
  obtain ⟨t, p, s⟩ := he
  obtain ⟨u, q, z⟩ := hg
  refine ⟨_, ps_asg p q hs hw h1, fun B G H σ ρ fl ρ' E I hm k => ?_⟩
  obtain ⟨⟨d, ρ1⟩, e1, h2⟩ := bind_inv hm
  obtain ⟨ρ2, e2, e3⟩ := map_inv h2
  obtain ⟨rfl, rfl⟩ := Prod.mk.inj e3
  exact s B G H σ ρ d ρ1 _ I e1 fun G1 H1 v I1 f1 r1 => z B G1 H1 σ ρ1 v d ρ2 _ I1 r1 e2 fun G2 H2 σ2 I2 f2 => k G2 H2 σ2 I2 (f1.trans f2)
noncomputable def sSet (i : Nat) (m : ME) : MS := fun ρ => (m ρ).map fun p => (.next, p.2.set i (.val p.1))
theorem ss_set (i : Nat) (he : SE X e me) (hN : X.N.Nodup) (hi :autoParam (X.N[i]? = some x) zu2._auto_1) (hx :autoParam (Loc X.env.scope x) zu9._auto_1) (hs :autoParam (swapsWith e (some (.Name x pos')) pos.line X.env = pure false) zu2._auto_1)
    (hf :autoParam (X.fn x = true \/ X.env.scope.names.lookup x = some .local) zu9._auto_1) : SS X (.Assign [.Name x pos'] e pos) (sSet i me) := by
  obtain ⟨t, p, s⟩ := he
  refine ⟨_, ps_set hN hi hx p hs hf, fun B G H σ ρ fl ρ' E I hm k => ?_⟩
  obtain ⟨⟨d, ρ1⟩, e1, e3⟩ := map_inv hm
  cases e3
  exact s B G H σ ρ d ρ1 _ I e1 fun G1 H1 v I1 f1 r1 => k G1 H1 _ (I1.set r1) f1
noncomputable def sSetO (i : Nat) (m : MO) : MS := fun ρ => (m ρ).map fun p => (.next, p.2.set i (.own p.1))
theorem ss_setO (i : Nat) (he : SO X e mo) (hN : X.N.Nodup) (hi :autoParam (X.N[i]? = some x) zu2._auto_1) (hx :autoParam (Loc X.env.scope x) zu9._auto_1) (hs :autoParam (swapsWith e (some (.Name x pos')) pos.line X.env = pure false) zu2._auto_1)
    (hf :autoParam (X.fn x = true \/ X.env.scope.names.lookup x = some .local) zu9._auto_1) : SS X (.Assign [.Name x pos'] e pos) (sSetO i mo) := by
  obtain ⟨t, p, s⟩ := he
  refine ⟨_, ps_set hN hi hx p hs hf, fun B G H σ ρ fl ρ' E I hm k => ?_⟩
  obtain ⟨⟨d, ρ1⟩, e1, e3⟩ := map_inv hm
  cases e3
  exact s B G H σ ρ d ρ1 _ I e1 fun G1 H1 l xs I1 f1 g1 h1 r1 b1 n1 => k G1 H1 _ (I1.setO g1 h1 r1 b1 n1) f1
noncomputable def sApp (i : Nat) (m : ME) : MS := fun ρ => if (ρ[i]?.bind Sl.items).isSome then (m ρ).bind fun p => p.2[i]?.bind fun s => s.items.bind fun ds => if ds.length < 16777216 then some (.next, p.2.set i (s.put (ds ++ [p.1]))) else none else none
theorem ss_app (i : Nat) {pos' apos cpos : Pos} (he : SE X e me) (hN :autoParam (X.N[i]? = some x) zu2._auto_1) (hv :autoParam (Vis X.env.scope x) zu5._auto_1) (hd :autoParam ((x == ("__debug__" : Str)) = false) zu1._auto_1)
    (hcd :autoParam ((x == ("__classdict__" : Str)) = false) zu1._auto_1)
    (hbase :autoParam (attributeBase (.Name x pos') "append" X.env (eval (.Name x pos') X.env) = eval (.Name x pos') X.env) zu2._auto_1)
    (hfew :autoParam (((backTo cpos (starEach [e] X.env)).all (fun x => !x.1) && (backToKw cpos (keywordEach [] X.env)).all (fun x => x.1.isSome)
      && decide ([e].length + ([] : List Keyword).length + (if ([] : List Keyword).isEmpty then 0 else 1) < 30)) = true) zu2._auto_1)
    (hline :autoParam ((apos.endLine == cpos.line) = true) zu2._auto_1) (hs :autoParam (starEach [e] X.env = (false, eval e X.env) :: starEach [] X.env) zu2._auto_1) : SS X (.Expr (.Call (.Attribute (.Name x pos') "append" apos) [e] [] cpos) pos) (sApp i me) := by
  obtain ⟨t, p, s⟩ := he
  refine ⟨_, ps_expr (pe_bm PySem.F.plainAttrs_list PySem.F.slot_list_append PySem.F.type_list_append mt_append (pe_var hN hv hd hcd) (pa_cons p pa_nil hs) hbase hfew hline hs rfl) (by rfl), fun B G H σ ρ fl ρ' E I hm k => ?_⟩
  unfold sApp at hm
  split at hm
  . rename_i hso
    obtain ⟨ds0, hso⟩ := Option.isSome_iff_exists.mp hso
    obtain ⟨s0, e0, q0⟩ := bind_inv hso
    obtain ⟨l, xs0, h1, h2, h3, h4⟩ := I.wr e0 q0
    obtain ⟨⟨d, ρ1⟩, e1, hm⟩ := bind_inv hm
    obtain ⟨s1, e2, hm⟩ := bind_inv hm
    obtain ⟨ds, e3, hm⟩ := bind_inv hm
    split at hm
    . rename_i hl
      cases hm
      refine ⟨.ref l, h1, .inl ⟨rfl, _, SqL.of h3⟩, s B G H σ ρ d ρ1 _ I e1 fun G1 H1 v I1 f1 r1 => ?_⟩
      obtain ⟨l', xs, k1, k2, k3, k4⟩ := I1.wr e2 e3
      rw [h1] at k1; cases k1
      refine ⟨l, xs, v, rfl, rfl, k3, by rw [k4.length, sizeLine_eq]; exact hl, ?_⟩
      exact k G1 _ σ (I1.write e2 e3 h1 (k4.snoc r1)) f1
    . cases hm
  . cases hm
noncomputable def sPut (j : Nat) (mi me : ME) : MS := fun ρ => (me ρ).bind fun p => if hasV p.2 j then (mi p.2).bind fun q => match q.1 with
  | .int k => q.2[j]?.bind fun s => s.items.bind fun ds => (ixN ds.length k).bind fun n => some (.next, q.2.set j (s.put (ds.set n p.1)))
  | _ => none else none
theorem ss_put (j : Nat) {i : Expr} {mi : ME} {pos' tpos : Pos} (he : SE X e me) (hi : SE X i mi) (hN :autoParam (X.N[j]? = some x) zu2._auto_1) (hv :autoParam (Vis X.env.scope x) zu5._auto_1) (hd :autoParam ((x == ("__debug__" : Str)) = false) zu1._auto_1)
    (hcd :autoParam ((x == ("__classdict__" : Str)) = false) zu1._auto_1)
    (ha :autoParam (∀ v, assign (.Subscript (.Name x pos') i tpos) X.env v = (do
      let ov <- holding [v] (eval (.Name x pos') X.env)
      let iv <- holding [v, ov] (eval i X.env)
      standAt tpos
      holding [v, ov, iv] (setItem ov iv v)
      release [v, ov, iv] [])) zu8._auto_1)
    (hs :autoParam (swapsWithSole [.Subscript (.Name x pos') i tpos] e pos.line X.env = pure false) zu2._auto_1) (hw :autoParam (swappedStores [.Subscript (.Name x pos') i tpos] e X.env = pure none) zu2._auto_1)
    (h1 :autoParam ((assignEach [.Subscript (.Name x pos') i tpos] X.env).map (·.2) = [assign (.Subscript (.Name x pos') i tpos) X.env]) zu2._auto_1) : SS X (.Assign [.Subscript (.Name x pos') i tpos] e pos) (sPut j mi me) := by
  obtain ⟨t, p, s⟩ := he
  obtain ⟨u, q, z⟩ := hi
  refine ⟨_, ps_asg p (pg_sub (pe_var hN hv hd hcd) q set_list ha) hs hw h1, fun B G H σ ρ fl ρ' E I hm k => ?_⟩
  obtain ⟨⟨d, ρ1⟩, e1, hm⟩ := bind_inv hm
  refine s B G H σ ρ d ρ1 _ I e1 fun G1 H1 v I1 f1 r1 => ?_
  split at hm
  . rename_i hh
    obtain ⟨w, ew⟩ := I1.has hh
    obtain ⟨⟨kd, ρ2⟩, e2, hm⟩ := bind_inv hm
    cases kd <;> try cases hm
    rename_i kk
    obtain ⟨s2, e3, hm⟩ := bind_inv hm
    obtain ⟨ds, e4, hm⟩ := bind_inv hm
    obtain ⟨n, e5, hm⟩ := bind_inv hm
    cases hm
    refine ⟨w, ew, z B G1 H1 σ ρ1 (.int kk) ρ2 _ I1 e2 fun G2 H2 y I2 f2 r2 => ?_⟩
    obtain ⟨l, xs, k1, k2, k3, k4⟩ := I2.wr e3 e4
    rw [ew] at k1; cases k1
    refine ⟨l, xs, kk, n, rfl, r2, k3, by rw [k4.length]; exact e5, ?_⟩
    exact k G2 _ σ (I2.write e3 e4 ew (k4.set n (r1.mono f2))) (f1.trans f2)
  . cases hm
end
structure Itm (K : PySem.W.Frag) (J : It) (G : Hp) (items : List D) : Prop where
  go : ∀ H i, Fz G H -> i < items.length -> J.go i H
  yld : ∀ H i x H', Fz G H -> J.yld i H x H' -> ∀ d, items[i]? = some d -> (H' = H /\ RepD K G x d) \/ ∃ p xs ds, H p = none /\ H' = upd H p (.tup xs) /\ x = .ref p /\ d = .tup ds /\ RepL K G xs ds
  stop : ∀ H i, Fz G H -> items.length <= i -> J.stop i H
noncomputable def SIt (X : Cx) (tg it : Expr) (m : MA) : Prop := ∃ wi, PI X tg it wi /\ ∀ B G H σ ρ ds ρ' (Q : It -> Hp -> Prop), SI X.K B G H σ ρ -> m ρ = some (ds, ρ') -> (∀ J G' H', SI X.K B G' H' σ ρ' -> Fz G G' -> Itm X.K J G' ds -> Q J H') -> wi σ H Q
noncomputable def forM (f : D -> R -> Option (Fl × R)) : List D -> R -> Option (Fl × R)
  | [], ρ => some (.next, ρ)
  | d :: ds, ρ => (f d ρ).bind fun p => match p.1 with
    | .next => forM f ds p.2
    | .cont => forM f ds p.2
    | .brk => some (.next, p.2)
    | .ret r => some (.ret r, p.2)
noncomputable def sFor (mi : MA) (g : D -> R -> Option R) (mb : MS) : MS := fun ρ => (mi ρ).bind fun p => forM (fun d ρ => (g d ρ).bind fun ρ' => mb ρ') p.1 p.2
theorem SI.yld {x : V} (I : SI K B G H σ ρ)
    (h : (H' = H /\ RepD K G x d) \/ ∃ p xs ds, H p = none /\ H' = upd H p (.tup xs) /\ x = .ref p /\ d = .tup ds /\ RepL K G xs ds) : ∃ G', SI K B G' H' σ ρ /\ Fz G G' /\ RepD K G' x d := by
  rcases h with ⟨rfl, r⟩ | ⟨p, xs, ds, hp, rfl, rfl, rfl, r⟩
  . exact ⟨G, I, Fz.refl G, r⟩
  . obtain ⟨I2, f2, r2⟩ := I.newT hp r
    exact ⟨_, I2, f2, r2⟩
theorem ss_for {tg it : Expr} {mi : MA} {mb : MS} (hp : PassesOwn (model X.prog X.w) X.A X.env X.xe) (hc : X.calm = true) (hi : SIt X tg it mi) (hg : SG X tg g) (hb : SSs X body mb)
    (hs :autoParam (∀ x, foldedSetIterable it X.env x = pure x) zu8._auto_1) : SS X (.For tg it body [] pos) (sFor mi g mb) := by
  obtain ⟨wi, pi, si⟩ := hi
  obtain ⟨tg', pg, sg⟩ := hg
  obtain ⟨tb, pb, sb⟩ := hb
  refine ⟨_, ps_for hp hc pi pg pb hs, fun B G H σ ρ fl ρ' E I hm k => ?_⟩
  obtain ⟨⟨ds, ρ1⟩, e1, hm⟩ := bind_inv hm
  refine si B G H σ ρ ds ρ1 _ I e1 fun J G1 H1 I1 f1 IT => ?_
  refine ⟨fun i m σ H => m = ds.length - i /\ i <= ds.length /\ ∃ G2 ρ2, SI X.K B G2 H σ ρ2 /\ Fz G1 G2 /\ forM (fun d ρ => (g d ρ).bind fun ρ' => mb ρ') (ds.drop i) ρ2 = some (fl, ρ'), ⟨ds.length, by simp, Nat.zero_le _, G1, ρ1, I1, Fz.refl _, by simpa using hm⟩, ?_⟩
  rintro i m σ2 H2 ⟨rfl, hi, G2, ρ2, I2, f2, e2⟩
  by_cases hlt : i < ds.length
  . rw [List.drop_eq_getElem_cons hlt] at e2
    simp only [forM] at e2
    obtain ⟨⟨f, ρ3⟩, e3, e4⟩ := bind_inv e2
    obtain ⟨ρ2', e5, e6⟩ := bind_inv e3
    have fz2 : Fz G1 H2 := f2.trans I2.fz
    refine .inr ⟨IT.go H2 i fz2 hlt, fun σ' H' => (∃ G3, SI X.K B G3 H' σ' ρ3 /\ Fz G1 G3) /\ (f = .next \/ f = .cont), ?_, fun x H' y => ?_⟩
    . rintro σ' H' ⟨⟨G3, I3, f3⟩, hf⟩
      refine ⟨ds.length - (i + 1), by lia, rfl, hlt, G3, ρ3, I3, f3, ?_⟩
      rcases hf with rfl | rfl <;> exact e4
    . have yy := IT.yld H2 i x H' fz2 y ds[i] (List.getElem?_eq_getElem hlt)
      have yy2 : (H' = H2 /\ RepD X.K G2 x ds[i]) \/ ∃ p xs es, H2 p = none /\ H' = upd H2 p (.tup xs) /\ x = .ref p /\ ds[i] = .tup es /\ RepL X.K G2 xs es := by
        rcases yy with ⟨a, b⟩ | ⟨p, xs, es, a, b, c, d, e⟩
        . exact .inl ⟨a, b.mono f2⟩
        . exact .inr ⟨p, xs, es, a, b, c, d, e.mono f2⟩
      obtain ⟨G3, I3, f3, r3⟩ := I2.yld yy2
      refine sg B G3 H' σ2 ρ2 x ds[i] ρ2' _ I3 r3 e5 fun G4 H4 σ4 I4 f4 => sb B G4 H4 σ4 ρ2' f ρ3 _ I4 e6 ?_
      have ff : Fz G1 G4 := f2.trans (f3.trans f4)
      cases f with
      | next => exact fun G5 H5 σ5 I5 f5 => ⟨⟨G5, I5, ff.trans f5⟩, .inl rfl⟩
      | cont => exact fun G5 H5 σ5 I5 f5 => ⟨⟨G5, I5, ff.trans f5⟩, .inr rfl⟩
      | brk => cases e4; exact fun G5 H5 σ5 I5 f5 => k G5 H5 σ5 I5 (f1.trans (ff.trans f5))
      | ret r => cases e4; exact fun G5 H5 σ5 v I5 f5 => k G5 H5 σ5 v I5 (f1.trans (ff.trans f5))
  . have e : i = ds.length := by lia
    subst e
    rw [List.drop_length] at e2
    cases e2
    exact .inl ⟨IT.stop H2 _ (f2.trans I2.fz) (Nat.le_refl _), k G2 H2 σ2 I2 (f1.trans f2)⟩
section
variable {X : Cx} {tg it : Expr} {me : ME}
noncomputable def iSeq (m : ME) : MA := fun ρ => (m ρ).bind fun p => (dItems [p.1]).map fun ds => (ds, p.2)
theorem pi_or {l : Expr} {tl : TE} (hl : PE X l tl) : PI X tg l (fun σ H R => tl σ H fun x H1 => ∃ a, x = .ref a /\ (((∃ xs, SqL X.K H1 a xs) /\ R (Itl X.K a) H1) \/ ((∃ xs, SqT X.K H1 a xs) /\ R (Itt X.K a) H1))) := by
  intro pins s σ H R I h
  refine thn (hl pins s σ H _ I h) fun v s1 ⟨x, H1, I1, r1, q1⟩ => ?_
  obtain ⟨a, e, q⟩ := q1
  subst e
  cases r1
  rcases q with ⟨⟨xs, hq⟩, q⟩ | ⟨⟨xs, hq⟩, q⟩
  . obtain ⟨its, rv, p, hz⟩ := I1.list hq
    refine wpAny_pyIter_list p.isList ?_
    refine ⟨s1.heap.objs.size, [s1.heap.objs.size], _, _, H1, rfl, I1.kept (t' := s1.toks) fun b o e => Heap.get?_push_of_some _ e, turn_list a _, ⟨_, Heap.get?_push_size _ rfl, rfl, rfl⟩, fun b hb => ?_, q⟩
    have e : b = s1.heap.objs.size := by simpa using hb
    subst e
    exact I1.fpOk (Nat.le_refl _) (I1.hok.fresh (Nat.le_refl _))
  . obtain ⟨its, rv, p, hz⟩ := I1.tuple hq
    refine wpAny_pyIter_tuple (show s1.heap.IsTuple a its.toArray from p) ?_
    refine ⟨s1.heap.objs.size, [s1.heap.objs.size], _, _, H1, rfl, I1.kept (t' := s1.toks) fun b o e => Heap.get?_push_of_some _ e, turn_tuple a _, ⟨_, Heap.get?_push_size _ rfl, rfl, rfl⟩, fun b hb => ?_, q⟩
    have e : b = s1.heap.objs.size := by simpa using hb
    subst e
    exact I1.fpOk (Nat.le_refl _) (I1.hok.fresh (Nat.le_refl _))
theorem itm_list {a : Addr} (hg : SqL K G a xs) (r : RepL K G xs ds) : Itm K (Itl K a) G ds where
  go := fun H i f hi => by
    have hl := r.length
    exact ⟨xs, xs[i], f.sql hg, List.getElem?_eq_getElem (by lia)⟩
  yld := fun H i x H' f y d e => by
    obtain ⟨rfl, y⟩ := y
    have hx := y xs (f.sql hg)
    obtain ⟨x', h1, h2⟩ := r.get e
    rw [hx] at h1; cases h1
    exact .inl ⟨rfl, h2⟩
  stop := fun H i f hi => ⟨xs, f.sql hg, by rw [r.length]; exact hi⟩
theorem itm_tup {a : Addr} (hg : G a = some (.tup xs)) (r : RepL K G xs ds) : Itm K (Itt K a) G ds where
  go := fun H i f hi => by
    have hl := r.length
    exact ⟨xs, xs[i], SqT.of (f _ _ hg), List.getElem?_eq_getElem (by lia)⟩
  yld := fun H i x H' f y d e => by
    obtain ⟨rfl, y⟩ := y
    have hx := y xs (SqT.of (f _ _ hg))
    obtain ⟨x', h1, h2⟩ := r.get e
    rw [hx] at h1; cases h1
    exact .inl ⟨rfl, h2⟩
  stop := fun H i f hi => ⟨xs, SqT.of (f _ _ hg), by rw [r.length]; exact hi⟩
theorem it_seq (h : SE X it me) : SIt X tg it (iSeq me) := by
  obtain ⟨t, p, s⟩ := h
  refine ⟨_, pi_or p, fun B G H σ ρ ds ρ' Q I hm k => ?_⟩
  obtain ⟨⟨d, ρ1⟩, e1, hm⟩ := bind_inv hm
  obtain ⟨es, e2, e3⟩ := map_inv hm
  cases e3
  refine s B G H σ ρ d ρ1 _ I e1 fun G1 H1 v I1 f1 r1 => ?_
  cases d <;> simp only [dItems] at e2 <;> try cases e2
  . obtain ⟨a, xs, rfl, ha, r⟩ := r1
    exact ⟨a, rfl, .inl ⟨⟨xs, SqL.of (I1.fz _ _ ha)⟩, k _ G1 H1 I1 f1 (itm_list (SqL.of ha) r)⟩⟩
  . obtain ⟨a, xs, rfl, ha, r⟩ := r1
    exact ⟨a, rfl, .inr ⟨⟨xs, SqT.of (I1.fz _ _ ha)⟩, k _ G1 H1 I1 f1 (itm_tup ha r)⟩⟩
  . obtain ⟨a, rfl, ha⟩ := r1
    exact ⟨a, rfl, .inl ⟨⟨_, I1.fz.sql ha⟩, k _ G1 H1 I1 f1 (itm_list ha (RepL.ints _))⟩⟩
end
noncomputable def rangeD (lo : Int) (n : Nat) : List D := (List.range n).map fun (i : Nat) => D.int (lo + (i : Int))
theorem itm_range (lo : Int) (n : Nat) : Itm K (Itr lo n) G (rangeD lo n) where
  go := fun H i f hi => by show i < n; simpa [rangeD] using hi
  yld := fun H i x H' f y d e => by
    obtain ⟨rfl, rfl⟩ := y
    unfold rangeD at e
    rw [List.getElem?_map] at e
    cases q : (List.range n)[i]? with
    | none => rw [q] at e; cases e
    | some j =>
      rw [q] at e
      have hj : j = i := by
        have := List.getElem?_eq_some_iff.mp q
        obtain ⟨h1, h2⟩ := this
        simpa using h2.symm
      subst hj
      cases e
      exact .inl ⟨rfl, rfl⟩
  stop := fun H i f hi => by show n <= i; simpa [rangeD] using hi
noncomputable def smallI (j : Int) : Bool := decide (-1000000000000 <= j) && decide (j <= 1000000000000)
theorem smallI_ok {j : Int} (h : smallI j = true) : -(2 ^ 62) <= j /\ j < 2 ^ 62 := by
  unfold smallI at h
  simp only [Bool.and_eq_true, decide_eq_true_eq] at h
  lia
noncomputable def iR1 (ma : MA) : MA := fun ρ => (ma ρ).bind fun p => match p.1 with
  | [.int j] => if smallI j then some (rangeD 0 j.toNat, p.2) else none
  | _ => none
section
variable {X : Cx} {tg a b : Expr} {ma : MA} {p pos : Pos}
theorem it_range1 (hm : X.mg "range" = none) (ha : SA X [a] ma) (hg :autoParam (Gl X "range") zu2._auto_1) (hs :autoParam (starEach [a] X.env = [(false, eval a X.env)]) zu2._auto_1) : SIt X tg (.Call (.Name "range" p) [a] [] pos) (iR1 ma) := by
  obtain ⟨t, pa, sa⟩ := ha
  refine ⟨_, pi_range1 hg hm pa hs, fun B G H σ ρ ds ρ' Q I hm k => ?_⟩
  obtain ⟨⟨es, ρ1⟩, e1, h2⟩ := bind_inv hm
  dsimp only at h2
  refine sa B G H σ ρ es ρ1 _ I e1 fun G1 H1 vs I1 f1 r1 => ?_
  split at h2
  . rename_i j
    split at h2
    . rename_i hj
      cases h2
      obtain ⟨x, rfl, rx⟩ := r1.one
      cases (show x = V.int j from rx)
      exact ⟨j, rfl, (smallI_ok hj).1, (smallI_ok hj).2, k _ G1 H1 I1 f1 (itm_range 0 _)⟩
    . cases h2
  . cases h2
end
noncomputable def ResF (K : PySem.W.Frag) (G' H' H : Hp) (v : V) : Sl -> Prop
  | .val d => RepD K G' v d
  | .own ds => ∃ l xs, v = .ref l /\ G' l = none /\ H' l = some (.lst xs) /\ RepL K G' xs ds /\ H l = none
  | .tre t => ∃ A, RepT K G' H' v t A /\ A.Nodup /\ ∀ a ∈ A, G' a = none /\ H a = none
  | .two ds es => ∃ t l xs m ys, v = .ref t /\ H' t = some (.tup [.ref l, .ref m]) /\ l ≠ m /\ G' l = none /\ H' l = some (.lst xs) /\ RepL K G' xs ds /\ H l = none /\ G' m = none /\ H' m = some (.lst ys) /\ RepL K G' ys es /\ H m = none
  | _ => False
noncomputable def spP (K : PySem.W.Frag) (n : Nat) (F : List D -> Option Sl) : Sp := fun vs H Q _ => ∃ G ds r, F ds = some r /\ ds.length = n /\ Fz G H /\ RepL K G vs ds /\
  ∀ G' H' v, Fz G G' -> Fz G' H' -> (∀ b o, G' b = some o -> G b ≠ none \/ H b = none) -> Fz H H' -> ResF K G' H' H v r -> Q v H'
noncomputable def spM (K : PySem.W.Frag) (n : Nat) (F : List D -> List D -> Option (Sl × List D)) : Sp := fun vs H Q _ => ∃ G l xs cs ws ds r out, vs = .ref l :: ws /\ F cs ds = some (r, out) /\ ds.length + 1 = n /\ Fz G H /\ G l = none /\ H l = some (.lst xs) /\ RepL K G xs cs /\ RepL K G ws ds /\
  ∀ G' H' v ys, Fz G G' -> Fz G' H' -> (∀ b o, G' b = some o -> G b ≠ none \/ H b = none) -> (∀ b o, b ≠ l -> H b = some o -> H' b = some o) -> G' l = none -> H' l = some (.lst ys) -> RepL K G' ys out -> ResF K G' H' H v r -> Q v H'
noncomputable def fP (N : Nat) (m : MS) : List D -> Option Sl := fun ds => (m (ds.map .val ++ List.replicate (N - ds.length) .emp)).bind fun p => match p.1 with
  | .ret r => some r
  | .next => some (.val .non)
  | _ => none
noncomputable def fM (N : Nat) (m : MS) : List D -> List D -> Option (Sl × List D) := fun cs ds => (m (.par cs :: (ds.map .val ++ List.replicate (N - (ds.length + 1)) .emp))).bind fun p => match p.1, (p.2[0]? : Option Sl) with
  | Fl.ret r, some (Sl.par out) => some (r, out)
  | Fl.next, some (Sl.par out) => some (.val .non, out)
  | _, _ => none
theorem start_len (h : vs.length <= N.length) : (L2.start N vs).length = N.length := by
  unfold L2.start
  rw [List.length_append, List.length_map, List.length_replicate]
  lia
theorem SI.start (fz : Fz G H) (r : RepL K G vs ds) (h : ds.length <= N.length) :
    SI K ⟨G, H, []⟩ G H (L2.start N vs) (ds.map .val ++ List.replicate (N.length - ds.length) .emp) where
  fz := fz
  g0 := Fz.refl G
  new := fun b o e => .inl (by show G b ≠ none; rw [e]; simp)
  keep := fun b o e _ => e
  there := fun b e => e
  ob := fun i b m => by cases m
  len := by rw [start_len (by rw [r.length]; exact h), List.length_append, List.length_map, List.length_replicate]; lia
  slot := fun i s e => by
    by_cases hi : i < ds.length
    . rw [List.getElem?_append_left (by simpa using hi), List.getElem?_map, List.getElem?_eq_getElem hi] at e
      cases e
      obtain ⟨x, h1, h2⟩ := r.get (List.getElem?_eq_getElem hi)
      refine ⟨x, ?_, h2⟩
      unfold L2.start
      rw [List.getElem?_append_left (by rw [List.length_map, r.length]; exact hi), List.getElem?_map, h1]
      rfl
    . rw [List.getElem?_append_right (by simpa using hi), List.getElem?_replicate] at e
      split at e
      . cases e; trivial
      . cases e
  dis := fun i j s _ a _ e _ w => by
    exfalso
    by_cases hi : i < ds.length
    . rw [List.getElem?_append_left (by simpa using hi), List.getElem?_map, List.getElem?_eq_getElem hi] at e
      cases e; exact w
    . rw [List.getElem?_append_right (by simpa using hi), List.getElem?_replicate] at e
      split at e
      . cases e; exact w
      . cases e
theorem SI.startM (fz : Fz G H) (hg : G l = none) (hl : H l = some (.lst xs)) (rc : RepL K G xs cs) (r : RepL K G vs ds) (h : ds.length + 1 <= N.length) :
    SI K ⟨G, H, [(0, l)]⟩ G H (L2.start N (.ref l :: vs)) (.par cs :: (ds.map .val ++ List.replicate (N.length - (ds.length + 1)) .emp)) where
  fz := fz
  g0 := Fz.refl G
  new := fun b o e => .inl (by show G b ≠ none; rw [e]; simp)
  keep := fun b o e _ => e
  there := fun b e => e
  ob := fun i b m => by
    have : b = l := ((by simpa using m) : i = 0 /\ b = l).2
    subst this
    show H b ≠ none
    rw [hl]; simp
  len := by
    have := r.length
    rw [start_len (by rw [List.length_cons, r.length]; exact h), List.length_cons, List.length_append, List.length_map, List.length_replicate]; lia
  slot := fun i s e => by
    cases i with
    | zero => simp at e; subst e; exact ⟨l, xs, rfl, hg, hl, rc, by simp⟩
    | succ i =>
      rw [List.getElem?_cons_succ] at e
      by_cases hi : i < ds.length
      . rw [List.getElem?_append_left (by simpa using hi), List.getElem?_map, List.getElem?_eq_getElem hi] at e
        cases e
        obtain ⟨x, h1, h2⟩ := r.get (List.getElem?_eq_getElem hi)
        refine ⟨x, ?_, h2⟩
        unfold L2.start
        rw [List.map_cons, List.cons_append, List.getElem?_cons_succ, List.getElem?_append_left (by rw [List.length_map, r.length]; exact hi), List.getElem?_map, h1]
        rfl
      . rw [List.getElem?_append_right (by simpa using hi), List.getElem?_replicate] at e
        split at e
        . cases e; trivial
        . cases e
  dis := fun i j s t a hij hi hj w1 w2 => by
    have z : ∀ (i : Nat) (s : Sl), (Sl.par cs :: (ds.map .val ++ List.replicate (N.length - (ds.length + 1)) .emp))[i]? = some s -> OwS K G H (L2.start N (.ref l :: vs))[i]? a s -> i = 0 := fun i s e q => by
      cases i with
      | zero => rfl
      | succ i =>
        exfalso
        rw [List.getElem?_cons_succ] at e
        by_cases hi : i < ds.length
        . rw [List.getElem?_append_left (by simpa using hi), List.getElem?_map, List.getElem?_eq_getElem hi] at e
          cases e; exact q
        . rw [List.getElem?_append_right (by simpa using hi), List.getElem?_replicate] at e
          split at e
          . cases e; exact q
          . cases e
    exact hij ((z i s hi w1).trans (z j t hj w2).symm)
section
variable {P : Program} {w : World} {K : PySem.W.Frag} {mg : Str -> Option Value} {base : Heap}
theorem fnP_ok {st : Stmt} {f : Addr} (F : Fun K x qual st f fd) (S : FnScope N ps (defScope st)) (hn : ps.length = n) (hN : n <= N.length)
    (body : ∀ (cdv : Value) (A : Around) (outer : List Env) (s : Shared) (H : Hp) (E : XK), Room k (A.deeper (envOfC qual (defScope st) s.heap.objs.size f cdv)) -> SSs (cxOf CX0 P w K mg base N qual (defScope st) f cdv A outer s H E).nox (defBody st) m) :
    FnOk P w K mg base CX0 (k + 1) f fd ps (spP K n (fP N.length m)) := by
  refine F.ok S (fun vs H Q E h => ?_) (fun cdv A outer s H vs Q E hr h => ?_)
  . obtain ⟨G, ds, r, _, h2, _, h4, _⟩ := h
    rw [h4.length, h2, hn]
  . obtain ⟨G, ds, r, e1, h2, fz, h4, kk⟩ := h
    obtain ⟨t, pt, so⟩ := body cdv A outer s H E hr
    refine ⟨t, pt, ?_⟩
    obtain ⟨⟨fl, ρ'⟩, e2, e3⟩ := bind_inv e1
    refine so ⟨G, H, []⟩ G H (L2.start N vs) _ fl ρ' _ (SI.start fz h4 (by lia)) e2 ?_
    have fin : ∀ G' H' σ' v, SI K ⟨G, H, []⟩ G' H' σ' ρ' -> Fz G G' -> ResF K G' H' H v r -> Q v H' := fun G' H' σ' v I f rr => kk G' H' v f I.fz I.new (fun b o e => I.keep b o e (by simp)) rr
    cases fl with
    | next => cases e3; exact fun G' H' σ' I f => fin G' H' σ' .non I f rfl
    | brk => cases e3
    | cont => cases e3
    | ret r' =>
      cases e3
      refine fun G' H' σ' v I f rr => fin G' H' σ' v I f ?_
      cases r with
      | val d => exact rr
      | own ds => exact rr
      | emp => exact rr
      | two _ _ => exact rr
      | tre _ => exact rr
      | ptr _ => exact rr
      | par ds => exact rr
theorem fnM_ok {st : Stmt} {f : Addr} (F : Fun K x qual st f fd) (S : FnScope N ps (defScope st)) (hn : ps.length = n) (hN : n <= N.length)
    (body : ∀ (cdv : Value) (A : Around) (outer : List Env) (s : Shared) (H : Hp) (E : XK), Room k (A.deeper (envOfC qual (defScope st) s.heap.objs.size f cdv)) -> SSs (cxOf CX0 P w K mg base N qual (defScope st) f cdv A outer s H E).nox (defBody st) m) :
    FnOk P w K mg base CX0 (k + 1) f fd ps (spM K n (fM N.length m)) := by
  refine F.ok S (fun vs H Q E h => ?_) (fun cdv A outer s H vs Q E hr h => ?_)
  . obtain ⟨G, l, xs, cs, ws, ds, r, out, rfl, _, h2, _, _, _, _, h4, _⟩ := h
    rw [List.length_cons, h4.length, h2, hn]
  . obtain ⟨G, l, xs, cs, ws, ds, r, out, rfl, e1, h2, fz, hg, hl, rc, h4, kk⟩ := h
    obtain ⟨t, pt, so⟩ := body cdv A outer s H E hr
    refine ⟨t, pt, ?_⟩
    obtain ⟨⟨fl, ρ'⟩, e2, e3⟩ := bind_inv e1
    refine so ⟨G, H, [(0, l)]⟩ G H _ _ fl ρ' _ (SI.startM fz hg hl rc h4 (by lia)) e2 ?_
    have fin : ∀ G' H' σ' v, ρ'[0]? = some (.par out) -> SI K ⟨G, H, [(0, l)]⟩ G' H' σ' ρ' -> Fz G G' -> ResF K G' H' H v r -> Q v H' := fun G' H' σ' v e0 I f rr => by
      obtain ⟨l', ys, k1, k2, k3, k4, k5⟩ := I.slot 0 _ e0
      have : l' = l := by simpa using k5
      subst this
      exact kk G' H' v ys f I.fz I.new (fun b o hb e => I.keep b o e (fun i hm => by simp at hm; exact hb hm.2)) k2 k3 k4 rr
    cases e0 : ρ'[0]? with
    | none => rw [e0] at e3; cases fl <;> cases e3
    | some s0 =>
      rw [e0] at e3
      cases s0 with
      | emp => cases fl <;> cases e3
      | two _ _ => cases fl <;> cases e3
      | tre _ => cases fl <;> cases e3
      | ptr _ => cases fl <;> cases e3
      | val d => cases fl <;> cases e3
      | own d => cases fl <;> cases e3
      | par o2 =>
        cases fl with
        | next => cases e3; exact fun G' H' σ' I f => fin G' H' σ' .non e0 I f rfl
        | brk => cases e3
        | cont => cases e3
        | ret r' =>
          cases e3
          refine fun G' H' σ' v I f rr => fin G' H' σ' v e0 I f ?_
          cases r with
          | val d => exact rr
          | own ds => exact rr
          | emp => exact rr
          | two _ _ => exact rr
          | tre _ => exact rr
          | ptr _ => exact rr
          | par ds => exact rr
end
structure FD (P : Program) (w : World) (K : PySem.W.Frag) (mg : Str -> Option Value) (base : Heap) (k : Nat) (x : Str) (sp : Sp) : Prop where
  ex : ∃ f fd ps, FnOk P w K mg base CX0 k f fd ps sp /\ mg x = some (.ref f) /\ PySem.W.keepIn K (.ref f) = true /\ Binds K fd ps []
theorem grow_ow (nw : ∀ b o, G' b = some o -> G b ≠ none \/ H b = none) (kp : Fz H H') : ∀ (i : Nat) (s : Sl) (a : Addr), ρ[i]? = some s -> OwS K G H σ[i]? a s -> G a = none -> H a ≠ none -> G' a = none /\ H' a = H a := fun i s a _ _ g h => by
  obtain ⟨u, hu⟩ := Option.ne_none_iff_exists'.mp h
  refine ⟨?_, (kp a u hu).trans hu.symm⟩
  cases q : G' a with
  | none => rfl
  | some u =>
    rcases nw a u q with z | z
    . exact absurd g z
    . exact absurd z h
theorem SI.grow (I : SI K B G H σ ρ) (f : Fz G G') (fz : Fz G' H') (nw : ∀ b o, G' b = some o -> G b ≠ none \/ H b = none) (kp : Fz H H') : SI K B G' H' σ ρ :=
  I.move fz f (fun b o e => by
    rcases nw b o e with h | h
    . cases q : G b with
      | none => exact absurd q h
      | some u => exact I.new b u q
    . exact .inr (I.there b h)) (fun b o e n => kp b o (I.keep b o e n)) (fun b e => I.there b (kp.free e)) (grow_ow nw kp)
theorem SI.own_ne (I : SI K B G H σ ρ) {p : Addr} (hp : H p = none) (nw : ∀ b o, G' b = some o -> G b ≠ none \/ H b = none) (kp : Fz H H') : Nw K G' H' σ ρ p := I.nw_move (I.nw hp) (grow_ow nw kp)
noncomputable def eCall (F : List D -> Option Sl) (ma : MA) : ME := fun ρ => (ma ρ).bind fun p => (F p.1).bind fun r => match r with
  | .val d => some (d, p.2)
  | .own ds => some (.lst ds, p.2)
  | _ => none
noncomputable def oCall (F : List D -> Option Sl) (ma : MA) : MO := fun ρ => (ma ρ).bind fun p => (F p.1).bind fun r => match r with
  | .own ds => some (ds, p.2)
  | _ => none
section
variable {X : Cx} {x : Str} {p pos : Pos} {e : Expr} {es : List Expr} {ma : MA} {k k' n : Nat} {F : List D -> Option Sl}
theorem se_call (fd : FD X.prog X.w X.K X.mg X.base k x (spP X.K n F)) (hr : Room k' X.A) (ha : SA X (e :: es) ma) (hn :autoParam ((e :: es).length = n) zu2._auto_1) (hk :autoParam (k <= k') zu1._auto_1) (hg :autoParam (Gl X x) zu2._auto_1) (hdb :autoParam ((x == ("__debug__" : Str)) = false) zu1._auto_1)
    (he :autoParam (starEach (e :: es) X.env = (false, eval e X.env) :: starEach es X.env) zu2._auto_1) (hpl :autoParam ((backTo pos (starEach es X.env)).any (·.1) = false) zu2._auto_1) (hlen : ∀ ρ as ρ', ma ρ = some (as, ρ') -> as.length = n) : SE X (.Call (.Name x p) (e :: es) [] pos) (eCall F ma) := by
  obtain ⟨f, fdd, ps, G0, h1, h2, h3⟩ := fd.ex
  obtain ⟨t, pa, sa⟩ := ha
  refine ⟨_, pe_call G0 (hr.mono hk) hg h1 h2 h3 .nil pass0 pa hdb he hpl, fun B G H σ ρ d ρ' Q I hm kk => ?_⟩
  obtain ⟨⟨as, ρ1⟩, e1, hm⟩ := bind_inv hm
  obtain ⟨r, e2, hm⟩ := bind_inv hm
  refine sa B G H σ ρ as ρ1 _ I e1 fun G1 H1 vs I1 f1 r1 => ?_
  show spP X.K n F (vs ++ []) H1 Q E0
  rw [List.append_nil]
  refine ⟨G1, as, r, e2, hlen ρ as ρ1 e1, I1.fz, r1, fun G2 H2 v f2 fz2 nw kp rr => ?_⟩
  have I2 := I1.grow f2 fz2 nw kp
  cases r with
  | val d' => cases hm; exact kk G2 H2 v I2 (f1.trans f2) rr
  | own ds =>
    cases hm
    obtain ⟨l, xs, rfl, g3, h3, r3, b3⟩ := rr
    obtain ⟨I3, f3, r4⟩ := frz_of I2 g3 h3 r3 (I1.there l b3) (I1.own_ne b3 nw kp)
    exact kk _ H2 _ I3 (f1.trans (f2.trans f3)) r4
  | emp => cases hm
  | two _ _ => cases hm
  | tre _ => cases hm
  | ptr _ => cases hm
  | par _ => cases hm
theorem so_call (fd : FD X.prog X.w X.K X.mg X.base k x (spP X.K n F)) (hr : Room k' X.A) (ha : SA X (e :: es) ma) (hn :autoParam ((e :: es).length = n) zu2._auto_1) (hk :autoParam (k <= k') zu1._auto_1) (hg :autoParam (Gl X x) zu2._auto_1) (hdb :autoParam ((x == ("__debug__" : Str)) = false) zu1._auto_1)
    (he :autoParam (starEach (e :: es) X.env = (false, eval e X.env) :: starEach es X.env) zu2._auto_1) (hpl :autoParam ((backTo pos (starEach es X.env)).any (·.1) = false) zu2._auto_1) (hlen : ∀ ρ as ρ', ma ρ = some (as, ρ') -> as.length = n) : SO X (.Call (.Name x p) (e :: es) [] pos) (oCall F ma) := by
  obtain ⟨f, fdd, ps, G0, h1, h2, h3⟩ := fd.ex
  obtain ⟨t, pa, sa⟩ := ha
  refine ⟨_, pe_call G0 (hr.mono hk) hg h1 h2 h3 .nil pass0 pa hdb he hpl, fun B G H σ ρ d ρ' Q I hm kk => ?_⟩
  obtain ⟨⟨as, ρ1⟩, e1, hm⟩ := bind_inv hm
  obtain ⟨r, e2, hm⟩ := bind_inv hm
  refine sa B G H σ ρ as ρ1 _ I e1 fun G1 H1 vs I1 f1 r1 => ?_
  show spP X.K n F (vs ++ []) H1 Q E0
  rw [List.append_nil]
  refine ⟨G1, as, r, e2, hlen ρ as ρ1 e1, I1.fz, r1, fun G2 H2 v f2 fz2 nw kp rr => ?_⟩
  have I2 := I1.grow f2 fz2 nw kp
  cases r with
  | val d' => cases hm
  | own ds =>
    cases hm
    obtain ⟨l, xs, rfl, g3, h3, r3, b3⟩ := rr
    exact kk G2 H2 l xs I2 (f1.trans f2) g3 h3 r3 (I1.there l b3) (I1.own_ne b3 nw kp)
  | emp => cases hm
  | two _ _ => cases hm
  | tre _ => cases hm
  | ptr _ => cases hm
  | par _ => cases hm
end
noncomputable def aLen (ma : MA) (n : Nat) : Prop := ∀ ρ as ρ', ma ρ = some (as, ρ') -> as.length = n
theorem aLen_nil : aLen aNil 0 := fun ρ as ρ' h => by cases h; rfl
theorem aLen_cons {m : ME} {r : MA} (h : aLen r n) : aLen (aCons m r) (n + 1) := fun ρ as ρ' e => by
  obtain ⟨⟨d, ρ1⟩, _, h2⟩ := bind_inv e
  obtain ⟨⟨ds, ρ2⟩, e3, e4⟩ := map_inv h2
  cases e4
  rw [List.length_cons, h ρ1 ds ρ2 e3]
noncomputable def eCallM (F : List D -> List D -> Option (Sl × List D)) (j : Nat) (ma : MA) : ME := fun ρ => if (ρ[j]?.bind Sl.items).isSome then (ma ρ).bind fun p => p.2[j]?.bind fun s => s.items.bind fun cs => (F cs p.1).bind fun r => match r.1 with
  | .val d => some (d, p.2.set j (s.put r.2))
  | .own ds => some (.lst ds, p.2.set j (s.put r.2))
  | _ => none else none
theorem SI.growW (I : SI K B G H σ ρ) (e : ρ[j]? = some s) (q : s.items = some cs) (hl : σ[j]? = some (some (.ref l)))
    (f : Fz G G') (fz : Fz G' H') (nw : ∀ b o, G' b = some o -> G b ≠ none \/ H b = none) (kp : ∀ b o, b ≠ l -> H b = some o -> H' b = some o) (gl : G' l = none) (hl' : H' l = some (.lst ys)) (r : RepL K G' ys out) : SI K B G' H' σ (ρ.set j (s.put out)) :=
  I.chgW e q hl fz f nw kp gl hl' r
theorem SI.own_neW {l p : Addr} (I : SI K B G H σ ρ) (e : ρ[j]? = some s) (q : s.items = some cs) (hl : σ[j]? = some (some (.ref l))) (hp : H p = none)
    (nw : ∀ b o, G' b = some o -> G b ≠ none \/ H b = none) (kp : ∀ b o, b ≠ l -> H b = some o -> H' b = some o) : Nw K G' H' σ (ρ.set j (s.put out)) p := fun i t et w => by
  obtain ⟨l', xs, e1, e2, e3, e4⟩ := I.wr e q
  rw [hl] at e1; cases e1
  have hpl : p ≠ l := fun z => by rw [z, e3] at hp; cases hp
  by_cases z : i = j
  . subst z
    rw [List.getElem?_set, if_pos rfl] at et
    split at et
    . cases et
      have := (ows_items (put_items q out)).mp w
      rw [hl] at this
      exact hpl (V.ref.inj (Option.some.inj (Option.some.inj this))).symm
    . cases et
  . rw [List.getElem?_set_ne (Ne.symm z)] at et
    have sl := I.slot i t et
    refine (sl.own (sl.back (fun a w g h => ?_) w)).2.1 hp
    have na : a ≠ l := fun w' => by subst w'; exact I.dis i j t s a z et e w ((ows_items q).mpr hl)
    obtain ⟨u, hu⟩ := Option.ne_none_iff_exists'.mp h
    refine ⟨?_, (kp a u na hu).trans hu.symm⟩
    cases q2 : G' a with
    | none => rfl
    | some u =>
      rcases nw a u q2 with z | z
      . exact absurd g z
      . exact absurd z h
section
variable {X : Cx} {x y : Str} {p py pos : Pos} {es : List Expr} {ma : MA} {k k' n : Nat} {F : List D -> List D -> Option (Sl × List D)}
theorem soundM {t : TA} {Q : VK} (sa : ∀ B G H σ ρ ds ρ' (Q : List V -> Hp -> Prop), SI X.K B G H σ ρ -> ma ρ = some (ds, ρ') -> (∀ G' H' vs, SI X.K B G' H' σ ρ' -> Fz G G' -> RepL X.K G' vs ds -> Q vs H') -> t σ H Q)
    (hlen : ∀ ρ as ρ', ma ρ = some (as, ρ') -> as.length + 1 = n) (I : SI X.K B G H σ ρ) {ds0 : List D} (h0 : ρ[j]?.bind Sl.items = some ds0) {as : List D} {ρ1 : R} (e1 : ma ρ = some (as, ρ1)) {s : Sl} (e2 : ρ1[j]? = some s) {cs : List D} (e3 : s.items = some cs)
    {r : Sl} {out : List D} (e4 : F cs as = some (r, out))
    (kk : ∀ G' H' v, SI X.K B G' H' σ (ρ1.set j (s.put out)) -> Fz G G' -> True -> (∃ H1, ResF X.K G' H' H1 v r /\ (∀ b, H1 b = none -> B.H b = none) /\ ∀ b, H1 b = none -> Nw X.K G' H' σ (ρ1.set j (s.put out)) b) -> Q v H') :
    tCall (spM X.K n F) [] E0 (tCons (tVar j) t) σ H Q := by
  obtain ⟨s0, k0, q0⟩ := bind_inv h0
  obtain ⟨l, xs0, h1, h2, h3, h4⟩ := I.wr k0 q0
  refine ⟨.ref l, h1, sa B G H σ ρ as ρ1 _ I e1 fun G1 H1 vs I1 f1 r1 => ?_⟩
  show spM X.K n F ((.ref l :: vs) ++ []) H1 Q E0
  rw [List.append_nil]
  obtain ⟨l', xs, m1, m2, m3, m4⟩ := I1.wr e2 e3
  rw [h1] at m1; cases m1
  refine ⟨G1, l, xs, cs, vs, as, r, out, rfl, e4, hlen ρ as ρ1 e1, I1.fz, m2, m3, m4, r1, fun G2 H2 v ys f2 fz2 nw kp gl hl r2 rr => ?_⟩
  exact kk G2 H2 v (I1.growW e2 e3 h1 f2 fz2 nw kp gl hl r2) (f1.trans f2) trivial ⟨H1, rr, fun b hb => I1.there b hb, fun b hb => I1.own_neW e2 e3 h1 hb nw kp⟩
theorem se_callM (j : Nat) (fd : FD X.prog X.w X.K X.mg X.base k x (spM X.K n F)) (hr : Room k' X.A) (ha : SA X es ma) (hlen : ∀ ρ as ρ', ma ρ = some (as, ρ') -> as.length + 1 = n) (hN :autoParam (X.N[j]? = some y) zu2._auto_1) (hv :autoParam (Vis X.env.scope y) zu5._auto_1) (hd :autoParam ((y == ("__debug__" : Str)) = false) zu1._auto_1)
    (hcd :autoParam ((y == ("__classdict__" : Str)) = false) zu1._auto_1) (hk :autoParam (k <= k') zu1._auto_1) (hg :autoParam (Gl X x) zu2._auto_1) (hdb :autoParam ((x == ("__debug__" : Str)) = false) zu1._auto_1)
    (he :autoParam (starEach (.Name y py :: es) X.env = (false, eval (.Name y py) X.env) :: starEach es X.env) zu2._auto_1) (hpl :autoParam ((backTo pos (starEach es X.env)).any (·.1) = false) zu2._auto_1) : SE X (.Call (.Name x p) (.Name y py :: es) [] pos) (eCallM F j ma) := by
  obtain ⟨f, fdd, ps, G0, h1, h2, h3⟩ := fd.ex
  obtain ⟨t, pa, sa⟩ := ha
  refine ⟨_, pe_call G0 (hr.mono hk) hg h1 h2 h3 .nil pass0 (pa_cons (pe_var hN hv hd hcd) pa he) hdb he hpl, fun B G H σ ρ d ρ' Q I hm kk => ?_⟩
  unfold eCallM at hm
  split at hm
  . rename_i hso
    obtain ⟨ds0, hso⟩ := Option.isSome_iff_exists.mp hso
    obtain ⟨⟨as, ρ1⟩, e1, hm⟩ := bind_inv hm
    obtain ⟨s, e2, hm⟩ := bind_inv hm
    obtain ⟨cs, e3, hm⟩ := bind_inv hm
    obtain ⟨⟨r, out⟩, e4, hm⟩ := bind_inv hm
    refine soundM sa hlen I hso e1 e2 e3 e4 fun G' H' v I' f' _ ⟨H1, rr, bb, nn⟩ => ?_
    cases r with
    | val d' => cases hm; exact kk G' H' v I' f' rr
    | own ds =>
      cases hm
      obtain ⟨l, xs, rfl, g3, h3, r3, b3⟩ := rr
      obtain ⟨I3, f3, r4⟩ := frz_of I' g3 h3 r3 (bb l b3) (nn l b3)
      exact kk _ H' _ I3 (f'.trans f3) r4
    | emp => cases hm
    | two _ _ => cases hm
    | tre _ => cases hm
    | ptr _ => cases hm
    | par _ => cases hm
  . cases hm
end
noncomputable def clStep (env : Env) (cs : List (Str × Addr)) (x : Str × NameKind) : List (Str × Addr) := if x.2 == .free then (x.1, (env.cells.lookup x.1).getD 0) :: cs else cs
noncomputable def clOf (scope : Scope) (env : Env) : List (Str × Addr) := scope.names.foldl (clStep env) []
theorem closure_fold : ∀ (names : List (Str × NameKind)) (cs : List (Str × Addr)), (∀ y ∈ names, y.2 = .free -> ∃ c, env.cells.lookup y.1 = some c) ->
    (forIn names cs (fun x r => if x.2 == NameKind.free then do let a <- cellOf env x.1; pure (ForInStep.yield ((x.1, a) :: r)) else pure (ForInStep.yield r)) : Sem (List (Str × Addr))) = pure (names.foldl (clStep env) cs)
  | [], cs, _ => rfl
  | (n, k) :: r, cs, h => by
    have ih := fun cs' => closure_fold r cs' (fun y hy => h y (List.mem_cons_of_mem _ hy))
    rw [List.forIn_cons, List.foldl_cons]
    by_cases hk : (k == NameKind.free) = true
    . obtain ⟨c, hc⟩ := h (n, k) List.mem_cons_self (by simpa using hk)
      have e : clStep env cs (n, k) = (n, c) :: cs := by unfold clStep; simp [hk, hc]
      rw [e, <- ih]
      simp only [hk, if_true]
      unfold cellOf
      simp only at hc
      rw [hc]
      rfl
    . have e : clStep env cs (n, k) = cs := by unfold clStep; simp [hk]
      rw [e, <- ih]
      simp only [hk]
      rfl
theorem closure_of {env : Env} (h : ∀ y ∈ scope.names, y.2 = .free -> ∃ c, env.cells.lookup y.1 = some c) : closureFor scope env = pure (clOf scope env) := by
  unfold closureFor clOf
  have e := closure_fold (env := env) scope.names [] h
  simp only [bind_pure]
  exact e
theorem cl_fold_lookup : ∀ {names : List (Str × NameKind)} {cs : List (Str × Addr)}, (∀ y ∈ names, y.2 = .free -> ∃ c, env.cells.lookup y.1 = some c) -> (cs.lookup x = some c -> env.cells.lookup x = some c) ->
    (names.foldl (clStep env) cs).lookup x = some c -> env.cells.lookup x = some c
  | [], cs, _, h0, h => h0 h
  | (n, k) :: r, cs, hn, h0, h => by
    rw [List.foldl_cons] at h
    refine cl_fold_lookup (names := r) (fun y hy => hn y (List.mem_cons_of_mem _ hy)) ?_ h
    intro q
    unfold clStep at q
    split at q
    . rename_i hk
      obtain ⟨c', hc⟩ := hn (n, k) List.mem_cons_self (by simpa using hk)
      rw [List.lookup_cons] at q
      simp only at hc
      by_cases z : (x == n) = true
      . rw [z] at q
        have zz : x = n := by simpa using z
        subst zz
        simp only [hc, Option.getD_some] at q
        rw [hc]; exact q
      . have z' : (x == n) = false := by simpa using z
        rw [z'] at q; exact h0 q
    . exact h0 q
theorem cl_fold_some : ∀ {names : List (Str × NameKind)} {cs : List (Str × Addr)}, ((x, NameKind.free) ∈ names \/ (cs.lookup x).isSome = true) -> ((names.foldl (clStep env) cs).lookup x).isSome = true
  | [], cs, h => by
    rcases h with h | h
    . simp at h
    . exact h
  | (n, k) :: r, cs, h => by
    rw [List.foldl_cons]
    refine cl_fold_some (names := r) ?_
    rcases h with h | h
    . rcases List.mem_cons.mp h with h | h
      . cases h
        refine .inr ?_
        unfold clStep
        simp
      . exact .inl h
    . refine .inr ?_
      unfold clStep
      split
      . rw [List.lookup_cons]
        by_cases z : (x == n) = true
        . rw [z]; rfl
        . have z' : (x == n) = false := by simpa using z
          rw [z']; exact h
      . exact h
theorem cf_lookup : ∀ {names : List (Str × NameKind)} {n : Nat} {acc : List (Str × Addr)}, (cellsFrom n names acc).lookup x = some c -> (n <= c /\ (x, NameKind.cell) ∈ names) \/ acc.lookup x = some c
  | [], n, acc, h => .inr h
  | (m, k) :: r, n, acc, h => by
    unfold cellsFrom at h
    split at h
    . rename_i hk
      have hk' : k = .cell := by simpa using hk
      subst hk'
      rcases cf_lookup h with ⟨h1, h2⟩ | h1
      . exact .inl ⟨Nat.le_of_succ_le h1, List.mem_cons_of_mem _ h2⟩
      . rw [List.lookup_cons] at h1
        cases q : x == m with
        | true =>
          rw [q] at h1
          cases h1
          rw [beq_iff_eq.mp q]
          exact .inl ⟨Nat.le_refl _, List.mem_cons_self⟩
        | false => rw [q] at h1; exact .inr h1
    . rcases cf_lookup h with ⟨h1, h2⟩ | h1
      . exact .inl ⟨h1, List.mem_cons_of_mem _ h2⟩
      . exact .inr h1
theorem cf_old : ∀ {names : List (Str × NameKind)} {n : Nat} {acc : List (Str × Addr)}, (x, NameKind.cell) ∉ names -> (cellsFrom n names acc).lookup x = acc.lookup x
  | [], n, acc, _ => rfl
  | (m, k) :: r, n, acc, h => by
    unfold cellsFrom
    split
    . rename_i hk
      have hk' : k = .cell := by simpa using hk
      subst hk'
      rw [cf_old fun z => h (List.mem_cons_of_mem _ z), List.lookup_cons]
      cases q : x == m with
      | true => exact absurd (by rw [beq_iff_eq.mp q]; exact List.mem_cons_self) h
      | false => rfl
    . exact cf_old fun z => h (List.mem_cons_of_mem _ z)
theorem cf_new : ∀ {names : List (Str × NameKind)} {n : Nat} {acc : List (Str × Addr)}, (x, NameKind.cell) ∈ names -> ∃ c, (cellsFrom n names acc).lookup x = some c /\ n <= c
  | (m, k) :: r, n, acc, h => by
    unfold cellsFrom
    by_cases hr : (x, NameKind.cell) ∈ r
    . split
      . obtain ⟨c, h1, h2⟩ := cf_new (n := n + 1) (acc := (m, n) :: acc) hr
        exact ⟨c, h1, Nat.le_of_succ_le h2⟩
      . exact cf_new hr
    . rcases List.mem_cons.mp h with e | e
      . cases e
        rw [if_pos (beq_self_eq_true _), cf_old hr, List.lookup_cons, beq_self_eq_true]
        exact ⟨n, rfl, Nat.le_refl _⟩
      . exact absurd e hr
theorem cf_inj : ∀ {names : List (Str × NameKind)} {n : Nat} {acc : List (Str × Addr)}, (∀ x c, acc.lookup x = some c -> c < n) -> (∀ x y c, acc.lookup x = some c -> acc.lookup y = some c -> x = y) ->
    ∀ x y c, (cellsFrom n names acc).lookup x = some c -> (cellsFrom n names acc).lookup y = some c -> x = y
  | [], n, acc, _, hi => hi
  | (m, k) :: r, n, acc, hl, hi => by
    unfold cellsFrom
    split
    . refine cf_inj (fun x c h => ?_) (fun x y c h1 h2 => ?_)
      . rw [List.lookup_cons] at h
        cases q : x == m with
        | true => rw [q] at h; cases h; exact Nat.lt_succ_self _
        | false => rw [q] at h; exact Nat.lt_succ_of_lt (hl x c h)
      . rw [List.lookup_cons] at h1 h2
        cases q : x == m with
        | true =>
          rw [q] at h1
          cases h1
          cases q2 : y == m with
          | true => rw [beq_iff_eq.mp q, beq_iff_eq.mp q2]
          | false => rw [q2] at h2; exact absurd (hl y n h2) (Nat.lt_irrefl _)
        | false =>
          rw [q] at h1
          cases q2 : y == m with
          | true => rw [q2] at h2; cases h2; exact absurd (hl x n h1) (Nat.lt_irrefl _)
          | false => rw [q2] at h2; exact hi x y c h1 h2
    . exact cf_inj hl hi
theorem cf_cell : ∀ {names : List (Str × NameKind)} {h : Heap} {acc : List (Str × Addr)}, (∀ x c, acc.lookup x = some c -> ∃ v, h.IsCell c v) -> ∀ x c, (cellsFrom h.objs.size names acc).lookup x = some c -> ∃ v, (pushCells h names).IsCell c v
  | [], h, acc, ha => ha
  | (m, k) :: r, h, acc, ha => by
    unfold cellsFrom pushCells
    split
    . intro x c e
      rw [<- Heap.size_push h { cls := .type "cell", data := .cell none }] at e
      refine cf_cell (fun y d q => ?_) x c e
      rw [List.lookup_cons] at q
      cases z : y == m with
      | true => rw [z] at q; cases q; exact ⟨none, _, Heap.get?_push_size _ rfl, rfl⟩
      | false =>
        rw [z] at q
        obtain ⟨v, hv⟩ := ha y d q
        exact ⟨v, hv.keeps fun b o e => Heap.get?_push_of_some _ e⟩
    . exact cf_cell ha
theorem newBlockEnv {M : Model} {s : Shared} {globals : Addr} {Q : Env -> Shared -> Prop}
    (hQ : ∀ h' : Heap, h'.Ns s.heap.objs.size (fun _ => none) -> (∀ a o, s.heap.get? a = some o -> h'.get? a = some o) ->
      ((∀ x c, cl.lookup x = some c -> ∃ v, s.heap.IsCell c v) -> ∀ x c, (cellsFrom (s.heap.objs.size + 1) scope.names cl).lookup x = some c -> ∃ v, h'.IsCell c v) ->
      Q (newEnv scope s.heap.objs.size globals (cellsFrom (s.heap.objs.size + 1) scope.names cl) qual none .none (some env) builtinsNs) { s with heap := h' }) :
    wpAny M A (newFunctionEnv scope globals cl [] qual none .none (some env)) Q E s := by
  simp only [newFunctionEnv, Option.isSome_some, if_true]
  refine wpAny_bind (wpAny_alloc ?_)
  refine wpAny_bind (wpAny_layCells _ (fun name kind cells => by cases hkc : kind == NameKind.cell <;> simp [hkc]) _ _ _ _ ?_)
  rw [show ({ s with heap := s.heap.push { cls := .type "dict", data := .dict #[] } } : Shared).heap.objs.size = s.heap.objs.size + 1 from Heap.size_push ..]
  refine wpAny_bind ?_
  rw [List.forIn_nil]
  refine wpAny_pure (wpAny_pure (hQ _ ((Heap.Ns.new s.heap (.type "dict")).keeps (pushCells_keeps _ _)) (fun a o e => pushCells_keeps _ _ a o (Heap.get?_push_of_some _ e)) fun hc x c e => ?_))
  rw [<- Heap.size_push s.heap { cls := .type "dict", data := .dict #[] }] at e
  refine cf_cell (fun y d q => ?_) x c e
  obtain ⟨v, hv⟩ := hc y d q
  exact ⟨v, hv.keeps fun b o e => Heap.get?_push_of_some _ e⟩
noncomputable def clC (scope : Scope) (env : Env) (C : Addr) : List (Str × Addr) := cellsFrom (C + 1) scope.names (clOf scope env)
noncomputable def ownC (scope : Scope) (x : Str) : Bool := match scope.names.lookup x with
  | some .cell => true
  | _ => false
noncomputable def cxC (X : Cx) (N : List Str) (scope : Scope) (C : Addr) (s : Shared) (H : Hp) (fp : List Addr) : Cx :=
  { X with N := N, s₀ := s, H₀ := H, env := compEnvC scope (clC scope X.env C) C X.env, outer := X.stack, ex := fp, fn := ownC scope, pn := [], xe := fun _ _ => False }
structure BlkOk (X : Cx) (scope : Scope) : Prop where
  kind : scope.kind = .function
  uniq : ∀ y ∈ scope.names, scope.names.lookup y.1 = some y.2
  free : ∀ y ∈ scope.names, y.2 = .free -> X.env.kindOf y.1 = some .cell \/ X.env.kindOf y.1 = some .free
theorem lookup_mem {α : Type} {v : α} : ∀ {l : List (Str × α)}, l.lookup x = some v -> (x, v) ∈ l
  | [], h => by simp at h
  | (n, w) :: r, h => by
    rw [List.lookup_cons] at h
    by_cases z : (x == n) = true
    . rw [z] at h
      have zz : x = n := by simpa using z
      subst zz
      cases h
      exact List.mem_cons_self
    . have z' : (x == n) = false := by simpa using z
      rw [z'] at h
      exact List.mem_cons_of_mem _ (lookup_mem h)
theorem relabel_lookup {env : Env} {x : Str} : ∀ {names : List (Str × NameKind)}, (names.map fun (n, k) => if (k == NameKind.free && env.scope.kind == .function && env.kindOf n == some .cell) then (n, NameKind.cell) else (n, k)).lookup x =
    (names.lookup x).map fun k => if (k == NameKind.free && env.scope.kind == .function && env.kindOf x == some .cell) then NameKind.cell else k
  | [] => rfl
  | (n, k) :: r => by
    have ih := relabel_lookup (env := env) (x := x) (names := r)
    show List.lookup x ((if (k == NameKind.free && env.scope.kind == .function && env.kindOf n == some .cell) = true then (n, NameKind.cell) else (n, k)) :: _) = _
    cases hx : x == n with
    | true =>
      have zz : x = n := by simpa using hx
      by_cases hc : (k == NameKind.free && env.scope.kind == .function && env.kindOf n == some .cell) = true
      . rw [if_pos hc]
        simp only [List.lookup_cons, hx, Option.map_some]
        rw [zz, if_pos hc]
      . rw [if_neg hc]
        simp only [List.lookup_cons, hx, Option.map_some]
        rw [zz, if_neg hc]
    | false =>
      by_cases hc : (k == NameKind.free && env.scope.kind == .function && env.kindOf n == some .cell) = true
      . rw [if_pos hc]; simp only [List.lookup_cons, hx]; exact ih
      . rw [if_neg hc]; simp only [List.lookup_cons, hx]; exact ih
section
variable {X : Cx} {pins : List (Addr × Obj)} {σ : St} {H : Hp} {s : Shared} {scope : Scope} {N : List Str} {fp : List Addr} {C : Addr}
theorem blk_cells (I : Inv X pins σ H s) (b : BlkOk X scope) : ∀ y ∈ scope.names, y.2 = .free -> ∃ c, X.env.cells.lookup y.1 = some c := fun y hy hf => I.ok.has y.1 (b.free y hy hf)
theorem blk_vis (h : (relabel scope X.env).names.lookup x = some .cell \/ (relabel scope X.env).names.lookup x = some .free) : (x, NameKind.free) ∈ scope.names \/ (x, NameKind.cell) ∈ scope.names := by
  have e : (relabel scope X.env).names.lookup x = (scope.names.lookup x).map fun k => if (k == NameKind.free && X.env.scope.kind == .function && X.env.kindOf x == some .cell) then NameKind.cell else k := relabel_lookup
  rw [e] at h
  cases q : scope.names.lookup x with
  | none => rw [q] at h; simp at h
  | some k =>
    have hm := lookup_mem q
    by_cases hk : k = .free
    . subst hk; exact .inl hm
    . rw [q] at h
      have hkf : (k == NameKind.free) = false := by simpa using hk
      simp only [Option.map_some, hkf, Bool.false_and, Bool.false_eq_true, if_false, Option.some.injEq] at h
      rcases h with h | h
      . subst h; exact .inr hm
      . exact absurd h hk
theorem cl_cells (I : Inv X pins σ H s) (b : BlkOk X scope) (h : (clOf scope X.env).lookup x = some c) : X.env.cells.lookup x = some c := cl_fold_lookup (blk_cells I b) (by simp) h
theorem blk_lookup (I : Inv X pins σ H s) (b : BlkOk X scope) (h : (clC scope X.env C).lookup x = some c) : C < c \/ X.env.cells.lookup x = some c := by
  rcases cf_lookup h with ⟨h1, _⟩ | h1
  . exact .inl h1
  . exact .inr (cl_cells I b h1)
theorem blk_free (b : BlkOk X scope) (h : (x, NameKind.free) ∈ scope.names) : (clC scope X.env C).lookup x = (clOf scope X.env).lookup x := cf_old fun z => by
  have h1 := b.uniq _ h
  have h2 := b.uniq _ z
  simp only at h1 h2
  rw [h1] at h2
  cases h2
theorem blk_ok (I : Inv X pins σ H s) (b : BlkOk X scope) (hC : s.heap.objs.size <= C) (hf : ∀ b ∈ fp, FpOk X pins H b) (hfC : ∀ b ∈ fp, b < C) : (cxC X N scope C s H fp).Ok where
  mod := I.ok.mod
  kind := b.kind
  glob := I.ok.glob
  blt := I.ok.blt
  above := hC
  inj := cf_inj (fun x c h => by
    obtain ⟨v, hv⟩ := I.cell x c (cl_cells I b h)
    exact Nat.lt_succ_of_lt (Nat.lt_of_lt_of_le hv.lt hC)) fun x y c h1 h2 => I.ok.inj x y c (cl_cells I b h1) (cl_cells I b h2)
  has := fun x hx => by
    rcases blk_vis (x := x) hx with hm | hm
    . show ∃ c, (clC scope X.env C).lookup x = some c
      rw [blk_free b hm]
      exact Option.isSome_iff_exists.mp (cl_fold_some (.inl hm))
    . obtain ⟨c, h, _⟩ := cf_new (n := C + 1) (acc := clOf scope X.env) hm
      exact ⟨c, h⟩
  cab := fun x c h e => by
    have h' : ownC scope x = true := h
    unfold ownC at h'
    split at h'
    . rename_i q
      obtain ⟨c', h1, h2⟩ := cf_new (n := C + 1) (acc := clOf scope X.env) (lookup_mem q)
      have e' : some c' = some c := h1.symm.trans e
      cases e'
      exact Nat.le_trans hC (Nat.le_of_succ_le h2)
    . cases h'
  hd := I.ok.hd
  frames := I.ok.frames
  stk := .inl rfl
  exf := fun a ha => ⟨Nat.ne_of_lt (hfC a ha), fun x c e z => by
    rcases blk_lookup I b e with q | q
    . exact Nat.lt_asymm q (z ▸ hfC a ha)
    . exact (hf a ha).2.2.2.2.1 x c q z⟩
  bs := I.bs
  bsz := Nat.le_trans I.ok.bsz I.sz
  noex := fun a o e ha => by
    rcases (hf a ha).2.2.2.1 with z | z
    . exact I.ok.noex a o e z
    . exact absurd (Nat.lt_of_lt_of_le (Heap.lt_size e) (Nat.le_trans I.ok.bsz z)) (Nat.lt_irrefl _)
  exfs := fun a ha hs => by
    rcases List.mem_cons.mp (I.stkSub a hs) with z | z
    . exact (hf a ha).2.1 z
    . exact (hf a ha).2.2.1 z
  funs := I.stack
  frf := I.stkFree
theorem blk_start {tk : Nat} (I : Inv X pins σ H s) (b : BlkOk X scope) (hf : ∀ b ∈ fp, FpOk X pins H b) (hfs : ∀ b ∈ fp, b < s.heap.objs.size)
    (hns : h'.Ns s.heap.objs.size (fun _ => none)) (hk : ∀ a o, s.heap.get? a = some o -> h'.get? a = some o) (hcl : ∀ x c, (clC scope X.env s.heap.objs.size).lookup x = some c -> ∃ v, h'.IsCell c v) (hl : σc.length = N.length)
    (hσ : ∀ (i : Nat) (x : Str) (v : V), N[i]? = some x -> σc[i]? = some (some v) -> (x, NameKind.free) ∈ scope.names /\ ∃ j : Nat, X.N[j]? = some x /\ σ[j]? = some (some v)) (hloc : ∀ (i : Nat) (x : Str) (v : V), N[i]? = some x -> σc[i]? = some (some v) -> ¬ (relabel scope X.env).names.lookup x = some .local) :
    Inv (cxC X N scope s.heap.objs.size s H fp) [] σc H { s with heap := h', toks := tk } := by
  have ok := blk_ok (N := N) I b (Nat.le_refl _) hf hfs
  refine ⟨ok, rfl, I.bare, Un.kept hk, ⟨_, hns, fun i x v h1 h2 h3 => ?_⟩, fun x c e => ?_, I.hok.fresh (Nat.le_refl _), fun x c e => ?_, fun p hp => absurd (show p ∈ ([] : List (Addr × Obj)) from hp) (by simp), I.hok.kept hk, hl⟩
  . obtain ⟨hm, j, hj, hv⟩ := hσ i x v h1 h2
    have hkind := b.free _ hm rfl
    obtain ⟨m, hn, hloc'⟩ := I.loc
    have hvis : Vis X.env.scope x := by
      rcases hkind with z | z
      . exact .inr (.inl z)
      . exact .inr (.inr z)
    obtain ⟨u, ru, lk⟩ := hloc' j x v hj hv hvis
    refine ⟨u, ru, ?_⟩
    rcases lk with ⟨z, _⟩ | ⟨_, c, ec, hc⟩
    . exfalso
      rcases hkind with w | w <;> simp only at w <;> rw [z] at w <;> cases w
    . refine .inr ⟨?_, c, ?_, ?_⟩
      . rcases h3 with z | z | z
        . exact absurd z (hloc i x v h1 h2)
        . exact .inl z
        . exact .inr z
      . have hs : ((clOf scope X.env).lookup x).isSome = true := cl_fold_some (.inl hm)
        obtain ⟨c', ec'⟩ := Option.isSome_iff_exists.mp hs
        have := cl_fold_lookup (blk_cells I b) (by simp) ec'
        rw [ec] at this
        cases this
        exact (blk_free b hm).trans ec'
      . obtain ⟨o, ho, hd⟩ := hc
        exact ⟨o, hk _ _ ho, hd⟩
  . exact hcl x c e
  . rcases blk_lookup I b e with q | q
    . exact I.hok.fresh (Nat.le_of_lt q)
    . exact I.freeC x c q
theorem blk_end {h' : Heap} {s1 : Shared} (I : Inv X pins σ H s) (hf : ∀ b ∈ fp, FpOk X pins H b) (J : Inv (cxC X N scope s.heap.objs.size s H fp) [] σc H' s1) (hs : Heap.SameBut s.heap.objs.size s1.heap h') : Inv X pins σ H' { s1 with heap := h' } := by
  have kp : ∀ a o, a ≠ s.heap.objs.size -> s1.heap.get? a = some o -> h'.get? a = some o := fun a o ha e => hs.extBut a o ha e
  have free : H' s.heap.objs.size = none := J.free
  have ntr : ∀ a u, H' a = some u -> a ≠ s.heap.objs.size := fun a u e z => by rw [z, free] at e; cases e
  have lt : ∀ a o, s.heap.get? a = some o -> a ≠ s.heap.objs.size := fun a o e => Nat.ne_of_lt (Heap.lt_size e)
  have u : Un (frs X.stack) fp H H' s.heap s1.heap := J.base
  have u' : Un (frs X.stack) fp H H' s.heap h' := by
    refine ⟨fun a o e n hb hx => kp a o (lt a o e) (u.keep a o e n hb hx), fun a o e n hb hx => ?_, u.free, fun a o e hx => ?_, u.tups, u.frzs, u.tbls⟩
    . obtain ⟨sl, q⟩ := u.slot a o e n hb hx
      exact ⟨sl, kp a _ (lt a o e) q⟩
    . obtain ⟨o', q⟩ := u.there a o e hx
      exact ⟨o', kp a _ (lt a o e) q⟩
  have hok : HOk X.prog X.w H' h' := fun a o e => (J.hok a o e).stay (fun c v hc q => by
    refine kp c v ?_ q
    rcases hc with rfl | hc
    . exact ntr _ _ e
    . exact ntr _ _ hc) (fun _ q => q) fun _ _ q => q
  obtain ⟨hh, g, d, t, os'⟩ := s1
  have os : os' = s.os := J.os
  subst os
  have z := I.call (h' := h') (g' := g) (d' := d) (t' := t) (ch := fp) u' hok J.bare (fun a ha => ⟨(hf a ha).2.2.2.1, (hf a ha).2.1, (hf a ha).2.2.2.2.1, (hf a ha).2.2.2.2.2⟩)
  exact z
end
noncomputable def PTs (X : Cx) (ifs : List Expr) (t : TT) : Prop := ∀ (pins : List (Addr × Obj)) (s : Shared) (σ : St) (H : Hp) (Q : Bool -> Hp -> Prop), Inv X pins σ H s -> t σ H Q ->
  wpAny (model X.prog X.w) X.A (forIn ifs true fun c r => if r = true then do let ok <- isTrue c X.env (eval c X.env); pure (ForInStep.yield ok) else pure (ForInStep.yield r)) (TP X pins σ Q) X.xe s
theorem pts_nil : PTs X [] (fun _ H Q => Q true H) := fun pins s σ H Q I h => wpAny_tests_nil ⟨H, I, h⟩
theorem compLoop_go {R : Result -> Shared -> Prop} {s : Shared} {elt target iter : Expr} {it acc : Value} (I : Nat -> Shared -> Prop)
    (turn : ∀ n s, I n s -> wpAny (model prog w) A (pyNext it) (fun r s₁ => match r with
      | none => R (.ok .next) s₁
      | some v => wpAny (model prog w) A (letOwnedTupleGo target it v) (fun _ s₁' => wpAny (model prog w) A (assign target env v) (fun _ s₂ =>
          wpAny (model prog w) A (forIn ifs true fun c r => if r = true then do let ok <- isTrue c env (eval c env); pure (ForInStep.yield ok) else pure (ForInStep.yield r)) (fun ok s₃ =>
            if ok = true then wpAny (model prog w) A (eval elt env) (fun x s₄ =>
              wpAny (model prog w) A (call (.builtin "list.append") [acc, x]) (fun _ s₅ => ∃ m, m < n /\ I m s₅) (fun _ _ => False) s₄) (fun _ _ => False) s₃
            else ∃ m, m < n /\ I m s₃) (fun _ _ => False) s₂) (fun _ _ => False) s₁') (fun _ _ => False) s₁) (fun _ _ => False) s)
    (n : Nat) (h : I n s) : codeAny (model prog w) A (.compLoop (.ListComp elt [⟨target, iter, ifs, 0⟩] scope pos) 0 it acc env) R s := by
  refine codeAny_loop rfl I (fun n s hI => ?_) n h
  show wpAny _ A ((compTurn (.ListComp elt [⟨target, iter, ifs, 0⟩] scope pos) 0 it acc env).onRaise (fun x => do noteFrame x env; theTreesLotGoes x)) _ _ s
  refine wpAny_noted ?_
  rw [compTurn_list]
  have no : ∀ {E : Value -> Shared -> Prop}, ∀ x s', (fun (_ : Value) (_ : Shared) => False) x s' -> E x s' := fun _ _ z => z.elim
  refine wpAny_bind (wpAny_standAt (wpAny_bind (wpAny_mono (turn n s hI) (fun r s₁ h₁ => ?_) no)))
  cases r with
  | none => exact wpAny_pure h₁
  | some v =>
    refine wpAny_bind (wpAny_mono h₁ (fun _ s₁' h₁' => ?_) no)
    refine wpAny_bind (wpAny_mono h₁' (fun _ s₂ h₂ => wpAny_bind (wpAny_mono h₂ (fun ok s₃ h₃ => ?_) no)) no)
    cases ok with
    | false => exact wpAny_pure ⟨rfl, h₃⟩
    | true =>
      exact wpAny_bind (wpAny_bind (wpAny_mono h₃ (fun x s₄ h₄ => wpAny_bind (wpAny_mono h₄ (fun _ s₅ h₅ => wpAny_pure (wpAny_pure ⟨rfl, h₅⟩)) no)) no))
noncomputable def tLC (σ0 : St -> St) (wi : TI) (g : Addr -> Shared -> Hp -> List Addr -> TG) (tt : Addr -> Shared -> Hp -> List Addr -> TT) (te : Addr -> Shared -> Hp -> List Addr -> TE) : TE := fun σ H Q => wi σ H fun J H1 => ∀ D, H1 D = none -> ∃ W : Nat -> Nat -> St -> Hp -> Prop, (∃ m, W 0 m (σ0 σ) (upd H1 D (.lst []))) /\ ∀ i m σ H, W i m σ H ->
  (J.stop i H /\ Q (.ref D) H) \/ (J.go i H /\ ∀ C s₀ H₀ fp x H', J.yld i H x H' -> g C s₀ H₀ fp x σ H' fun σ2 H2 => tt C s₀ H₀ fp σ2 H2 fun ok H3 => if ok = true then te C s₀ H₀ fp σ2 H3 fun v H4 => ∃ xs, H4 D = some (.lst xs) /\ xs.length < sizeLine /\ ∃ m', m' < m /\ W (i + 1) m' σ2 (upd H4 D (.lst (xs ++ [v])))
    else ∃ m', m' < m /\ W (i + 1) m' σ2 H3)
section
variable {X : Cx} {elt iter tg : Expr} {ifs : List Expr} {scope : Scope} {pos : Pos} {N : List Str} {σ0 : St -> St} {wi : TI} {g : Addr -> Shared -> Hp -> List Addr -> TG} {tt : Addr -> Shared -> Hp -> List Addr -> TT} {te : Addr -> Shared -> Hp -> List Addr -> TE}
structure Cap (X : Cx) (scope : Scope) (N : List Str) (σ0 : St -> St) : Prop where
  len : ∀ σ, (σ0 σ).length = N.length
  src : ∀ (σ : St) (i : Nat) (x : Str) (v : V), N[i]? = some x -> (σ0 σ)[i]? = some (some v) -> (x, NameKind.free) ∈ scope.names /\ ∃ j : Nat, X.N[j]? = some x /\ σ[j]? = some (some v)
  loc : ∀ (σ : St) (i : Nat) (x : Str) (v : V), N[i]? = some x -> (σ0 σ)[i]? = some (some v) -> ¬ (relabel scope X.env).names.lookup x = some .local
theorem lc_core {E : Value -> Shared -> Prop} (hc : X.calm = true) (b : BlkOk X scope) (cap : Cap X scope N σ0) (hi : PI X tg iter wi) (hg : ∀ C s H fp, PG (cxC X N scope C s H fp) tg (g C s H fp)) (ht : ∀ C s H fp, PTs (cxC X N scope C s H fp) ifs (tt C s H fp)) (he : ∀ C s H fp, PE (cxC X N scope C s H fp) elt (te C s H fp))
    {pins : List (Addr × Obj)} {s : Shared} {σ : St} {H : Hp} {Q : VK} (I : Inv X pins σ H s) (h : tLC σ0 wi g tt te σ H Q) {QQ : Value -> Shared -> Prop} {p0 : Pos}
    (hs : ∀ x, foldedSetIterable iter X.env x = pure x)
    (fin : match use with
      | none => ∀ u s', EP X pins σ Q u s' -> QQ u s'
      | some f => ∀ (D : Addr) (fp : List Addr) (C : Addr) (H1 H' : Hp) (σc : St) (s1 s' : Shared), Inv X pins σ H1 s1 -> (∀ b ∈ fp, FpOk X pins H1 b) -> C = s1.heap.objs.size -> Inv (cxC X N scope C s1 H1 fp) [] σc H' s' -> Q (.ref D) H' ->
          wpAny (model X.prog X.w) X.A (f (.ref D)) (fun _ s'' => ∃ m, s''.heap.Ns C m /\ ∀ h', Heap.SameBut C s''.heap h' -> QQ .none { s'' with heap := h' }) X.xe s') :
    wpAny (model X.prog X.w) X.A (comprehension (.ListComp elt [⟨tg, iter, ifs, 0⟩] scope pos) scope X.env p0 (newList []) false (eval iter X.env) use) QQ X.xe s := by
  refine wpAny_comprehension_free (cl := clOf scope X.env) (g := ⟨tg, iter, ifs, 0⟩) (gs := []) rfl hs (closure_of (blk_cells I b)) b.kind (fun x hx hl => hl ▸ b.uniq x hx) ?_
  refine thn (hi pins s σ H _ I h) fun v s1 h1 => thn h1 fun itv s2 h2 => ?_
  obtain ⟨it, fp, tn, J, H2, e, I2, T, st2, f2, h3⟩ := h2
  subst e
  refine wpAny_newObj_type ?_ (by show (0 : Nat) <= sizeLine; exact Nat.zero_le _)
  have hD : H2 s2.heap.objs.size = none := I2.fresh
  obtain ⟨W, ⟨m0, w0⟩, turn⟩ := h3 _ hD
  have I3 : Inv X pins σ (upd H2 s2.heap.objs.size (.lst [])) { s2 with heap := s2.heap.push { cls := .type "list", data := .seq ([] : List Value).toArray } } := I2.lnew (t' := s2.toks) .nil (Nat.zero_le _)
  have f3 : ∀ b ∈ fp, FpOk X pins (upd H2 s2.heap.objs.size (.lst [])) b := fun b hb => by
    obtain ⟨a1, a2⟩ := f2 b hb
    obtain ⟨o, ho, _⟩ := T.obj _ _ st2 b hb
    exact ⟨by rw [upd_ne (Nat.ne_of_lt (Heap.lt_size ho))]; exact a1, a2⟩
  have st3 : tn 0 (s2.heap.push { cls := .type "list", data := .seq ([] : List Value).toArray }) := T.keep _ _ _ st2 fun b hb o e => Heap.get?_push_of_some _ e
  generalize hs3 : ({ s2 with heap := s2.heap.push { cls := .type "list", data := .seq ([] : List Value).toArray } } : Shared) = s3 at I3
  have hs3' : s3.heap = s2.heap.push { cls := .type "list", data := .seq ([] : List Value).toArray } := by rw [<- hs3]
  rw [<- hs3'] at st3
  have hfs : ∀ b ∈ fp, b < s3.heap.objs.size := fun b hb => by
    obtain ⟨o, ho, _⟩ := T.obj _ _ st3 b hb
    exact Heap.lt_size ho
  show wpAny _ _ (newFunctionEnv scope X.env.globals (clOf scope X.env) [] X.env.qual none .none (some X.env)) _ _ s3
  refine newBlockEnv fun h' hns hk hcl => ?_
  have hcl := hcl fun x c e => I3.cell x c (cl_cells I3 b e)
  generalize hDD : s2.heap.objs.size = DD at *
  have B0 : Inv (cxC X N scope s3.heap.objs.size s3 (upd H2 DD (.lst [])) fp) [] (σ0 σ) (upd H2 DD (.lst [])) { s3 with heap := h' } :=
    blk_start (tk := s3.toks) I3 b f3 hfs hns hk hcl (cap.len σ) (cap.src σ) (cap.loc σ)
  have stat : ∀ {H' : Hp}, (∀ b ∈ fp, H' b = none) -> ∀ b ∈ fp, FpOk (cxC X N scope s3.heap.objs.size s3 (upd H2 DD (.lst [])) fp) [] H' b := fun hn b' hb => by
    refine ⟨hn b' hb, Nat.ne_of_lt (hfs b' hb), fun z => ?_, .inl hb, fun x c e => ?_, fun p hp => absurd (show p ∈ ([] : List (Addr × Obj)) from hp) (by simp)⟩
    . rcases List.mem_cons.mp (I3.stkSub b' z) with w | w
      . exact (f3 b' hb).2.1 w
      . exact (f3 b' hb).2.2.1 w
    . intro z
      rcases blk_lookup I3 b e with q | q
      . exact Nat.lt_asymm q (z ▸ hfs b' hb)
      . exact (f3 b' hb).2.2.2.2.1 x c q z
  have tn0 : tn 0 h' := T.keep _ _ _ st3 fun b' hb o e => hk b' o e
  have post : ∀ (s' : Shared) (σc : St) (H' : Hp), Inv (cxC X N scope s3.heap.objs.size s3 (upd H2 DD (.lst [])) fp) [] σc H' s' -> Q (.ref DD) H' -> compPost (model X.prog X.w) X.A X.xe use QQ (.ref DD) s3.heap.objs.size (.ok .next) s' := fun s' σc H' J' q => by
    cases use with
    | none =>
      obtain ⟨m, hn, _⟩ := J'.loc
      exact ⟨m, hn, fun h'' hs'' => fin _ _ ⟨.ref DD, H', blk_end I3 f3 J' hs'', rfl, q⟩⟩
    | some f => exact fin DD fp _ _ H' σc s3 s' I3 f3 rfl J' q
  have loop : codeAny (model X.prog X.w) X.A (.compLoop (.ListComp elt [⟨tg, iter, ifs, 0⟩] scope pos) 0 (.ref it) (.ref DD) (compEnvC scope (clC scope X.env s3.heap.objs.size) s3.heap.objs.size X.env)) (compPost (model X.prog X.w) X.A X.xe use QQ (.ref DD) s3.heap.objs.size) { s3 with heap := h' } := by
    refine compLoop_go (fun n s' => ∃ i σ' H', Inv (cxC X N scope s3.heap.objs.size s3 (upd H2 DD (.lst [])) fp) [] σ' H' s' /\ tn i s'.heap /\ (∀ b ∈ fp, H' b = none) /\ W i n σ' H') ?_ m0 ⟨0, σ0 σ, _, B0, tn0, fun b' hb => (f3 b' hb).1, w0⟩
    rintro n s5 ⟨i, σ5, H5, I5, st5, fr5, w5⟩
    rcases turn i n σ5 H5 w5 with ⟨stop, qn⟩ | ⟨go, step⟩
    . refine thn (T.done (cxC X N scope s3.heap.objs.size s3 (upd H2 DD (.lst [])) fp) rfl rfl rfl hc i [] s5 σ5 H5 (fun _ _ => False) I5 (stat fr5) st5 stop) fun r s6 ⟨hr, I6⟩ => ?_
      subst hr
      exact post s6 σ5 H5 I6 qn
    . refine thn (T.item (cxC X N scope s3.heap.objs.size s3 (upd H2 DD (.lst [])) fp) rfl rfl rfl hc i [] s5 σ5 H5 (fun _ _ => False) I5 (stat fr5) st5 go) fun r s6 ⟨u, hr, h6⟩ => ?_
      subst hr
      refine thn h6 fun _ s7 ⟨x, H7, I7, r7, y7, st7, fr7⟩ => ?_
      have I7' := I7.pinned (stat fr7) (T.obj _ _ st7)
      have again : ∀ {σ8 : St} {H8 : Hp} {s8 : Shared} {m' : Nat}, Inv (cxC X N scope s3.heap.objs.size s3 (upd H2 DD (.lst [])) fp) ([] ++ pinsAt fp s7.heap) σ8 H8 s8 -> m' < n -> W (i + 1) m' σ8 H8 ->
          ∃ m, m < n /\ ∃ i σ' H', Inv (cxC X N scope s3.heap.objs.size s3 (upd H2 DD (.lst [])) fp) [] σ' H' s8 /\ tn i s8.heap /\ (∀ b ∈ fp, H' b = none) /\ W i m σ' H' := fun {σ8 H8 s8 m'} I8 hm w8 => by
        refine ⟨m', hm, i + 1, σ8, H8, I8.unpinned, T.keep _ _ _ st7 fun b' hb o e => (I8.pin (b', o) (List.mem_append_right _ (List.mem_append_right _ (mem_pinsAt hb e)))).1, fun b' hb => ?_, w8⟩
        obtain ⟨o, e, d⟩ := T.obj _ _ st7 b' hb
        exact (I8.pin (b', o) (List.mem_append_right _ (List.mem_append_right _ (mem_pinsAt hb e)))).2.1
      refine thn (hg _ _ _ _ _ s7 σ5 H7 x u _ I7' r7 (step _ _ _ _ x H7 y7)) fun _ s8 ⟨σ8, H8, I8, q8⟩ => ?_
      refine thn (ht _ _ _ _ _ s8 σ8 H8 _ I8 q8) fun ok s9 ⟨H9, I9, q9⟩ => ?_
      cases ok with
      | false =>
        obtain ⟨m', hm, w9⟩ := q9
        exact again I9 hm w9
      | true =>
        refine thn (he _ _ _ _ _ s9 σ8 H9 _ I9 q9) fun u10 s10 ⟨v10, H10, I10, r10, xs, hx, hz, m', hm, w10⟩ => ?_
        refine thn (mt_append _ s10 σ8 H10 (.ref DD) [v10] (.ref DD) [u10] (fun v H' => v = .non /\ H' = upd H10 DD (.lst (xs ++ [v10]))) I10 rfl (.cons r10 .nil) ⟨DD, xs, v10, rfl, rfl, hx, hz, rfl, rfl⟩) fun _ s11 ⟨_, H11, I11, _, _, e11⟩ => ?_
        subst e11
        exact again I11 hm w10
  exact codeAny_compStart_list loop (T.self _ _ _ _ _ tn0 loop)
theorem pe_lc (hc : X.calm = true) (b : BlkOk X scope) (cap : Cap X scope N σ0) (hi : PI X tg iter wi) (hg : ∀ C s H fp, PG (cxC X N scope C s H fp) tg (g C s H fp)) (ht : ∀ C s H fp, PTs (cxC X N scope C s H fp) ifs (tt C s H fp)) (he : ∀ C s H fp, PE (cxC X N scope C s H fp) elt (te C s H fp))
    (hs :autoParam (∀ x, foldedSetIterable iter X.env x = pure x) zu8._auto_1) : PE X (.ListComp elt [⟨tg, iter, ifs, 0⟩] scope pos) (tLC σ0 wi g tt te) := by
  intro pins s σ H Q I h
  rw [eval_ListComp]
  exact lc_core (use := none) (E := X.xe) hc b cap hi hg ht he I h hs (fun u s' q => q)
end
noncomputable def noOwn (ρ : R) : Bool := ρ.all fun s => match s with
  | .own _ => false
  | .par _ => false
  | .tre _ => false
  | .ptr _ => false
  | _ => true
theorem noOwn_ow (h : noOwn ρ = true) {a : Addr} (e : ρ[i]? = some s) : ¬ OwS K G H ov a s := fun w => by
  unfold noOwn at h
  rw [List.all_eq_true] at h
  have := h s (List.mem_of_getElem? e)
  cases s with
  | emp => exact w
  | two _ _ => exact w
  | val d => exact w
  | _ => exact absurd (show false = true from this) Bool.false_ne_true
theorem noOwn_tr (h : noOwn ρ = true) (e : ρ[i]? = some s) : (∀ t, s ≠ .tre t) /\ ∀ t, s ≠ .ptr t := by
  unfold noOwn at h
  rw [List.all_eq_true] at h
  have := h s (List.mem_of_getElem? e)
  constructor
  . rintro t rfl; exact absurd (show false = true from this) Bool.false_ne_true
  . rintro t rfl; exact absurd (show false = true from this) Bool.false_ne_true
theorem noOwn_wr (h : noOwn ρ = true) : ¬ Wr ρ i := fun ⟨s, ds, e, q⟩ => by
  unfold noOwn at h
  rw [List.all_eq_true] at h
  have := h s (List.mem_of_getElem? e)
  cases s with
  | emp => cases q
  | two _ _ => cases q
  | tre _ => cases q
  | ptr _ => cases q
  | val d => cases q
  | own d => exact absurd (show false = true from this) Bool.false_ne_true
  | par d => exact absurd (show false = true from this) Bool.false_ne_true
structure VS (K : PySem.W.Frag) (G : Hp) (σ : St) (ρ : R) : Prop where
  len : σ.length = ρ.length
  no : noOwn ρ = true
  val : ∀ (i : Nat) d, ρ[i]? = some (.val d) -> ∃ v, σ[i]? = some (some v) /\ RepD K G v d
theorem VS.si (h : VS K G σ ρ) (fz : Fz G H) : SI K ⟨G, H, []⟩ G H σ ρ where
  fz := fz
  g0 := Fz.refl G
  new := fun b o e => .inl (by show G b ≠ none; rw [e]; simp)
  keep := fun b o e _ => e
  there := fun b e => e
  ob := fun i b m => by cases m
  len := h.len
  slot := fun i s e => by
    cases s with
    | emp => trivial
    | two _ _ => trivial
    | tre t => exact absurd rfl ((noOwn_tr h.no e).1 t)
    | ptr t => exact absurd rfl ((noOwn_tr h.no e).2 t)
    | val d => exact h.val i d e
    | own ds => exact absurd ⟨_, ds, e, rfl⟩ (noOwn_wr h.no (i := i))
    | par ds => exact absurd ⟨_, ds, e, rfl⟩ (noOwn_wr h.no (i := i))
  dis := fun i j s _ a _ e _ w => absurd w (noOwn_ow h.no e)
theorem VS.of (I : SI K B G H σ ρ) (h : noOwn ρ = true) : VS K G σ ρ := ⟨I.len, h, fun i d e => I.slot i _ e⟩
noncomputable def fz1 (i : Nat) (ρ : R) : R := match ρ[i]? with
  | some (.own ds) => ρ.set i (.val (.lst ds))
  | _ => ρ
noncomputable def fzL : List Nat -> R -> R
  | [], ρ => ρ
  | i :: is, ρ => fzL is (fz1 i ρ)
theorem SI.fz1 (I : SI K B G H σ ρ) (i : Nat) : ∃ G', SI K B G' H σ (M.fz1 i ρ) /\ Fz G G' := by
  unfold M.fz1
  cases e : ρ[i]? with
  | none => exact ⟨G, I, Fz.refl G⟩
  | some s =>
    cases s with
    | own ds => obtain ⟨l, xs, _, f, _, I'⟩ := I.freeze e; exact ⟨_, I', f⟩
    | emp => exact ⟨G, I, Fz.refl G⟩
    | two _ _ => exact ⟨G, I, Fz.refl G⟩
    | tre _ => exact ⟨G, I, Fz.refl G⟩
    | ptr _ => exact ⟨G, I, Fz.refl G⟩
    | val _ => exact ⟨G, I, Fz.refl G⟩
    | par _ => exact ⟨G, I, Fz.refl G⟩
theorem SI.fzL : ∀ (is : List Nat) {G : Hp} {ρ : R}, SI K B G H σ ρ -> ∃ G', SI K B G' H σ (M.fzL is ρ) /\ Fz G G'
  | [], G, ρ, I => ⟨G, I, Fz.refl G⟩
  | i :: is, G, ρ, I => by
    obtain ⟨G1, I1, f1⟩ := I.fz1 i
    obtain ⟨G2, I2, f2⟩ := SI.fzL is I1
    exact ⟨G2, I2, f1.trans f2⟩
noncomputable def capS (ρ : R) (i : Nat) : Sl := match ρ[i]? with
  | some (.val d) => .val d
  | _ => .emp
theorem capS_cases (ρ : R) (i : Nat) : capS ρ i = .emp \/ ∃ d, capS ρ i = .val d := by
  unfold capS
  split
  . exact .inr ⟨_, rfl⟩
  . exact .inl rfl
noncomputable def capR (cap : List Nat) (t : Nat) (ρ : R) : R := cap.map (capS ρ) ++ List.replicate t .emp
noncomputable def capσ (cap : List Nat) (t : Nat) (σ : St) : St := cap.map (fun i => (σ[i]?).join) ++ List.replicate t none
theorem cap_vs (I : SI K B G H σ ρ) (cap : List Nat) (t : Nat) : VS K G (capσ cap t σ) (capR cap t ρ) where
  len := by unfold capσ capR; simp
  no := by
    unfold noOwn capR
    rw [List.all_eq_true]
    intro s hs
    rcases List.mem_append.mp hs with h | h
    . obtain ⟨i, _, rfl⟩ := List.mem_map.mp h
      rcases capS_cases ρ i with e | ⟨d, e⟩
      . rw [e]
      . rw [e]
    . rw [List.eq_of_mem_replicate h]
  val := fun i d e => by
    unfold capR at e
    by_cases hi : i < cap.length
    . rw [List.getElem?_append_left (by simpa using hi), List.getElem?_map, List.getElem?_eq_getElem hi] at e
      have e' : capS ρ cap[i] = .val d := by simpa using e
      unfold capS at e'
      split at e'
      . rename_i d' q
        cases e'
        obtain ⟨v, h1, h2⟩ := I.slot _ _ q
        refine ⟨v, ?_, h2⟩
        unfold capσ
        rw [List.getElem?_append_left (by simpa using hi), List.getElem?_map, List.getElem?_eq_getElem hi]
        simp [h1]
      . cases e'
    . rw [List.getElem?_append_right (by simpa using hi), List.getElem?_replicate] at e
      split at e
      . cases e
      . cases e
noncomputable def compM (f : D -> R -> Option (Option D × R)) : List D -> R -> Option (List D × R)
  | [], ρ => some ([], ρ)
  | d :: ds, ρ => (f d ρ).bind fun p => (compM f ds p.2).map fun q => (p.1.toList ++ q.1, q.2)
noncomputable def turnM (g : D -> R -> Option R) (mt : MT) (me : ME) : D -> R -> Option (Option D × R) := fun d ρ => (g d ρ).bind fun ρ1 => (mt ρ1).bind fun p => if p.1 then (me p.2).bind fun q => if noOwn q.2 then some (some q.1, q.2) else none else if noOwn p.2 then some (none, p.2) else none
noncomputable def oLC (cap : List Nat) (t : Nat) (mi : MA) (g : D -> R -> Option R) (mt : MT) (me : ME) : MO := fun ρ => (mi ρ).bind fun p => if p.1.length <= 16777216 then (compM (turnM g mt me) p.1 (capR cap t (fzL cap p.2))).map fun q => (q.1, fzL cap p.2) else none
noncomputable def STs (X : Cx) (ifs : List Expr) (m : MT) : Prop :=
  ∃ t, PTs X ifs t /\ ∀ B G H σ ρ d ρ' (Q : Bool -> Hp -> Prop), SI X.K B G H σ ρ -> m ρ = some (d, ρ') -> (∀ G' H', SI X.K B G' H' σ ρ' -> Fz G G' -> Q d H') -> t σ H Q
noncomputable def tTrue : MT := fun ρ => some (true, ρ)
theorem sts_nil : STs X [] tTrue := ⟨_, pts_nil, fun B G H σ ρ d ρ' Q I hm k => by cases hm; exact k G H I (Fz.refl G)⟩
noncomputable def blkB (env : Env) (scope : Scope) : Bool := (scope.names.all fun x => scope.names.lookup x.1 == some x.2 && (x.2 != .free || (env.kindOf x.1 == some .cell || env.kindOf x.1 == some .free)))
theorem blk_of (hk : scope.kind = .function) (h : blkB X.env scope = true) : BlkOk X scope := by
  unfold blkB at h
  rw [List.all_eq_true] at h
  refine ⟨hk, fun x hx => ?_, fun x hx hf => ?_⟩
  . have := h x hx
    simp only [Bool.and_eq_true, Bool.or_eq_true, bne_iff_ne, beq_iff_eq] at this
    exact this.1
  . have := h x hx
    simp only [Bool.and_eq_true, Bool.or_eq_true, bne_iff_ne, beq_iff_eq] at this
    exact (this.2).resolve_left (fun z => z hf)
noncomputable def capB (names : List (Str × NameKind)) (N XN : List Str) (cap : List Nat) (t : Nat) : Bool := N.length == cap.length + t && (cap.zip N).all fun p => XN[p.1]? == some p.2 && names.lookup p.2 == some .free
theorem cap_of (h : capB scope.names N X.N cap t = true) : Cap X scope N (capσ cap t) := by
  unfold capB at h
  rw [Bool.and_eq_true, List.all_eq_true] at h
  obtain ⟨hl, h⟩ := h
  have hl : N.length = cap.length + t := by simpa using hl
  have key : ∀ (σ : St) (i : Nat) (x : Str) (v : V), N[i]? = some x -> (capσ cap t σ)[i]? = some (some v) -> ∃ j, cap[i]? = some j /\ σ[j]? = some (some v) /\ X.N[j]? = some x /\ scope.names.lookup x = some .free := fun σ i x v h1 h2 => by
    unfold capσ at h2
    by_cases hi : i < cap.length
    . rw [List.getElem?_append_left (by simpa using hi), List.getElem?_map, List.getElem?_eq_getElem hi] at h2
      have h3 : (σ[cap[i]]?).join = some v := by simpa using h2
      have hz : (cap[i], x) ∈ cap.zip N := by
        refine List.mem_of_getElem? (i := i) ?_
        rw [List.getElem?_zip_eq_some]
        exact ⟨List.getElem?_eq_getElem hi, h1⟩
      have := h _ hz
      simp only [Bool.and_eq_true, beq_iff_eq] at this
      refine ⟨cap[i], List.getElem?_eq_getElem hi, ?_, this.1, this.2⟩
      cases q : σ[cap[i]]? with
      | none => rw [q] at h3; cases h3
      | some o => rw [q] at h3; rw [show o = some v from h3]
    . rw [List.getElem?_append_right (by simpa using hi), List.getElem?_replicate] at h2
      split at h2 <;> cases h2
  refine ⟨fun σ => by unfold capσ; simp [hl], fun σ i x v h1 h2 => ?_, fun σ i x v h1 h2 z => ?_⟩
  . obtain ⟨j, _, a, b, c⟩ := key σ i x v h1 h2
    exact ⟨lookup_mem c, j, b, a⟩
  . obtain ⟨j, _, a, b, c⟩ := key σ i x v h1 h2
    have e : (relabel scope X.env).names.lookup x = (scope.names.lookup x).map fun k => if (k == NameKind.free && X.env.scope.kind == .function && X.env.kindOf x == some .cell) then NameKind.cell else k := relabel_lookup
    rw [e, c] at z
    simp only [Option.map_some, Option.some.injEq] at z
    split at z <;> cases z
structure LcV (K : PySem.W.Frag) (g : D -> R -> Option R) (mt : MT) (me : ME) (items all : List D) (G2 H1 : Hp) (DD : Addr) (i : Nat) (σc : St) (Hc Gc : Hp) (ρc : R) (acc : List D) (xs : List V) (rest : List D) (ρe : R) : Prop where
  fc : Fz G2 Gc
  fcH : Fz Gc Hc
  nw : ∀ b o, Gc b = some o -> G2 b ≠ none \/ H1 b = none
  kp : ∀ b o, H1 b = some o -> Hc b = some o
  gD : Gc DD = none
  hDc : Hc DD = some (.lst xs)
  ra : RepL K Gc xs acc
  hx : xs.length <= i
  vs : VS K Gc σc ρc
  ec : compM (turnM g mt me) (items.drop i) ρc = some (rest, ρe)
  eall : all = acc ++ rest
section
variable {X : Cx} {elt iter tg : Expr} {ifs : List Expr} {scope : Scope} {pos : Pos} {N : List Str} {cap : List Nat} {t : Nat} {mi : MA} {g : D -> R -> Option R} {mt : MT} {me : ME}
theorem sound_lc {wi : TI} 
    (si : ∀ B G H σ ρ ds ρ' (Q : It -> Hp -> Prop), SI X.K B G H σ ρ -> mi ρ = some (ds, ρ') -> (∀ J G' H', SI X.K B G' H' σ ρ' -> Fz G G' -> Itm X.K J G' ds -> Q J H') -> wi σ H Q)
    (sg : ∀ C s H₀ fp B G H σ ρ v d ρ' (Q : St -> Hp -> Prop), SI X.K B G H σ ρ -> RepD X.K G v d -> g d ρ = some ρ' -> (∀ G' H' σ', SI X.K B G' H' σ' ρ' -> Fz G G' -> Q σ' H') -> tg' C s H₀ fp v σ H Q)
    (st : ∀ C s H₀ fp B G H σ ρ d ρ' (Q : Bool -> Hp -> Prop), SI X.K B G H σ ρ -> mt ρ = some (d, ρ') -> (∀ G' H', SI X.K B G' H' σ ρ' -> Fz G G' -> Q d H') -> tt C s H₀ fp σ H Q)
    (se : ∀ C s H₀ fp B G H σ ρ d ρ' (Q : VK), SI X.K B G H σ ρ -> me ρ = some (d, ρ') -> (∀ G' H' v, SI X.K B G' H' σ ρ' -> Fz G G' -> RepD X.K G' v d -> Q v H') -> te C s H₀ fp σ H Q) :
    ∀ B G H σ ρ ds ρ' (Q : VK), SI X.K B G H σ ρ -> oLC cap t mi g mt me ρ = some (ds, ρ') ->
      (∀ G' H' l xs, SI X.K B G' H' σ ρ' -> Fz G G' -> G' l = none -> H' l = some (.lst xs) -> RepL X.K G' xs ds -> B.H l = none -> Nw X.K G' H' σ ρ' l -> Q (.ref l) H') -> tLC (capσ cap t) wi tg' tt te σ H Q := by
  intro B G H σ ρ ds ρ' Q I hm k
  obtain ⟨⟨items, ρ1⟩, e1, hm⟩ := bind_inv hm
  refine si B G H σ ρ items ρ1 _ I e1 fun J G1 H1 I1 f1 IT DD hD => ?_
  dsimp only at hm
  split at hm
  . rename_i hlen
    obtain ⟨⟨all, ρf⟩, e2, e3⟩ := map_inv hm
    obtain ⟨rfl, rfl⟩ := Prod.mk.inj e3
    obtain ⟨G2, I2, f2⟩ := SI.fzL cap I1
    have hDG : G2 DD = none := I2.fz.free hD
    refine ⟨fun i m σc Hc => m = items.length - i /\ i <= items.length /\ ∃ Gc ρc acc xs rest ρe, LcV X.K g mt me items all G2 H1 DD i σc Hc Gc ρc acc xs rest ρe,
      ⟨items.length, by simp, Nat.zero_le _, G2, capR cap t (M.fzL cap ρ1), [], [], all, ρf, { fc := Fz.refl _, fcH := I2.fz.right hDG _, nw := fun b o e => .inl (by rw [e]; simp), kp := fun b o e => by rw [upd_ne (ne_of_none e hD)]; exact e, gD := hDG, hDc := upd_same, ra := .nil, hx := Nat.le_refl _, vs := cap_vs I2 cap t, ec := by simpa using e2, eall := rfl }⟩, ?_⟩
    rintro i m σc Hc ⟨rfl, hi, Gc, ρc, acc, xs, rest, ρe, J0⟩
    obtain ⟨fc, fcH, nw, kp, gD, hDc, ra, hx, vs, ec, eall⟩ := J0
    by_cases hlt : i < items.length
    . refine .inr ⟨IT.go Hc i (f2.trans (fc.trans fcH)) hlt, fun C s₀ H₀ fp x H' y => ?_⟩
      rw [List.drop_eq_getElem_cons hlt] at ec
      simp only [compM] at ec
      obtain ⟨⟨o, ρ3⟩, h3, ec⟩ := bind_inv ec
      obtain ⟨⟨rest2, ρ4⟩, h4, ec⟩ := map_inv ec
      obtain ⟨rfl, rfl⟩ := Prod.mk.inj ec
      dsimp only at h4
      unfold turnM at h3
      obtain ⟨ρ5, h5, h3⟩ := bind_inv h3
      obtain ⟨⟨ok, ρ6⟩, h6, h3⟩ := bind_inv h3
      dsimp only at h3
      have Ic : SI X.K ⟨Gc, Hc, []⟩ Gc Hc σc ρc := vs.si fcH
      have fz2 : Fz G1 Hc := f2.trans (fc.trans fcH)
      have yy := IT.yld Hc i x H' fz2 y items[i] (List.getElem?_eq_getElem hlt)
      have yy2 : (H' = Hc /\ RepD X.K Gc x items[i]) \/ ∃ p xs es, Hc p = none /\ H' = upd Hc p (.tup xs) /\ x = .ref p /\ items[i] = .tup es /\ RepL X.K Gc xs es := by
        rcases yy with ⟨a, b⟩ | ⟨p, xs, es, a, b, c, d, e⟩
        . exact .inl ⟨a, b.mono (f2.trans fc)⟩
        . exact .inr ⟨p, xs, es, a, b, c, d, e.mono (f2.trans fc)⟩
      obtain ⟨G3, I3, f3, r3⟩ := Ic.yld yy2
      refine sg C s₀ H₀ fp _ G3 H' σc ρc x items[i] ρ5 _ I3 r3 h5 fun G4 H4 σ4 I4 f4 => st C s₀ H₀ fp _ G4 H4 σ4 ρ5 ok ρ6 _ I4 h6 fun G5 H5 I5 f5 => ?_
      have facts : ∀ (G' H' : Hp) (σ' : St) (ρ' : R), SI X.K ⟨Gc, Hc, []⟩ G' H' σ' ρ' -> (∀ b o, G' b = some o -> G2 b ≠ none \/ H1 b = none) /\ (∀ b o, H1 b = some o -> H' b = some o) /\ G' DD = none /\ H' DD = some (.lst xs) := fun G' H' σ' ρ' I' => by
        refine ⟨fun b o e => ?_, fun b o e => I'.keep b o (kp b o e) (by simp), ?_, I'.keep DD _ hDc (by simp)⟩
        . rcases I'.new b o e with h | h
          . have h : Gc b ≠ none := h
            cases q : Gc b with
            | none => exact absurd q h
            | some u => exact nw b u q
          . refine .inr ?_
            cases q : H1 b with
            | none => rfl
            | some u => have := kp b u q; rw [show Hc b = none from h] at this; cases this
        . cases q : G' DD with
          | none => rfl
          | some u =>
            rcases I'.new DD u q with h | h
            . exact absurd gD h
            . rw [show Hc DD = none from h] at hDc; cases hDc
      cases ok with
      | false =>
        simp only [Bool.false_eq_true, if_false] at h3
        split at h3
        . rename_i hno
          cases h3
          obtain ⟨a1, a2, a3, a4⟩ := facts G5 H5 σ4 _ I5
          exact ⟨items.length - (i + 1), by lia, rfl, hlt, G5, _, acc, xs, rest2, ρ4, { fc := fc.trans (f3.trans (f4.trans f5)), fcH := I5.fz, nw := a1, kp := a2, gD := a3, hDc := a4, ra := ra.mono (f3.trans (f4.trans f5)), hx := by lia, vs := VS.of I5 hno, ec := h4, eall := by simpa using eall }⟩
        . cases h3
      | true =>
        simp only [if_true] at h3 ⊢
        obtain ⟨⟨dv, ρ7⟩, h7, h3⟩ := bind_inv h3
        dsimp only at h3
        split at h3
        . rename_i hno
          cases h3
          refine se C s₀ H₀ fp _ G5 H5 σ4 ρ6 dv _ _ I5 h7 fun G6 H6 v I6 f6 r6 => ?_
          obtain ⟨a1, a2, a3, a4⟩ := facts G6 H6 σ4 _ I6
          have ff : Fz Gc G6 := f3.trans (f4.trans (f5.trans f6))
          exact ⟨xs, a4, by rw [sizeLine_eq]; lia, items.length - (i + 1), by lia, rfl, hlt, G6, _, acc ++ [dv], xs ++ [v], rest2, ρ4, { fc := fc.trans ff, fcH := I6.fz.right a3 _, nw := a1, kp := fun b o e => by rw [upd_ne (ne_of_none e hD)]; exact a2 b o e, gD := a3, hDc := upd_same, ra := (ra.mono ff).snoc r6, hx := by rw [List.length_append, List.length_singleton]; lia, vs := VS.of I6 hno, ec := h4, eall := by rw [eall]; simp }⟩
        . cases h3
    . have e : i = items.length := by lia
      subst e
      rw [List.drop_length] at ec
      cases ec
      have hall : all = acc := by rw [eall, List.append_nil]
      refine .inl ⟨IT.stop Hc _ (f2.trans (fc.trans fcH)) (Nat.le_refl _), ?_⟩
      rw [<- hall] at ra
      exact k Gc Hc DD xs (I2.grow fc fcH nw kp) (f1.trans (f2.trans fc)) gD hDc ra (I2.there DD hD) (I2.own_ne hD nw kp)
  . cases hm
theorem so_lc (cap : List Nat) (t : Nat) (N : List Str) (hc : X.calm = true) (hi : SIt X tg iter mi) (hg : ∀ C s H fp, SG (cxC X N scope C s H fp) tg g) (ht : ∀ C s H fp, STs (cxC X N scope C s H fp) ifs mt) (he : ∀ C s H fp, SE (cxC X N scope C s H fp) elt me)
    (hk :autoParam (scope.kind = .function) zu2._auto_1) (hb :autoParam (blkB X.env scope = true) zu10._auto_1) (hcap :autoParam (capB scope.names N X.N cap t = true) zu10._auto_1)
    (hs :autoParam (∀ x, foldedSetIterable iter X.env x = pure x) zu8._auto_1) : SO X (.ListComp elt [⟨tg, iter, ifs, 0⟩] scope pos) (oLC cap t mi g mt me) := by
  obtain ⟨wi, pi, si⟩ := hi
  exact ⟨_, pe_lc hc (blk_of hk hb) (cap_of hcap) pi (fun C s H fp => (hg C s H fp).choose_spec.1) (fun C s H fp => (ht C s H fp).choose_spec.1) (fun C s H fp => (he C s H fp).choose_spec.1) hs,
    sound_lc si (fun C s H fp => (hg C s H fp).choose_spec.2) (fun C s H fp => (ht C s H fp).choose_spec.2) (fun C s H fp => (he C s H fp).choose_spec.2)⟩
end
section
variable {X : Cx} {pins : List (Addr × Obj)} {σ : St} {H : Hp} {s : Shared}
theorem iter_seq {A : Around} {p : Addr} (hh : A.handled = none) (I : Inv X pins σ H s) (hq : SqL X.K H p ys \/ SqT X.K H p ys)
    (k : ∀ (its : List Value) (s₂ : Shared) (St : Nat -> Heap -> Prop), Vals ys its -> Walks X.prog X.w A s.heap.objs.size [s.heap.objs.size, p] [s.heap.objs.size] its.length (fun i v => its[i]? = some v) St -> St 0 s₂.heap -> (∀ b ∈ [s.heap.objs.size, p], b < s₂.heap.objs.size) ->
      (∀ h' tk, (∀ b o, b ∉ [s.heap.objs.size] -> s₂.heap.get? b = some o -> h'.get? b = some o) -> Inv X pins σ H { s₂ with heap := h', toks := tk }) -> Q (.ref s.heap.objs.size) s₂) : wpAny (model X.prog X.w) A (pyIter (.ref p)) Q E s := by
  have fin : ∀ (o : Obj), ∀ h' tk, (∀ b o', b ∉ [s.heap.objs.size] -> (s.heap.push o).get? b = some o' -> h'.get? b = some o') -> Inv X pins σ H { ({ s with heap := s.heap.push o } : Shared) with heap := h', toks := tk } := fun o h' tk hk => by
    have z := I.kept (h' := h') (t' := tk) fun b o' e => hk b o' (by simpa using Nat.ne_of_lt (Heap.lt_size e)) (Heap.get?_push_of_some _ e)
    exact z
  rcases hq with hq | hq
  . obtain ⟨its, r, pl, hz⟩ := I.list hq
    have hlt : p < s.heap.objs.size := by obtain ⟨_, _, e, _⟩ := pl; exact Heap.lt_size e
    refine wpAny_pyIter_list pl.isList (k its _ (fun i h => h.IsListIter s.heap.objs.size p i /\ h.IsList p its.toArray) r ?_ ⟨⟨_, Heap.get?_push_size _ rfl, rfl, rfl⟩, pl.isList.push _⟩ (fun b hb => ?_) (fin _))
    . have w := Walks.list (prog := X.prog) (w := X.w) (A := A) hh s.heap.objs.size p (Nat.ne_of_lt hlt) its.toArray
      simpa using w
    . show b < (s.heap.push _).objs.size
      rw [Heap.size_push]
      simp at hb
      rcases hb with z | z
      . rw [z]; exact Nat.lt_succ_self _
      . rw [z]; exact Nat.lt_succ_of_lt hlt
  . obtain ⟨its, r, pl, hz⟩ := I.tuple hq
    have hlt : p < s.heap.objs.size := pl.lt
    refine wpAny_pyIter_tuple (show s.heap.IsTuple p its.toArray from pl) (k its _ (fun i h => h.IsTupleIter s.heap.objs.size p i /\ h.IsTuple p its.toArray) r ?_ ⟨⟨_, Heap.get?_push_size _ rfl, rfl, rfl⟩, (show s.heap.IsTuple p its.toArray from pl).push _⟩ (fun b hb => ?_) (fin _))
    . have w := Walks.tuple (prog := X.prog) (w := X.w) (A := A) hh s.heap.objs.size p (Nat.ne_of_lt hlt) its.toArray
      simpa using w
    . show b < (s.heap.push _).objs.size
      rw [Heap.size_push]
      simp at hb
      rcases hb with z | z
      . rw [z]; exact Nat.lt_succ_self _
      . rw [z]; exact Nat.lt_succ_of_lt hlt
end
noncomputable def intsOf : List D -> Option (List Int)
  | [] => some []
  | .int i :: ds => (intsOf ds).map (i :: ·)
  | _ => none
@[simp] theorem intsOf_map : ∀ (ns : List Int), intsOf (ns.map .int) = some ns
  | [] => rfl
  | n :: ns => by simp [intsOf, intsOf_map ns]
noncomputable def dSum : List D -> Option D
  | [d] => (dItems [d]).bind fun ds => (intsOf ds).map fun ns => .int ns.sum
  | _ => none
theorem sq_items (I : SI K B G H σ ρ) {x : V} (r : RepD K G x d) (e : dItems [d] = some ds) : ∃ p ys, x = .ref p /\ (SqL K H p ys \/ SqT K H p ys) /\ RepL K G ys ds := by
  cases d <;> simp only [dItems] at e <;> try cases e
  . obtain ⟨p, ys, ex, hp, q⟩ := I.lst r
    exact ⟨p, ys, ex, .inl (SqL.of hp), q⟩
  . obtain ⟨p, ys, ex, hp, q⟩ := I.tup r
    exact ⟨p, ys, ex, .inr (SqT.of hp), q⟩
  . obtain ⟨p, ex, hp⟩ := r
    exact ⟨p, _, ex, .inl (I.fz.sql hp), RepL.ints _⟩
noncomputable def boolsOf : List D -> Option (List Bool)
  | [] => some []
  | .bl b :: ds => (boolsOf ds).map (b :: ·)
  | _ => none
theorem boolsOf_eq : ∀ {ds : List D} {bs : List Bool}, boolsOf ds = some bs -> ds = bs.map .bl
  | [], ns, h => by cases h; rfl
  | d :: ds, ns, h => by
    cases d <;> simp only [boolsOf] at h <;> try cases h
    obtain ⟨ms, e1, e2⟩ := map_inv h
    subst e2
    rw [boolsOf_eq e1]; rfl
@[simp] theorem boolsOf_map : ∀ (bs : List Bool), boolsOf (bs.map .bl) = some bs
  | [] => rfl
  | n :: ns => by simp [boolsOf, boolsOf_map ns]
theorem RepL.bools_eq : ∀ {bs : List Bool} {xs : List V}, RepL K G xs (bs.map D.bl) -> xs = bs.map V.bl
  | [], _, e => e
  | n :: ns, _, ⟨x, ys, e, q, r⟩ => by subst e; cases (show x = V.bl n from q); rw [RepL.bools_eq r]; rfl
theorem bools_get {bs : List Bool} (r : Vals (bs.map V.bl) its) {v : Value} (e : its[i]? = some v) : ∃ b, bs[i]? = some b /\ v = .bool b := by
  have hl := r.length
  have hi : i < its.length := (List.getElem?_eq_some_iff.mp e).1
  rw [List.length_map] at hl
  have e2 : (bs.map V.bl)[i]? = some (.bl bs[i]) := by rw [List.getElem?_map, List.getElem?_eq_getElem (by lia)]; rfl
  obtain ⟨u, h1, h2⟩ := r.get e2
  rw [e] at h1; cases h1
  exact ⟨bs[i], List.getElem?_eq_getElem (by lia), h2⟩
noncomputable def rAll (K : PySem.W.Frag) (f : List Bool -> Bool) : List V -> Hp -> VK -> Prop := fun xs H Q => ∃ (p : Addr) (bs : List Bool), xs = [.ref p] /\ (SqL K H p (bs.map V.bl) \/ SqT K H p (bs.map V.bl)) /\ Q (.bl (f bs)) H
theorem call_allB (hc : X.calm = true) : CallR X (.builtin "all") (rAll X.K fun bs => bs.all id) := by
  intro pins s σ H xs us Q I r h
  obtain ⟨p, bs, rfl, hq, q⟩ := h
  obtain ⟨u, rfl, ru⟩ := vals1 r
  cases ru
  refine call_all_walk (iter_seq (A := X.A.in1) (I.ok.hd hc) I hq fun its s₂ St rv W st hfp fin => ?_)
  have hl := rv.length
  rw [List.length_map] at hl
  refine ⟨_, _, _, _, _, _, fun i => (bs[i]?).getD true, rfl, W, st, fun i v s' Q' E' hP hQ => ?_, fun h' tk hk => ⟨.bl (bs.all id), H, fin h' tk hk, ?_, q⟩⟩
  . obtain ⟨b, e, rfl⟩ := bools_get rv hP
    simp only [e, Option.getD_some] at hQ
    exact wpAny_truthy_bool hQ
  . rw [<- hl, LSm.range_all]; rfl
theorem call_anyB (hc : X.calm = true) : CallR X (.builtin "any") (rAll X.K fun bs => bs.any id) := by
  intro pins s σ H xs us Q I r h
  obtain ⟨p, bs, rfl, hq, q⟩ := h
  obtain ⟨u, rfl, ru⟩ := vals1 r
  cases ru
  refine call_any_walk (iter_seq (A := X.A.in1) (I.ok.hd hc) I hq fun its s₂ St rv W st hfp fin => ?_)
  have hl := rv.length
  rw [List.length_map] at hl
  refine ⟨_, _, _, _, _, _, fun i => (bs[i]?).getD false, rfl, W, st, fun i v s' Q' E' hP hQ => ?_, fun h' tk hk => ⟨.bl (bs.any id), H, fin h' tk hk, ?_, q⟩⟩
  . obtain ⟨b, e, rfl⟩ := bools_get rv hP
    simp only [e, Option.getD_some] at hQ
    exact wpAny_truthy_bool hQ
  . rw [<- hl, LSm.range_any]; rfl
noncomputable def dAll (f : List Bool -> Bool) : List D -> Option D
  | [d] => (dItems [d]).bind fun ds => (boolsOf ds).map fun bs => .bl (f bs)
  | _ => none
theorem vc_all (f : List Bool -> Bool) : VC X (rAll X.K f) (dAll f) := by
  intro B G H σ ρ xs ds d Q I r hf k
  match ds, hf with
  | [a], hf =>
    obtain ⟨es, e1, hf⟩ := bind_inv hf
    obtain ⟨ns, e2, e3⟩ := map_inv hf
    subst e3
    obtain ⟨x, rfl, ra⟩ := r.one
    obtain ⟨p, ys, rfl, hq, ry⟩ := sq_items I ra e1
    rw [boolsOf_eq e2] at ry
    rw [RepL.bools_eq ry] at hq
    exact ⟨p, ns, rfl, hq, k G H _ I (Fz.refl G) rfl⟩
  | [], hf => cases hf
  | _ :: _ :: _, hf => cases hf
theorem se_all (hc : X.calm = true) (ml : X.mg "all" = none) (ha : SA X [e] ma) (hg :autoParam (Gl X "all") zu2._auto_1) (he :autoParam (starEach [e] X.env = (false, eval e X.env) :: starEach [] X.env) zu2._auto_1) : SE X (.Call (.Name "all" p) [e] [] pos) (mC (dAll fun bs => bs.all id) ma) :=
  se_callB (call_allB hc) (vc_all _) (by decide +kernel) ml ha hg (by decide) (by decide) he rfl
theorem se_any (hc : X.calm = true) (ml : X.mg "any" = none) (ha : SA X [e] ma) (hg :autoParam (Gl X "any") zu2._auto_1) (he :autoParam (starEach [e] X.env = (false, eval e X.env) :: starEach [] X.env) zu2._auto_1) : SE X (.Call (.Name "any" p) [e] [] pos) (mC (dAll fun bs => bs.any id) ma) :=
  se_callB (call_anyB hc) (vc_all _) (by decide +kernel) ml ha hg (by decide) (by decide) he rfl
noncomputable def d2I (g : Int -> Int -> Int) : List D -> Option D
  | [.int i, .int j] => some (.int (g i j))
  | _ => none
theorem vc_2I (g : Int -> Int -> Int) : VC X (fun xs H Q => ∃ i j, xs = [.int i, .int j] /\ Q (.int (g i j)) H) (d2I g) := by
  intro B G H σ ρ xs ds d Q I r hf k
  unfold d2I at hf
  split at hf
  . rename_i i j
    cases hf
    obtain ⟨x, y, rfl, rx, ry⟩ := r.two
    cases (show x = V.int i from rx)
    cases (show y = V.int j from ry)
    exact ⟨i, j, rfl, k G H _ I (Fz.refl G) rfl⟩
  . cases hf
noncomputable def max2 (i j : Int) : Int := if j > i then j else i
noncomputable def min2 (i j : Int) : Int := if j < i then j else i
theorem se_max2 (hc : X.calm = true) (ml : X.mg "max" = none) (ha : SA X [a, b] ma) (hg :autoParam (Gl X "max") zu2._auto_1) (he :autoParam (starEach [a, b] X.env = (false, eval a X.env) :: starEach [b] X.env) zu2._auto_1) (hpl :autoParam ((backTo pos (starEach [b] X.env)).any (·.1) = false) zu2._auto_1) : SE X (.Call (.Name "max" p) [a, b] [] pos) (mC (d2I max2) ma) :=
  se_callB (call_max2 hc) (vc_2I max2) (by decide +kernel) ml ha hg (by decide) (by decide) he hpl
theorem se_min2 (hc : X.calm = true) (ml : X.mg "min" = none) (ha : SA X [a, b] ma) (hg :autoParam (Gl X "min") zu2._auto_1) (he :autoParam (starEach [a, b] X.env = (false, eval a X.env) :: starEach [b] X.env) zu2._auto_1) (hpl :autoParam ((backTo pos (starEach [b] X.env)).any (·.1) = false) zu2._auto_1) : SE X (.Call (.Name "min" p) [a, b] [] pos) (mC (d2I min2) ma) :=
  se_callB (call_min2 hc) (vc_2I min2) (by decide +kernel) ml ha hg (by decide) (by decide) he hpl
noncomputable def dInt : List D -> Option D
  | [.int i] => some (.int i)
  | [.bl b] => some (.int (if b then 1 else 0))
  | _ => none
theorem se_intOf (ml : X.mg "int" = none) (ha : SA X [a] ma) (hg :autoParam (Gl X "int") zu2._auto_1) (he :autoParam (starEach [a] X.env = (false, eval a X.env) :: starEach [] X.env) zu2._auto_1) : SE X (.Call (.Name "int" p) [a] [] pos) (mC dInt ma) :=
  se_callTy call_int1 (fun B G H σ ρ xs ds d Q I r hf k => by
    unfold dInt at hf
    split at hf
    . rename_i i
      cases hf
      obtain ⟨x, rfl, rx⟩ := r.one
      cases (show x = V.int i from rx)
      exact .inl ⟨i, rfl, k G H _ I (Fz.refl G) rfl⟩
    . rename_i b
      cases hf
      obtain ⟨x, rfl, rx⟩ := r.one
      cases (show x = V.bl b from rx)
      exact .inr ⟨b, rfl, k G H _ I (Fz.refl G) rfl⟩
    . cases hf) (by decide +kernel) ml ha hg (by decide) (by decide) he rfl
theorem kit_NoneType_int (K : PySem.W.Frag) : PySem.W.kitOne K (.type "NoneType") (.type "int") = some false := by kernel_rfl
theorem kit_NoneType_bool (K : PySem.W.Frag) : PySem.W.kitOne K (.type "NoneType") (.type "bool") = some false := by kernel_rfl
theorem kit_NoneType_tuple (K : PySem.W.Frag) : PySem.W.kitOne K (.type "NoneType") (.type "tuple") = some false := by kernel_rfl
theorem kit_NoneType_list (K : PySem.W.Frag) : PySem.W.kitOne K (.type "NoneType") (.type "list") = some false := by kernel_rfl
theorem kit_NoneType_str (K : PySem.W.Frag) : PySem.W.kitOne K (.type "NoneType") (.type "str") = some false := by kernel_rfl
theorem kit_bool_int (K : PySem.W.Frag) : PySem.W.kitOne K (.type "bool") (.type "int") = some true := by kernel_rfl
theorem kit_bool_bool (K : PySem.W.Frag) : PySem.W.kitOne K (.type "bool") (.type "bool") = some true := by kernel_rfl
theorem kit_bool_tuple (K : PySem.W.Frag) : PySem.W.kitOne K (.type "bool") (.type "tuple") = some false := by kernel_rfl
theorem kit_bool_list (K : PySem.W.Frag) : PySem.W.kitOne K (.type "bool") (.type "list") = some false := by kernel_rfl
theorem kit_bool_str (K : PySem.W.Frag) : PySem.W.kitOne K (.type "bool") (.type "str") = some false := by kernel_rfl
theorem kit_int_int (K : PySem.W.Frag) : PySem.W.kitOne K (.type "int") (.type "int") = some true := by kernel_rfl
theorem kit_int_bool (K : PySem.W.Frag) : PySem.W.kitOne K (.type "int") (.type "bool") = some false := by kernel_rfl
theorem kit_int_tuple (K : PySem.W.Frag) : PySem.W.kitOne K (.type "int") (.type "tuple") = some false := by kernel_rfl
theorem kit_int_list (K : PySem.W.Frag) : PySem.W.kitOne K (.type "int") (.type "list") = some false := by kernel_rfl
theorem kit_int_str (K : PySem.W.Frag) : PySem.W.kitOne K (.type "int") (.type "str") = some false := by kernel_rfl
theorem kit_str_int (K : PySem.W.Frag) : PySem.W.kitOne K (.type "str") (.type "int") = some false := by kernel_rfl
theorem kit_str_bool (K : PySem.W.Frag) : PySem.W.kitOne K (.type "str") (.type "bool") = some false := by kernel_rfl
theorem kit_str_tuple (K : PySem.W.Frag) : PySem.W.kitOne K (.type "str") (.type "tuple") = some false := by kernel_rfl
theorem kit_str_list (K : PySem.W.Frag) : PySem.W.kitOne K (.type "str") (.type "list") = some false := by kernel_rfl
theorem kit_str_str (K : PySem.W.Frag) : PySem.W.kitOne K (.type "str") (.type "str") = some true := by kernel_rfl
theorem kit_list_int (K : PySem.W.Frag) : PySem.W.kitOne K (.type "list") (.type "int") = some false := by kernel_rfl
theorem kit_list_bool (K : PySem.W.Frag) : PySem.W.kitOne K (.type "list") (.type "bool") = some false := by kernel_rfl
theorem kit_list_tuple (K : PySem.W.Frag) : PySem.W.kitOne K (.type "list") (.type "tuple") = some false := by kernel_rfl
theorem kit_list_list (K : PySem.W.Frag) : PySem.W.kitOne K (.type "list") (.type "list") = some true := by kernel_rfl
theorem kit_list_str (K : PySem.W.Frag) : PySem.W.kitOne K (.type "list") (.type "str") = some false := by kernel_rfl
theorem kit_tuple_int (K : PySem.W.Frag) : PySem.W.kitOne K (.type "tuple") (.type "int") = some false := by kernel_rfl
theorem kit_tuple_bool (K : PySem.W.Frag) : PySem.W.kitOne K (.type "tuple") (.type "bool") = some false := by kernel_rfl
theorem kit_tuple_tuple (K : PySem.W.Frag) : PySem.W.kitOne K (.type "tuple") (.type "tuple") = some true := by kernel_rfl
theorem kit_tuple_list (K : PySem.W.Frag) : PySem.W.kitOne K (.type "tuple") (.type "list") = some false := by kernel_rfl
theorem kit_tuple_str (K : PySem.W.Frag) : PySem.W.kitOne K (.type "tuple") (.type "str") = some false := by kernel_rfl
noncomputable def isI (T : String) : D -> Bool
  | .non => false
  | .bl _ => T == "bool" || T == "int"
  | .int _ => T == "int"
  | .str _ => T == "str"
  | .lst _ => T == "list"
  | .tup _ => T == "tuple"
  | .scr _ => T == "list"
  | .exc _ => false
  | .dic _ _ => false
  | .dit _ _ => false
noncomputable def okT (T : String) : Bool := ["int", "bool", "tuple", "list", "str"].contains T
noncomputable def rIsI (K : PySem.W.Frag) (T : String) : List V -> Hp -> VK -> Prop := fun xs H Q => ∃ x t b, xs = [x, .ty T] /\ TyOf K H x t /\ PySem.W.kitOne K t (.type T) = some b /\ Q (.bl b) H
theorem call_isI (T : String) : CallR X (.builtin "isinstance") (rIsI X.K T) := by
  intro pins s σ H xs us Q I r h
  obtain ⟨x, t, b, rfl, ty, e, q⟩ := h
  obtain ⟨u, w', rfl, r1, r2⟩ := vals2 r
  cases (show w' = Value.type T from r2)
  exact isinst_ok I r1 ty e fun tk => ⟨.bl b, H, I.tok _, rfl, q⟩
noncomputable def eIsI (T : String) (ma : ME) : ME := fun ρ => (ma ρ).bind fun p => if okT T && noS1 p.1 then some (.bl (isI T p.1), p.2) else none
where noS1 : D -> Bool
  | .scr _ => false
  | .exc _ => false
  | .dic _ _ => false
  | .dit _ _ => false
  | _ => true
theorem kit_all (K : PySem.W.Frag) {T : String} (hT : okT T = true) : PySem.W.kitOne K (.type "NoneType") (.type T) = some false /\ PySem.W.kitOne K (.type "bool") (.type T) = some (T == "bool" || T == "int") /\ PySem.W.kitOne K (.type "int") (.type T) = some (T == "int") /\
    PySem.W.kitOne K (.type "str") (.type T) = some (T == "str") /\ PySem.W.kitOne K (.type "list") (.type T) = some (T == "list") /\ PySem.W.kitOne K (.type "tuple") (.type T) = some (T == "tuple") := by
  have h : T = "int" \/ T = "bool" \/ T = "tuple" \/ T = "list" \/ T = "str" := by simpa [okT] using hT
  rcases h with rfl | rfl | rfl | rfl | rfl
  . exact ⟨kit_NoneType_int K, kit_bool_int K, kit_int_int K, kit_str_int K, kit_list_int K, kit_tuple_int K⟩
  . exact ⟨kit_NoneType_bool K, kit_bool_bool K, kit_int_bool K, kit_str_bool K, kit_list_bool K, kit_tuple_bool K⟩
  . exact ⟨kit_NoneType_tuple K, kit_bool_tuple K, kit_int_tuple K, kit_str_tuple K, kit_list_tuple K, kit_tuple_tuple K⟩
  . exact ⟨kit_NoneType_list K, kit_bool_list K, kit_int_list K, kit_str_list K, kit_list_list K, kit_tuple_list K⟩
  . exact ⟨kit_NoneType_str K, kit_bool_str K, kit_int_str K, kit_str_str K, kit_list_str K, kit_tuple_str K⟩
theorem se_isI {ma : ME} {p q pos : Pos} (T : String) (ml : X.mg "isinstance" = none) (mT : X.mg x = none) (hbT : bootBuiltins x = some (.type T)) (ha : SE X a ma) (hg :autoParam (Gl X "isinstance") zu2._auto_1) (hgT :autoParam (Gl X x) zu2._auto_1) (hn :autoParam (x ≠ "__name__") zu1._auto_1) (hd :autoParam ((x == ("__debug__" : Str)) = false) zu1._auto_1)
    (he :autoParam (starEach [a, .Name x q] X.env = (false, eval a X.env) :: starEach [.Name x q] X.env) zu2._auto_1) (he2 :autoParam (starEach [.Name x q] X.env = (false, eval (.Name x q) X.env) :: starEach [] X.env) zu2._auto_1) (hpl :autoParam ((backTo pos (starEach [.Name x q] X.env)).any (·.1) = false) zu2._auto_1) :
    SE X (.Call (.Name "isinstance" p) [a, .Name x q] [] pos) (eIsI T ma) := by
  obtain ⟨ta, pa, sa⟩ := ha
  refine ⟨_, pe_callB (call_isI T) hg ml boot_isinstance (pa_cons pa (pa_cons (pe_bltn (v := .ty T) hgT mT hbT rfl hn hd) pa_nil he2) he) (by decide) (by decide) he hpl, fun B G H σ ρ d ρ' Q I hm k => ?_⟩
  obtain ⟨⟨y, ρ1⟩, e1, hm⟩ := bind_inv hm
  dsimp only at hm
  split at hm
  . rename_i hT
    obtain ⟨rfl, rfl⟩ := Prod.mk.inj (Option.some.inj hm)
    rw [Bool.and_eq_true] at hT
    obtain ⟨hT, hS⟩ := hT
    refine sa B G H σ ρ y ρ1 _ I e1 fun G1 H1 v I1 f1 r1 => ?_
    obtain ⟨k0, k1, k2, k3, k4, k5⟩ := kit_all X.K hT
    have fin : ∀ t, TyOf X.K H1 v t -> PySem.W.kitOne X.K t (.type T) = some (isI T y) -> rIsI X.K T [v, .ty T] H1 Q := fun t ty e => ⟨v, t, isI T y, rfl, ty, e, k G1 H1 _ I1 f1 rfl⟩
    cases y with
    | non => cases (show v = V.non from r1); exact fin _ .non k0
    | bl c => cases (show v = V.bl c from r1); exact fin _ (.bl c) k1
    | int c => cases (show v = V.int c from r1); exact fin _ (.int c) k2
    | str c => cases (show v = V.str c from r1); exact fin _ (.str c) k3
    | lst ds => obtain ⟨a, xs, e, hp, r⟩ := I1.lst r1; subst e; exact fin _ (.lst hp) k4
    | tup ds => obtain ⟨a, xs, e, hp, r⟩ := I1.tup r1; subst e; exact fin _ (.tup hp) k5
    | scr _ => cases hS
    | exc _ => cases hS
    | dic _ _ => cases hS
    | dit _ _ => cases hS
  . cases hm
noncomputable def cutD {α : Type} (xs : List α) (lo hi : Option Int) : List α := (xs.drop (HT.sIx xs.length 0 lo)).take (HT.sIx xs.length xs.length hi - HT.sIx xs.length 0 lo)
noncomputable def dCut (d : D) (lo hi : Option Int) : Option D := match d with
  | .lst ds => some (.lst (cutD ds lo hi))
  | .tup ds => some (.tup (cutD ds lo hi))
  | .scr ns => some (.lst ((cutD ns lo hi).map .int))
  | _ => none
theorem aLen1 (h : aLen ma n) : ∀ ρ as ρ', ma ρ = some (as, ρ') -> as.length + 1 = n + 1 := fun ρ as ρ' e => congrArg (· + 1) (h ρ as ρ' e)
mutual
noncomputable def toPy : D -> PyData
  | .non => .none
  | .bl b => .bool b
  | .int i => .int i
  | .str x => .str x
  | .lst ds => .list (toPyL ds)
  | .tup ds => .tuple (toPyL ds)
  | .scr ns => .list (ns.map .int)
  | .exc _ => .none
  | .dic _ _ => .none
  | .dit _ _ => .none
noncomputable def toPyL : List D -> List PyData
  | [] => []
  | d :: ds => toPy d :: toPyL ds
end
mutual
theorem noDict : ∀ d : D, (toPy d).hasDict = false
  | .non => rfl
  | .bl _ => rfl
  | .int _ => rfl
  | .str _ => rfl
  | .exc _ => rfl
  | .dic _ _ => rfl
  | .dit _ _ => rfl
  | .lst ds => by simp only [toPy, PyData.hasDict]; exact noDictL ds
  | .tup ds => by simp only [toPy, PyData.hasDict]; exact noDictL ds
  | .scr ns => by
    simp only [toPy, PyData.hasDict]
    induction ns with
    | nil => rfl
    | cons n ns ih => simp only [List.map_cons, PyData.hasDictAll, PyData.hasDict, ih]; rfl
theorem noDictL : ∀ ds : List D, PyData.hasDictAll (toPyL ds) = false
  | [] => rfl
  | d :: ds => by simp only [toPyL, PyData.hasDictAll, noDict d, noDictL ds]; rfl
end
section
variable {X : Cx} {pins : List (Addr × Obj)} {σ : St} {H G : Hp} {s : Shared}
mutual
theorem reads_D (I : Inv X pins σ H s) (fz : Fz G H) : ∀ {d : D} {x : V} {u : Value}, noS d = true -> RepD X.K G x d -> RelV x u -> ∃ as, Reads s.heap u (toPy d) as
  | .non, x, u, _, r, rx => by cases (show x = V.non from r); cases (show u = Value.none from rx); exact ⟨_, .none⟩
  | .bl b, x, u, _, r, rx => by cases (show x = V.bl b from r); cases (show u = Value.bool b from rx); exact ⟨_, .bool b⟩
  | .int b, x, u, _, r, rx => by cases (show x = V.int b from r); obtain ⟨t, rfl⟩ := rx; exact ⟨_, .int b t⟩
  | .str b, x, u, _, r, rx => by cases (show x = V.str b from r); obtain ⟨t, rfl⟩ := rx; exact ⟨_, .str b t⟩
  | .lst ds, x, u, n, r, rx => by
    obtain ⟨p, xs, rfl, q, r⟩ := r
    cases (show u = Value.ref p from rx)
    obtain ⟨its, rv, ⟨o, m, h1, h2, _, h3⟩, hz⟩ := I.list (SqL.of (fz _ _ q))
    obtain ⟨as, ra⟩ := reads_L I fz (ds := ds) (by simpa only [noS] using n) r rv
    exact ⟨_, .list h1 h2 h3 (by simpa using ra)⟩
  | .tup ds, x, u, n, r, rx => by
    obtain ⟨p, xs, rfl, q, r⟩ := r
    cases (show u = Value.ref p from rx)
    obtain ⟨its, rv, ⟨o, h1, h2, m, h3⟩, hz⟩ := I.tuple (SqT.of (fz _ _ q))
    obtain ⟨as, ra⟩ := reads_L I fz (ds := ds) (by simpa only [noS] using n) r rv
    exact ⟨_, .tuple h1 h2 h3 (by simpa using ra)⟩
  | .scr _, _, _, n, _, _ => by simp [noS] at n
  | .exc _, _, _, n, _, _ => by simp [noS] at n
  | (.dic _ _), _, _, n, _, _ => by simp [noS] at n
  | (.dit _ _), _, _, n, _, _ => by simp [noS] at n
theorem reads_L (I : Inv X pins σ H s) (fz : Fz G H) : ∀ {ds : List D} {xs : List V} {us : List Value}, noSL ds = true -> RepL X.K G xs ds -> Vals xs us -> ∃ as, ReadsAll s.heap us (toPyL ds) as
  | [], xs, us, _, e, r => by cases (show xs = [] from e); cases r; exact ⟨_, .nil⟩
  | d :: ds, xs, us, n, h, r => by
    obtain ⟨x, ys, rfl, rd, rl⟩ := h
    simp only [noSL, Bool.and_eq_true] at n
    cases r with
    | cons r1 r2 =>
      obtain ⟨as, a1⟩ := reads_D I fz n.1 rd r1
      obtain ⟨bs, a2⟩ := reads_L I fz n.2 rl r2
      exact ⟨_, .cons a1 a2⟩
end
end
noncomputable def shOk (d : D) : Bool := noS d && (toPy d).showable && (toPy d).leavesShort 100 && decide ((toPy d).weight <= 100000) && decide ((toPy d).depth <= 40)
noncomputable def dStr : List D -> Option D
  | [.lst ds] => if shOk (.lst ds) then some (.str (toPy (.lst ds)).shown) else none
  | _ => none
noncomputable def rStr (K : PySem.W.Frag) : List V -> Hp -> VK -> Prop := fun xs H Q => ∃ a G ds, xs = [.ref a] /\ Fz G H /\ RepD K G (.ref a) (.lst ds) /\ shOk (.lst ds) = true /\ Q (.str (toPy (.lst ds)).shown) H
theorem call_strL (hg : X.A.guards = some []) (hu : X.A.units + 64 < cLine) : CallR X (.type "str") (rStr X.K) := by
  intro pins s σ H xs us Q I r h
  obtain ⟨a, G, ds, rfl, fz, rep, ok, q⟩ := h
  obtain ⟨u, rfl, ru⟩ := vals1 r
  cases ru
  unfold shOk at ok
  simp only [Bool.and_eq_true, decide_eq_true_eq] at ok
  obtain ⟨as, rd⟩ := reads_D I fz ok.1.1.1.1 rep rfl
  refine str_of_reads rd ok.1.1.1.2 (fun z => by rw [noDict] at z; cases z) hg (by lia) (fun _ _ e => e) (fun h' u tk hk => ⟨.str _, H, I.kept hk, ⟨u, rfl⟩, q⟩) ?_
  have := PyData.shown_le 100 (by decide) _ ok.1.1.2
  rw [sizeLine_eq]
  lia
theorem se_strOf (ml : X.mg "str" = none) (hgd : X.A.guards = some []) (hu : X.A.units + 64 < cLine) (ha : SA X [a] ma) (hg :autoParam (Gl X "str") zu2._auto_1) (he :autoParam (starEach [a] X.env = (false, eval a X.env) :: starEach [] X.env) zu2._auto_1) : SE X (.Call (.Name "str" p) [a] [] pos) (mC dStr ma) :=
  se_callTy (call_strL hgd hu) (fun B G H σ ρ xs ds d Q I r hf k => by
    unfold dStr at hf
    split at hf
    . rename_i es
      split at hf
      . rename_i ok
        cases hf
        obtain ⟨x, rfl, rx⟩ := r.one
        have rx0 := rx
        obtain ⟨b, ys, rfl, _, _⟩ := rx
        exact ⟨b, G, es, rfl, I.fz, rx0, ok, k G H _ I (Fz.refl G) rfl⟩
      . cases hf
    . cases hf) (by decide +kernel) ml ha hg (by decide) (by decide) he rfl
end M
namespace M
open L2 PySem
@[simp] theorem atI_nat' {α : Type} (xs : List α) (i : Nat) : atI xs (i : Int) = xs[i]? := by
  unfold atI ixN
  rw [if_pos (by lia)]
  by_cases h : i < xs.length
  . rw [if_pos (by lia)]; simp
  . rw [if_neg (by lia)]; simp [List.getElem?_eq_none (by lia : xs.length <= i)]
end M
namespace M
open L2 PySem PySem.Spec
open PyProof.Rows hiding St
open Sem (wp)
variable {b N i k : Nat} {a it : Addr} {t : Bool} {h h' : Heap} {is : Array Value} {Q : Value -> Shared -> Prop}
theorem nin2 {b x y z : Nat} (h : b ∈ [x, y]) (h1 : x ≠ z) (h2 : y ≠ z) : b ≠ z := by
  simp at h
  rcases h with rfl | rfl <;> assumption
theorem nA {N a b : Nat} (h : a ≠ b) : N + a ≠ N + b := fun e => h (Nat.add_left_cancel e)
theorem nB (h : 0 ≠ b) : N ≠ N + b := fun e => h (Nat.add_left_cancel (show N + 0 = N + b from e))
theorem nC (h : b ≠ 0) : N + b ≠ N := fun e => h (Nat.add_left_cancel (show N + b = N + 0 from e))
theorem nL {a N b : Nat} (h : a < N) : a ≠ N + b := Nat.ne_of_lt (Nat.lt_of_lt_of_le h (Nat.le_add_right _ _))
theorem ne_ {a b : Nat} (h : a ≠ b) : a ≠ b := h
local macro_rules | `(tactic| ac_rfl) => `(tactic| first | exact M.nA (by decide) | exact M.nB (by decide) | exact M.nC (by decide) | exact M.nL (by assumption) | exact Nat.ne_of_lt (by assumption) | lia)
noncomputable def SrcIt : Bool -> Heap -> Addr -> Addr -> Nat -> Prop
  | true, h, it, a, i => h.IsTupleIter it a i
  | false, h, it, a, i => h.IsListIter it a i
noncomputable def SrcH : Bool -> Heap -> Addr -> Array Value -> Prop
  | true, h, a, its => h.IsTuple a its
  | false, h, a, its => h.IsList a its
theorem SrcIt.at (x : SrcIt t h it a i) (e : ∀ o, h.get? it = some o -> h'.get? it = some o) : SrcIt t h' it a i := by
  cases t
  . exact Heap.IsListIter.at x e
  . exact Heap.IsTupleIter.at x e
theorem SrcH.at (x : SrcH t h a is) (e : ∀ o, h.get? a = some o -> h'.get? a = some o) : SrcH t h' a is := by
  cases t
  . exact Heap.IsList.at x e
  . obtain ⟨o, ho, r⟩ := x; exact ⟨o, e _ ho, r⟩
theorem SrcIt.obj (x : SrcIt t h it a i) : ∃ o, h.get? it = some o /\ ∀ v, o.data ≠ .cell v := by
  cases t <;> (obtain ⟨o, e, c, d⟩ := x; exact ⟨o, e, fun v z => by rw [d] at z; cases z⟩)
theorem SrcH.lt (x : SrcH t h a is) : a < h.objs.size := by
  cases t <;> (obtain ⟨o, e, _⟩ := x; exact Heap.lt_size e)
section
variable {prog : Program} {w : World} {A : Around} {E : Value -> Shared -> Prop} {s : Shared}
theorem tup_draw {it l : Addr} {items} (hit : s.heap.IsTupleIter it l i) (hl : s.heap.IsTuple l items)
    (k : (∃ x, items[i]? = some x /\ ∀ h', h'.IsTupleIter it l (i + 1) -> Heap.SameBut it s.heap h' -> Q x { s with heap := h' }) \/
      (items[i]? = none /\ A.handled = none /\ ∀ h' e, Heap.ExtBut it s.heap h' -> (∃ o, h'.get? e = some o /\ o.cls = .type "StopIteration") -> E (.ref e) { s with heap := h' })) :
    wpAny (model prog w) A (Builtin.SmallTypes.nextOf (.ref it)) Q E s := by
  obtain ⟨o, ho, hc, hd⟩ := id hit
  obtain ⟨ol, hol, -, nl, hdl⟩ := hl
  have ne : ¬ ((Value.ref l == Value.none) = true) := Bool.false_ne_true
  unfold Builtin.SmallTypes.nextOf
  refine wpAny_bind (wpAny_callSpecial?_slot (name := Str.ofString "__next__") hit.typeIs slot_tupleiter_next (wpAny_call_entry slot_tupleiter_next hit.typeIs entry_tupleiter_next ?_ (args_tupleiter_next _)))
  refine (?_ : wpAny _ _ (field (.ref it) 0 >>= _) _ _ s)
  refine wpAny_bind (wpAny_field ho hd (x := .ref l) rfl (?_ : wpAny _ _ (if (Value.ref l == Value.none) = true then _ else _) _ _ s))
  rw [if_neg ne]
  refine (?_ : wpAny _ _ (field (.ref it) 1 >>= _) _ _ s)
  refine wpAny_bind (wpAny_field ho hd (x := .int i 0) rfl (?_ : wpAny _ _ (seqItems? (.ref l) >>= _) _ _ s))
  refine wpAny_bind (wpAny_seqItems hol hdl ?_)
  rcases k with ⟨x, hx, k⟩ | ⟨hx, hh, k⟩ <;> simp only [Int.toNat_natCast, hx]
  . have upd : ∀ h' : Heap, h'.get? it = some (o.mapFields fun a => a.setIfInBounds 1 (rawInt (((i : Nat) : Int) + 1))) -> h'.IsTupleIter it l (i + 1) := fun h' e => ⟨_, e, (Obj.cls_mapFields ..).trans hc, by rw [Obj.data_mapFields hd]; simp [rawInt]⟩
    refine wpAny_bind (wpAny_setField ho hd (by simp) (wpAny_pure ⟨x, rfl, wpAny_pure (k _ ?_ (Heap.SameBut.update ..))⟩))
    refine ⟨_, Heap.get?_update_self _ ho (Obj.isFreed_of_fields (Obj.data_mapFields hd _)), (Obj.cls_mapFields ..).trans hc, ?_⟩
    rw [Obj.data_mapFields hd]
    simp [rawInt]
  . refine wpAny_bind (wpAny_rule (wpAny_bind (wpAny_setField ho hd (by simp) (?_ : wpAny _ _ (newExc (.type "StopIteration") [] >>= _) _ _ _))))
    refine wpAny_bind ?_
    simp only [newExc, newTuple]
    refine wpAny_bind (wpAny_newObj_type (wpAny_bind (m := firstArgMember _ _) (wpAny_of_eq (a := Value.none) (by first | rfl | (simp only [firstArgMember]; rfl)) (wpAny_newObj_type ?_ (by size_fits)))) (by size_fits))
    simp only [raiseNew]
    refine wpAny_bind (wpAny_handled ?_)
    first | rw [show A.in1.handled = none from hh] | rw [hh]
    exact wpAny_bind (wpAny_pure (wpAny_throw (k _ _ (((Heap.SameBut.update ..).extBut.push _).push _) ⟨_, Heap.get?_push_size _ rfl, rfl⟩)))
theorem src_draws (hh : A.handled = none) (it l : Addr) (hne : l ≠ it) (items : Array Value) : Draws prog w A it [it, l] items.size (fun i v => items[i]? = some v) (fun i h => SrcIt t h it l i /\ SrcH t h l items) := by
  cases t
  . exact Draws.list hh it l hne items
  . refine ⟨fun _ _ st => ?_, fun _ _ _ st hk => ⟨SrcIt.at st.1 fun o e => hk it (by simp) o e, SrcH.at st.2 fun o e => hk l (by simp) o e⟩, fun i s Q E hi st hQ => ?_, fun s Q E st hE => tup_draw st.1 st.2 (.inr ⟨by simp, hh, hE⟩)⟩
    . obtain ⟨o, e, -⟩ := SrcIt.obj st.1
      exact ⟨o, e⟩
    . exact tup_draw st.1 st.2 (.inl ⟨items[i], by simp [hi], fun h' a b => hQ _ h' s.toks (by simp [hi]) ⟨a, SrcH.at st.2 fun o e => (b.2 l hne).trans e⟩ b⟩)
noncomputable def srcO (t : Bool) (a : Addr) : Obj := { cls := .type (if t then "tuple_iterator" else "list_iterator"), data := .fields #[.ref a, .int 0 0] }
theorem srcO_it (e : h.get? it = some (srcO t a)) : SrcIt t h it a 0 := by
  cases t <;> exact ⟨_, e, rfl, rfl⟩
theorem srcO_free (t : Bool) (a : Addr) : (srcO t a).isFreed = false := by cases t <;> rfl
theorem pyIter_src {items} (hl : SrcH t s.heap a items) (hQ : Q (.ref s.heap.objs.size) { s with heap := s.heap.push (srcO t a) }) :
    wpAny (model prog w) A (pyIter (.ref a)) Q E s := by
  cases t
  . exact wpAny_pyIter_list hl hQ
  . exact wpAny_pyIter_tuple hl hQ
noncomputable abbrev IsTri (h : Heap) (T : Addr) (a b c : Value) : Prop := h.get? T = some { cls := .type "tuple", data := .seq #[a, b, c] }
theorem upd_tri {T : Addr} {a b c x : Value} {Q : Unit -> Shared -> Prop} (hT : IsTri s.heap T a b c)
    (h : ∀ h', h'.get? T = some { cls := .type "tuple", data := .seq ((#[a, b, c] : Array Value).setIfInBounds k x) } -> Heap.SameBut T s.heap h' -> Q () { s with heap := h' }) :
    wpAny (model prog w) A (updateSeq T (·.setIfInBounds k x)) Q E s :=
  wpAny_updateSeq hT rfl (h _ (by rw [Heap.get?_update_self _ hT rfl]; simp [Obj.mapSeq]) (Heap.SameBut.update ..))
section
variable {N a1 a2 a3 : Nat} {n1 n2 n3 : Nat} {P1 P2 P3 : Nat -> Value -> Prop} {S1 S2 S3 : Nat -> Heap -> Prop}
theorem zip3_item {a b c : Value} (D1 : Draws prog w A N [N, a1] n1 P1 S1) (D2 : Draws prog w A (N + 1) [N + 1, a2] n2 P2 S2) (D3 : Draws prog w A (N + 2) [N + 2, a3] n3 P3 S3) (l1 : a1 < N) (l2 : a2 < N) (l3 : a3 < N)
    (hz : IsZip s.heap (N + 5) (N + 3) (N + 4) .none) (hTI : IsTri s.heap (N + 3) (.ref N) (.ref (N + 1)) (.ref (N + 2))) (hTO : IsTri s.heap (N + 4) a b c) (h1 : S1 i s.heap) (h2 : S2 i s.heap) (h3 : S3 i s.heap) (i1 : i < n1) (i2 : i < n2) (i3 : i < n3)
    (k : ∀ x y z h' tk, P1 i x -> P2 i y -> P3 i z -> IsZip h' (N + 5) (N + 3) (N + 4) (rawInt s.heap.objs.size) -> IsTri h' (N + 4) x y z -> S1 (i + 1) h' -> S2 (i + 1) h' -> S3 (i + 1) h' -> IsTri h' s.heap.objs.size x y z ->
      (∀ c o, c ≠ N -> c ≠ N + 1 -> c ≠ N + 2 -> c ≠ N + 4 -> c ≠ N + 5 -> s.heap.get? c = some o -> h'.get? c = some o) -> Q (.ref s.heap.objs.size) { s with heap := h', toks := tk }) :
    wpAny (model prog w) A (Builtin.«zip.__next__» ⟨[.ref (N + 5)], []⟩) (fun fin s' => ∃ v, fin = .done (.ret v) /\ Q v s') E s := by
  refine (?_ : wpAny _ _ (field (.ref (N + 5)) 2 >>= _) _ _ _)
  refine wpAny_bind (wpAny_field hz rfl (x := .bool false) rfl (?_ : wpAny _ _ (field (.ref (N + 5)) 3 >>= _) _ _ _))
  refine wpAny_bind (wpAny_field hz rfl (x := .ref (N + 3)) rfl (wpAny_bind (wpAny_seqItems hTI rfl (?_ : wpAny _ _ (Builtin.SmallTypes.ownedTupleIsFree (.ref (N + 5)) >>= _) _ _ _))))
  refine wpAny_bind ?_
  unfold Builtin.SmallTypes.ownedTupleIsFree
  refine wpAny_bind (wpAny_field hz rfl (x := .none) rfl (wpAny_pure ?_))
  simp only [if_true]
  refine wpAny_bind (wpAny_rule (wpAny_bind (wpAny_field hz rfl (x := .ref (N + 4)) rfl (wpAny_bind (wpAny_setField_rec hz (by simp) fun g1 z1 s1 => wpAny_bind ?_)))))
  replace z1 : IsZip g1 (N + 5) (N + 3) (N + 4) .ellipsis := z1
  simp only [List.zipIdx_cons, List.zipIdx_nil, List.forIn_cons, List.forIn_nil]
  refine wpAny_bind (wpAny_bind (wpAny_onRaise (?_ : wpAny _ _ (Builtin.SmallTypes.nextOf (.ref N) >>= _) _ _ _)))
  have e1 : S1 i g1 := D1.frame _ _ _ h1 fun b hb o e => (s1.2 b (nin2 hb (by ac_rfl) (by ac_rfl))).trans e
  refine wpAny_bind (D1.item i _ _ _ i1 e1 fun x g2 t2 p1 f2 s2 => wpAny_pure ?_)
  have q2 : IsTri g2 (N + 4) a b c := (s2.2 _ (ne_ (by ac_rfl))).trans ((s1.2 _ (ne_ (by ac_rfl))).trans hTO)
  refine wpAny_bind (wpAny_seqItems q2 rfl (wpAny_bind (upd_tri q2 fun g3 q3 s3 => wpAny_bind (wpAny_letGo (wpAny_pure ?_)))))
  replace q3 : IsTri g3 (N + 4) x b c := q3
  have k3 : ∀ d o, d ≠ N -> d ≠ N + 4 -> d ≠ N + 5 -> s.heap.get? d = some o -> g3.get? d = some o := fun d o c1 c2 c3 e => (s3.2 d c2).trans ((s2.2 d c1).trans ((s1.2 d c3).trans e))
  refine wpAny_bind (wpAny_bind (wpAny_onRaise (?_ : wpAny _ _ (Builtin.SmallTypes.nextOf (.ref (N + 1)) >>= _) _ _ _)))
  have e3 : S2 i g3 := D2.frame _ _ _ h2 fun b hb o e => k3 b o (nin2 hb (by ac_rfl) (by ac_rfl)) (nin2 hb (by ac_rfl) (by ac_rfl)) (nin2 hb (by ac_rfl) (by ac_rfl)) e
  refine wpAny_bind (D2.item i _ _ _ i2 e3 fun y g4 t4 p2 f4 s4 => wpAny_pure ?_)
  have q4 : IsTri g4 (N + 4) x b c := (s4.2 _ (ne_ (by ac_rfl))).trans q3
  refine wpAny_bind (wpAny_seqItems q4 rfl (wpAny_bind (upd_tri q4 fun g5 q5 s5 => wpAny_bind (wpAny_letGo (wpAny_pure ?_)))))
  replace q5 : IsTri g5 (N + 4) x y c := q5
  refine wpAny_bind (wpAny_bind (wpAny_onRaise (?_ : wpAny _ _ (Builtin.SmallTypes.nextOf (.ref (N + 2)) >>= _) _ _ _)))
  have e5 : S3 i g5 := D3.frame _ _ _ h3 fun b hb o e => (s5.2 b (nin2 hb (by ac_rfl) (by ac_rfl))).trans ((s4.2 b (nin2 hb (by ac_rfl) (by ac_rfl))).trans (k3 b o (nin2 hb (by ac_rfl) (by ac_rfl)) (nin2 hb (by ac_rfl) (by ac_rfl)) (nin2 hb (by ac_rfl) (by ac_rfl)) e))
  refine wpAny_bind (D3.item i _ _ _ i3 e5 fun z g6 t6 p3 f6 s6 => wpAny_pure ?_)
  have q6 : IsTri g6 (N + 4) x y c := (s6.2 _ (ne_ (by ac_rfl))).trans q5
  refine wpAny_bind (wpAny_seqItems q6 rfl (wpAny_bind (upd_tri q6 fun g7 q7 s7 => wpAny_bind (wpAny_letGo (wpAny_pure (wpAny_pure ?_))))))
  replace q7 : IsTri g7 (N + 4) x y z := q7
  have sz : g7.objs.size = s.heap.objs.size := by rw [s7.1, s6.1, s5.1, s4.1, s3.1, s2.1, s1.1]
  have z7 : IsZip g7 (N + 5) (N + 3) (N + 4) .ellipsis := (s7.2 _ (ne_ (by ac_rfl))).trans ((s6.2 _ (ne_ (by ac_rfl))).trans ((s5.2 _ (ne_ (by ac_rfl))).trans ((s4.2 _ (ne_ (by ac_rfl))).trans ((s3.2 _ (ne_ (by ac_rfl))).trans ((s2.2 _ (ne_ (by ac_rfl))).trans z1)))))
  have zl : (N + 5 : Nat) < g7.objs.size := Heap.lt_size z7
  have k7 : ∀ d o, d ≠ N -> d ≠ N + 1 -> d ≠ N + 2 -> d ≠ N + 4 -> d ≠ N + 5 -> s.heap.get? d = some o -> g7.get? d = some o := fun d o c1 c2 c3 c4 c5 e => (s7.2 d c4).trans ((s6.2 d c3).trans ((s5.2 d c4).trans ((s4.2 d c2).trans (k3 d o c1 c4 c5 e))))
  have f7 : S1 (i + 1) g7 := D1.frame _ _ _ f2 fun b hb o e => (s7.2 b (nin2 hb (by ac_rfl) (by ac_rfl))).trans ((s6.2 b (nin2 hb (by ac_rfl) (by ac_rfl))).trans ((s5.2 b (nin2 hb (by ac_rfl) (by ac_rfl))).trans ((s4.2 b (nin2 hb (by ac_rfl) (by ac_rfl))).trans ((s3.2 b (nin2 hb (by ac_rfl) (by ac_rfl))).trans e))))
  have f7' : S2 (i + 1) g7 := D2.frame _ _ _ f4 fun b hb o e => (s7.2 b (nin2 hb (by ac_rfl) (by ac_rfl))).trans ((s6.2 b (nin2 hb (by ac_rfl) (by ac_rfl))).trans ((s5.2 b (nin2 hb (by ac_rfl) (by ac_rfl))).trans e))
  have f7'' : S3 (i + 1) g7 := D3.frame _ _ _ f6 fun b hb o e => (s7.2 b (nin2 hb (by ac_rfl) (by ac_rfl))).trans e
  refine wpAny_bind (wpAny_seqItems q7 rfl (wpAny_bind (wpAny_newTuple (?_ : wpAny _ _ (Builtin.SmallTypes.ownedTupleHandOut (.ref (N + 5)) (.ref g7.objs.size) >>= _) _ _ _))))
  refine wpAny_bind ?_
  unfold Builtin.SmallTypes.ownedTupleHandOut
  refine wpAny_bind (wpAny_setField_rec (show IsZip (g7.push { cls := .type "tuple", data := .seq #[x, y, z] }) (N + 5) (N + 3) (N + 4) .ellipsis from Heap.get?_push_of_some _ z7) (by simp) fun g9 z9 s9 => ?_)
  replace z9 : IsZip g9 (N + 5) (N + 3) (N + 4) (rawInt g7.objs.size) := z9
  refine wpAny_setField_rec z9 (by simp) fun g8 z8 s8 => wpAny_pure ⟨_, rfl, ?_⟩
  replace z8 : IsZip g8 (N + 5) (N + 3) (N + 4) (rawInt g7.objs.size) := z8
  have up : ∀ c o, c ≠ N + 5 -> g7.get? c = some o -> g8.get? c = some o := fun c o c1 e => (s8.2 c c1).trans ((s9.2 c c1).trans (Heap.get?_push_of_some _ e))
  have T8 : IsTri g8 g7.objs.size x y z := (s8.2 _ (ne_ (by ac_rfl))).trans ((s9.2 _ (ne_ (by ac_rfl))).trans (Heap.get?_push_size _ rfl))
  rw [sz] at z8 T8
  refine (?_ : Q (.ref g7.objs.size) _)
  rw [sz]
  exact k x y z g8 _ p1 p2 p3 z8 (up _ _ (ne_ (by ac_rfl)) q7) (D1.frame _ _ _ f7 fun b hb o e => up b o (nin2 hb (by ac_rfl) (by ac_rfl)) e) (D2.frame _ _ _ f7' fun b hb o e => up b o (nin2 hb (by ac_rfl) (by ac_rfl)) e) (D3.frame _ _ _ f7'' fun b hb o e => up b o (nin2 hb (by ac_rfl) (by ac_rfl)) e) T8 fun c o c1 c2 c3 c4 c5 e => up c o c5 (k7 c o c1 c2 c3 c4 c5 e)
theorem zip3_end {a b c : Value} {Q : Fin -> Shared -> Prop} (D1 : Draws prog w A N [N, a1] n1 P1 S1) (D2 : Draws prog w A (N + 1) [N + 1, a2] n2 P2 S2) (D3 : Draws prog w A (N + 2) [N + 2, a3] n3 P3 S3) (l1 : a1 < N) (l2 : a2 < N) (l3 : a3 < N)
    (hz : IsZip s.heap (N + 5) (N + 3) (N + 4) .none) (hTI : IsTri s.heap (N + 3) (.ref N) (.ref (N + 1)) (.ref (N + 2))) (hTO : IsTri s.heap (N + 4) a b c) (h1 : S1 i s.heap) (h2 : S2 i s.heap) (h3 : S3 i s.heap) (hi : i = n1 \/ (i < n1 /\ (i = n2 \/ (i < n2 /\ i = n3))))
    (k : ∀ h' e tk, (∀ c o, c ≠ N -> c ≠ N + 1 -> c ≠ N + 2 -> c ≠ N + 4 -> c ≠ N + 5 -> s.heap.get? c = some o -> h'.get? c = some o) -> (∃ o, h'.get? e = some o /\ o.cls = .type "StopIteration") -> E (.ref e) { s with heap := h', toks := tk }) :
    wpAny (model prog w) A (Builtin.«zip.__next__» ⟨[.ref (N + 5)], []⟩) Q E s := by
  refine (?_ : wpAny _ _ (field (.ref (N + 5)) 2 >>= _) _ _ _)
  refine wpAny_bind (wpAny_field hz rfl (x := .bool false) rfl (?_ : wpAny _ _ (field (.ref (N + 5)) 3 >>= _) _ _ _))
  refine wpAny_bind (wpAny_field hz rfl (x := .ref (N + 3)) rfl (wpAny_bind (wpAny_seqItems hTI rfl (?_ : wpAny _ _ (Builtin.SmallTypes.ownedTupleIsFree (.ref (N + 5)) >>= _) _ _ _))))
  refine wpAny_bind ?_
  unfold Builtin.SmallTypes.ownedTupleIsFree
  refine wpAny_bind (wpAny_field hz rfl (x := .none) rfl (wpAny_pure ?_))
  simp only [if_true]
  refine wpAny_bind (wpAny_rule (wpAny_bind (wpAny_field hz rfl (x := .ref (N + 4)) rfl (wpAny_bind (wpAny_setField_rec hz (by simp) fun g1 z1 s1 => wpAny_bind ?_)))))
  replace z1 : IsZip g1 (N + 5) (N + 3) (N + 4) .ellipsis := z1
  simp only [List.zipIdx_cons, List.zipIdx_nil, List.forIn_cons, List.forIn_nil]
  refine wpAny_bind (wpAny_bind (wpAny_onRaise (?_ : wpAny _ _ (Builtin.SmallTypes.nextOf (.ref N) >>= _) _ _ _)))
  have e1 : S1 i g1 := D1.frame _ _ _ h1 fun b hb o e => (s1.2 b (nin2 hb (by ac_rfl) (by ac_rfl))).trans e
  rcases hi with rfl | ⟨i1, hi⟩
  . refine wpAny_bind (D1.done _ _ _ e1 fun g2 e x2 he => ?_)
    obtain ⟨oe, hoe, hce⟩ := he
    have z2 : IsZip g2 (N + 5) (N + 3) (N + 4) .ellipsis := x2 _ _ (ne_ (by ac_rfl)) z1
    have hez : e ≠ N + 5 := fun x => by subst x; rw [z2] at hoe; cases hoe; simp at hce
    exact wpAny_setField_rec z2 (by simp) fun g3 _ s3 => k g3 e _ (fun c o c1 c2 c3 c4 c5 x => (s3.2 c c5).trans (x2 c o c1 ((s1.2 c c5).trans x))) ⟨oe, (s3.2 _ hez).trans hoe, hce⟩
  refine wpAny_bind (D1.item i _ _ _ i1 e1 fun x g2 t2 p1 f2 s2 => wpAny_pure ?_)
  have q2 : IsTri g2 (N + 4) a b c := (s2.2 _ (ne_ (by ac_rfl))).trans ((s1.2 _ (ne_ (by ac_rfl))).trans hTO)
  refine wpAny_bind (wpAny_seqItems q2 rfl (wpAny_bind (upd_tri q2 fun g3 q3 s3 => wpAny_bind (wpAny_letGo (wpAny_pure ?_)))))
  replace q3 : IsTri g3 (N + 4) x b c := q3
  have k3 : ∀ d o, d ≠ N -> d ≠ N + 4 -> d ≠ N + 5 -> s.heap.get? d = some o -> g3.get? d = some o := fun d o c1 c2 c3 e => (s3.2 d c2).trans ((s2.2 d c1).trans ((s1.2 d c3).trans e))
  have z3 : IsZip g3 (N + 5) (N + 3) (N + 4) .ellipsis := (s3.2 _ (ne_ (by ac_rfl))).trans ((s2.2 _ (ne_ (by ac_rfl))).trans z1)
  refine wpAny_bind (wpAny_bind (wpAny_onRaise (?_ : wpAny _ _ (Builtin.SmallTypes.nextOf (.ref (N + 1)) >>= _) _ _ _)))
  have e3 : S2 i g3 := D2.frame _ _ _ h2 fun b hb o e => k3 b o (nin2 hb (by ac_rfl) (by ac_rfl)) (nin2 hb (by ac_rfl) (by ac_rfl)) (nin2 hb (by ac_rfl) (by ac_rfl)) e
  rcases hi with rfl | ⟨i2, rfl⟩
  . refine wpAny_bind (D2.done _ _ _ e3 fun g4 e x4 he => ?_)
    obtain ⟨oe, hoe, hce⟩ := he
    have z4 : IsZip g4 (N + 5) (N + 3) (N + 4) .ellipsis := x4 _ _ (ne_ (by ac_rfl)) z3
    have hez : e ≠ N + 5 := fun x => by subst x; rw [z4] at hoe; cases hoe; simp at hce
    exact wpAny_setField_rec z4 (by simp) fun g5 _ s5 => k g5 e _ (fun c o c1 c2 c3 c4 c5 x => (s5.2 c c5).trans (x4 c o c2 (k3 c o c1 c4 c5 x))) ⟨oe, (s5.2 _ hez).trans hoe, hce⟩
  refine wpAny_bind (D2.item i _ _ _ i2 e3 fun y g4 t4 p2 f4 s4 => wpAny_pure ?_)
  have q4 : IsTri g4 (N + 4) x b c := (s4.2 _ (ne_ (by ac_rfl))).trans q3
  refine wpAny_bind (wpAny_seqItems q4 rfl (wpAny_bind (upd_tri q4 fun g5 q5 s5 => wpAny_bind (wpAny_letGo (wpAny_pure ?_)))))
  have z5 : IsZip g5 (N + 5) (N + 3) (N + 4) .ellipsis := (s5.2 _ (ne_ (by ac_rfl))).trans ((s4.2 _ (ne_ (by ac_rfl))).trans z3)
  refine wpAny_bind (wpAny_bind (wpAny_onRaise (?_ : wpAny _ _ (Builtin.SmallTypes.nextOf (.ref (N + 2)) >>= _) _ _ _)))
  have e5 : S3 i g5 := D3.frame _ _ _ h3 fun b hb o e => (s5.2 b (nin2 hb (by ac_rfl) (by ac_rfl))).trans ((s4.2 b (nin2 hb (by ac_rfl) (by ac_rfl))).trans (k3 b o (nin2 hb (by ac_rfl) (by ac_rfl)) (nin2 hb (by ac_rfl) (by ac_rfl)) (nin2 hb (by ac_rfl) (by ac_rfl)) e))
  refine wpAny_bind (D3.done _ _ _ e5 fun g6 e x6 he => ?_)
  obtain ⟨oe, hoe, hce⟩ := he
  have z6 : IsZip g6 (N + 5) (N + 3) (N + 4) .ellipsis := x6 _ _ (ne_ (by ac_rfl)) z5
  have hez : e ≠ N + 5 := fun x => by subst x; rw [z6] at hoe; cases hoe; simp at hce
  exact wpAny_setField_rec z6 (by simp) fun g7 _ s7 => k g7 e _ (fun c o c1 c2 c3 c4 c5 x => (s7.2 c c5).trans (x6 c o c3 ((s5.2 c c4).trans ((s4.2 c c2).trans (k3 c o c1 c4 c5 x))))) ⟨oe, (s7.2 _ hez).trans hoe, hce⟩
end
end
noncomputable abbrev tup_ (vs : Array Value) : Obj := { cls := .type "tuple", data := .seq vs }
noncomputable abbrev zip_ (ti to : Addr) : Obj := { cls := .type "zip", data := .fields #[.none, .bool false, .bool false, .ref ti, .ref to] }
noncomputable abbrev z3a (h : Heap) (t1 t2 t3 : Bool) (l1 l2 l3 : Addr) : Heap := ((h.push (srcO t1 l1)).push (srcO t2 l2)).push (srcO t3 l3)
noncomputable abbrev z3b (h : Heap) (t1 t2 t3 : Bool) (l1 l2 l3 : Addr) : Heap := (z3a h t1 t2 t3 l1 l2 l3).push (tup_ #[.ref h.objs.size, .ref (h.push (srcO t1 l1)).objs.size, .ref ((h.push (srcO t1 l1)).push (srcO t2 l2)).objs.size])
noncomputable abbrev z3c (h : Heap) (t1 t2 t3 : Bool) (l1 l2 l3 : Addr) : Heap := (z3b h t1 t2 t3 l1 l2 l3).push (tup_ #[.none, .none, .none])
noncomputable abbrev z3d (h : Heap) (t1 t2 t3 : Bool) (l1 l2 l3 : Addr) : Heap := (z3c h t1 t2 t3 l1 l2 l3).push (zip_ (z3a h t1 t2 t3 l1 l2 l3).objs.size (z3b h t1 t2 t3 l1 l2 l3).objs.size)
set_option maxHeartbeats 4000000 in
theorem meets_zip3 (t1 t2 t3 : Bool) (l1 l2 l3 : Addr) (xs ys zs : Array Value) : Meets (Builtin.«zip.__new__» ⟨[.type "zip", .ref l1, .ref l2, .ref l3], []⟩) (fun _ R s => SrcH t1 s.heap l1 xs /\ SrcH t2 s.heap l2 ys /\ SrcH t3 s.heap l3 zs /\
      R (.ok (.ret (.ref (z3c s.heap t1 t2 t3 l1 l2 l3).objs.size))) { s with heap := z3d s.heap t1 t2 t3 l1 l2 l3 }) :=
  .of_wp fun prog w A R s h => by
    obtain ⟨hp, g, d, tk, os⟩ := s
    obtain ⟨b1, b2, b3, h⟩ := h
    have hsub := sub_zip
    have L1 : SrcH t1 (Shared.heap ⟨hp, g, d, tk, os⟩) l1 xs := b1
    have L2 : SrcH t2 (Shared.heap ⟨hp.push (srcO t1 l1), g, d, tk, os⟩) l2 ys := SrcH.at b2 fun o e => Heap.get?_push_of_some _ e
    have L3 : SrcH t3 (Shared.heap ⟨(hp.push (srcO t1 l1)).push (srcO t2 l2), g, d, tk, os⟩) l3 zs := SrcH.at b3 fun o e => Heap.get?_push_of_some _ (Heap.get?_push_of_some _ e)
    wp_walk using pyIter_src L1, pyIter_src L2, pyIter_src L3
    exact ⟨_, rfl, h⟩
theorem typeCall_zip3 (a b c : Value) : checkTypeCall "zip" ⟨[a, b, c], []⟩ = pure () := by kernel_rfl
theorem newCall_zip3 (a b c : Value) : checkBuiltinCall "zip.__new__" ⟨[.type "zip", a, b, c], []⟩ = pure () := by kernel_rfl
theorem args_init4 (a b c d : Value) : argsOk "object.__init__" ⟨[a, b, c, d], []⟩ := by
  unfold argsOk; rw [signature?_of (id := "object.__init__") (n := ['_', '_', 't', 'i', 'n', 'i', '_', '_']) (o := ['t', 'c', 'e', 'j', 'b', 'o']) (by kernel_rfl) F.owner_object]; kernel_rfl
section
variable {prog : Program} {w : World} {A : Around} {E : Value -> Shared -> Prop} {s : Shared}
theorem call_zip3 {t1 t2 t3 : Bool} {l1 l2 l3 : Addr} {xs ys zs : Array Value} (h1 : SrcH t1 s.heap l1 xs) (h2 : SrcH t2 s.heap l2 ys) (h3 : SrcH t3 s.heap l3 zs)
    (k : ∀ h', IsZip h' (s.heap.objs.size + 5) (s.heap.objs.size + 3) (s.heap.objs.size + 4) .none -> IsTri h' (s.heap.objs.size + 3) (.ref s.heap.objs.size) (.ref (s.heap.objs.size + 1)) (.ref (s.heap.objs.size + 2)) ->
      IsTri h' (s.heap.objs.size + 4) .none .none .none -> SrcIt t1 h' s.heap.objs.size l1 0 -> SrcIt t2 h' (s.heap.objs.size + 1) l2 0 -> SrcIt t3 h' (s.heap.objs.size + 2) l3 0 ->
      (∀ c o, s.heap.get? c = some o -> h'.get? c = some o) -> Q (.ref (s.heap.objs.size + 5)) { s with heap := h' }) : wpAny (model prog w) A (call (.type "zip") [.ref l1, .ref l2, .ref l3]) Q E s := by
  refine callType_new F.called_zip (by decide) (typeCall_zip3 _ _ _) (newCall_zip3 _ _ _) (fun obj => args_init4 obj _ _ _) F.entry_zip_new (meets_zip3 t1 t2 t3 l1 l2 l3 xs ys zs) ⟨h1, h2, h3, (?_ : _ /\ _)⟩
  have y1 : (s.heap.push (srcO t1 l1)).objs.size = s.heap.objs.size + 1 := Heap.size_push ..
  have y2 : ((s.heap.push (srcO t1 l1)).push (srcO t2 l2)).objs.size = s.heap.objs.size + 2 := by rw [Heap.size_push, y1]
  have y3 : (z3a s.heap t1 t2 t3 l1 l2 l3).objs.size = s.heap.objs.size + 3 := by rw [Heap.size_push, y2]
  have y4 : (z3b s.heap t1 t2 t3 l1 l2 l3).objs.size = s.heap.objs.size + 4 := by rw [Heap.size_push, y3]
  have y5 : (z3c s.heap t1 t2 t3 l1 l2 l3).objs.size = s.heap.objs.size + 5 := by rw [Heap.size_push, y4]
  have g6 : (z3d s.heap t1 t2 t3 l1 l2 l3).get? (z3c s.heap t1 t2 t3 l1 l2 l3).objs.size = some _ := Heap.get?_push_size _ rfl
  have g5 : (z3d s.heap t1 t2 t3 l1 l2 l3).get? (z3b s.heap t1 t2 t3 l1 l2 l3).objs.size = some _ := Heap.get?_push_of_some _ (Heap.get?_push_size _ rfl)
  have g4 : (z3d s.heap t1 t2 t3 l1 l2 l3).get? (z3a s.heap t1 t2 t3 l1 l2 l3).objs.size = some _ := Heap.get?_push_of_some _ (Heap.get?_push_of_some _ (Heap.get?_push_size _ rfl))
  have g3 : (z3d s.heap t1 t2 t3 l1 l2 l3).get? ((s.heap.push (srcO t1 l1)).push (srcO t2 l2)).objs.size = some (srcO t3 l3) := Heap.get?_push_of_some _ (Heap.get?_push_of_some _ (Heap.get?_push_of_some _ (Heap.get?_push_size _ (srcO_free ..))))
  have g2 : (z3d s.heap t1 t2 t3 l1 l2 l3).get? (s.heap.push (srcO t1 l1)).objs.size = some (srcO t2 l2) := Heap.get?_push_of_some _ (Heap.get?_push_of_some _ (Heap.get?_push_of_some _ (Heap.get?_push_of_some _ (Heap.get?_push_size _ (srcO_free ..)))))
  have g1 : (z3d s.heap t1 t2 t3 l1 l2 l3).get? s.heap.objs.size = some (srcO t1 l1) := Heap.get?_push_of_some _ (Heap.get?_push_of_some _ (Heap.get?_push_of_some _ (Heap.get?_push_of_some _ (Heap.get?_push_of_some _ (Heap.get?_push_size _ (srcO_free ..))))))
  rw [y3, y4, y5] at g6
  rw [y1, y2, y3] at g4
  rw [y4] at g5
  rw [y2] at g3
  rw [y1] at g2
  rw [y5]
  exact ⟨⟨_, g6, rfl⟩, k _ g6 g4 g5 (srcO_it g1) (srcO_it g2) (srcO_it g3) fun c o x => Heap.get?_push_of_some _ (Heap.get?_push_of_some _ (Heap.get?_push_of_some _ (Heap.get?_push_of_some _ (Heap.get?_push_of_some _ (Heap.get?_push_of_some _ x)))))⟩
end
end M
namespace M
local macro_rules | `(tactic| ac_rfl) => `(tactic| first | exact M.nA (by decide) | exact M.nB (by decide) | exact M.nC (by decide) | exact M.nL (by assumption) | exact Nat.ne_of_lt (by assumption) | lia)
open L2 PySem PySem.Spec
open PyProof.Rows hiding St
open Sem (wp)
variable {t' ek : Nat} {h' : Heap} {fp : List Addr} {vs xs : List V} {its : List Value} {t : Bool} {X : Cx} {pins : List (Addr × Obj)} {σ : St} {H : Hp} {s : Shared} {a : Addr} {K : PySem.W.Frag} {elts : List Expr} {ep p pos : Pos} {es : List D}
section
variable {X : Cx} {pins : List (Addr × Obj)} {σ : St} {H : Hp} {s : Shared}
theorem turnedL (I : Inv X pins σ H s) (k : ∀ b o, b ∉ fp -> s.heap.get? b = some o -> h'.get? b = some o) (hf : ∀ b ∈ fp, FpOk X pins H b) : Inv X pins σ H { s with heap := h', toks := t' } := by
  have nit : ∀ b u, H b = some u -> b ∉ fp := fun b u e z => by rw [(hf b z).1] at e; cases e
  refine I.step (g' := s.gens) (d' := s.drawn) (ch := fp) (fun b hb => ?_) (fun b o _ _ hc e _ => k b o hc e) (fun b o _ _ hc e _ => ⟨o.slots, k b o hc e⟩) (fun _ _ _ _ n => n)
    (fun b o hc e => ⟨o, k b o hc e⟩) (fun _ _ e => e) (fun _ _ _ e => e) (fun b ps e => ⟨#[], by rw [e]; simp⟩) (fun m hm => ?_) (fun b u e => ?_) I.bare
  . obtain ⟨f0, f1, f2, f3, f4, f5⟩ := hf b hb
    exact ⟨f3, f1, f4, f5⟩
  . obtain ⟨o, es, ep, ho, r⟩ := hm
    exact ⟨o, es, ep, k _ o (fun z => (hf _ z).2.1 rfl) ho, r⟩
  . refine (I.hok b u e).stay (fun c v hc q => k c v ?_ q) (fun _ q => q) fun _ _ q => q
    rcases hc with z | z
    . rw [z]; exact nit b u e
    . exact nit c _ z
theorem turnedT {t' : Nat} {h' : Heap} {fp : List Addr} (I : Inv X pins σ H s) (k : ∀ b o, b ∉ fp -> s.heap.get? b = some o -> h'.get? b = some o) (hf : ∀ b ∈ fp, FpOk X pins H b) (hl : ∀ b ∈ fp, b < s.heap.objs.size)
    (hT : h'.get? s.heap.objs.size = some (tup_ its.toArray)) (hz : vs.length <= sizeLine) (r : Vals vs its) : Inv X pins σ (upd H s.heap.objs.size (.tup vs)) { s with heap := h', toks := t' } := by
  have I1 := I.laid (t' := s.toks) (a := s.heap.objs.size) (o := .tup vs) (h' := s.heap.push (tup_ its.toArray)) (fun b u q => Heap.get?_push_of_some _ q) (Nat.le_refl _) ⟨hz, its, r, IsTup.new _ _⟩
  refine turnedL (s := { s with heap := s.heap.push (tup_ its.toArray), toks := s.toks }) (t' := t') (fp := fp) I1 (fun b o hb e => ?_) fun b hb => ?_
  . have e' : (s.heap.push (tup_ its.toArray)).get? b = some o := e
    rcases Heap.get?_push_cases e' with ⟨rfl, rfl⟩ | q
    . exact hT
    . exact k b o hb q
  . obtain ⟨f0, fr⟩ := hf b hb
    refine ⟨?_, fr⟩
    rw [upd_ne (Nat.ne_of_lt (hl b hb))]
    exact f0
end
noncomputable def SrcSq (t : Bool) (K : PySem.W.Frag) (H : Hp) (a : Addr) (xs : List V) : Prop := match t with
  | true => SqT K H a xs
  | false => SqL K H a xs
theorem SrcSq.heap (I : Inv X pins σ H s) (h : SrcSq t X.K H a xs) : ∃ its : List Value, Vals xs its /\ SrcH t s.heap a its.toArray /\ xs.length <= sizeLine := by
  cases t
  . obtain ⟨its, r, p, z⟩ := I.list h
    exact ⟨its, r, p.isList, z⟩
  . obtain ⟨its, r, p, z⟩ := I.tuple h
    exact ⟨its, r, p, z⟩
theorem SrcSq.inj {xs ys : List V} (I : Inv X pins σ H s) (h : SrcSq t X.K H a xs) (h' : SrcSq t X.K H a ys) : xs = ys := by
  cases t
  . exact I.list_inj h h'
  . exact I.tuple_inj h h'
theorem nin5 {c N : Nat} (h : c ∉ ([N, N + 1, N + 2, N + 3, N + 4, N + 5] : List Nat)) : c ≠ N /\ c ≠ N + 1 /\ c ≠ N + 2 /\ c ≠ N + 4 /\ c ≠ N + 5 :=
  ⟨fun e => h (e ▸ .head _), fun e => h (e ▸ .tail _ (.head _)), fun e => h (e ▸ .tail _ (.tail _ (.head _))), fun e => h (e ▸ .tail _ (.tail _ (.tail _ (.tail _ (.head _))))), fun e => h (e ▸ .tail _ (.tail _ (.tail _ (.tail _ (.tail _ (.head _))))))⟩
noncomputable def Itz3 (K : PySem.W.Frag) (t1 : Bool) (a1 : Addr) (t2 : Bool) (a2 : Addr) (t3 : Bool) (a3 : Addr) (n : Nat) : It where
  go := fun i H => i < n /\ ∃ xs ys zs, SrcSq t1 K H a1 xs /\ SrcSq t2 K H a2 ys /\ SrcSq t3 K H a3 zs /\ n = min xs.length (min ys.length zs.length)
  yld := fun i H x H' => ∃ p x1 x2 x3, H p = none /\ H' = upd H p (.tup [x1, x2, x3]) /\ x = .ref p /\ ∀ xs ys zs, SrcSq t1 K H a1 xs -> SrcSq t2 K H a2 ys -> SrcSq t3 K H a3 zs -> xs[i]? = some x1 /\ ys[i]? = some x2 /\ zs[i]? = some x3
  stop := fun i H => n <= i /\ ∃ xs ys zs, SrcSq t1 K H a1 xs /\ SrcSq t2 K H a2 ys /\ SrcSq t3 K H a3 zs /\ n = min xs.length (min ys.length zs.length)
theorem turn_zip3 {P : Program} {w : World} (t1 : Bool) (a1 : Nat) (t2 : Bool) (a2 : Nat) (t3 : Bool) (a3 : Nat) (n N : Nat) (l1 : a1 < N) (l2 : a2 < N) (l3 : a3 < N) :
    Turn P w K (.Tuple elts ek ep) (Itz3 K t1 a1 t2 a2 t3 a3 n) ([N, N + 1, N + 2, N + 3, N + 4, N + 5] : List Nat) (N + 5 : Nat)
      (fun i h => i <= n /\ IsZip h (N + 5 : Nat) (N + 3 : Nat) (N + 4 : Nat) .none /\ IsTri h (N + 3 : Nat) (.ref N) (.ref (N + 1 : Nat)) (.ref (N + 2 : Nat)) /\ (∃ a b c, IsTri h (N + 4 : Nat) a b c) /\ SrcIt t1 h N a1 i /\ SrcIt t2 h (N + 1 : Nat) a2 i /\ SrcIt t3 h (N + 2 : Nat) a3 i) where
  mem := by simp
  obj := fun i h st b hb => by
    obtain ⟨-, h5, h3, ⟨a, c, d, h4⟩, h0, h1, h2⟩ := st
    simp only [List.mem_cons, List.not_mem_nil, or_false] at hb
    rcases hb with rfl | rfl | rfl | rfl | rfl | rfl
    . exact h0.obj
    . exact h1.obj
    . exact h2.obj
    . exact ⟨_, h3, fun v z => by cases z⟩
    . exact ⟨_, h4, fun v z => by cases z⟩
    . exact ⟨_, h5, fun v z => by cases z⟩
  keep := fun i h h' st k => by
    obtain ⟨hi, h5, h3, ⟨a, c, d, h4⟩, h0, h1, h2⟩ := st
    exact ⟨hi, k _ (by simp) _ h5, k _ (by simp) _ h3, ⟨a, c, d, k _ (by simp) _ h4⟩, h0.at fun o e => k _ (by simp) o e, h1.at fun o e => k _ (by simp) o e, h2.at fun o e => k _ (by simp) o e⟩
  item := by
    intro X hP hw hK hc i pins s σ H E I hf st hg
    subst hP hw hK
    obtain ⟨hi, h5, h3, ⟨a, c, d, h4⟩, h0, h1, h2⟩ := st
    obtain ⟨hn, xs, ys, zs, q1, q2, q3, en⟩ := hg
    obtain ⟨us, ru, hu, zu⟩ := q1.heap I
    obtain ⟨ws, rw', hw', zw⟩ := q2.heap I
    obtain ⟨os, ro, ho', zo⟩ := q3.heap I
    have lu := ru.length
    have lw := rw'.length
    have lo := ro.length
    have D1 := src_draws (prog := X.prog) (w := X.w) (A := X.A.in1) (t := t1) (I.ok.hd hc) N a1 (ne_ (by ac_rfl)) us.toArray
    have D2 := src_draws (prog := X.prog) (w := X.w) (A := X.A.in1) (t := t2) (I.ok.hd hc) (N + 1) a2 (ne_ (by ac_rfl)) ws.toArray
    have D3 := src_draws (prog := X.prog) (w := X.w) (A := X.A.in1) (t := t3) (I.ok.hd hc) (N + 2) a3 (ne_ (by ac_rfl)) os.toArray
    have hT : s.TypeIs (.ref (N + 5 : Nat)) "zip" := ⟨_, h5, rfl⟩
    unfold pyNext
    refine wpAny_bind (wpAny_attempt (wpAny_callSpecial?_slot (name := Str.ofString "__next__") hT F.slot_zip_next (wpAny_call_entry F.slot_zip_next hT F.entry_zip_next
      (zip3_item D1 D2 D3 l1 l2 l3 h5 h3 h4 ⟨h0, hu⟩ ⟨h1, hw'⟩ ⟨h2, ho'⟩ (by simp; lia) (by simp; lia) (by simp; lia) fun x y z h' tk p1 p2 p3 g5 g4 g0 g1 g2 gT kk => wpAny_pure ?_) (F.args_zip_next_1 _))))
    obtain ⟨x1, hx1⟩ : ∃ x1, xs[i]? = some x1 := ⟨xs[i]'(by lia), List.getElem?_eq_getElem _⟩
    obtain ⟨x2, hx2⟩ : ∃ x2, ys[i]? = some x2 := ⟨ys[i]'(by lia), List.getElem?_eq_getElem _⟩
    obtain ⟨x3, hx3⟩ : ∃ x3, zs[i]? = some x3 := ⟨zs[i]'(by lia), List.getElem?_eq_getElem _⟩
    obtain ⟨u1, hu1, r1⟩ := ru.get hx1
    obtain ⟨u2, hu2, r2⟩ := rw'.get hx2
    obtain ⟨u3, hu3, r3⟩ := ro.get hx3
    have e1 : u1 = x := by
      have : us[i]? = some x := by simpa using p1
      rw [hu1] at this; cases this; rfl
    have e2 : u2 = y := by
      have : ws[i]? = some y := by simpa using p2
      rw [hu2] at this; cases this; rfl
    have e3 : u3 = z := by
      have : os[i]? = some z := by simpa using p3
      rw [hu3] at this; cases this; rfl
    subst e1 e2 e3
    refine ⟨_, rfl, wpAny_letOwnedTupleGo_zip (s := { s with heap := h', toks := tk }) g5 fun h'' g5' sb => ?_⟩
    replace sb : Heap.SameBut (N + 5 : Nat) h' h'' := sb
    have lz : N + 5 < s.heap.objs.size := Heap.lt_size h5
    have kk' : ∀ b o, b ∉ ([N, N + 1, N + 2, N + 3, N + 4, N + 5] : List Nat) -> s.heap.get? b = some o -> h''.get? b = some o := fun b o hb e => by
      obtain ⟨c1, c2, c3, c4, c5⟩ := nin5 hb
      exact (sb.2 b c5).trans (kk b o c1 c2 c3 c4 c5 e)
    have I1 := turnedT (t' := tk) (vs := [x1, x2, x3]) (its := [u1, u2, u3]) I kk' hf (fun b hb => by
      have : b = N \/ b = N + 1 \/ b = N + 2 \/ b = N + 3 \/ b = N + 4 \/ b = N + 5 := by simpa using hb
      exact Nat.lt_of_le_of_lt (show (b : Nat) <= N + 5 by rcases this with h | h | h | h | h | h <;> rw [h] <;> simp) lz) ((sb.2 _ (ne_ (by ac_rfl))).trans gT) (by simp; rw [sizeLine_eq]; decide) (.cons r1 (.cons r2 (.cons r3 .nil)))
    refine ⟨.ref s.heap.objs.size, _, I1, rfl, ⟨_, x1, x2, x3, I.hok.fresh (Nat.le_refl _), rfl, rfl, fun xs' ys' zs' b1 b2 b3 => ?_⟩, ⟨hn, g5', (sb.2 _ (ne_ (by ac_rfl))).trans (kk _ _ (ne_ (by ac_rfl)) (ne_ (by ac_rfl)) (ne_ (by ac_rfl)) (ne_ (by ac_rfl)) (ne_ (by ac_rfl)) h3), ⟨_, _, _, (sb.2 _ (ne_ (by ac_rfl))).trans g4⟩, SrcIt.at g0.1 fun o e => (sb.2 _ (ne_ (by ac_rfl))).trans e, SrcIt.at g1.1 fun o e => (sb.2 _ (ne_ (by ac_rfl))).trans e, SrcIt.at g2.1 fun o e => (sb.2 _ (ne_ (by ac_rfl))).trans e⟩, fun b hb => ?_⟩
    . rw [SrcSq.inj I b1 q1, SrcSq.inj I b2 q2, SrcSq.inj I b3 q3]
      exact ⟨hx1, hx2, hx3⟩
    . have : b = N \/ b = N + 1 \/ b = N + 2 \/ b = N + 3 \/ b = N + 4 \/ b = N + 5 := by simpa using hb
      rw [upd_ne (Nat.ne_of_lt (Nat.lt_of_le_of_lt (show (b : Nat) <= N + 5 by rcases this with h | h | h | h | h | h <;> rw [h] <;> simp) lz))]
      exact (hf b hb).1
  done := by
    intro X hP hw hK hc i pins s σ H E I hf st hg
    subst hP hw hK
    obtain ⟨hi, h5, h3, ⟨a, c, d, h4⟩, h0, h1, h2⟩ := st
    obtain ⟨hn, xs, ys, zs, q1, q2, q3, en⟩ := hg
    obtain ⟨us, ru, hu, zu⟩ := q1.heap I
    obtain ⟨ws, rw', hw', zw⟩ := q2.heap I
    obtain ⟨os, ro, ho', zo⟩ := q3.heap I
    have lu := ru.length
    have lw := rw'.length
    have lo := ro.length
    have D1 := src_draws (prog := X.prog) (w := X.w) (A := X.A.in1) (t := t1) (I.ok.hd hc) N a1 (ne_ (by ac_rfl)) us.toArray
    have D2 := src_draws (prog := X.prog) (w := X.w) (A := X.A.in1) (t := t2) (I.ok.hd hc) (N + 1) a2 (ne_ (by ac_rfl)) ws.toArray
    have D3 := src_draws (prog := X.prog) (w := X.w) (A := X.A.in1) (t := t3) (I.ok.hd hc) (N + 2) a3 (ne_ (by ac_rfl)) os.toArray
    have hT : s.TypeIs (.ref (N + 5 : Nat)) "zip" := ⟨_, h5, rfl⟩
    unfold pyNext
    refine wpAny_bind (wpAny_attempt (wpAny_callSpecial?_slot (name := Str.ofString "__next__") hT F.slot_zip_next (wpAny_call_entry F.slot_zip_next hT F.entry_zip_next
      (zip3_end D1 D2 D3 l1 l2 l3 h5 h3 h4 ⟨h0, hu⟩ ⟨h1, hw'⟩ ⟨h2, ho'⟩ (by simp; lia) fun h' e tk kk he => ?_) (F.args_zip_next_1 _))))
    obtain ⟨o, ho, hce⟩ := he
    refine wpAny_bind (wpAny_isInstance (T := "StopIteration") (b := true) ⟨o, ho, hce⟩ isSubtype_stop (wpAny_pure ⟨rfl, turnedL I (fun b o hb e => ?_) hf⟩))
    obtain ⟨c1, c2, c3, c4, c5⟩ := nin5 hb
    exact kk b o c1 c2 c3 c4 c5 e
  self := fun _ _ _ _ _ st h => wpAny_pyIter_zip st.2.1 h
theorem boot_zip : bootBuiltins "zip" = some (.type "zip") := by decide +kernel
section
variable {X : Cx} {elts : List Expr} {ek : Nat} {ep : Pos}
theorem pi_zip3 {a b c : Expr} {ta : TA} (hg : Gl X "zip") (hm : X.mg "zip" = none) (ha : PA X [a, b, c] ta) (hs :autoParam (starEach [a, b, c] X.env = (false, eval a X.env) :: starEach [b, c] X.env) zu2._auto_1) (hs2 :autoParam ((backTo pos (starEach [b, c] X.env)).any (·.1) = false) zu2._auto_1) :
    PI X (.Tuple elts ek ep) (.Call (.Name "zip" p) [a, b, c] [] pos) (fun σ H R => ta σ H fun vs H1 => ∃ t1 a1 xs t2 a2 ys t3 a3 zs, vs = [.ref a1, .ref a2, .ref a3] /\ SrcSq t1 X.K H1 a1 xs /\ SrcSq t2 X.K H1 a2 ys /\ SrcSq t3 X.K H1 a3 zs /\ R (Itz3 X.K t1 a1 t2 a2 t3 a3 (min xs.length (min ys.length zs.length))) H1) := by
  intro pins s σ H R I h
  refine Call_ (ld_blt I hg hm boot_zip (PyProof.Rows.callWith_type1 (thn (ha pos pins s σ H _ I h) fun us s1 ⟨vs, H1, I1, r1, q1⟩ => ?_) hs hs2))
  obtain ⟨t1, a1, xs, t2, a2, ys, t3, a3, zs, e, q1, q2, q3, q⟩ := q1
  subst e
  cases r1 with
  | cons r rr =>
    cases rr with
    | cons r' rr =>
      cases rr with
      | cons r'' rr =>
        cases rr
        cases r
        cases r'
        cases r''
        obtain ⟨us, ru, hu, -⟩ := q1.heap I1
        obtain ⟨ws, rw', hw', -⟩ := q2.heap I1
        obtain ⟨os, ro, ho', -⟩ := q3.heap I1
        refine call_zip3 hu hw' ho' fun h' g5 g3 g4 g0 g1 g2 kk => wpAny_pyIter_zip g5 ⟨_, _, _, _, H1, rfl, I1.kept (t' := s1.toks) kk, turn_zip3 t1 a1 t2 a2 t3 a3 (min xs.length (min ys.length zs.length)) s1.heap.objs.size hu.lt hw'.lt ho'.lt, ⟨Nat.zero_le _, g5, g3, ⟨_, _, _, g4⟩, g0, g1, g2⟩, fun b hb => ?_, q⟩
        have : b = s1.heap.objs.size \/ b = s1.heap.objs.size + 1 \/ b = s1.heap.objs.size + 2 \/ b = s1.heap.objs.size + 3 \/ b = s1.heap.objs.size + 4 \/ b = s1.heap.objs.size + 5 := by simpa using hb
        have le : s1.heap.objs.size <= b := by rcases this with h | h | h | h | h | h <;> rw [h] <;> simp
        exact I1.fpOk le (I1.hok.fresh le)
end
theorem src_of {G : Hp} {x : V} {d : D} (r : RepD K G x d) (e : dItems [d] = some es) : ∃ t a xs, x = .ref a /\ (∀ H, Fz G H -> SrcSq t K H a xs) /\ RepL K G xs es := by
  cases d <;> simp only [dItems] at e <;> try cases e
  . obtain ⟨a, xs, rfl, ha, r⟩ := r
    exact ⟨false, a, xs, rfl, fun H f => SqL.of (f _ _ ha), r⟩
  . obtain ⟨a, xs, rfl, ha, r⟩ := r
    exact ⟨true, a, xs, rfl, fun H f => SqT.of (f _ _ ha), r⟩
  . obtain ⟨a, rfl, ha⟩ := r
    exact ⟨false, a, _, rfl, fun H f => f.sql ha, RepL.ints _⟩
noncomputable def zip2D (xs ys : List D) : List D := List.zipWith (fun x y => D.tup [x, y]) xs ys
noncomputable def zip3D (xs ys zs : List D) : List D := List.zipWith (fun x (p : D × D) => D.tup [x, p.1, p.2]) xs (List.zip ys zs)
noncomputable def iZ2 (ma : MA) : MA := fun ρ => (ma ρ).bind fun p => match p.1 with
  | [a, b] => (dItems [a]).bind fun xs => (dItems [b]).bind fun ys => some (zip2D xs ys, p.2)
  | _ => none
noncomputable def iZ3 (ma : MA) : MA := fun ρ => (ma ρ).bind fun p => match p.1 with
  | [a, b, c] => (dItems [a]).bind fun xs => (dItems [b]).bind fun ys => (dItems [c]).bind fun zs => some (zip3D xs ys zs, p.2)
  | _ => none
theorem it_zip3 {a b c : Expr} {ma : MA} (hm : X.mg "zip" = none) (ha : SA X [a, b, c] ma) (hg :autoParam (Gl X "zip") zu2._auto_1) (hs :autoParam (starEach [a, b, c] X.env = (false, eval a X.env) :: starEach [b, c] X.env) zu2._auto_1) (hs2 :autoParam ((backTo pos (starEach [b, c] X.env)).any (·.1) = false) zu2._auto_1) :
    SIt X (.Tuple elts ek ep) (.Call (.Name "zip" p) [a, b, c] [] pos) (iZ3 ma) := by
  obtain ⟨t, pa, sa⟩ := ha
  refine ⟨_, pi_zip3 hg hm pa hs hs2, fun B G H σ ρ ds ρ' Q I hm k => ?_⟩
  obtain ⟨⟨es, ρ1⟩, e1, h2⟩ := bind_inv hm
  dsimp only at h2
  refine sa B G H σ ρ es ρ1 _ I e1 fun G1 H1 vs I1 f1 r1 => ?_
  split at h2
  . obtain ⟨xs, ex, h2⟩ := bind_inv h2
    obtain ⟨ys, ey, h2⟩ := bind_inv h2
    obtain ⟨zs, ez, h2⟩ := bind_inv h2
    cases h2
    obtain ⟨x, us, rfl, rx, r2⟩ := r1
    obtain ⟨y, ws, rfl, ry, r3⟩ := r2
    obtain ⟨z, os, rfl, rz, r4⟩ := r3
    cases (show os = [] from r4)
    obtain ⟨t1, a1, us, rfl, s1, c1⟩ := src_of rx ex
    obtain ⟨t2, a2, ws, rfl, s2, c2⟩ := src_of ry ey
    obtain ⟨t3, a3, os, rfl, s3, c3⟩ := src_of rz ez
    have n1 := c1.length
    have n2 := c2.length
    have n3 := c3.length
    refine ⟨t1, a1, us, t2, a2, ws, t3, a3, os, rfl, s1 _ I1.fz, s2 _ I1.fz, s3 _ I1.fz, k _ G1 H1 I1 f1 ⟨fun H i f hi => ?_, fun H i x H' f y d e => ?_, fun H i f hi => ?_⟩⟩
    . exact ⟨by simp [zip3D] at hi; lia, us, ws, os, s1 _ f, s2 _ f, s3 _ f, rfl⟩
    . obtain ⟨p, x1, x2, x3, hp, eh, ex', q⟩ := y
      obtain ⟨q1, q2, q3⟩ := q us ws os (s1 _ f) (s2 _ f) (s3 _ f)
      simp only [zip3D, List.zip, List.getElem?_zipWith] at e
      have hi : i < us.length /\ i < ws.length /\ i < os.length := ⟨(List.getElem?_eq_some_iff.mp q1).1, (List.getElem?_eq_some_iff.mp q2).1, (List.getElem?_eq_some_iff.mp q3).1⟩
      have g1 : xs[i]? = some (xs[i]'(by lia)) := List.getElem?_eq_getElem _
      have g2 : ys[i]? = some (ys[i]'(by lia)) := List.getElem?_eq_getElem _
      have g3 : zs[i]? = some (zs[i]'(by lia)) := List.getElem?_eq_getElem _
      rw [g1, g2, g3] at e
      cases e
      obtain ⟨v1, b1, r1⟩ := c1.get g1
      obtain ⟨v2, b2, r2⟩ := c2.get g2
      obtain ⟨v3, b3, r3⟩ := c3.get g3
      rw [q1] at b1; cases b1
      rw [q2] at b2; cases b2
      rw [q3] at b3; cases b3
      exact .inr ⟨p, _, _, hp, eh, ex', rfl, ⟨_, _, rfl, r1, _, _, rfl, r2, _, _, rfl, r3, rfl⟩⟩
    . exact ⟨by simp [zip3D] at hi; lia, us, ws, os, s1 _ f, s2 _ f, s3 _ f, rfl⟩
  . cases h2
end M
namespace M
open L2 PySem PySem.Spec
open PyProof.Rows hiding St
noncomputable def tPick (K : PySem.W.Frag) (f g : Addr) (ti t1 t2 : TE) : TE := fun σ H Q => tOp (rIx K) (tLst (tCons (tC (.ref f)) (tCons (tC (.ref g)) tNil))) ti σ H fun v H1 => (v = .ref f /\ t1 σ H1 Q) \/ (v = .ref g /\ t2 σ H1 Q)
section
variable {X : Cx} {k1 k2 : Nat} {f g : Addr} {fd1 fd2 : FuncData} {ps1 ps2 : List Str} {sp1 sp2 : Sp} {x y : Str} {p1 p2 pl pb pos : Pos} {b e : Expr} {es : List Expr} {tb : TE} {t : TA}
theorem pe_pick2 (F1 : FnOk X.prog X.w X.K X.mg X.base CX0 k1 f fd1 ps1 sp1) (F2 : FnOk X.prog X.w X.K X.mg X.base CX0 k2 g fd2 ps2 sp2) (r1 : Room k1 X.A) (r2 : Room k2 X.A) (g1 : Gl X x) (g2 : Gl X y) (m1 : X.mg x = some (.ref f)) (m2 : X.mg y = some (.ref g))
    (c1 : PySem.W.keepIn X.K (.ref f) = true) (c2 : PySem.W.keepIn X.K (.ref g) = true) (b1 : Binds X.K fd1 ps1 []) (b2 : Binds X.K fd2 ps2 []) (hb : PE X b tb) (hs : PlainIx b) (ha : PA X (e :: es) t)
    (d1 : (x == ("__debug__" : Str)) = false) (d2 : (y == ("__debug__" : Str)) = false) (hl : starEach [.Name x p1, .Name y p2] X.env = (false, eval (.Name x p1) X.env) :: starEach [.Name y p2] X.env) (hl2 : starEach [.Name y p2] X.env = (false, eval (.Name y p2) X.env) :: starEach [] X.env)
    (he : starEach (e :: es) X.env = (false, eval e X.env) :: starEach es X.env) (hpl : (backTo pos (starEach es X.env)).any (·.1) = false)
    (hc : eval (.Call (.Subscript (.List [.Name x p1, .Name y p2] pl) b pb) (e :: es) [] pos) X.env = (do callWith pos (<- eval (.Subscript (.List [.Name x p1, .Name y p2] pl) b pb) X.env) [] (backTo pos (starEach (e :: es) X.env)) (backToKw pos (keywordEach [] X.env)))) :
    PE X (.Call (.Subscript (.List [.Name x p1, .Name y p2] pl) b pb) (e :: es) [] pos) (tPick X.K f g tb (tCall sp1 [] E0 t) (tCall sp2 [] E0 t)) := by
  intro pins s σ H Q I h
  have pf := pe_ix (pos := pb) (ix_seq (X := X)) (pe_lst (pos := pl) (pa_cons (pe_glob (pos := p1) g1 m1 (show RelV (.ref f) (.ref f) from rfl) d1) (pa_cons (pe_glob (pos := p2) g2 m2 (show RelV (.ref g) (.ref g) from rfl) d2) pa_nil hl2) hl)) hb hs
  refine Call_ (thn (pf pins s σ H _ I h) fun u s1 ⟨v, H1, I1, r, q⟩ => ?_) hc
  rcases q with ⟨rfl, q⟩ | ⟨rfl, q⟩
  . cases r
    refine PySem.W.callWith_K (h₀ := X.base) I1.ok.mod.kin c1 (thn (ha pos pins s1 σ H1 _ I1 q) fun us s2 ⟨vs, H2, I2, r2', q2⟩ => ⟨I2.kIn, ?_⟩) he hpl
    exact run_fn F1 r1 b1 .nil pass0 I2 r2' q2
  . cases r
    refine PySem.W.callWith_K (h₀ := X.base) I1.ok.mod.kin c2 (thn (ha pos pins s1 σ H1 _ I1 q) fun us s2 ⟨vs, H2, I2, r2', q2⟩ => ⟨I2.kIn, ?_⟩) he hpl
    exact run_fn F2 r2 b2 .nil pass0 I2 r2' q2
end
noncomputable def ePick (F1 F2 : List D -> Option Sl) (mi : ME) (ma : MA) : ME := fun ρ => (mi ρ).bind fun p => match p.1 with
  | .int i => if i = 0 then eCall F1 ma p.2 else if i = 1 then eCall F2 ma p.2 else none
  | _ => none
section
variable {X : Cx} {k1 k2 k' n : Nat} {F1 F2 : List D -> Option Sl} {x y : Str} {p1 p2 pl pb pos : Pos} {b e : Expr} {es : List Expr} {mi : ME} {ma : MA} {F : List D -> Option Sl} {t : TA}
theorem call_tail (sa : ∀ B G H σ ρ ds ρ' (Q : List V -> Hp -> Prop), SI X.K B G H σ ρ -> ma ρ = some (ds, ρ') -> (∀ G' H' vs, SI X.K B G' H' σ ρ' -> Fz G G' -> RepL X.K G' vs ds -> Q vs H') -> t σ H Q) (hlen : ∀ ρ as ρ', ma ρ = some (as, ρ') -> as.length = n)
    {B : Bs} {G H : Hp} {σ : St} {ρ : R} {d : D} {ρ' : R} {Q : VK} (I : SI X.K B G H σ ρ) (hm : eCall F ma ρ = some (d, ρ')) (kk : ∀ G' H' v, SI X.K B G' H' σ ρ' -> Fz G G' -> RepD X.K G' v d -> Q v H') : tCall (spP X.K n F) [] E0 t σ H Q := by
  obtain ⟨⟨as, ρ1⟩, e1, hm⟩ := bind_inv hm
  obtain ⟨r, e2, hm⟩ := bind_inv hm
  refine sa B G H σ ρ as ρ1 _ I e1 fun G1 H1 vs I1 f1 r1 => ?_
  show spP X.K n F (vs ++ []) H1 Q E0
  rw [List.append_nil]
  refine ⟨G1, as, r, e2, hlen ρ as ρ1 e1, I1.fz, r1, fun G2 H2 v f2 fz2 nw kp rr => ?_⟩
  have I2 := I1.grow f2 fz2 nw kp
  cases r with
  | val d' => cases hm; exact kk G2 H2 v I2 (f1.trans f2) rr
  | own ds =>
    cases hm
    obtain ⟨l, xs, rfl, g3, h3, r3, b3⟩ := rr
    obtain ⟨I3, f3, r4⟩ := frz_of I2 g3 h3 r3 (I1.there l b3) (I1.own_ne b3 nw kp)
    exact kk _ H2 _ I3 (f1.trans (f2.trans f3)) r4
  | emp => cases hm
  | two _ _ => cases hm
  | tre _ => cases hm
  | ptr _ => cases hm
  | par _ => cases hm
theorem se_pick2 (fd1 : FD X.prog X.w X.K X.mg X.base k1 x (spP X.K n F1)) (fd2 : FD X.prog X.w X.K X.mg X.base k2 y (spP X.K n F2)) (hr : Room k' X.A) (hi : SE X b mi) (ha : SA X (e :: es) ma) (hlen : ∀ ρ as ρ', ma ρ = some (as, ρ') -> as.length = n) (hk1 :autoParam (k1 <= k') zu1._auto_1) (hk2 :autoParam (k2 <= k') zu1._auto_1)
    (g1 :autoParam (Gl X x) zu2._auto_1) (g2 :autoParam (Gl X y) zu2._auto_1) (hs :autoParam (PlainIx b) zu6._auto_1) (d1 :autoParam ((x == ("__debug__" : Str)) = false) zu1._auto_1) (d2 :autoParam ((y == ("__debug__" : Str)) = false) zu1._auto_1)
    (hl :autoParam (starEach [.Name x p1, .Name y p2] X.env = (false, eval (.Name x p1) X.env) :: starEach [.Name y p2] X.env) zu2._auto_1) (hl2 :autoParam (starEach [.Name y p2] X.env = (false, eval (.Name y p2) X.env) :: starEach [] X.env) zu2._auto_1)
    (he :autoParam (starEach (e :: es) X.env = (false, eval e X.env) :: starEach es X.env) zu2._auto_1) (hpl :autoParam ((backTo pos (starEach es X.env)).any (·.1) = false) zu2._auto_1)
    (hc :autoParam (eval (.Call (.Subscript (.List [.Name x p1, .Name y p2] pl) b pb) (e :: es) [] pos) X.env = (do callWith pos (<- eval (.Subscript (.List [.Name x p1, .Name y p2] pl) b pb) X.env) [] (backTo pos (starEach (e :: es) X.env)) (backToKw pos (keywordEach [] X.env)))) zu2._auto_1) :
    SE X (.Call (.Subscript (.List [.Name x p1, .Name y p2] pl) b pb) (e :: es) [] pos) (ePick F1 F2 mi ma) := by
  obtain ⟨f, fdd, ps, G0, a1, a2, a3⟩ := fd1.ex
  obtain ⟨g, gdd, qs, G1, c1, c2, c3⟩ := fd2.ex
  obtain ⟨t, pa, sa⟩ := ha
  obtain ⟨ti, pi, si⟩ := hi
  refine ⟨_, pe_pick2 G0 G1 (hr.mono hk1) (hr.mono hk2) g1 g2 a1 c1 a2 c2 a3 c3 pi hs pa d1 d2 hl hl2 he hpl hc, fun B G H σ ρ d ρ' Q I hm kk => ?_⟩
  obtain ⟨⟨di, ρ1⟩, e1, hm⟩ := bind_inv hm
  dsimp only at hm
  refine ⟨by simp; rw [sizeLine_eq]; decide, fun p hp => ?_⟩
  have I0 : SI X.K B (upd G p (.lst [.ref f, .ref g])) (upd H p (.lst [.ref f, .ref g])) σ ρ := I.allocF hp _
  have f0 : Fz G (upd G p (.lst [.ref f, .ref g])) := Fz.new (I.fz.free hp) _
  refine si B _ _ σ ρ di ρ1 _ I0 e1 fun G2 H2 v I2 f2 rv => ?_
  split at hm
  . rename_i i
    cases (show v = V.int i from rv)
    have sq : SqL X.K H2 p [.ref f, .ref g] := SqL.of (I2.fz _ _ (f2 _ _ upd_same))
    split at hm
    . rename_i h0
      subst h0
      exact .inl ⟨p, _, 0, .ref f, rfl, rfl, sq, rfl, .inl ⟨rfl, call_tail sa hlen I2 hm fun G' H' v' I' f' r' => kk G' H' v' I' (f0.trans (f2.trans f')) r'⟩⟩
    . split at hm
      . rename_i h1
        subst h1
        exact .inl ⟨p, _, 1, .ref g, rfl, rfl, sq, rfl, .inr ⟨rfl, call_tail sa hlen I2 hm fun G' H' v' I' f' r' => kk G' H' v' I' (f0.trans (f2.trans f')) r'⟩⟩
      . cases hm
  . cases hm
end
theorem ss_never {X : Cx} {st : Stmt} : SS X st (fun _ => none) := ⟨_, ps_never, fun B G H σ ρ fl ρ' E I hm k => by cases hm⟩
noncomputable def isN : D -> Bool
  | .non => true
  | _ => false
theorem isN_ok {K : PySem.W.Frag} {G : Hp} {x : V} {d : D} (r : RepD K G x d) : decide (x = .non) = isN d := by
  cases d with
  | non => cases (show x = V.non from r); rfl
  | bl b => cases (show x = V.bl b from r); rfl
  | int i => cases (show x = V.int i from r); rfl
  | str s => cases (show x = V.str s from r); rfl
  | lst ds => obtain ⟨a, xs, rfl, -⟩ := r; rfl
  | tup ds => obtain ⟨a, xs, rfl, -⟩ := r; rfl
  | scr ns => obtain ⟨a, rfl, -⟩ := r; rfl
  | exc c => obtain ⟨a, C, rfl, -⟩ := r; rfl
  | dic _ _ => obtain ⟨a, ys, rfl, -⟩ := r; rfl
  | dit _ _ => obtain ⟨a, ys, o, xs, rfl, -⟩ := r; rfl
noncomputable def dNotN : D -> D -> Option D
  | a, .non => some (.bl (!isN a))
  | _, _ => none
theorem v2_notN {X : Cx} : V2 X (fun x y H Q => y = .non /\ Q (.bl (!decide (x = .non))) H) dNotN := by
  intro B G H σ ρ x y a b d Q I ra rb hf k
  cases b <;> simp only [dNotN] at hf <;> cases hf
  exact ⟨rb, k G H _ I (Fz.refl G) (by rw [isN_ok ra]; rfl)⟩
section
variable {X : Cx} {a b : Expr} {ma mb : ME} {pos : Pos}
theorem se_isNot (ha : SE X a ma) (hb : SE X b mb) (hm :autoParam (behindInMarks .IsNot b = false) zu2._auto_1) : SE X (.Compare a [.IsNot] [b] pos) (m2 dNotN ma mb) := se_cmp op_notN v2_notN ha hb hm
end
noncomputable def onlyP (b : Nat) (ρ : R) : Bool := match ρ[b]? with
  | some (.par _) => noOwn (ρ.set b .emp)
  | _ => false
noncomputable def parAt (b : Nat) (ρ : R) : List D := match ρ[b]? with
  | some (.par cs) => cs
  | _ => []
noncomputable def turnP (b : Nat) (g : D -> R -> Option R) (mt : MT) (me : ME) : D -> R -> Option (Option D × R) := fun d ρ => (g d ρ).bind fun ρ1 => (mt ρ1).bind fun p => if p.1 then (me p.2).bind fun q => if onlyP b q.2 then some (some q.1, q.2) else none else if onlyP b p.2 then some (none, p.2) else none
end M
namespace M
open L2 PySem
theorem intsOf_inv : ∀ {ds : List D} {ns : List Int}, intsOf ds = some ns -> ds = ns.map .int
  | [], _, h => by cases h; rfl
  | .int i :: ds, _, h => by
    obtain ⟨ms, e1, e2⟩ := map_inv h
    cases e2
    rw [intsOf_inv e1]; rfl
  | .non :: _, _, h => by cases h
  | .bl _ :: _, _, h => by cases h
  | .str _ :: _, _, h => by cases h
  | .lst _ :: _, _, h => by cases h
  | .tup _ :: _, _, h => by cases h
  | .scr _ :: _, _, h => by cases h
  | .exc _ :: _, _, h => by cases h
  | (.dic _ _) :: _, _, h => by cases h
  | (.dit _ _) :: _, _, h => by cases h
section
variable {X : Cx} {a b : Expr} {ma mb : ME} {pos : Pos}
theorem se_globE {x : Str} {i : Int} (hm : ∃ t, X.mg x = some (.int i t)) (hg :autoParam (Gl X x) zu2._auto_1) (hd :autoParam ((x == ("__debug__" : Str)) = false) zu1._auto_1) : SE X (.Name x pos) (eC (.int i)) :=
  let ⟨_, e⟩ := hm; se_globI e hg hd
end
end M
namespace M
open L2 PySem PySem.Spec
open PyProof.Rows hiding St
variable {A : Around} {E : Value -> Shared -> Prop} {s : Shared} {K : W.Frag} {a C e CS f : Addr} {Q : Unit -> Shared -> Prop} {prog : Program} {w : World} {tp c cN ev cv oc : Value} {h h' : Heap} {o : Obj} {b : Bool} {H : Hp} {X : Cx} {vs : List Value} {tk j : Nat} {y qual x n d : Str} {pos' pos : Pos} {N : List Str} {dN od : Option Addr} {es : List DictEntry} {cd : ClassData} {outer : List Env} {fd : FuncData} {i : Expr} {pins' : List (Addr × Obj)} {body : List Stmt} {tab : List (Str × Bool)}
noncomputable def iR2L (ma : MA) : MA := fun ρ => (ma ρ).bind fun p => match p.1 with
  | [.int i, .int j] => some (rangeD i (j - i).toNat, p.2)
  | _ => none
theorem check_ga {M : Model} {nameV : Value} (kin : K.In s.heap) (J : ∀ M, W.Looks M s.heap (typeOf (.ref a)) (.ref C)) (hb : W.exmOne K (.ref C) (.type "BaseException") = some true) (h : Q () s) :
    wpAny M A (checkBuiltinCall "BaseException.__getattribute__" { pos := [.ref a, nameV] }) Q E s := by
  have e1 : builtinKind "BaseException.__getattribute__" = some .slot := by decide +kernel
  have e2 : splitId "BaseException.__getattribute__" = some ("BaseException", "__getattribute__") := by decide +kernel
  have e3 := F.args_bexc_ga (.ref a) nameV
  unfold argsOk at e3
  unfold checkBuiltinCall
  rw [e1, e2]
  dsimp only
  refine wpAny_bind (wpAny_bind (J _ A _ _ s (fun _ _ q => q) ((W.exm_cls kin hb).2 A _ _ s (fun _ _ q => q) ?_)))
  refine wpAny_ite_false (by decide) ?_
  generalize Manifest.signature? "BaseException.__getattribute__" = o at e3 ⊢
  cases o with
  | none => exact wpAny_pure h
  | some sig => dsimp only at e3 ⊢; rw [e3]; exact wpAny_pure h
theorem class_get' {R : Result -> Shared -> Prop} (kin : K.In s.heap) (J : ∀ M, W.Looks M s.heap (typeOf (.ref a)) (.ref C)) (ho : W.mroIn K C (.type "object") = some true)
    (h : R (.ok (.ret (.ref C))) s) : codeAny (model prog w) A (.call (.builtin "getset_descriptor.__get__") { pos := [.builtin "object.__class__", .ref a, tp] }) R s := by
  refine codeAny_call_builtin W.KF.slot_gs.plain W.KF.entry_gs (W.KF.slot_gs.check _ _ _ _ _ _ _ _ W.KF.type_class (W.KF.args_gs _ _ _) ?_)
  unfold Builtin.«getset_descriptor.__get__» Builtin.Getset_descriptor.descrGet
  rw [W.dga_obj]
  refine wpAny_bind (wpAny_pure ?_)
  dsimp only
  unfold Builtin.Getset_descriptor.descrGetter
  dsimp only
  refine wpAny_bind ?_
  unfold Builtin.Getset_descriptor.descrCheckInstance
  dsimp only
  refine wpAny_bind ?_
  unfold Builtin.Getset_descriptor.descrNameAndClass
  dsimp only
  rw [W.KF.owner_class]
  refine W.nd_pure ?_
  dsimp only
  refine wpAny_bind (wpAny_bind (J _ _ _ _ _ (fun _ _ q => q) (W.looks_mroIn kin ho _ _ _ _ (fun _ _ q => q) ?_)))
  refine wpAny_ite_false rfl (wpAny_pure (wpAny_pure ?_))
  refine ⟨Code.quiet_builtin _ (by decide +kernel), codeAny_builtin W.KF.entry_class ?_⟩
  unfold Builtin.«object.__class__»
  dsimp only
  refine wpAny_bind ?_
  unfold shownTypeOf
  refine wpAny_bind (J _ _ _ _ _ (fun _ _ q => q) (wpAny_ite_false rfl (wpAny_pure (wpAny_pure h))))
theorem exc_class {Q : Option Value -> Shared -> Prop} (kin : K.In s.heap) (J : ∀ M, W.Looks M s.heap (typeOf (.ref a)) (.ref C))
    (hb : W.exmOne K (.ref C) (.type "BaseException") = some true) (hga : W.findIn K (.ref C) "__getattribute__" = some (some (.builtin "BaseException.__getattribute__"))) (hgt : W.findIn K (.ref C) "__getattr__" = some none)
    (hf : W.findIn K (.ref C) "__class__" = some (some (.builtin "object.__class__"))) (hsp : W.specialIn K (.builtin "object.__class__") "__get__" = some (some (.builtin "getset_descriptor.__get__"))) (htk : W.takesIn K (.builtin "object.__class__") = some true) (ho : W.mroIn K C (.type "object") = some true)
    (h : Q (some (.ref C)) { s with toks := s.toks + 1 }) : wpAny (model prog w) A (getAttr? (.ref a) "__class__") Q E s := by
  unfold getAttr?
  refine wpAny_bind (wpAny_mkText ?_)
  unfold getAttrBy?
  refine wpAny_bind (wpAny_attempt ?_)
  unfold getAttrBy
  refine wpAny_holding (wpAny_bind (J _ A _ _ _ (fun _ _ q => q) (wpAny_bind (W.looks_findIn kin hga A _ _ _ (fun _ _ q => q) ?_))))
  dsimp only
  have nb : (Value.builtin "BaseException.__getattribute__" == Value.builtin "object.__getattribute__") = false := by decide +kernel
  refine wpAny_ite_false (by rw [nb, Bool.and_false]; rfl) ?_
  unfold getAttrByItsOwn
  refine wpAny_bind ?_
  unfold hookBefore
  refine wpAny_ite_true (by rfl) (W.looks_findIn kin hgt A _ _ _ (fun _ _ q => q) ?_)
  refine wpAny_bind (wpAny_attempt (wpAny_holding ?_))
  unfold callGetattribute
  refine wpAny_ite_false (by decide +kernel) ?_
  unfold boundAndCalled
  refine wpAny_bind ?_
  rw [F.attrBase_ValueError.ga.bind]
  refine wpAny_pure ?_
  dsimp only [List.cons_append, List.nil_append]
  refine wpAny_call (codeAny_call_builtin F.attrBase_ValueError.ga.plain F.entry_bexc_ga (check_ga kin J hb ?_))
  unfold Builtin.«object.__getattribute__» slotArgs
  refine wpAny_bind (wpAny_ite_false (by rfl) ?_)
  dsimp only
  refine wpAny_ite_false (by rfl) (wpAny_pure ?_)
  dsimp only
  unfold Builtin.ObjectAttr.attrName
  refine wpAny_bind (wpAny_pure (wpAny_bind (J _ _ _ _ _ (fun _ _ q => q) (wpAny_bind ?_))))
  unfold Builtin.ObjectAttr.find
  refine wpAny_bind (W.looks_findIn kin hf _ _ _ _ (fun _ _ q => q) (wpAny_bind ?_))
  unfold Builtin.ObjectAttr.getOf
  refine W.looks_specialIn kin hsp _ _ _ _ (fun _ _ q => q) (wpAny_bind ?_)
  unfold Builtin.ObjectAttr.dataDescriptor?
  refine wpAny_bind (W.looks_takesIn kin htk _ _ _ _ (fun _ _ q => q) (wpAny_ite_true rfl (wpAny_pure ?_)))
  refine wpAny_bind (wpAny_rule (wpAny_pure ?_))
  unfold Builtin.ObjectAttr.bindTo
  dsimp only
  refine wpAny_bind (wpAny_holding (wpAny_call (class_get' kin J ho ?_)))
  refine wpAny_pure ?_
  refine W.handed_on rfl ?_
  exact wpAny_pure h
structure ExcC (K : W.Frag) (C : Addr) : Prop where
  hb : W.exmOne K (.ref C) (.type "BaseException") = some true
  hga : W.findIn K (.ref C) "__getattribute__" = some (some (.builtin "BaseException.__getattribute__"))
  hgt : W.findIn K (.ref C) "__getattr__" = some none
  hf : W.findIn K (.ref C) "__class__" = some (some (.builtin "object.__class__"))
  hsp : W.specialIn K (.builtin "object.__class__") "__get__" = some (some (.builtin "getset_descriptor.__get__"))
  htk : W.takesIn K (.builtin "object.__class__") = some true
  ho : W.mroIn K C (.type "object") = some true
  hc : (W.clsIn K C).isSome = true
  ht : W.typeIn K (.ref C) = some (.type "type")
theorem type_exc {M : Model} (e : h.get? a = some o) (c : o.cls = .ref C) : W.Looks M h (typeOf (.ref a)) (.ref C) := fun A Q E s k q => by
  unfold typeOf
  exact wpAny_bind (wpAny_loadPart (k a o e) (wpAny_pure (by rw [c]; exact q)))
theorem clsIn_some (h : (W.clsIn K C).isSome = true) : ∃ o cd, List.lookup C K = some o /\ o.data = .cls cd := by
  unfold W.clsIn at h
  split at h
  . rename_i c d cd sl e
    exact ⟨_, cd, e, rfl⟩
  . cases h
theorem kitx_exc (f : ExcC K C) : W.KitX K (.ref a) (.ref C) (fun h => ∃ o, h.get? a = some o /\ o.cls = .ref C) where
  ty := fun M h kin ⟨o, e, c⟩ => type_exc e c
  it := fun M h kin _ A Q E s k q => by
    obtain ⟨o, cd, e, d⟩ := clsIn_some f.hc
    unfold isType
    refine wpAny_bind (wpAny_loadPart (k C o (kin C o e)) (wpAny_pure ?_))
    rw [d]; exact q
  ne := fun h tp dd its n sl kin e => by
    obtain ⟨o, cd, e2, d⟩ := clsIn_some f.hc
    have e3 := kin C o e2
    rw [Bool.eq_false_iff]
    intro z
    have z := eq_of_beq z
    cases z
    rw [e] at e3; cases e3; cases d
  ca := fun {prog w A E Q s} kin ⟨o, e, c⟩ q => exc_class kin (fun M => type_exc e c) f.hb f.hga f.hgt f.hf f.hsp f.htk f.ho q
theorem exc_isinst (f : ExcC K C) {Q : Value -> Shared -> Prop} (kin : K.In s.heap) (h : ∃ o, s.heap.get? a = some o /\ o.cls = .ref C) (e : W.kitOne K (.ref C) c = some b)
    (q : ∀ tk, Q (.bool b) { s with toks := tk }) : wpAny (model prog w) A (call (.builtin "isinstance") [.ref a, c]) Q E s := W.kia_one (kitx_exc f) kin h e (fun z => nomatch z) q
noncomputable def Flies (h : Heap) (a T : Addr) (C a0 : Value) : Prop := ∃ oe vs oT ts, h.get? a = some oe /\ (oe.cls = C /\ vs[0]? = some a0) /\ oe.data = .fields vs /\ vs[1]? = some (.ref T) /\ T ≠ a /\ h.get? T = some oT /\ oT.data = .fields ts /\ ts[3]? = some .none
noncomputable def CX1 (P : Program) (w : World) : CXT := fun outer H s E e s' =>
  ∃ (a T : Addr) (C a0 : Value) (H' : Hp), e = .ref a /\ s'.os = s.os /\ AllBare s'.gens /\ Un (frs outer) [] H H' s.heap s'.heap /\ HOk P w H' s'.heap /\ Flies s'.heap a T C a0 /\ (s.heap.get? a = none /\ s.heap.get? T = none) /\ (H' a = none /\ H' T = none) /\ E C none H'
theorem un_more {fs : List Addr} {H H' H2 : Hp} {h h1 h2 : Heap} (u : Un fs [] H H' h h1) (k : ∀ b o, h.get? b ≠ none -> h1.get? b = some o -> b ∉ fs -> h2.get? b = some o)
    (sl : ∀ b o, b ∈ fs -> h1.get? b = some o -> ∃ sl, h2.get? b = some { o with slots := sl }) (hh : ∀ b, h.get? b ≠ none -> H' b = none -> H2 b = none) (ht : ∀ b o, H' b = some o -> H2 b = some o) : Un fs [] H H2 h h2 where
  keep := fun b o e n hf hx => k b o (by rw [e]; exact fun z => by cases z) (u.keep b o e n hf hx) hf
  slot := fun b o e n hf hx => by
    obtain ⟨s1, e1⟩ := u.slot b o e n hf hx
    obtain ⟨s2, e2⟩ := sl b _ hf e1
    exact ⟨s2, e2⟩
  free := fun b o e n hx => hh b (by rw [e]; exact fun z => by cases z) (u.free b o e n hx)
  there := fun b o e hx => by
    obtain ⟨o1, e1⟩ := u.there b o e hx
    by_cases hf : b ∈ fs
    . obtain ⟨s2, e2⟩ := sl b _ hf e1; exact ⟨_, e2⟩
    . exact ⟨o1, k b o1 (by rw [e]; exact fun z => by cases z) e1 hf⟩
  tups := fun b xs e => ht b _ (u.tups b xs e)
  frzs := fun b o xs e => ht b _ (u.frzs b o xs e)
  tbls := fun b ps e => by
    obtain ⟨m, e1⟩ := u.tbls b ps e
    exact ⟨m, ht b _ e1⟩
theorem hok_more {P : Program} {h h2 : Heap} (x : HOk P w H h) (k : ∀ b o, H b ≠ none -> h.get? b = some o -> h2.get? b = some o) : HOk P w H h2 := fun a o e =>
  (x a o e).stay (fun b u hb q => k b u (by rcases hb with rfl | hb; · rw [e]; exact fun z => by cases z
                                            . rw [hb]; exact fun z => by cases z) q) (fun _ q => q) fun _ _ q => q
theorem obj_has {P : Program} {o : HO} (x : ObjOk P w H h a o) : ∃ ob, h.get? a = some ob := by
  cases o with
  | lst xs => obtain ⟨_, _, _, _, e⟩ := x; exact ⟨_, e⟩
  | tup xs => obtain ⟨_, _, _, ob, e, _⟩ := x; exact ⟨_, e⟩
  | dK kvs => obtain ⟨_, _, _, _, o, _, _, e, _⟩ := x; exact ⟨_, e⟩
  | dT kvs => obtain ⟨_, _, _, _, o, _, _, e, _⟩ := x; exact ⟨_, e⟩
  | set S n => obtain ⟨o, _, _, _, e, _⟩ := x; exact ⟨_, e⟩
  | ins C dx fs => obtain ⟨_, _, _, e, _⟩ := x; exact ⟨_, e⟩
  | own y => exact x
  | xd fs => obtain ⟨_, ⟨_, _, _, e, _⟩, _⟩ := x; exact ⟨_, e⟩
  | rng lo hi => obtain ⟨_, _, _, e⟩ := x; exact ⟨_, e⟩
  | frz ob u => exact ⟨_, x.1⟩
  | tbl ps => exact ⟨_, x⟩
  | met f y => exact ⟨_, x⟩
  | ext φ => exact x.2.1
theorem tracked_there {P : Program} (x : HOk P w H h) {b : Addr} (e : h.get? b = none) : H b = none := by
  cases q : H b with
  | none => rfl
  | some o =>
    obtain ⟨ob, e2⟩ := obj_has (x b o q)
    rw [e] at e2; cases e2
theorem nn {α : Type} {o : Option α} {x : α} (e : o = some x) : o ≠ none := by rw [e]; exact fun z => by cases z
structure TopF (X : Cx) : Prop where
  hs : X.stack = X.env :: X.outer
  hfr : X.env.frame = some X.env.locals
  hex : X.ex = []
theorem TopF.frs (t : TopF X) : L2.frs X.stack = X.env.locals :: X.fs := by
  rw [t.hs]; unfold Cx.fs L2.frs; rw [List.filterMap_cons, t.hfr]
section
variable {X : Cx} {pins : List (Addr × Obj)} {σ : St} {H H' : Hp} {s s1 s2 : Shared} {a T T' : Addr} {C a0 : Value} {E : XK}
theorem cx1_mk (tp : TopF X) (J : Inv X pins σ H' s1) (k : ∀ b o, s1.heap.get? b = some o -> b ∉ L2.frs X.stack -> b ≠ a -> b ≠ T -> s2.heap.get? b = some o)
    (sl : ∀ b o, b ∈ L2.frs X.stack -> s1.heap.get? b = some o -> ∃ sl, s2.heap.get? b = some { o with slots := sl })
    (na : X.s₀.heap.get? a = none) (nT : X.s₀.heap.get? T = none) (nT' : X.s₀.heap.get? T' = none) (ha : H' a = none) (hT : H' T = none) (hT' : H' T' = none)
    (fl : Flies s2.heap a T' C a0) (os : s2.os = s1.os) (g : AllBare s2.gens) (hE : E C none H') : CX1 X.prog X.w X.outer X.H₀ X.s₀ E (.ref a) s2 := by
  have bs := J.base
  rw [tp.hex] at bs
  refine ⟨a, T', C, a0, H', rfl, os.trans J.os, g, un_more bs (fun b o hb e nf => k b o e ?_ ?_ ?_) (fun b o hb e => sl b o ?_ e) (fun _ _ q => q) (fun _ _ q => q), hok_more J.hok (fun b o hb e => k b o e (fun z => hb (J.stkFree b z)) (fun z => hb (z ▸ ha)) fun z => hb (z ▸ hT)), fl, ⟨na, nT'⟩, ⟨ha, hT'⟩, hE⟩
  . rw [tp.frs]
    intro z
    rcases List.mem_cons.mp z with z | z
    . obtain ⟨ob, eb⟩ : ∃ ob, X.s₀.heap.get? b = some ob := Option.ne_none_iff_exists'.mp hb
      have h1 := Heap.lt_size eb
      have h2 := J.ok.above
      rw [z] at h1; exact absurd (Nat.lt_of_lt_of_le h1 h2) (Nat.lt_irrefl _)
    . exact nf z
  . intro z; exact hb (z ▸ na)
  . intro z; exact hb (z ▸ nT)
  . rw [tp.frs]; exact List.mem_cons_of_mem _ hb
theorem old_none (J : Inv X pins σ H' s1) (hex : X.ex = []) {b : Addr} (e : s1.heap.get? b = none) : X.s₀.heap.get? b = none := by
  cases q : X.s₀.heap.get? b with
  | none => rfl
  | some o =>
    obtain ⟨o', e'⟩ := J.base.there b o q (by rw [hex]; simp)
    rw [e] at e'; cases e'
noncomputable abbrev leaveTo (X : Cx) (E : XK) : Value -> Shared -> Prop := fun e s' => wpAny (model X.prog X.w) X.A (leaving X.env e) (fun _ s'' => CX1 X.prog X.w X.outer X.H₀ X.s₀ E e s'') (fun e' s'' => CX1 X.prog X.w X.outer X.H₀ X.s₀ E e' s'') s'
theorem fun_hide (J : Inv X pins σ H s) (as : List Addr) (h : ∀ b ∈ L2.frs X.stack, b ∈ as) : s.heap.FunFrames (W.hideAll s.heap as) X.stack := W.funFrames_hide J.stack fun env he a' ef => h a' (List.mem_filterMap.mpr ⟨env, he, ef⟩)
theorem raises1 (tp : TopF X) (hxe : X.xe = leaveTo X E) (J : Inv X pins σ H s) {C : Value} (m : s.heap.MadeExcOf h' e C vs) (hE : E C none H) : X.xe (.ref e) { s with heap := h', toks := tk } := by
  rw [hxe]
  have ff0 := fun_hide J (L2.frs X.stack) fun b hb => hb
  refine wpAny_leaves_madeW (base := W.hideAll s.heap (L2.frs X.stack)) (h := s.heap) (outer := X.outer) (args := vs) (cls := C) (by rw [<- tp.hs]; exact J.ok.frames) tp.hfr (fun b o q => W.of_hideAll _ q) (by rw [<- tp.hs]; exact ff0) m fun h2 t fl _ _ up => ?_
  obtain ⟨stay, ne, ff, ⟨oe', vs', T', oT', ts', q1, q2, q4, q5, q6, q7, q8, q9, q10⟩⟩ := fl
  have nofield : ∀ b ∈ L2.frs X.stack, ∃ o, s.heap.get? b = some o /\ ∀ vs : Array Value, o.data ≠ Data.fields vs := fun b hb => (J.stack.mem hb).2
  have fr' : T' ∉ L2.frs X.stack := fun z => by
    obtain ⟨o, ho, nd⟩ := nofield _ z
    obtain ⟨sl, h3⟩ := up T' o (m.keeps _ _ ho) nd
    rw [q8] at h3; cases h3; exact nd _ q9
  have hT0 : s.heap.get? T' = none := by
    cases z : s.heap.get? T' with
    | none => rfl
    | some o => rw [W.hideAll_get _ z fr'] at q6; cases q6
  have hT2 : X.s₀.heap.get? T' = none /\ H T' = none := ⟨old_none J tp.hex hT0, tracked_there J.hok hT0⟩
  refine cx1_mk (T := T') (T' := T') (a0 := .ref t) tp J (fun b o e nf n1 n2 => stay b o (W.hideAll_get _ e nf)) (fun b o hb e => ?_) (old_none J tp.hex m.new) hT2.1 hT2.1 (tracked_there J.hok m.new) hT2.2 hT2.2 ⟨oe', vs', oT', ts', q1, q2, q4, q5, q7, q8, q9, q10⟩ rfl J.bare hE
  obtain ⟨o', ho', nd⟩ := nofield b hb
  rw [e] at ho'; cases ho'
  exact up b o (m.keeps _ _ e) nd
end
noncomputable abbrev MX := R -> Option Str
noncomputable abbrev CName (K : PySem.W.Frag) (c : Str) (C : Addr) : Prop := PySem.W.nsIn K mainGlobals c = some (some (.ref C))
noncomputable def WishN (K : PySem.W.Frag) (B : Bs) (E : XK) (c : Str) : Prop := ∀ H' C, (∀ b o, B.H b = some o -> (∀ i, (i, b) ∉ B.O) -> H' b = some o) -> CName K c C -> E (.ref C) none H'
noncomputable def PassesAt (X : Cx) (S : St -> Prop) (E : XK) : Prop := ∀ pins σ H s e s', Inv X pins σ H s -> S σ -> CX1 X.prog X.w X.stack H s E e s' -> X.xe e s'
section
variable (X : Cx) (S : St -> Prop) (E : XK)
noncomputable def XE (e : Expr) (x : MX) : Prop := ∃ t, PE X e t /\ ∀ B G H σ ρ c, SI X.K B G H σ ρ -> S σ -> x ρ = some c -> WishN X.K B E c -> ∀ Q, t σ H Q
noncomputable def XS (st : Stmt) (x : MX) : Prop := ∃ t, PS X st t /\ ∀ B G H σ ρ c, SI X.K B G H σ ρ -> S σ -> x ρ = some c -> WishN X.K B E c -> ∀ D, t D σ H
noncomputable def XSs (st : List Stmt) (x : MX) : Prop := ∃ t, PSs X st t /\ ∀ B G H σ ρ c, SI X.K B G H σ ρ -> S σ -> x ρ = some c -> WishN X.K B E c -> ∀ D, t D σ H
end
noncomputable def spX (K : PySem.W.Frag) (n : Nat) (F : List D -> Option Str) : Sp := fun vs H _ E => ∃ G ds c, F ds = some c /\ ds.length = n /\ Fz G H /\ RepL K G vs ds /\ ∀ H' C, Fz H H' -> CName K c C -> E (.ref C) none H'
structure FDX (P : Program) (w : World) (K : PySem.W.Frag) (mg : Str -> Option Value) (base : Heap) (k : Nat) (x : Str) (sp : Sp) : Prop where
  ex : ∃ f fd ps, FnOk P w K mg base (CX1 P w) k f fd ps sp /\ mg x = some (.ref f) /\ PySem.W.keepIn K (.ref f) = true /\ Binds K fd ps []
noncomputable def xCall (F : List D -> Option Str) (ma : MA) : MX := fun ρ => (ma ρ).bind fun p => F p.1
noncomputable def xIf (c : MT) (a : MX) : MX := fun ρ => (c ρ).bind fun p => if p.1 then a p.2 else none
noncomputable def fX (N : Nat) (x : MX) : List D -> Option Str := fun ds => x (ds.map .val ++ List.replicate (N - ds.length) .emp)
section
variable {X : Cx} {S : St -> Prop} {E : XK} {x : Str} {p pos : Pos} {e : Expr} {es : List Expr} {ma : MA} {k k' n : Nat} {F : List D -> Option Str} {mx : MX}
theorem xs_set (i : Nat) (h : XE X S E e mx) (hN : X.N.Nodup) (hi :autoParam (X.N[i]? = some y) zu2._auto_1) (hx :autoParam (Loc X.env.scope y) zu9._auto_1) (hs :autoParam (swapsWith e (some (.Name y pos')) pos.line X.env = pure false) zu2._auto_1) (hf :autoParam (X.fn y = true \/ X.env.scope.names.lookup y = some .local) zu11._auto_1) :
    XS X S E (.Assign [.Name y pos'] e pos) mx := by
  obtain ⟨t, pt, st⟩ := h
  exact ⟨_, ps_set hN hi hx pt hs hf, fun B G H σ ρ c I hS hm w D => st B G H σ ρ c I hS hm w _⟩
theorem xs_if {c : Expr} {a b : List Stmt} {mc : MT} (hc : STt X c mc) (ha : XSs X S E a mx) : XS X S E (.If c a b pos) (xIf mc mx) := by
  obtain ⟨tc, pc, sc⟩ := hc
  obtain ⟨t, pt, st⟩ := ha
  refine ⟨_, ps_if (u := fun _ _ _ => False) pc pt (fun _ _ _ _ _ _ h => h.elim), fun B G H σ ρ c I hS hm w D => ?_⟩
  obtain ⟨⟨b, ρ1⟩, e1, hm⟩ := bind_inv hm
  refine sc B G H σ ρ b ρ1 _ I e1 fun G1 H1 I1 f1 => ?_
  cases b with
  | true => rw [if_pos rfl]; exact st B G1 H1 σ ρ1 c I1 hS (by simpa using hm) w D
  | false => simp at hm
theorem xss_here {st : Stmt} {rest : List Stmt} (h : XS X S E st mx) : XSs X S E (st :: rest) mx := by
  obtain ⟨t, pt, so⟩ := h
  exact ⟨_, pss_cons (u := fun _ _ _ => False) pt (fun _ _ _ _ _ _ h => h.elim), fun B G H σ ρ c I hS hm w D => so B G H σ ρ c I hS hm w _⟩
end
noncomputable abbrev bmV : List Value := [.type "ValueError", .type "Exception", .type "BaseException", .type "object"]
theorem ns_ok {K : PySem.W.Frag} {N : Addr} {ep : Nat} {sl : Array (Option Value)} (l : K.lookup N = some ⟨cN, dN, .dict es.toArray ep, sl⟩) (o : (es.all fun e => match e.key with
    | .str _ _ => true
    | _ => false) = true) : PySem.W.nsOkIn K N = true := by
  unfold PySem.W.nsOkIn
  have l' : List.lookup N K = some ⟨cN, dN, .dict es.toArray ep, sl⟩ := l
  rw [l']
  dsimp only
  rw [List.all_toArray]
  exact o
noncomputable def OwnK (K : PySem.W.Frag) (C : Addr) : Prop := ∀ (h : Heap) (mg : Str -> Option Value) (x : Str), K.In h -> mg x = some (.ref C) -> OwnCls x C bmV "ValueError.__new__" mg h
theorem ownK_two {K : PySem.W.Frag} {C CS N NS : Addr} {nm q nmS qS : Str} {bs bsS : List Value} {hdct hS : Bool} {sn snS : List Str} {sub subS : List Value} {ab abS : Bool} {col colS : Option Bool} {dd ddS : Option Addr} {k0 k1 k2 k3 k5 j0 j1 j2 j3 j5 : Option Value}
    (l1 : K.lookup C = some (excClassObj nm q C N bs (.ref CS :: bmV) hdct sn sub ab col dd k0 k1 k2 k3 k5 "ValueError.__new__")) (l2 : K.lookup CS = some (excClassObj nmS qS CS NS bsS bmV hS snS subS abS colS ddS j0 j1 j2 j3 j5 "ValueError.__new__"))
    (i1 : PySem.W.nsIn K N "__init__" = some none) (i2 : PySem.W.nsIn K NS "__init__" = some none) (o1 : PySem.W.nsOkIn K N = true) (o2 : PySem.W.nsOkIn K NS = true) : OwnK K C := fun h mg x kin hm =>
  ⟨hm, .ref CS :: bmV, N, nm, q, bs, hdct, sn, sub, ab, col, dd, k0, k1, k2, k3, k5, h.nsMap N, kin _ _ l1, Heap.Ns.of_isNs (PySem.W.isNs_of_in kin o1), PySem.W.nsMap_none_of_in kin o1 i1,
    .own (kin _ _ l2) (Heap.Ns.of_isNs (PySem.W.isNs_of_in kin o2)) (PySem.W.nsMap_none_of_in kin o2 i2) .base⟩
section
variable {X : Cx} {E : XK} {S : St -> Prop}
noncomputable abbrev RaiOk (K : PySem.W.Frag) (mg : Str -> Option Value) (c : Str) : Prop := ∃ C, mg c = some (.ref C) /\ CName K c C /\ OwnK K C
end
section
variable {P : Program} {w : World} {K : PySem.W.Frag} {mg : Str -> Option Value} {base : Heap}
theorem cx_top {scope : Scope} {cd : Value} {E : XK} : TopF (cxOf (CX1 P w) P w K mg base N qual scope f cd A outer s H E) := ⟨rfl, rfl, rfl⟩
theorem fnX_ok {st : Stmt} {N ps : List Str} {k n : Nat} {m : MX} (F : Fun K x qual st f fd) (S : FnScope N ps (defScope st)) (hn : ps.length = n) (hN : n <= N.length)
    (body : ∀ (cdv : Value) (A : Around) (outer : List Env) (s : Shared) (H : Hp) (E : XK), Room k (A.deeper (envOfC qual (defScope st) s.heap.objs.size f cdv)) -> XSs (cxOf (CX1 P w) P w K mg base N qual (defScope st) f cdv A outer s H E) (fun _ => True) E (defBody st) m) :
    FnOk P w K mg base (CX1 P w) (k + 1) f fd ps (spX K n (fX N.length m)) := by
  obtain ⟨oc, od, kV, doc, pm, an, cdv, ct, osl, rfl, lk, hcd⟩ := F.ex
  refine fn_of lk hcd S (fun vs H Q E h => ?_) fun A outer s H vs Q E hr h => ?_
  . obtain ⟨G, ds, c, _, h2, _, h4, _⟩ := h
    rw [h4.length, h2, hn]
  . obtain ⟨G, ds, c, e1, h2, fz, h4, kk⟩ := h
    obtain ⟨t, pt, so⟩ := body cdv A outer s H E hr
    exact ⟨t, pt, so ⟨G, H, []⟩ G H (L2.start N vs) _ c (SI.start fz h4 (by lia)) trivial e1 (fun H' C kp hC => kk H' C (fun b o q => kp b o q (by simp)) hC) _⟩
end
section
variable {X : Cx} {pins : List (Addr × Obj)} {σ : St} {H : Hp} {s : Shared}
theorem name_gone {M : Model} (I : Inv X pins σ H s) (hN : X.N.Nodup) (hj : X.N[j]? = some n) (hk : X.env.scope.names.lookup n = some .local)
    (h : ∀ s', Inv X pins (σ.set j none) H s' -> Q () s') : wpAny M A (do bindName X.env n .none; unbindBehindTheSuite X.env n pos) Q E s := by
  obtain ⟨m, hn, hl⟩ := id I.loc
  have hcls : (X.env.scope.kind == .class || (X.env.scope.kind == .module && X.env.locals != X.env.globals)) = false := by rw [I.ok.kind]; rfl
  have hiσ : j < σ.length := by rw [I.len]; exact (List.getElem?_eq_some_iff.mp hj).1
  have cne := I.cne
  have tracked : ∀ {a : Addr} {h' : Heap}, (∃ o, s.heap.get? a = some o /\ H a = none) -> Heap.SameBut a s.heap h' -> HOk X.prog X.w H h' := fun {a h'} ha hs b ob e => by
    obtain ⟨_, _, hfree⟩ := ha
    refine (I.hok b ob e).stay (fun c w' hc q => (hs.2 c ?_).trans q) (fun _ q => q) fun _ _ q => q
    rintro rfl
    rcases hc with rfl | hc
    . rw [hfree] at e; cases e
    . rw [hfree] at hc; cases hc
  refine wpAny_nameGoes_keeps hk hn hcls fun h' v hn' hs => ?_
  obtain ⟨oL, _, _, hoL, _⟩ := id hn
  refine h _ ⟨I.ok, I.os, I.bare, ⟨fun b o e n hb hx => ?_, fun b o e n hb hx => ?_, I.base.free, fun b o e hx => ?_, I.base.tups, I.base.frzs, I.base.tbls⟩, ⟨_, hn', fun i y v' e1 e2 e3 => ?_⟩, fun y c e => ?_, I.free, I.freeC, fun p hp => ?_, tracked ⟨oL, hoL, I.free⟩ hs, by simpa using I.len⟩
  . exact (hs.2 b (Nat.ne_of_lt (Nat.lt_of_lt_of_le (Heap.lt_size e) I.ok.above))).trans (I.base.keep b o e n hb hx)
  . obtain ⟨sl, e1⟩ := I.base.slot b o e n hb hx
    exact ⟨sl, (hs.2 b (Nat.ne_of_lt (Nat.lt_of_lt_of_le (Heap.lt_size e) I.ok.above))).trans e1⟩
  . obtain ⟨o', e1⟩ := I.base.there b o e hx
    exact ⟨o', (hs.2 b (Nat.ne_of_lt (Nat.lt_of_lt_of_le (Heap.lt_size e) I.ok.above))).trans e1⟩
  . by_cases hij : i = j
    . subst hij
      rw [List.getElem?_set_self hiσ] at e2
      cases e2
    . rw [List.getElem?_set_ne (Ne.symm hij)] at e2
      obtain ⟨u', r', q⟩ := hl i y v' e1 e2 e3
      refine ⟨u', r', ?_⟩
      rcases q with ⟨k, e⟩ | ⟨k, c, e, z⟩
      . refine .inl ⟨k, ?_⟩
        have : y ≠ n := fun e => hij (nodup_ix hN e1 (e ▸ hj))
        simp [this, e]
      . exact .inr ⟨k, c, e, z.sameBut hs (cne y c e)⟩
  . obtain ⟨w', z⟩ := I.cell y c e
    exact ⟨w', z.sameBut hs (cne y c e)⟩
  . obtain ⟨e, n, ne, nf, d⟩ := I.pin p hp
    exact ⟨(hs.2 p.1 ne).trans e, n, ne, nf, d⟩
noncomputable abbrev mkE (X : Cx) (a : Addr) : Cx := { X with A := X.A.mark (some (.ref a)), calm := false, xe := fun _ _ => False }
theorem inv_mk (I : Inv X pins σ H s) : Inv (mkE X a) pins σ H s :=
  ⟨⟨I.ok.mod, I.ok.kind, I.ok.glob, I.ok.blt, I.ok.above, I.ok.inj, I.ok.has, I.ok.cab, (fun z => by cases z), I.ok.frames, I.ok.stk, I.ok.exf, I.ok.bs, I.ok.bsz, I.ok.noex, I.ok.exfs, I.ok.funs, I.ok.frf⟩, I.os, I.bare, I.base, I.loc, I.cell, I.free, I.freeC, I.pin, I.hok, I.len⟩
theorem inv_unmk (hd : X.calm = true -> X.A.handled = none) (I : Inv (mkE X a) pins σ H s) : Inv X pins σ H s :=
  ⟨⟨I.ok.mod, I.ok.kind, I.ok.glob, I.ok.blt, I.ok.above, I.ok.inj, I.ok.has, I.ok.cab, hd, I.ok.frames, I.ok.stk, I.ok.exf, I.ok.bs, I.ok.bsz, I.ok.noex, I.ok.exfs, I.ok.funs, I.ok.frf⟩, I.os, I.bare, I.base, I.loc, I.cell, I.free, I.freeC, I.pin, I.hok, I.len⟩
structure Held (X : Cx) (a T : Addr) (C a0 : Value) (h1 h : Heap) : Prop where
  stay : (W.hideAll h1 (a :: T :: L2.frs X.stack)).StaysIn h
  ff : h.FunFrames (W.hideAll h1 (a :: T :: L2.frs X.stack)) (X.env :: X.outer)
  tr : h.TracedW (W.hideAll h1 (a :: T :: L2.frs X.stack)) a C a0
  up : ∀ b o, b ∈ L2.frs X.stack -> h1.get? b = some o -> ∃ sl, h.get? b = some { o with slots := sl }
theorem held_inv {H' : Hp} {s1 : Shared} {a T C' : Addr} {a0 : Value} (I : Inv X pins σ H s) (os : s1.os = s.os) (bare : AllBare s1.gens) (un : Un (L2.frs X.stack) [] H H' s.heap s1.heap) (hok : HOk X.prog X.w H' s1.heap) (na : s.heap.get? a = none) (nT : s.heap.get? T = none) (ha : H' a = none) (hT : H' T = none)
    (J : Inv X pins σ H' s1) (x : Held X a T (.ref C') a0 s1.heap h) : Inv X pins σ (upd H' a (.ext (ExcIs a C'))) { s1 with heap := h, toks := tk } := by
  obtain ⟨oe, vs, T', oT, ts, q1, ⟨q2, _⟩, _⟩ := x.tr
  have kk : ∀ b o, s1.heap.get? b = some o -> b ∉ L2.frs X.stack -> b ≠ a -> b ≠ T -> h.get? b = some o := fun b o e nf n1 n2 => x.stay b o (W.hideAll_get _ e fun m => by
    rcases List.mem_cons.mp m with m | m
    . exact n1 m
    . rcases List.mem_cons.mp m with m | m
      . exact n2 m
      . exact nf m)
  refine I.call' (ch := []) os (un_more un (fun b o hb e nf => kk b o e nf (fun z => hb (z ▸ na)) fun z => hb (z ▸ nT)) x.up (fun b hb e => ?_) fun b o e => ?_) (fun b o e => ?_) bare fun b z => absurd z (by simp)
  . rw [upd_ne (show b ≠ a from fun z => hb (z ▸ na))]; exact e
  . rw [upd_ne (ne_of_none e ha)]; exact e
  . by_cases z : b = a
    . subst z
      rw [upd_same] at e
      cases e
      exact ⟨⟨oe, q1, q2⟩, ⟨oe, q1⟩, fun h1 h2 ⟨o, e, c⟩ k => ⟨o, k o e, c⟩⟩
    . rw [upd_ne z] at e
      refine (hok b o e).stay (fun c u hc q => kk c u q ?_ ?_ ?_) (fun c q => by rw [upd_ne (ne_of_none q ha)]; exact q) fun c xs q => by rw [upd_ne (ne_of_none q ha)]; exact q
      . intro m
        have := J.stkFree c m
        rcases hc with rfl | hc
        . rw [this] at e; cases e
        . rw [this] at hc; cases hc
      . rintro rfl
        rcases hc with rfl | hc
        . exact z rfl
        . rw [ha] at hc; cases hc
      . rintro rfl
        rcases hc with rfl | hc
        . rw [hT] at e; cases e
        . rw [hT] at hc; cases hc
theorem caught {s1 : Shared} {E2 : XK} {D : Ends} {i j : Nat} {y n hc : Str} {hp p1 p2 p3 pos : Pos} (tp : TopF X) (I : Inv X pins σ H s) (hN : X.N.Nodup) (hi : X.N[i]? = some y) (hj : X.N[j]? = some n) (hij : i ≠ j)
    (ly : X.env.scope.names.lookup y = some .local) (ln : X.env.scope.names.lookup n = some .local) (hdn : (n == ("__debug__" : Str)) = false) (hcn : (n == ("__classdict__" : Str)) = false) (hg : Gl X hc) (hm : X.mg hc = some (.ref CS)) (hdh : (hc == ("__debug__" : Str)) = false) (hsw : swapsWith (.Name n p2) (some (.Name y p1)) p3.line X.env = pure false)
    (hE : ∀ C H', E2 C none H' -> ∃ C', C = .ref C' /\ W.exmOne X.K (.ref C') (.ref CS) = some true /\ ∀ a, H' a = none -> D.nx ((σ.set i (some (.ref a))).set j none) (upd H' a (.ext (ExcIs a C'))))
    (c : CX1 X.prog X.w X.stack H s E2 ev s1) {F : Value -> Shared -> Prop} :
    wpAny (model X.prog X.w) X.A (noteFrame ev X.env) (fun _ s₂ => wpAny (model X.prog X.w) X.A (setFlight ev none) (fun _ s₃ => wpAny (model X.prog X.w) X.A (handleBy ev X.env [.ExceptHandler (some (.Name hc hp)) (some n) [.Assign [.Name y p1] (.Name n p2) p3] pos]) (SP X pins D) F s₃) F s₂) F s1 := by
  obtain ⟨a, T, C, a0, H', rfl, os, bare, un, hok, ⟨oe, vs, oT, ts, e1, e2, e4, e5, e6, e7, e8, e9⟩, ⟨na, nT⟩, ⟨ha, hT⟩, hE1⟩ := c
  obtain ⟨C', rfl, hex, hD⟩ := hE C H' hE1
  have hD := hD a ha
  have J : Inv X pins σ H' s1 := I.call' os un hok bare fun b z => absurd z (by simp)
  have ff0 := fun_hide J (a :: T :: L2.frs X.stack) fun b hb => List.mem_cons_of_mem _ (List.mem_cons_of_mem _ hb)
  have ff1 : s1.heap.FunFrames (W.hideAll s1.heap (a :: T :: L2.frs X.stack)) (X.env :: X.outer) := by
    have := ff0
    generalize W.hideAll s1.heap (a :: T :: L2.frs X.stack) = B at this ⊢
    rw [tp.hs] at this
    exact this
  have nofield : ∀ b ∈ L2.frs X.stack, ∃ o, s1.heap.get? b = some o /\ ∀ vs : Array Value, o.data ≠ Data.fields vs := fun b hb => (J.stack.mem hb).2
  refine wpAny_noteFrame_onW (base := W.hideAll s1.heap (a :: T :: L2.frs X.stack)) (outer := X.outer) (by rw [<- tp.hs]; exact J.ok.frames) ff1 tp.hfr
    ⟨oe, vs, T, oT, ts, e1, e2, e4, e5, W.hideAll_none _ (by simp), e6, e7, e8, e9⟩ (fun b o q => W.of_hideAll _ q) (W.hideAll_none _ (by simp)) fun h2 nt => ?_
  obtain ⟨stay2, ff2, tr2, up2⟩ := nt
  refine wpAny_setFlight_noneW stay2 ff2 tr2 fun h3 stay3 ff3 tr3 up3 => ?_
  have held3 : Held X a T (.ref C') a0 s1.heap h3 := ⟨stay3, ff3, tr3, fun b o hb e => by
    obtain ⟨o', ho', nd⟩ := nofield b hb
    rw [e] at ho'; cases ho'
    obtain ⟨sl, e2⟩ := up2 b o e nd
    exact ⟨sl, up3 b _ e2 nd⟩⟩
  have J3 := held_inv (tk := s1.toks) I os bare un hok na nT ha hT J held3
  have hd := I.ok.hd
  refine wpAny_handleBy_cons ?_ (fun z => nomatch z)
  refine codeAny_handlers_test (ld_glob (X := mkE X a) (inv_mk J3) hg hm ?_ hdh)
  obtain ⟨oe3, _, _, _, _, q1, ⟨q2, _⟩, _⟩ := id tr3
  refine W.exm_one (M := model X.prog X.w) J3.kIn (type_exc q1 q2) hex _ _ _ _ (fun _ _ q => q) ?_
  rw [if_pos rfl]
  dsimp only
  refine codeAny_handlers_suite_as (wpAny_setFlight_noneW stay3 ff3 tr3 fun h4 stay4 ff4 tr4 up4 => ?_)
  have held4 : Held X a T (.ref C') a0 s1.heap h4 := ⟨stay4, ff4, tr4, fun b o hb e => by
    obtain ⟨o', ho', nd⟩ := nofield b hb
    rw [e] at ho'; cases ho'
    obtain ⟨sl, e2⟩ := held3.up b o hb e
    exact ⟨sl, up4 b _ e2 nd⟩⟩
  have J4 := held_inv (tk := s1.toks) I os bare un hok na nT ha hT J held4
  refine store_ok (X := X) (v := .ref a) J4 hN hj (.inl ln) rfl (fun s5 J5 => ?_) (.inr ln)
  have hb := (pss_cons (X := mkE X a) (ps_set (X := mkE X a) hN hi (.inl ly) (pe_var (X := mkE X a) hj (.inl ln) hdn hcn) hsw (.inr ly)) pss_nil) pins s5 _ _ { nx := fun σ' H'' => σ' = (σ.set j (some (.ref a))).set i (some (.ref a)) /\ H'' = upd H' a (.ext (ExcIs a C')), rt := fun _ _ => False } (inv_mk J5)
  have hjσ : j < σ.length := by rw [I.len]; exact (List.getElem?_eq_some_iff.mp hj).1
  refine wpAny_mono (hb ⟨.ref a, ?_, rfl, rfl⟩) (fun f s6 q => ?_) fun _ _ q => q.elim
  . rw [List.getElem?_set_self hjσ]
  . cases f with
    | next =>
      obtain ⟨σ', H'', J6, rfl, rfl⟩ := q
      dsimp only
      refine name_gone (inv_unmk hd J6) hN hj ln fun s7 J7 => ⟨_, _, J7, ?_⟩
      have : (((σ.set j (some (.ref a))).set i (some (.ref a))).set j none) = (σ.set i (some (.ref a))).set j none := by
        rw [List.set_comm _ _ hij, List.set_set, List.set_comm _ _ hij]
      rw [this]
      exact hD
    | brk => obtain ⟨_, _, _, z⟩ := q; exact z.elim
    | cont => obtain ⟨_, _, _, z⟩ := q; exact z.elim
    | ret u => obtain ⟨_, _, _, _, _, z⟩ := q; exact z.elim
end
theorem SI.drop {K : PySem.W.Frag} {B : Bs} {G H : Hp} {σ : St} {ρ : R} (I : SI K B G H σ ρ) (i : Nat) : SI K B G H (σ.set i none) (ρ.set i .emp) :=
  I.chg I.fz (Fz.refl G) I.new I.keep I.there (fun _ _ _ _ _ _ g _ => ⟨g, rfl, id⟩) trivial
noncomputable abbrev tryB (X : Cx) (pins : List (Addr × Obj)) (E : Value -> Shared -> Prop) : Cx := { X with pn := X.pn ++ pins, xe := E }
section
variable {X : Cx} {pins : List (Addr × Obj)} {σ : St} {H : Hp} {s : Shared} {E : Value -> Shared -> Prop}
theorem inv_try (I : Inv X pins σ H s) : Inv (tryB X pins E) [] σ H s :=
  ⟨⟨I.ok.mod, I.ok.kind, I.ok.glob, I.ok.blt, I.ok.above, I.ok.inj, I.ok.has, I.ok.cab, I.ok.hd, I.ok.frames, I.ok.stk, I.ok.exf, I.ok.bs, I.ok.bsz, I.ok.noex, I.ok.exfs, I.ok.funs, I.ok.frf⟩, I.os, I.bare, I.base, I.loc, I.cell, I.free, I.freeC, fun p hp => I.pin p (by simpa using hp), I.hok, I.len⟩
theorem inv_untry (I : Inv (tryB X pins E) pins' σ H s) : Inv X pins σ H s :=
  ⟨⟨I.ok.mod, I.ok.kind, I.ok.glob, I.ok.blt, I.ok.above, I.ok.inj, I.ok.has, I.ok.cab, I.ok.hd, I.ok.frames, I.ok.stk, I.ok.exf, I.ok.bs, I.ok.bsz, I.ok.noex, I.ok.exfs, I.ok.funs, I.ok.frf⟩, I.os, I.bare, I.base, I.loc, I.cell, I.free, I.freeC, fun p hp => I.pin p (List.mem_append_left _ hp), I.hok, I.len⟩
theorem sp_untry {D : Ends} {f : Flow} (h : SP (tryB X pins E) [] D f s) : SP X pins D f s := by
  cases f with
  | next => obtain ⟨σ', H', I, q⟩ := h; exact ⟨σ', H', inv_untry I, q⟩
  | brk => obtain ⟨σ', H', I, q⟩ := h; exact ⟨σ', H', inv_untry I, q⟩
  | cont => obtain ⟨σ', H', I, q⟩ := h; exact ⟨σ', H', inv_untry I, q⟩
  | ret u => obtain ⟨v, σ', H', I, r, q⟩ := h; exact ⟨v, σ', H', inv_untry I, r, q⟩
end
noncomputable def sTry (m : MS) (x : MX) (ok : List Str) (i j : Nat) : MS := fun ρ => match x ρ with
  | some c => if noOwn ρ then if ok.contains c then some (.next, (ρ.set i (.val (.exc c))).set j .emp) else none else none
  | none => m ρ
noncomputable abbrev CatOk (K : PySem.W.Frag) (mg : Str -> Option Value) (hc : Str) (ok : List Str) : Prop := ∃ CS, mg hc = some (.ref CS) /\ ∀ c, ok.contains c = true -> ∃ C, CName K c C /\ W.exmOne K (.ref C) (.ref CS) = some true
theorem ss_try {m : MS} {x : MX} {ok : List Str} (i j : Nat) {y n hc : Str} {hp p1 p2 p3 pos tpos : Pos} (tp : TopF X)
    (hb : ∀ pins, SSs (tryB X pins fun _ _ => False) body m) (hx : ∀ pins F S E, PassesAt (tryB X pins F) S E -> XSs (tryB X pins F) S E body x)
    (hcat : CatOk X.K X.mg hc ok)
    (hN : X.N.Nodup) (hi :autoParam (X.N[i]? = some y) zu2._auto_1) (hj :autoParam (X.N[j]? = some n) zu2._auto_1) (hij :autoParam (i ≠ j) zu1._auto_1)
    (ly :autoParam (X.env.scope.names.lookup y = some .local) zu2._auto_1) (ln :autoParam (X.env.scope.names.lookup n = some .local) zu2._auto_1) (hdn :autoParam ((n == ("__debug__" : Str)) = false) zu1._auto_1) (hcn :autoParam ((n == ("__classdict__" : Str)) = false) zu1._auto_1) (hg :autoParam (Gl X hc) zu2._auto_1) (hdh :autoParam ((hc == ("__debug__" : Str)) = false) zu1._auto_1) (hsw :autoParam (swapsWith (.Name n p2) (some (.Name y p1)) p3.line X.env = pure false) zu2._auto_1) :
    SS X (.Try body [.ExceptHandler (some (.Name hc hp)) (some n) [.Assign [.Name y p1] (.Name n p2) p3] pos] [] [] tpos) (sTry m x ok i j) := by
  refine ⟨fun D σ H => ∀ pins s, Inv X pins σ H s -> wpAny (model X.prog X.w) X.A (exec (.Try body [.ExceptHandler (some (.Name hc hp)) (some n) [.Assign [.Name y p1] (.Name n p2) p3] pos] [] [] tpos) X.env) (SP X pins D) X.xe s, fun pins s σ H D I h => h pins s I, fun B G H σ ρ fl ρ' D I hmm k pins s J => wpAny_Try_except ?_⟩
  unfold sTry at hmm
  obtain ⟨CS, hm, hok⟩ := hcat
  cases ex : x ρ with
  | none =>
    rw [ex] at hmm
    obtain ⟨t, pt, so⟩ := hb pins
    refine wpAny_mono (pt [] s σ H D (inv_try J) (so B G H σ ρ fl ρ' D I hmm k)) (fun f s1 q => ?_) fun _ _ q => q.elim
    have q := sp_untry q
    cases f with
    | next => exact wpAny_execs_nil q
    | brk => exact q
    | cont => exact q
    | ret u => exact q
  | some c =>
    rw [ex] at hmm
    dsimp only at hmm
    split at hmm
    . rename_i no
      split at hmm
      . rename_i okc
        cases hmm
        obtain ⟨C', hC, hS⟩ := hok c okc
        let E2 : XK := fun C _ H' => ∃ C', C = .ref C' /\ W.exmOne X.K (.ref C') (.ref CS) = some true /\ ∀ a, H' a = none -> D.nx ((σ.set i (some (.ref a))).set j none) (upd H' a (.ext (ExcIs a C')))
        obtain ⟨t, pt, so⟩ := hx pins (fun e s₁ => wpAny (model X.prog X.w) X.A (noteFrame e X.env) (fun _ s₂ => wpAny (model X.prog X.w) X.A (setFlight e none) (fun _ s₃ => wpAny (model X.prog X.w) X.A (handleBy e X.env [.ExceptHandler (some (.Name hc hp)) (some n) [.Assign [.Name y p1] (.Name n p2) p3] pos]) (SP X pins D) X.xe s₃) X.xe s₂) X.xe s₁) (fun σ' => σ' = σ) E2
          (fun pins' σ' H1 s1 e s' J1 hσ cx => by
            subst hσ
            exact caught tp (inv_untry J1) hN hi hj hij ly ln hdn hcn hg hm hdh hsw (fun C H' q => q) cx)
        have VI : SI X.K ⟨G, H, []⟩ G H σ ρ := (VS.of I no).si I.fz
        refine wpAny_mono (pt [] s σ H { nx := fun _ _ => False, rt := fun _ _ => False } (inv_try J) (so ⟨G, H, []⟩ G H σ ρ c VI rfl ex (fun H' C kp hC2 => ?_) _)) (fun f s1 q => ?_) fun _ _ q => q
        . have hC2 : W.nsIn X.K mainGlobals c = some (some (.ref C)) := hC2
          have : C = C' := by rw [hC] at hC2; cases hC2; rfl
          subst this
          have fz : Fz H H' := fun b o q => kp b o q (by simp)
          refine ⟨C, rfl, hS, fun a ha => ?_⟩
          have I2 : SI X.K B G H' σ ρ := I.grow (Fz.refl G) (I.fz.trans fz) (fun b o e => .inl (nn e)) fz
          have I3 := (I2.allocF ha (.ext (ExcIs a C))).set (i := i) (v := .ref a) (d := .exc c) ⟨a, C, rfl, hC, upd_same⟩
          exact k _ _ _ (I3.drop j) (Fz.new (I2.fz.free ha) _)
        . cases f with
          | next => obtain ⟨_, _, _, z⟩ := q; exact z.elim
          | brk => obtain ⟨_, _, _, z⟩ := q; exact z.elim
          | cont => obtain ⟨_, _, _, z⟩ := q; exact z.elim
          | ret u => obtain ⟨_, _, _, _, _, z⟩ := q; exact z.elim
      . cases hmm
    . cases hmm
noncomputable def rIsO (K : PySem.W.Frag) (cv : Value) : List V -> Hp -> VK -> Prop := fun xs H Q => ∃ a C u b, xs = [.ref a, u] /\ (∀ w, RelV u w -> w = cv) /\ H a = some (.ext (ExcIs a C)) /\ ExcC K C /\ PySem.W.kitOne K (.ref C) cv = some b /\ Q (.bl b) H
theorem call_isO (cv : Value) : CallR X (.builtin "isinstance") (rIsO X.K cv) := by
  intro pins s σ H xs us Q I r h
  obtain ⟨a, C, v, b, rfl, rv, ea, f, e, q⟩ := h
  obtain ⟨u, w', rfl, r1, r2⟩ := vals2 r
  cases (show u = Value.ref a from r1)
  have : w' = cv := rv w' r2
  subst this
  exact exc_isinst f I.kIn (I.hok a _ ea).1 e fun tk => ⟨.bl b, H, I.tok _, rfl, q⟩
noncomputable def eIsO (tab : List (Str × Bool)) (ma : ME) : ME := fun ρ => (ma ρ).bind fun p => match p.1 with
  | .exc c => (tab.lookup c).map fun b => (.bl b, p.2)
  | _ => none
noncomputable abbrev TabOk (K : PySem.W.Frag) (cv : Value) (tab : List (Str × Bool)) : Prop := ∀ c b, tab.lookup c = some b -> ∃ C, CName K c C /\ ExcC K C /\ PySem.W.kitOne K (.ref C) cv = some b
section
variable {X : Cx} {a : Expr} {ma : ME} {p q pos : Pos} {tab : List (Str × Bool)} {x : Str}
theorem se_isO_core {v : V} {b : Expr} (hcv : ∀ w, RelV v w -> w = cv) (ml : X.mg "isinstance" = none) (ht : TabOk X.K cv tab) (ha : SE X a ma) (pb : PE X b (tC v)) (hg :autoParam (Gl X "isinstance") zu2._auto_1)
    (he :autoParam (starEach [a, b] X.env = (false, eval a X.env) :: starEach [b] X.env) zu2._auto_1) (he2 :autoParam (starEach [b] X.env = (false, eval b X.env) :: starEach [] X.env) zu2._auto_1) (hpl :autoParam ((backTo pos (starEach [b] X.env)).any (·.1) = false) zu2._auto_1) :
    SE X (.Call (.Name "isinstance" p) [a, b] [] pos) (eIsO tab ma) := by
  obtain ⟨ta, pa, sa⟩ := ha
  refine ⟨_, pe_callB (call_isO cv) hg ml boot_isinstance (pa_cons pa (pa_cons pb pa_nil he2) he) (by decide) (by decide) he hpl, fun B G H σ ρ d ρ' Q I hm k => ?_⟩
  obtain ⟨⟨y, ρ1⟩, e1, hm⟩ := bind_inv hm
  refine sa B G H σ ρ y ρ1 _ I e1 fun G1 H1 u I1 f1 r1 => ?_
  cases y with
  | exc c =>
    obtain ⟨b, e2, e3⟩ := map_inv hm
    cases e3
    obtain ⟨C, hC, f, hk⟩ := ht c b e2
    obtain ⟨a', C', rfl, hC', ga⟩ := r1
    have hC' : W.nsIn X.K mainGlobals c = some (some (.ref C')) := hC'
    have : C' = C := by rw [hC] at hC'; cases hC'; rfl
    subst this
    exact ⟨a', C', v, b, rfl, hcv, I1.fz _ _ ga, f, hk, k G1 H1 _ I1 f1 rfl⟩
  | non => cases hm
  | bl _ => cases hm
  | int _ => cases hm
  | str _ => cases hm
  | lst _ => cases hm
  | tup _ => cases hm
  | scr _ => cases hm
  | dic _ _ => cases hm
  | dit _ _ => cases hm
theorem se_isO {C2 : Addr} (ml : X.mg "isinstance" = none) (mC : X.mg x = some (.ref C2)) (ht : TabOk X.K (.ref C2) tab) (ha : SE X a ma) (hg :autoParam (Gl X "isinstance") zu2._auto_1) (hgx :autoParam (Gl X x) zu2._auto_1) (hd :autoParam ((x == ("__debug__" : Str)) = false) zu1._auto_1)
    (he :autoParam (starEach [a, .Name x q] X.env = (false, eval a X.env) :: starEach [.Name x q] X.env) zu2._auto_1) (he2 :autoParam (starEach [.Name x q] X.env = (false, eval (.Name x q) X.env) :: starEach [] X.env) zu2._auto_1) (hpl :autoParam ((backTo pos (starEach [.Name x q] X.env)).any (·.1) = false) zu2._auto_1) :
    SE X (.Call (.Name "isinstance" p) [a, .Name x q] [] pos) (eIsO tab ma) := se_isO_core (v := .ref C2) (fun w r => r) ml ht ha (pe_glob hgx mC rfl hd) hg he he2 hpl
theorem se_isOT {T : String} (ml : X.mg "isinstance" = none) (mT : X.mg x = none) (hbT : bootBuiltins x = some (.type T)) (ht : TabOk X.K (.type T) tab) (ha : SE X a ma) (hg :autoParam (Gl X "isinstance") zu2._auto_1) (hgx :autoParam (Gl X x) zu2._auto_1) (hn :autoParam (x ≠ "__name__") zu1._auto_1) (hd :autoParam ((x == ("__debug__" : Str)) = false) zu1._auto_1)
    (he :autoParam (starEach [a, .Name x q] X.env = (false, eval a X.env) :: starEach [.Name x q] X.env) zu2._auto_1) (he2 :autoParam (starEach [.Name x q] X.env = (false, eval (.Name x q) X.env) :: starEach [] X.env) zu2._auto_1) (hpl :autoParam ((backTo pos (starEach [.Name x q] X.env)).any (·.1) = false) zu2._auto_1) :
    SE X (.Call (.Name "isinstance" p) [a, .Name x q] [] pos) (eIsO tab ma) := se_isO_core (v := .ty T) (fun w r => r) ml ht ha (pe_bltn (v := .ty T) hgx mT hbT rfl hn hd) hg he he2 hpl
end
noncomputable abbrev IsOk (K : PySem.W.Frag) (mg : Str -> Option Value) (c : Str) (tab : List (Str × Bool)) : Prop := ∃ C2, mg c = some (.ref C2) /\ TabOk K (.ref C2) tab
theorem se_isOx {a : Expr} {ma : ME} {p q pos : Pos} (ml : X.mg "isinstance" = none) (h : IsOk X.K X.mg x tab) (ha : SE X a ma) (hg :autoParam (Gl X "isinstance") zu2._auto_1) (hgx :autoParam (Gl X x) zu2._auto_1) (hd :autoParam ((x == ("__debug__" : Str)) = false) zu1._auto_1)
    (he :autoParam (starEach [a, .Name x q] X.env = (false, eval a X.env) :: starEach [.Name x q] X.env) zu2._auto_1) (he2 :autoParam (starEach [.Name x q] X.env = (false, eval (.Name x q) X.env) :: starEach [] X.env) zu2._auto_1) (hpl :autoParam ((backTo pos (starEach [.Name x q] X.env)).any (·.1) = false) zu2._auto_1) :
    SE X (.Call (.Name "isinstance" p) [a, .Name x q] [] pos) (eIsO tab ma) := let ⟨_, h1, h2⟩ := h; se_isO ml h1 h2 ha hg hgx hd he he2 hpl
theorem cat_nil {P : Str -> Prop} : ∀ c, ([] : List Str).contains c = true -> P c := fun c h => by simp at h
theorem cat_cons {P : Str -> Prop} {d : Str} {ok : List Str} (h : P d) (t : ∀ c, ok.contains c = true -> P c) : ∀ c, (d :: ok).contains c = true -> P c := fun c hc => by
  rw [List.contains_cons, Bool.or_eq_true] at hc
  rcases hc with hc | hc
  . rw [eq_of_beq hc]; exact h
  . exact t c hc
theorem tab_nil {P : Str -> Bool -> Prop} : ∀ c b, ([] : List (Str × Bool)).lookup c = some b -> P c b := fun c b h => by cases h
theorem tab_cons {P : Str -> Bool -> Prop} {b0 : Bool} (h : P d b0) (t : ∀ c b, tab.lookup c = some b -> P c b) : ∀ c b, ((d, b0) :: tab).lookup c = some b -> P c b := fun c b hc => by
  rw [List.lookup_cons] at hc
  cases z : c == d with
  | true => rw [z] at hc; cases hc; rw [eq_of_beq z]; exact h
  | false => rw [z] at hc; exact t c b hc
theorem cls_of {sl : Array (Option Value)} (l : K.lookup C = some ⟨oc, od, .cls cd, sl⟩) : (W.clsIn K C).isSome = true := by
  unfold W.clsIn
  have l' : List.lookup C K = some ⟨oc, od, .cls cd, sl⟩ := l
  rw [l']; rfl
theorem exm_base (h : W.mroIn K C (.type "BaseException") = some true) : W.exmOne K (.ref C) (.type "BaseException") = some true := by
  unfold W.exmOne W.kitCls
  have e1 : W.subIn K (.type "BaseException") (.type "BaseException") = some true := by unfold W.subIn; dsimp only; decide +kernel
  have e2 : W.kitMeta "BaseException" = true := by decide +kernel
  rw [e1, if_pos (by rfl)]
  dsimp only
  rw [if_pos e2]
  exact h
theorem exm_own (hb : W.mroIn K CS (.type "BaseException") = some true) (hc : (W.clsIn K CS).isSome = true) (ht : W.typeIn K (.ref CS) = some (.type "type")) (hm : W.mroIn K C (.ref CS) = some true) : W.exmOne K (.ref C) (.ref CS) = some true := by
  unfold W.exmOne W.kitCls
  have e1 : W.subIn K (.ref CS) (.type "BaseException") = some true := hb
  rw [e1, if_pos (by rfl)]
  dsimp only
  rw [hc, ht, if_pos (by rfl)]
  exact hm
theorem kit_cls {C C2 : Addr} (hc : (W.clsIn K C2).isSome = true) (ht : W.typeIn K (.ref C2) = some (.type "type")) (hm : W.mroIn K C (.ref C2) = some b) : W.kitCls K (.ref C) (.ref C2) = some b := by
  unfold W.kitCls
  dsimp only
  rw [hc, ht, if_pos (by rfl)]
  exact hm
theorem kit_true {C C2 : Addr} (hc : (W.clsIn K C2).isSome = true) (ht : W.typeIn K (.ref C2) = some (.type "type")) (hm : W.mroIn K C (.ref C2) = some true) : W.kitOne K (.ref C) (.ref C2) = some true := by
  unfold W.kitOne
  split
  . rfl
  . exact kit_cls hc ht hm
theorem kit_false {C C2 : Addr} (hs : W.mroIn K C (.ref C) = some true) (hc : (W.clsIn K C2).isSome = true) (ht : W.typeIn K (.ref C2) = some (.type "type")) (hm : W.mroIn K C (.ref C2) = some false) : W.kitOne K (.ref C) (.ref C2) = some false := by
  unfold W.kitOne
  split
  . rename_i z
    have z := eq_of_beq z
    cases z
    rw [hs] at hm; cases hm
  . exact kit_cls hc ht hm
theorem kit_type {T : String} (hk : W.kitMeta T = true) (hm : W.mroIn K C (.type T) = some b) : W.kitOne K (.ref C) (.type T) = some b := by
  unfold W.kitOne W.kitCls
  rw [if_neg (by simp)]
  dsimp only
  rw [if_pos hk]
  exact hm
section
variable {X : Cx} {E : XK} {S : St -> Prop}
theorem xs_raiseC {c m : Str} {np cp cpos pos : Pos} {j : Nat} (tp : TopF X) (hxe : X.xe = leaveTo X E) (hgl : X.env.globals = mainGlobals) (hc : X.calm = true) (hr : RaiOk X.K X.mg c)
    (hg :autoParam (Gl X c) zu2._auto_1) (hd :autoParam ((c == ("__debug__" : Str)) = false) zu1._auto_1)
    (he :autoParam (starEach [Expr.Constant (.str m) j cp] X.env = (false, eval (.Constant (.str m) j cp) X.env) :: starEach [] X.env) zu2._auto_1) (hpl :autoParam (((backTo cpos (starEach [] X.env)).any (·.1)) = false) zu2._auto_1) :
    XS X S E (.Raise (some (.Call (.Name c np) [.Constant (.str m) j cp] [] cpos)) none pos) (fun _ => some c) := by
  obtain ⟨C, hm, hn, hC⟩ := hr
  refine ⟨fun D σ H => E (.ref C) none H, fun pins s σ H D I h => ?_, fun B G H σ ρ c' I hS hm' w D => ?_⟩
  . obtain ⟨mm, fr⟩ := I.fr
    have own := hC X.base X.mg c I.ok.mod.kin hm
    have pa := (pa_cons (X := X) (pe_str (X := X) (x := m) (j := j) (pos := cp)) pa_nil he) cpos pins s σ H (fun vs H1 => vs.length = 1 /\ H1 = H) I ⟨rfl, rfl⟩
    have kd : X.env.kindOf c = some .globalImplicit := hg
    have gl := I.ok.mod.glob.keeps fr.keep
    rw [<- hgl] at gl
    obtain ⟨v1, v2, v3, v4, v5, v6, v7, v8, v9, v10, v11, v12, v13, v14, v15, v16, v17, o1, o2, o3, o4⟩ := own.obj
    refine wpAny_Raise_call_subT (bm := v1) (N := v2) (nm := v3) (q := v4) (bs := v5) (hdct := v6) (sn := v7) (sub := v8) (ab := v9) (col := v10) (dd := v11) (k0 := v12) (k1 := v13) (k2 := v14) (k3 := v15) (k5 := v16) F.excBase_ValueError (o4.hasType F.excBase_ValueError.hasBase) (I.ok.hd hc) ?pl o3 (Calls.Name_function_global I.ok.kind kd (Calls.loadGlobal_global gl own.bound ⟨rfl, ?_⟩) hd)
    case pl => rw [he]; exact hpl
    rw [he] at pa ⊢
    refine Calls.evalArgs_plain (wpAny_mono pa (fun us s2 ⟨vs, H1, I1, r, q1, q2⟩ => ?_) fun _ _ q => q)
    subst q2
    refine ⟨rfl, ?_, I1.bk _ _ o1, o2.keeps I1.bk, o4.keeps I1.bk, fun h' e mk => raises1 (tk := s2.toks) tp hxe I1 mk h⟩
    rw [<- r.length, q1]; decide
  . cases hm'
    exact w H C (fun b o q hn => I.keep b o q hn) hn
end
noncomputable def gS (j : Nat) (mi : ME) : D -> R -> Option R := fun d ρ => if hasV ρ j then (mi ρ).bind fun q => match q.1 with
  | .int k => q.2[j]?.bind fun s => s.items.bind fun ds => (ixN ds.length k).bind fun n => some (q.2.set j (s.put (ds.set n d)))
  | _ => none else none
section
variable {X : Cx}
theorem sg_sub (j : Nat) {mi : ME} {pos' tpos : Pos} (hi : SE X i mi) (hN :autoParam (X.N[j]? = some x) zu2._auto_1) (hv :autoParam (Vis X.env.scope x) zu5._auto_1) (hd :autoParam ((x == ("__debug__" : Str)) = false) zu1._auto_1)
    (hcd :autoParam ((x == ("__classdict__" : Str)) = false) zu1._auto_1)
    (ha :autoParam (∀ v, assign (.Subscript (.Name x pos') i tpos) X.env v = (do
      let ov <- holding [v] (eval (.Name x pos') X.env)
      let iv <- holding [v, ov] (eval i X.env)
      standAt tpos
      holding [v, ov, iv] (setItem ov iv v)
      release [v, ov, iv] [])) zu8._auto_1) : SG X (.Subscript (.Name x pos') i tpos) (gS j mi) := by
  obtain ⟨u, q, z⟩ := hi
  refine ⟨_, pg_sub (pe_var hN hv hd hcd) q set_list ha, fun B G H σ ρ v d ρ' Q I r1 hm k => ?_⟩
  unfold gS at hm
  split at hm
  . rename_i hh
    obtain ⟨w, ew⟩ := I.has hh
    obtain ⟨⟨kd, ρ2⟩, e2, hm⟩ := bind_inv hm
    cases kd <;> try cases hm
    rename_i kk
    obtain ⟨s2, e3, hm⟩ := bind_inv hm
    obtain ⟨ds, e4, hm⟩ := bind_inv hm
    obtain ⟨n, e5, hm⟩ := bind_inv hm
    cases hm
    refine ⟨w, ew, z B G H σ ρ (.int kk) ρ2 _ I e2 fun G2 H2 y I2 f2 r2 => ?_⟩
    obtain ⟨l, xs, k1, k2, k3, k4⟩ := I2.wr e3 e4
    rw [ew] at k1; cases k1
    refine ⟨l, xs, kk, n, rfl, r2, k3, by rw [k4.length]; exact e5, ?_⟩
    exact k G2 _ σ (I2.write e3 e4 ew (k4.set n (r1.mono f2))) f2
  . cases hm
end
end M
namespace M
open L2 PySem
noncomputable def likeS : Sl -> Sl -> Bool
  | .own ds, .own es => match intsOf ds, intsOf es with
    | some a, some b => a == b
    | _, _ => false
  | .par ds, .par es => match intsOf ds, intsOf es with
    | some a, some b => a == b
    | _, _ => false
  | .own _, _ => false
  | .par _, _ => false
  | .tre _, _ => false
  | .ptr _, _ => false
  | _, _ => true
theorem like_ints {ds es : List D} (h : (match intsOf ds, intsOf es with
    | some a, some b => a == b
    | _, _ => false) = true) : ∃ ns : List Int, ds = ns.map .int /\ es = ns.map .int := by
  cases a : intsOf ds with
  | none => rw [a] at h; cases h
  | some x =>
    cases b : intsOf es with
    | none => rw [a, b] at h; cases h
    | some y =>
      rw [a, b] at h
      have e : x = y := by simpa using h
      subst e
      exact ⟨x, intsOf_inv a, intsOf_inv b⟩
end M
namespace M
open L2 PySem PySem.Spec
open PyProof.Rows hiding St
noncomputable def Sl.putT (s : Sl) (t : T) : Sl := match s with
  | .tre _ => .tre t
  | .ptr _ => .ptr t
  | s => s
noncomputable def Sl.tree : Sl -> Option T
  | .tre t => some t
  | _ => none
section
variable {K : PySem.W.Frag} {B : Bs} {G G' H H' : Hp} {σ : St} {ρ : R}
theorem SI.setT (I : SI K B G H σ ρ) {i : Nat} {v : V} {t : T} {A : List Addr} (r : RepT K G H v t A) (nd : A.Nodup) (hA : ∀ a ∈ A, G a = none /\ B.H a = none /\ Nw K G H σ ρ a) : SI K B G H (σ.set i (some v)) (ρ.set i (.tre t)) :=
  I.chg I.fz (Fz.refl G) I.new I.keep I.there (fun j s a _ e w g _ => ⟨g, rfl, fun ⟨v2, A2, k1, k2, k3⟩ => by
    cases k1
    rw [k2.det r fun _ _ => rfl] at k3
    exact (hA a k3).2.2 j s e w⟩) ⟨v, A, rfl, r, nd, fun a m => ⟨(hA a m).1, (hA a m).2.1⟩⟩
open Classical in
end
section
variable {J κ : Type} [DecidableEq J] [DecidableEq κ]
noncomputable def lkD : List J -> List D -> J -> Option D
  | k :: ks, d :: ds, j => if k = j then some d else lkD ks ds j
  | _, _, _ => none
variable {K : PySem.W.Frag} {G : Hp} {em : J -> κ}
end
noncomputable def Sl.dic : Sl -> Option (List Int × List D)
  | .tre (.dic ks ds) => some (ks, ds)
  | .val (.dic ks ds) => some (ks, ds)
  | _ => none
noncomputable def tDI (j : Nat) (neg : Bool) (mk : ME) : MT := fun ρ => (mk ρ).bind fun p => match p.1 with
  | .int k => (p.2[j]?.bind Sl.dic).map fun q => (((lkD q.1 q.2 k).isSome != neg), p.2)
  | _ => none
noncomputable def fzD (j : Nat) (ρ : R) : R := match ρ[j]? with
  | some (.tre (.dic ks ds)) => ρ.set j (.val (.dic ks ds))
  | _ => ρ
end M
namespace HT
open L2 PyProof.Rows PySem PySem.Spec
section
variable {prog : Program} {w : World} {A : Around} {E : Value -> Shared -> Prop} {I : Addr} {fp wr : List Addr} {n : Nat} {St : Nat -> Heap -> Prop}
theorem draw_walk {its : List Value} (W : Walks prog w A I fp wr n (fun i v => its[i]? = some v) St) : ∀ (m i : Nat) (s : Shared) (Q : List Value -> Shared -> Prop), i + m <= n -> St i s.heap ->
    (∀ h' tk, St (i + m) h' -> (∀ b o, b ∉ wr -> s.heap.get? b = some o -> h'.get? b = some o) -> Q ((its.drop i).take m) { s with heap := h', toks := tk }) -> wpAny (model prog w) A (draw (.ref I) m) Q E s
  | 0, i, s, Q, _, st, hq => wpAny_pure (by simpa using hq s.heap s.toks st fun _ _ _ e => e)
  | m + 1, i, s, Q, hi, st, hq => by
    show wpAny _ _ (pyNext (.ref I) >>= _) Q E s
    refine wpAny_bind (W.item i s _ _ (by lia) st fun v h1 tk1 hv st1 k1 => ?_)
    refine wpAny_bind (wpAny_holding (draw_walk W m (i + 1) _ _ (by lia) st1 fun h2 tk2 st2 k2 => wpAny_pure ?_))
    have := hq h2 tk2 (by rw [show i + (m + 1) = i + 1 + m by lia]; exact st2) fun b o nb e => k2 b o nb (k1 b o nb e)
    obtain ⟨hl, ev⟩ := List.getElem?_eq_some_iff.mp hv
    rw [List.drop_eq_getElem_cons hl, List.take_succ_cons, ev] at this
    exact this
end
end HT
namespace L2
open PyProof.Rows PySem PySem.Spec
variable {X : Cx} {pos : Pos}
noncomputable def gTupL (K : PySem.W.Frag) (n : Nat) (t : TGs) : TG := fun v σ H Q => ∃ a xs, v = .ref a /\ SqL K H a xs /\ xs.length = n /\ t xs σ H Q
theorem pg_tupL {es : List Expr} {k : Nat} {t : TGs} {n : Nat} (hc : X.calm = true) (h : PGs X es t)
    (hn :autoParam ((assignEach es X.env).length = n) zu2._auto_1) (hst :autoParam ((assignEach es X.env).findIdx? (·.1) = none) zu2._auto_1) : PG X (.Tuple es k pos) (gTupL X.K n t) := by
  intro pins s σ H v u Q I r hw
  obtain ⟨a, xs, e1, hq, hl, hw⟩ := hw
  subst e1
  cases r
  obtain ⟨its0, rv0, pl, hz⟩ := I.list hq
  rw [assign_Tuple]
  refine wpAny_bind (wpAny_standAt ?_)
  unfold unpack
  rw [hst, hn]
  refine wpAny_bind (wpAny_holding ?_)
  unfold unpackItems
  refine wpAny_bind ?_
  unfold notIterableAtAll
  refine wpAny_bind (wpAny_specialOf pl.isList.typeIs PySem.F.slot_list_iter.lookup ?_)
  refine wpAny_pure ?_
  simp only [Bool.false_eq_true, if_false]
  refine wpAny_bind (wpAny_holding (M.iter_seq (A := X.A) (I.ok.hd hc) I (.inl hq) fun its s₂ St rv W st hfp fin => ?_))
  have ln : its.length = n := by rw [<- rv.length, hl]
  refine wpAny_bind (wpAny_holding (HT.draw_walk W n 0 s₂ _ (by lia) st fun h1 tk1 st1 k1 => ?_))
  have hall : List.take n (List.drop 0 its) = its := by rw [List.drop_zero]; exact List.take_of_length_le (by lia)
  rw [hall, if_neg (by lia)]
  refine wpAny_bind (wpAny_holding (W.done _ _ _ (by rw [ln, <- Nat.zero_add n]; exact st1) fun h2 tk2 k2 => ?_))
  simp only [Option.isSome_none, Bool.false_eq_true, if_false]
  refine wpAny_pure ?_
  exact h pins _ σ H xs _ Q (fin h2 tk2 fun b o nb e => k2 b o nb (k1 b o nb e)) rv hw
end L2
namespace M
open L2 PySem PySem.Spec
open PyProof.Rows hiding St
noncomputable def Ch.sl : Ch -> Sl
  | .d x => .val x
  | .l ds => .own ds
  | .t xss => .tre (.lst (xss.map .l))
theorem tb_cs {K : PySem.W.Frag} {G H : Hp} : ∀ {xs : List V} {dss : List (List D)} {A : List Addr}, RepTb K G H xs dss A -> RepCs K G H xs (dss.map .l) A
  | [], [], _, h => h
  | x :: xs, ds :: dss, _, ⟨r, ys, A2, e1, e2, e3, e4, e5⟩ => ⟨[r], A2, ⟨r, ys, e1, e2, e3, rfl⟩, tb_cs e4, e5⟩
  | [], _ :: _, _, h => h.elim
  | _ :: _, [], _, h => h.elim
noncomputable def putCs : List Nat -> List Ch -> R -> R
  | i :: is, c :: cs, ρ => putCs is cs (ρ.set i c.sl)
  | _, _, ρ => ρ
noncomputable def sUnT (j : Nat) (is : List Nat) : MS := fun ρ => match ρ[j]? with
  | some (.tre (.lst cs)) => if cs.length = is.length then some (.next, putCs is cs (ρ.set j .emp)) else none
  | _ => none
section
variable {K : PySem.W.Frag} {B : Bs} {G H : Hp}
noncomputable def gNames : List Nat -> TGs
  | [] => gNil
  | i :: is => gCons (gName i) (gNames is)
theorem put_cs : ∀ {is : List Nat} {cs : List Ch} {xs : List V} {A : List Addr} {σ : St} {ρ : R} {Q : St -> Hp -> Prop}, SI K B G H σ ρ -> RepCs K G H xs cs A -> A.Nodup -> (∀ a ∈ A, G a = none /\ B.H a = none /\ Nw K G H σ ρ a) -> cs.length = is.length -> (∀ σ', SI K B G H σ' (putCs is cs ρ) -> Q σ' H) -> gNames is xs σ H Q
  | [], [], [], _, σ, ρ, Q, I, _, _, _, _, k => ⟨rfl, k σ I⟩
  | [], _ :: _, _, _, _, _, _, _, _, _, _, h, _ => by cases h
  | _ :: _, [], _, _, _, _, _, _, _, _, _, h, _ => by cases h
  | [], [], _ :: _, _, _, _, _, _, r, _, _, _, _ => r.elim
  | i :: is, c :: cs, [], _, _, _, _, _, r, _, _, _, _ => r.elim
  | i :: is, c :: cs, x :: xs, A, σ, ρ, Q, I, ⟨A1, A2, r1, r2, e⟩, nd, hA, hl, k => by
    subst e
    refine ⟨x, xs, rfl, ?_⟩
    have nd2 := (List.nodup_append.mp nd)
    have fin : ∀ s, SI K B G H (σ.set i (some x)) (ρ.set i s) -> s = c.sl -> (∀ a ∈ A2, ¬ OwS K G H (some (some x)) a s) -> gNames is xs (σ.set i (some x)) H Q := fun s I' es no => by
      subst es
      refine put_cs I' r2 nd2.2.1 (fun a m => ?_) (by simpa using hl) k
      have h := hA a (List.mem_append_right _ m)
      refine ⟨h.1, h.2.1, fun j t et w => ?_⟩
      by_cases z : j = i
      . subst z
        rw [List.getElem?_set, if_pos rfl] at et w
        split at et
        . cases et
          split at w
          . exact no a m w
          . rename_i q1 q2; exact q2 (by rw [I.len]; exact q1)
        . cases et
      . rw [List.getElem?_set_ne (Ne.symm z)] at et w
        exact h.2.2 j t et w
    cases c with
    | d y => exact fin _ (I.set r1.1) rfl fun a _ w => w
    | l ds =>
      obtain ⟨l, ys, rfl, h1, h2, rfl⟩ := r1
      have h := hA l (List.mem_append_left _ (by simp))
      refine fin _ (I.setO h.1 h1 h2 h.2.1 h.2.2) rfl fun a m w => ?_
      cases (show some (some (V.ref l)) = some (some (.ref a)) from w)
      exact nd2.2.2 l (by simp) l m rfl
    | t xss =>
      obtain ⟨p, ys, A', rfl, h1, h2, rfl⟩ := r1
      have rt : RepT K G H (.ref p) (.lst (xss.map .l)) (p :: A') := ⟨p, ys, A', rfl, h1, tb_cs h2, rfl⟩
      refine fin _ (I.setT rt nd2.1 fun a m => hA a (List.mem_append_left _ m)) rfl fun a m w => ?_
      obtain ⟨v2, A3, w1, w2, w3⟩ := w
      cases w1
      rw [w2.det rt fun _ _ => rfl] at w3
      exact nd2.2.2 a w3 a m rfl
end
section
variable {X : Cx} {pos : Pos}
noncomputable def PNames (X : Cx) : List Nat -> List Expr -> Prop
  | [], [] => True
  | i :: is, .Name x _ :: es => X.N[i]? = some x /\ Loc X.env.scope x /\ (X.fn x = true \/ X.env.scope.names.lookup x = some .local) /\ PNames X is es
  | _, _ => False
theorem pgs_names (hN : X.N.Nodup) : ∀ {is : List Nat} {es : List Expr}, PNames X is es -> PGs X es (gNames is)
  | [], [], _ => pgs_nil
  | i :: is, .Name x p :: es, ⟨h1, h2, h3, h4⟩ => pgs_cons (pg_name hN h1 h2 h3) (pgs_names hN h4)
end
end M
namespace M
open L2 PySem PySem.Spec
open PyProof.Rows hiding St
open Classical in
noncomputable def fMT (N : Nat) (m : MS) : List D -> T -> List D -> Option (Sl × List D) := fun cs t ds => (m (.par cs :: .tre t :: (ds.map .val ++ List.replicate (N - (ds.length + 2)) .emp))).bind fun p => match p.1, (p.2[0]? : Option Sl) with
  | Fl.ret r, some (Sl.par out) => some (r, out)
  | Fl.next, some (Sl.par out) => some (.val .non, out)
  | _, _ => none
noncomputable abbrev MP' := R -> Option (List Ch × R)
noncomputable def cOwn (i : Nat) (r : MP') : MP' := fun ρ => match ρ[i]? with
  | some (.own ds) => (r (ρ.set i .emp)).map fun q => (.l ds :: q.1, q.2)
  | _ => none
end M
namespace M
open L2 PySem PySem.Spec
open PyProof.Rows hiding St
noncomputable def Ch.D : Ch -> M.D
  | .d x => x
  | .l ds => .lst ds
  | .t xss => .lst (xss.map .lst)
noncomputable def sTA (i j : Nat) : MS := fun ρ => match ρ[i]?, ρ[j]? with
  | some (.tre (.lst cs)), some (.own ds) => if cs.length < 16777216 then some (.next, (ρ.set j .emp).set i (.tre (.lst (cs ++ [.l ds])))) else none
  | _, _ => none
noncomputable abbrev MQ := R -> Option D
noncomputable def fzT (j : Nat) (ρ : R) : R := match ρ[j]? with
  | some (.tre (.lst cs)) => ρ.set j (.val (.lst (cs.map Ch.D)))
  | _ => ρ
section
variable {X : Cx} {x y : Str} {pos p' q' tpos : Pos}
variable {e : Expr} {es : List Expr} {ma : MA} {k k' n : Nat} {F : List D -> Option Sl}
variable {a b : Expr} {mi mk : MQ}
noncomputable def sPar (i j : Nat) (ma : MA) : MS := fun ρ => (ma ρ).bind fun p => match p.1 with
  | [c, d] => some (.next, (p.2.set i (.val c)).set j (.val d))
  | _ => none
end
theorem ndk {l : List Str} (h :autoParam (decide l.Nodup = true) zu10._auto_1) : l.Nodup := of_decide_eq_true h
theorem us_0 {p : List Value -> Prop} (h : p []) : ∀ us : List Value, us.length = 0 -> p us := fun us e => by
  cases us with
  | nil => exact h
  | cons => cases e
theorem us_s {p : List Value -> Prop} {n : Nat} (h : ∀ (a : Value) (us : List Value), us.length = n -> p (a :: us)) : ∀ us : List Value, us.length = n + 1 -> p us := fun us e => by
  cases us with
  | nil => cases e
  | cons a us => exact h a us (Nat.succ.inj e)
section
variable {P : Program} {w : World} {K : PySem.W.Frag} {mg : Str -> Option Value} {base hp : Heap} {x : Str} {st : Stmt} {f : Addr}
noncomputable def FnAt (K : PySem.W.Frag) (x : Str) (st : Stmt) : Prop := ∃ f fd, PySem.W.nsIn K mainGlobals x = some (some (.ref f)) /\ Fun K x x st f fd
theorem FnAt.mk {oc : Value} {od an : Option Addr} {osl : Array (Option Value)} {kV doc pm cdv ct : Value} (a : PySem.W.nsIn K mainGlobals x = some (some (.ref f))) (l : K.lookup f = some ⟨oc, od, .func (PySem.W.fnOf x x (defArgs st) (defBody st) (defScope st) .none kV doc pm an cdv ct), osl⟩)
    (c : PySem.W.codeIn K cdv x = true) (k : PySem.W.keepIn K (.ref f) = true) : FnAt K x st := ⟨f, _, a, fun_mk l c k⟩
noncomputable abbrev BindsAt (x : Str) (st : Stmt) (ps : List Str) : Prop := ∀ (kV doc pm : Value) (an : Option Addr) (cdv ct : Value) (us : List Value), us.length = ps.length -> bindArgs (PySem.W.fnOf x x (defArgs st) (defBody st) (defScope st) .none kV doc pm an cdv ct) ⟨us, []⟩ = pure (ps.zip us)
theorem FnAt.law (h : FnAt K x st) (X : K.In hp) (G : hp.Ns mainGlobals mg) (hf : mg x = some (.ref f)) : ∃ kV doc pm an cdv ct, Fun K x x st f (PySem.W.fnOf x x (defArgs st) (defBody st) (defScope st) .none kV doc pm an cdv ct) := by
  obtain ⟨f', fd, a, T⟩ := h
  have e := hf.symm.trans (PySem.W.mg_of X G a)
  cases e
  obtain ⟨oc, od, kV, doc, pm, an, cdv, ct, osl, rfl, lk, hcd⟩ := id T.ex
  exact ⟨kV, doc, pm, an, cdv, ct, T⟩
variable {N : List Str} {k n : Nat} {m : MS}
noncomputable abbrev Bd (P : Program) (w : World) (K : PySem.W.Frag) (mg : Str -> Option Value) (base : Heap) (x : Str) (st : Stmt) (N : List Str) (k : Nat) (m : MS) : Prop := ∀ (f : Addr) (cdv : Value) (A : Around) (outer : List Env) (s : Shared) (H : Hp) (E : XK), Room k (A.deeper (PyProof.Rows.envOfC x (defScope st) s.heap.objs.size f cdv)) -> N.Nodup -> SSs (cxOf CX0 P w K mg base N x (defScope st) f cdv A outer s H E).nox (defBody st) m
structure DefOk (x : Str) (st : Stmt) (N : List Str) (n : Nat) : Prop where
  sc : FnScope N (N.take n) (defScope st)
  len : (N.take n).length = n
  le : n <= N.length
  bs : BindsAt x st (N.take n)
theorem lawP {fd : FuncData} (F : Fun K x x st f fd) (b : Bd P w K mg base x st N k m) (d : DefOk x st N n := by exact ⟨⟨rfl, rfl, rfl, by decide +kernel, rfl, by decide +kernel, by decide +kernel⟩, rfl, by decide, fun _ _ _ _ _ _ => by repeat (first | exact us_0 rfl | refine us_s fun _ => ?_)⟩) : FnOk P w K mg base CX0 (k + 1) f fd (N.take n) (spP K n (fP N.length m)) := fnP_ok F d.sc d.len d.le fun cdv A outer s H E hr => b _ cdv A outer s H E hr d.sc.nd
theorem fdP (X : K.In hp) (G : hp.Ns mainGlobals mg) (h : FnAt K x st) (b : Bd P w K mg base x st N k m) (d : DefOk x st N n := by exact ⟨⟨rfl, rfl, rfl, by decide +kernel, rfl, by decide +kernel, by decide +kernel⟩, rfl, by decide, fun _ _ _ _ _ _ => by repeat (first | exact us_0 rfl | refine us_s fun _ => ?_)⟩) : FD P w K mg base (k + 1) x (spP K n (fP N.length m)) :=
  let ⟨f, fd, a, T⟩ := h
  ⟨⟨f, fd, _, fnP_ok T d.sc d.len d.le fun cdv A outer s H E hr => b _ cdv A outer s H E hr d.sc.nd, PySem.W.mg_of X G a, T.kp, T.binds d.bs⟩⟩
theorem fdM (X : K.In hp) (G : hp.Ns mainGlobals mg) (h : FnAt K x st) (b : Bd P w K mg base x st N k m) (d : DefOk x st N n := by exact ⟨⟨rfl, rfl, rfl, by decide +kernel, rfl, by decide +kernel, by decide +kernel⟩, rfl, by decide, fun _ _ _ _ _ _ => by repeat (first | exact us_0 rfl | refine us_s fun _ => ?_)⟩) : FD P w K mg base (k + 1) x (spM K n (fM N.length m)) :=
  let ⟨f, fd, a, T⟩ := h
  ⟨⟨f, fd, _, fnM_ok T d.sc d.len d.le fun cdv A outer s H E hr => b _ cdv A outer s H E hr d.sc.nd, PySem.W.mg_of X G a, T.kp, T.binds d.bs⟩⟩
theorem fdX {m : MX} (X : K.In hp) (G : hp.Ns mainGlobals mg) (h : FnAt K x st) (b : ∀ (f : Addr) (cdv : Value) (A : Around) (outer : List Env) (s : Shared) (H : Hp) (E : XK), Room k (A.deeper (PyProof.Rows.envOfC x (defScope st) s.heap.objs.size f cdv)) -> N.Nodup -> XSs (cxOf (CX1 P w) P w K mg base N x (defScope st) f cdv A outer s H E) (fun _ => True) E (defBody st) m) (d : DefOk x st N n := by exact ⟨⟨rfl, rfl, rfl, by decide +kernel, rfl, by decide +kernel, by decide +kernel⟩, rfl, by decide, fun _ _ _ _ _ _ => by repeat (first | exact us_0 rfl | refine us_s fun _ => ?_)⟩) : FDX P w K mg base (k + 1) x (spX K n (fX N.length m)) :=
  let ⟨f, fd, a, T⟩ := h
  ⟨⟨f, fd, _, fnX_ok T d.sc d.len d.le fun cdv A outer s H E hr => b _ cdv A outer s H E hr d.sc.nd, PySem.W.mg_of X G a, T.kp, T.binds d.bs⟩⟩
end
variable {P : Program} {w : World} {H G : Hp} {h : Heap} {a b : Addr} {o : Obj} {xs : List (List L2.Key × Addr × Value)} {ks : List (List Int)} {ys : List (List L2.Key × V)}
noncomputable def Sl.dit : Sl -> Option (List (List Int) × List D)
  | .tre (.dit ks ds) => some (ks, ds)
  | .val (.dit ks ds) => some (ks, ds)
  | _ => none
end M
namespace M
open L2 PySem PySem.Spec
open PyProof.Rows hiding St
noncomputable def fzDT (j : Nat) (ρ : R) : R := match ρ[j]? with
  | some (.tre (.dit ks ds)) => ρ.set j (.val (.dit ks ds))
  | _ => ρ
noncomputable def eCallU (F : List D -> Option Sl) (ma : MA) : ME := fun ρ => (ma ρ).bind fun p => (F p.1).bind fun r => match r with
  | .tre (.tup cs) => some (.tup (cs.map Ch.D), p.2)
  | _ => none
noncomputable def fzU (j : Nat) (ρ : R) : R := match ρ[j]? with
  | some (.tre (.tup cs)) => ρ.set j (.val (.tup (cs.map Ch.D)))
  | _ => ρ
noncomputable def compT (f : D -> R -> Option (Option (List D) × R)) : List D -> R -> Option (List (List D) × R)
  | [], ρ => some ([], ρ)
  | d :: ds, ρ => (f d ρ).bind fun p => (compT f ds p.2).map fun q => (p.1.toList ++ q.1, q.2)
noncomputable def turnT (g : D -> R -> Option R) (mt : MT) (mo : MO) : D -> R -> Option (Option (List D) × R) := fun d ρ => (g d ρ).bind fun ρ1 => (mt ρ1).bind fun p => if p.1 then (mo p.2).bind fun q => if noOwn q.2 then some (some q.1, q.2) else none else if noOwn p.2 then some (none, p.2) else none
noncomputable def sTC (i : Nat) (cap : List Nat) (t : Nat) (mi : MA) (g : D -> R -> Option R) (mt : MT) (mo : MO) : MS := fun ρ => (mi ρ).bind fun p => if p.1.length <= 16777216 then (compT (turnT g mt mo) p.1 (capR cap t (fzL cap p.2))).map fun q => (.next, (fzL cap p.2).set i (.tre (.lst (q.1.map .l)))) else none
noncomputable def rowsOf : List Ch -> Option (List (List D))
  | [] => some []
  | .l ds :: cs => (rowsOf cs).map (ds :: ·)
  | _ => none
noncomputable def qMod (ma mb : MQ) : MQ := fun ρ => (ma ρ).bind fun a => (mb ρ).bind fun b => match a, b with
  | .int i, .int j => if 0 < j then some (.int (i % j)) else none
  | _, _ => none
noncomputable def sIns (i : Nat) (ma : MA) : MS := fun ρ => if (ρ[i]?.bind Sl.items).isSome then (ma ρ).bind fun p => p.2[i]?.bind fun s => s.items.bind fun ds => match p.1 with
  | [.int k, d] => if 0 <= k /\ k <= ds.length /\ ds.length < 16777216 then some (.next, p.2.set i (s.put (ds.take k.toNat ++ d :: ds.drop k.toNat))) else none
  | _ => none else none
structure LcT (K : PySem.W.Frag) (g : D -> R -> Option R) (mt : MT) (mo : MO) (items : List D) (all : List (List D)) (G2 H1 : Hp) (DD : Addr) (i : Nat) (σc : St) (Hc Gc : Hp) (ρc : R) (acc : List (List D)) (xs : List V) (A : List Addr) (rest : List (List D)) (ρe : R) : Prop where
  fc : Fz G2 Gc
  fcH : Fz Gc Hc
  nw : ∀ b o, Gc b = some o -> G2 b ≠ none \/ H1 b = none
  kp : ∀ b o, H1 b = some o -> Hc b = some o
  gD : Gc DD = none
  hDc : Hc DD = some (.lst xs)
  ra : RepTb K Gc Hc xs acc A
  nd : A.Nodup
  fr : ∀ a ∈ A, Gc a = none /\ H1 a = none /\ a ≠ DD
  hx : xs.length <= i
  vs : VS K Gc σc ρc
  ec : compT (turnT g mt mo) (items.drop i) ρc = some (rest, ρe)
  eall : all = acc ++ rest
theorem reptb_snoc {K : PySem.W.Frag} {G H : Hp} : ∀ {xs : List V} {dss : List (List D)} {A : List Addr} {l : Addr} {ys : List V} {ds : List D}, RepTb K G H xs dss A -> H l = some (.lst ys) -> RepL K G ys ds -> RepTb K G H (xs ++ [.ref l]) (dss ++ [ds]) (A ++ [l])
  | [], [], _, l, ys, ds, h, h1, h2 => by rw [show _ = [] from h]; exact ⟨l, ys, [], rfl, h1, h2, rfl, rfl⟩
  | x :: xs, e :: dss, _, l, ys, ds, ⟨r, zs, A2, e1, e2, e3, e4, e5⟩, h1, h2 => ⟨r, zs, A2 ++ [l], e1, e2, e3, reptb_snoc e4 h1 h2, by rw [e5]; rfl⟩
  | [], _ :: _, _, _, _, _, h, _, _ => h.elim
  | _ :: _, [], _, _, _, _, h, _, _ => h.elim
section
variable {X : Cx} {elt iter tg : Expr} {ifs : List Expr} {scope : Scope} {pos : Pos} {N : List Str} {cap : List Nat} {t : Nat} {mi : MA} {g : D -> R -> Option R} {mt : MT} {mo : MO}
theorem sound_lcT (i0 : Nat) {wi : TI} {tg' : Addr -> Shared -> Hp -> List Addr -> TG} {tt : Addr -> Shared -> Hp -> List Addr -> TT} {te : Addr -> Shared -> Hp -> List Addr -> TE}
    (si : ∀ B G H σ ρ ds ρ' (Q : It -> Hp -> Prop), SI X.K B G H σ ρ -> mi ρ = some (ds, ρ') -> (∀ J G' H', SI X.K B G' H' σ ρ' -> Fz G G' -> Itm X.K J G' ds -> Q J H') -> wi σ H Q)
    (sg : ∀ C s H₀ fp B G H σ ρ v d ρ' (Q : St -> Hp -> Prop), SI X.K B G H σ ρ -> RepD X.K G v d -> g d ρ = some ρ' -> (∀ G' H' σ', SI X.K B G' H' σ' ρ' -> Fz G G' -> Q σ' H') -> tg' C s H₀ fp v σ H Q)
    (st : ∀ C s H₀ fp B G H σ ρ d ρ' (Q : Bool -> Hp -> Prop), SI X.K B G H σ ρ -> mt ρ = some (d, ρ') -> (∀ G' H', SI X.K B G' H' σ ρ' -> Fz G G' -> Q d H') -> tt C s H₀ fp σ H Q)
    (se : ∀ C s H₀ fp B G H σ ρ ds ρ' (Q : VK), SI X.K B G H σ ρ -> mo ρ = some (ds, ρ') -> (∀ G' H' l xs, SI X.K B G' H' σ ρ' -> Fz G G' -> G' l = none -> H' l = some (.lst xs) -> RepL X.K G' xs ds -> B.H l = none -> Nw X.K G' H' σ ρ' l -> Q (.ref l) H') -> te C s H₀ fp σ H Q) :
    ∀ B G H σ ρ fl ρ' (E : Ends), SI X.K B G H σ ρ -> sTC i0 cap t mi g mt mo ρ = some (fl, ρ') -> Post X.K B G E fl ρ' -> tLC (capσ cap t) wi tg' tt te σ H fun v H' => E.nx (σ.set i0 (some v)) H' := by
  intro B G H σ ρ fl ρ' E I hm k
  obtain ⟨⟨items, ρ1⟩, e1, hm⟩ := bind_inv hm
  refine si B G H σ ρ items ρ1 _ I e1 fun J G1 H1 I1 f1 IT DD hD => ?_
  dsimp only at hm
  split at hm
  . rename_i hlen
    obtain ⟨⟨all, ρf⟩, e2, e3⟩ := map_inv hm
    obtain ⟨rfl, rfl⟩ := Prod.mk.inj e3
    obtain ⟨G2, I2, f2⟩ := SI.fzL cap I1
    have hDG : G2 DD = none := I2.fz.free hD
    refine ⟨fun i m σc Hc => m = items.length - i /\ i <= items.length /\ ∃ Gc ρc acc xs A rest ρe, LcT X.K g mt mo items all G2 H1 DD i σc Hc Gc ρc acc xs A rest ρe,
      ⟨items.length, by simp, Nat.zero_le _, G2, capR cap t (M.fzL cap ρ1), [], [], [], all, ρf, { fc := Fz.refl _, fcH := I2.fz.right hDG _, nw := fun b o e => .inl (by rw [e]; simp), kp := fun b o e => by rw [upd_ne (ne_of_none e hD)]; exact e, gD := hDG, hDc := upd_same, ra := rfl, nd := by simp, fr := fun a m => (by cases m), hx := Nat.le_refl _, vs := cap_vs I2 cap t, ec := by simpa using e2, eall := rfl }⟩, ?_⟩
    rintro i m σc Hc ⟨rfl, hi, Gc, ρc, acc, xs, A, rest, ρe, J0⟩
    obtain ⟨fc, fcH, nw, kp, gD, hDc, ra, nd, fr, hx, vs, ec, eall⟩ := J0
    by_cases hlt : i < items.length
    . refine .inr ⟨IT.go Hc i (f2.trans (fc.trans fcH)) hlt, fun C s₀ H₀ fp x H' y => ?_⟩
      rw [List.drop_eq_getElem_cons hlt] at ec
      simp only [compT] at ec
      obtain ⟨⟨o, ρ3⟩, h3, ec⟩ := bind_inv ec
      obtain ⟨⟨rest2, ρ4⟩, h4, ec⟩ := map_inv ec
      obtain ⟨rfl, rfl⟩ := Prod.mk.inj ec
      dsimp only at h4
      unfold turnT at h3
      obtain ⟨ρ5, h5, h3⟩ := bind_inv h3
      obtain ⟨⟨ok, ρ6⟩, h6, h3⟩ := bind_inv h3
      dsimp only at h3
      have Ic : SI X.K ⟨Gc, Hc, []⟩ Gc Hc σc ρc := vs.si fcH
      have fz2 : Fz G1 Hc := f2.trans (fc.trans fcH)
      have yy := IT.yld Hc i x H' fz2 y items[i] (List.getElem?_eq_getElem hlt)
      have yy2 : (H' = Hc /\ RepD X.K Gc x items[i]) \/ ∃ p xs es, Hc p = none /\ H' = upd Hc p (.tup xs) /\ x = .ref p /\ items[i] = .tup es /\ RepL X.K Gc xs es := by
        rcases yy with ⟨a, b⟩ | ⟨p, xs, es, a, b, c, d, e⟩
        . exact .inl ⟨a, b.mono (f2.trans fc)⟩
        . exact .inr ⟨p, xs, es, a, b, c, d, e.mono (f2.trans fc)⟩
      obtain ⟨G3, I3, f3, r3⟩ := Ic.yld yy2
      refine sg C s₀ H₀ fp _ G3 H' σc ρc x items[i] ρ5 _ I3 r3 h5 fun G4 H4 σ4 I4 f4 => st C s₀ H₀ fp _ G4 H4 σ4 ρ5 ok ρ6 _ I4 h6 fun G5 H5 I5 f5 => ?_
      have facts : ∀ (G' H' : Hp) (σ' : St) (ρ' : R), SI X.K ⟨Gc, Hc, []⟩ G' H' σ' ρ' -> Fz Gc G' -> (∀ b o, G' b = some o -> G2 b ≠ none \/ H1 b = none) /\ (∀ b o, H1 b = some o -> H' b = some o) /\ G' DD = none /\ H' DD = some (.lst xs) /\ RepTb X.K G' H' xs acc A /\ ∀ a ∈ A, G' a = none /\ H1 a = none /\ a ≠ DD := fun G' H' σ' ρ' I' ff => by
        have stay : ∀ b o, Gc b = none -> Hc b = some o -> G' b = none := fun b o h1 h2 => by
          cases q : G' b with
          | none => rfl
          | some u =>
            rcases I'.new b u q with h | h
            . exact absurd h1 h
            . rw [show Hc b = none from h] at h2; cases h2
        refine ⟨fun b o e => ?_, fun b o e => I'.keep b o (kp b o e) (by simp), stay DD _ gD hDc, I'.keep DD _ hDc (by simp), ra.move ff fun a m => ?_, fun a m => ?_⟩
        . rcases I'.new b o e with h | h
          . have h : Gc b ≠ none := h
            cases q : Gc b with
            | none => exact absurd q h
            | some u => exact nw b u q
          . refine .inr ?_
            cases q : H1 b with
            | none => rfl
            | some u => have := kp b u q; rw [show Hc b = none from h] at this; cases this
        . obtain ⟨zs, z⟩ := ra.here m
          rw [z]; exact I'.keep a _ z (by simp)
        . obtain ⟨zs, z⟩ := ra.here m
          exact ⟨stay a _ (fr a m).1 z, (fr a m).2⟩
      cases ok with
      | false =>
        simp only [Bool.false_eq_true, if_false] at h3
        split at h3
        . rename_i hno
          cases h3
          obtain ⟨a1, a2, a3, a4, a5, a6⟩ := facts G5 H5 σ4 _ I5 (f3.trans (f4.trans f5))
          exact ⟨items.length - (i + 1), by lia, rfl, hlt, G5, _, acc, xs, A, rest2, ρ4, { fc := fc.trans (f3.trans (f4.trans f5)), fcH := I5.fz, nw := a1, kp := a2, gD := a3, hDc := a4, ra := a5, nd := nd, fr := a6, hx := by lia, vs := VS.of I5 hno, ec := h4, eall := by simpa using eall }⟩
        . cases h3
      | true =>
        simp only [if_true] at h3 ⊢
        obtain ⟨⟨dv, ρ7⟩, h7, h3⟩ := bind_inv h3
        dsimp only at h3
        split at h3
        . rename_i hno
          cases h3
          refine se C s₀ H₀ fp _ G5 H5 σ4 ρ6 dv _ _ I5 h7 fun G6 H6 l ys I6 f6 g6 h6l r6 b6 n6 => ?_
          have ff : Fz Gc G6 := f3.trans (f4.trans (f5.trans f6))
          obtain ⟨a1, a2, a3, a4, a5, a6⟩ := facts G6 H6 σ4 _ I6 ff
          have b6 : Hc l = none := b6
          have lD : l ≠ DD := fun z => by rw [z, hDc] at b6; cases b6
          have lA : l ∉ A := fun m => by obtain ⟨zs, z⟩ := ra.here m; rw [b6] at z; cases z
          have l1 : H1 l = none := by
            cases q : H1 l with
            | none => rfl
            | some u => rw [kp l u q] at b6; cases b6
          refine ⟨xs, a4, by rw [sizeLine_eq]; lia, items.length - (i + 1), by lia, rfl, hlt, G6, _, acc ++ [dv], xs ++ [.ref l], A ++ [l], rest2, ρ4, { fc := fc.trans ff, fcH := I6.fz.right a3 _, nw := a1, kp := fun b o e => by rw [upd_ne (ne_of_none e hD)]; exact a2 b o e, gD := a3, hDc := upd_same, ra := ?_, nd := ?_, fr := fun a m => ?_, hx := by rw [List.length_append, List.length_singleton]; lia, vs := VS.of I6 hno, ec := h4, eall := by simpa using eall }⟩
          . refine reptb_snoc (a5.move (Fz.refl G6) fun a m => upd_ne (a6 a m).2.2) (by rw [upd_ne lD]; exact h6l) r6
          . refine List.nodup_append.mpr ⟨nd, by simp, fun a ma b mb z => ?_⟩
            have : b = l := by simpa using mb
            subst this; subst z; exact lA ma
          . rcases List.mem_append.mp m with m | m
            . exact a6 a m
            . have : a = l := by simpa using m
              subst this
              exact ⟨g6, l1, lD⟩
        . cases h3
    . have e : i = items.length := by lia
      subst e
      rw [List.drop_length] at ec
      cases ec
      have hall : all = acc := by rw [eall, List.append_nil]
      refine .inl ⟨IT.stop Hc _ (f2.trans (fc.trans fcH)) (Nat.le_refl _), ?_⟩
      rw [<- hall] at ra
      have I3 := I2.grow fc fcH nw kp
      refine k Gc Hc _ (I3.setT (i := i0) (v := .ref DD) (A := DD :: A) ⟨DD, xs, A, rfl, hDc, tb_cs ra, rfl⟩ (List.nodup_cons.mpr ⟨fun m => (fr DD m).2.2 rfl, nd⟩) fun a m => ?_) (f1.trans (f2.trans fc))
      rcases List.mem_cons.mp m with rfl | m
      . exact ⟨gD, I2.there a hD, I2.own_ne hD nw kp⟩
      . exact ⟨(fr a m).1, I2.there a (fr a m).2.1, I2.own_ne (fr a m).2.1 nw kp⟩
  . cases hm
end
section
variable {X : Cx} {x y : Str} {pos p' q' tpos : Pos} {e a b : Expr} {es : List Expr} {mo : MO}
noncomputable def rInsert : V -> List V -> Hp -> VK -> Prop := fun x vs H Q => ∃ l xs y k, x = .ref l /\ vs = [.int k, y] /\ H l = some (.lst xs) /\ 0 <= k /\ k <= xs.length /\ xs.length < sizeLine /\ Q .non (upd H l (.lst (xs.take k.toNat ++ y :: xs.drop k.toNat)))
theorem mt_insert : MtM X "list.insert" rInsert := by
  intro pins s σ H x vs v us Q I rx rv h
  obtain ⟨l, xs, y, k, rfl, rfl, hH, hk, hk2, hz, q⟩ := h
  cases rx
  obtain ⟨u1, u2, rfl, ru1, ru2⟩ := rv.two
  obtain ⟨t, rfl⟩ := ru1
  obtain ⟨z, its, n, r, hl, e⟩ := I.lstM hH
  have hn := line63
  have hc0 : ¬ (!Builtin.List.listFitsIndex k) = true := by
    have h1 : (-(2 ^ 63 : Int)) <= k := by lia
    have h2 : k < 2 ^ 63 := by lia
    have h3 : Builtin.List.listFitsIndex k = true := by
      unfold Builtin.List.listFitsIndex
      rw [Bool.and_eq_true]
      exact ⟨decide_eq_true h1, decide_eq_true h2⟩
    rw [h3]
    decide
  refine call_meets F.slot_list_insert ⟨_, e, rfl⟩ F.entry_list_insert (F.args_list_insert_3 _ _ _) (AutoSeq1.list_insert_list_int_val_1 l its.toArray n k t u2 hc0 (by rw [List.size_toArray]; lia)) ⟨e, ?_⟩
  refine ⟨.non, _, I.lset (its' := its.take k.toNat ++ u2 :: its.drop k.toNat) hH e ?_ ((r.take k.toNat).append (.cons ru2 (r.drop k.toNat))) ?_, rfl, q⟩
  . have h3 : ¬ k < 0 := by lia
    have h4 : min k.toNat its.length = k.toNat := by lia
    simp [h3, h4]
    exact List.take_of_length_le (by rw [List.length_drop]; exact Nat.le_refl _)
  . rw [List.length_append, List.length_cons, List.length_take, List.length_drop]
    lia
theorem ss_ins (i : Nat) {ma : MA} {e1 e2 : Expr} {apos cpos : Pos} (he : SA X [e1, e2] ma) (hN :autoParam (X.N[i]? = some x) zu2._auto_1) (hv :autoParam (Vis X.env.scope x) zu5._auto_1) (hd :autoParam ((x == ("__debug__" : Str)) = false) zu1._auto_1)
    (hcd :autoParam ((x == ("__classdict__" : Str)) = false) zu1._auto_1)
    (hbase :autoParam (attributeBase (.Name x p') "insert" X.env (eval (.Name x p') X.env) = eval (.Name x p') X.env) zu2._auto_1)
    (hfew :autoParam (((backTo cpos (starEach [e1, e2] X.env)).all (fun x => !x.1) && (backToKw cpos (keywordEach [] X.env)).all (fun x => x.1.isSome)
      && decide ([e1, e2].length + ([] : List Keyword).length + (if ([] : List Keyword).isEmpty then 0 else 1) < 30)) = true) zu2._auto_1)
    (hline :autoParam ((apos.endLine == cpos.line) = true) zu2._auto_1) (hs :autoParam (starEach [e1, e2] X.env = (false, eval e1 X.env) :: starEach [e2] X.env) zu2._auto_1) (hpl :autoParam ((backTo cpos (starEach [e2] X.env)).any (·.1) = false) zu2._auto_1) : SS X (.Expr (.Call (.Attribute (.Name x p') "insert" apos) [e1, e2] [] cpos) pos) (sIns i ma) := by
  obtain ⟨t, p, s⟩ := he
  refine ⟨_, ps_expr (pe_bm PySem.F.plainAttrs_list PySem.F.slot_list_insert PySem.F.type_list_insert mt_insert (pe_var hN hv hd hcd) p hbase hfew hline hs hpl) (by rfl), fun B G H σ ρ fl ρ' E I hm k => ?_⟩
  unfold sIns at hm
  split at hm
  . rename_i hso
    obtain ⟨ds0, hso⟩ := Option.isSome_iff_exists.mp hso
    obtain ⟨s0, e0, q0⟩ := bind_inv hso
    obtain ⟨l, xs0, h1, h2, h3, h4⟩ := I.wr e0 q0
    obtain ⟨⟨as, ρ1⟩, e1, hm⟩ := bind_inv hm
    obtain ⟨s1, e2, hm⟩ := bind_inv hm
    obtain ⟨ds, e3, hm⟩ := bind_inv hm
    dsimp only at hm
    split at hm
    . rename_i kk d y1 y2
      split at hm
      . rename_i hl
        cases hm
        refine ⟨.ref l, h1, .inl ⟨rfl, _, SqL.of h3⟩, s B G H σ ρ _ ρ1 _ I e1 fun G1 H1 vs I1 f1 r1 => ?_⟩
        obtain ⟨v1, v2, rfl, w1, w2⟩ := r1.two
        cases (show v1 = V.int kk from w1)
        obtain ⟨l', xs, k1, k2, k3, k4⟩ := I1.wr e2 e3
        rw [h1] at k1; cases k1
        refine ⟨l, xs, v2, kk, rfl, rfl, k3, hl.1, by rw [k4.length]; exact hl.2.1, by rw [k4.length, sizeLine_eq]; exact hl.2.2, ?_⟩
        exact k G1 _ σ (I1.write e2 e3 h1 ((k4.take _).append (.cons w2 (k4.drop _)))) f1
      . cases hm
    . cases hm
  . cases hm
end
noncomputable def only2 (b c : Nat) (ρ : R) : Bool := match ρ[b]?, ρ[c]? with
  | some (.par _), some (.par _) => noOwn ((ρ.set b .emp).set c .emp)
  | _, _ => false
noncomputable def turnQ (b c : Nat) (g : D -> R -> Option R) (mt : MT) (me : ME) : D -> R -> Option (Option D × R) := fun d ρ => (g d ρ).bind fun ρ1 => (mt ρ1).bind fun p => if p.1 then (me p.2).bind fun q => if only2 b c q.2 then some (some q.1, q.2) else none else if only2 b c p.2 then some (none, p.2) else none
mutual
noncomputable def tpD : D -> Bool
  | .non => true
  | .bl _ => true
  | .int _ => true
  | .str _ => true
  | .tup ds => tpL ds
  | _ => false
noncomputable def tpL : List D -> Bool
  | [] => true
  | d :: ds => tpD d && tpL ds
end
mutual
theorem repD_thin {K : PySem.W.Frag} {G G' : Hp} (h : ∀ a xs, G a = some (.tup xs) -> G' a = some (.tup xs)) {v : V} : ∀ {d : D}, tpD d = true -> RepD K G v d -> RepD K G' v d
  | .non, _, r => r
  | .bl _, _, r => r
  | .int _, _, r => r
  | .str _, _, r => r
  | .tup ds, e, ⟨a, xs, e1, e2, e3⟩ => ⟨a, xs, e1, h _ _ e2, repL_thin h e e3⟩
  | .lst _, e, _ => nomatch e
  | .scr _, e, _ => nomatch e
  | .exc _, e, _ => nomatch e
  | .dic _ _, e, _ => nomatch e
  | .dit _ _, e, _ => nomatch e
theorem repL_thin {K : PySem.W.Frag} {G G' : Hp} (h : ∀ a xs, G a = some (.tup xs) -> G' a = some (.tup xs)) : ∀ {ds : List D} {xs : List V}, tpL ds = true -> RepL K G xs ds -> RepL K G' xs ds
  | [], _, _, r => r
  | d :: ds, xs, e, ⟨x, ys, e1, e2, e3⟩ => by
    have e' := Bool.and_eq_true_iff.mp (show (tpD d && tpL ds) = true from e)
    exact ⟨x, ys, e1, repD_thin h e'.1 e2, repL_thin h e'.2 e3⟩
end
theorem like_keep {K : PySem.W.Frag} {B : Bs} {G H G2 H2 : Hp} {σ : St} {i : Nat} {s s1 : Sl} {a : Addr} (lk : likeS s s1 = true) (q : SlotOk K B G H i σ[i]? s) (q1 : SlotOk K B G2 H2 i σ[i]? s1) (w : OwS K G H σ[i]? a s) : G2 a = none /\ H2 a = H a := by
  cases s with
  | emp => exact w.elim
  | two _ _ => exact w.elim
  | val d => exact w.elim
  | tre _ => cases s1 <;> cases lk
  | ptr _ => cases s1 <;> cases lk
  | own d0 =>
    cases s1 with
    | own d1 =>
      obtain ⟨ns, rfl, rfl⟩ := like_ints lk
      obtain ⟨a1, xs1, m1, m2, m3, m4, m5⟩ := q1
      obtain ⟨a0, xs0, n1, n2, n3, n4, n5⟩ := q
      cases n1.symm.trans (show σ[i]? = some (some (.ref a)) from w)
      cases n1.symm.trans m1
      exact ⟨m2, by rw [m3, n3, RepL.ints_eq m4, RepL.ints_eq n4]⟩
    | _ => cases lk
  | par d0 =>
    cases s1 with
    | par d1 =>
      obtain ⟨ns, rfl, rfl⟩ := like_ints lk
      obtain ⟨a1, xs1, m1, m2, m3, m4, m5⟩ := q1
      obtain ⟨a0, xs0, n1, n2, n3, n4, n5⟩ := q
      cases n1.symm.trans (show σ[i]? = some (some (.ref a)) from w)
      cases n1.symm.trans m1
      exact ⟨m2, by rw [m3, n3, RepL.ints_eq m4, RepL.ints_eq n4]⟩
    | _ => cases lk
noncomputable def sCut (i : Nat) (me ml mh : ME) : MS := fun ρ => (me ρ).bind fun p => if (p.2[i]?.bind Sl.items).isSome then (ml p.2).bind fun q => (mh q.2).bind fun r => r.2[i]?.bind fun s => s.items.bind fun ds => match p.1, q.1, r.1 with
  | .lst es, .int m, .int n => if decide (0 <= m) && decide (m <= n) && decide (n <= ds.length) && decide (ds.length + es.length <= 16777216) then some (.next, r.2.set i (s.put (ds.take m.toNat ++ es ++ ds.drop n.toNat))) else none
  | _, _, _ => none else none
end M
namespace HT
open PySem
noncomputable def SIt (h : Heap) (I S : Addr) (first : Value) (i n ep : Nat) : Prop := ∃ o, h.get? I = some o /\ o.cls = .type "set_iterator" /\ o.data = .fields #[first, .int i 0, .ref S, .int n 0, .int ep 0]
end HT
namespace M
open L2 PySem PySem.Spec
open PyProof.Rows hiding St
theorem vals_ints : ∀ {its : List Value} {ns : List Int}, IntsAre its ns -> Vals (ns.map V.int) its
  | _, _, .nil => .nil
  | _, _, .cons n t h => .cons ⟨t, rfl⟩ (vals_ints h)
end M
namespace M
open L2 PySem
noncomputable def eChain3 (f g h : D -> D -> Option D) (a b c d : ME) : ME := fun ρ => (a ρ).bind fun p => (b p.2).bind fun q => (f p.1 q.1).bind fun t => match t with
  | .bl true => (c q.2).bind fun r => (g q.1 r.1).bind fun t' => match t' with
    | .bl true => (d r.2).bind fun s => (h r.1 s.1).map fun x => (x, s.2)
    | .bl false => some (.bl false, r.2)
    | _ => none
  | .bl false => some (.bl false, q.2)
  | _ => none
end M
namespace M
open L2 PySem PySem.Spec
open PyProof.Rows hiding St
open Classical in
noncomputable abbrev MG := R -> Option (R × R)
end M
namespace M
open L2 PySem PySem.Spec
open PyProof.Rows hiding St
noncomputable abbrev MXG := R -> Option (Str × R)
end M
namespace M
open L2 PySem PySem.Spec
open PyProof.Rows hiding St
open Builtin Builtin.Str
noncomputable def sIx (x : Str) (i : Int) : Option Str := (atI x.cps.toList i).map fun c => ⟨#[c]⟩
end M
namespace M
open L2 PySem PySem.Spec
open PyProof.Rows hiding St
variable {w : World} {H : Hp} {h h' : Heap} {a C f : Addr} {o : HO} {pins : List (Addr × Obj)} {σ : St} {s : Shared} {K : PySem.W.Frag} {bsS subS us : List Value} {hS : Bool} {snS ps : List Str} {colS : Option Bool} {ddS : Option Addr} {es : List Expr} {k : Nat} {c : Expr} {fdd : FuncData} {vs : List V}
theorem obj_there {P : Program} (x : ObjOk P w H h a o) : ∃ u, h.get? a = some u := by
  induction o generalizing h with
  | frz ob u ih => obtain ⟨e, _⟩ := x; exact ⟨_, e⟩
  | lst xs => obtain ⟨_, _, _, _, e⟩ := x; exact ⟨_, e⟩
  | tup xs => obtain ⟨_, _, _, o, e, _⟩ := x; exact ⟨_, e⟩
  | dK kvs => obtain ⟨_, _, _, _, o, _, _, e, _⟩ := x; exact ⟨_, e⟩
  | dT kvs => obtain ⟨_, _, _, _, o, _, _, e, _⟩ := x; exact ⟨_, e⟩
  | set S n => obtain ⟨o, _, _, _, e, _⟩ := x; exact ⟨_, e⟩
  | ins C dx fs => obtain ⟨_, _, _, e, _⟩ := x; exact ⟨_, e⟩
  | own y => exact x
  | xd fs => obtain ⟨_, ⟨_, _, _, e, _⟩, _⟩ := x; exact ⟨_, e⟩
  | rng lo hi => obtain ⟨_, _, _, e⟩ := x; exact ⟨_, e⟩
  | tbl ps => exact ⟨_, x⟩
  | met f y => exact ⟨_, x⟩
  | ext φ => exact x.2.1
theorem hok_none {P : Program} (x : HOk P w H h) (e : h.get? a = none) : H a = none := by
  cases q : H a with
  | none => rfl
  | some o =>
    obtain ⟨u, e'⟩ := obj_there (x a o q)
    rw [e] at e'; cases e'
theorem laidN {X : Cx} {t' : Nat} (I : Inv X pins σ H s) (k : ∀ b u, s.heap.get? b = some u -> h'.get? b = some u) (hp : s.heap.get? a = none) (new : ObjOk X.prog X.w (upd H a o) h' a o) :
    Inv X pins σ (upd H a o) { s with heap := h', toks := t' } := by
  have hn := hok_none I.hok hp
  refine I.un ⟨fun b u q _ _ _ => k b u q, fun b u q _ _ _ => ⟨u.slots, k b u q⟩, fun b u q n _ => ?_, fun b u q _ => ⟨u, k b u q⟩, fun b xs q => ?_, fun b u xs q => ?_, fun b ps q => ⟨#[], ?_⟩⟩ fun b u e => ?_
  . rw [upd_ne (show b ≠ a from fun z => by subst z; rw [hp] at q; cases q)]; exact n
  . rw [upd_ne (ne_of_none q hn)]; exact q
  . rw [upd_ne (ne_of_none q hn)]; exact q
  . rw [upd_ne (ne_of_none q hn), q]; simp
  . by_cases hb : b = a
    . subst hb; rw [upd_same] at e; cases e; exact new
    . rw [upd_ne hb] at e
      exact (I.hok b u e).stay (fun c v _ q => k c v q) (fun c q => by rw [upd_ne (ne_of_none q hn)]; exact q) fun c xs q => by rw [upd_ne (ne_of_none q hn)]; exact q
theorem ownK_one {CS NS : Addr} {nmS qS : Str} {abS : Bool} {j0 j1 j2 j3 j5 : Option Value}
    (l2 : K.lookup CS = some (excClassObj nmS qS CS NS bsS bmV hS snS subS abS colS ddS j0 j1 j2 j3 j5 "ValueError.__new__")) (i2 : PySem.W.nsIn K NS "__init__" = some none) (o2 : PySem.W.nsOkIn K NS = true) : OwnK K CS := fun h mg x kin hm =>
  ⟨hm, bmV, NS, nmS, qS, bsS, hS, snS, subS, abS, colS, ddS, j0, j1, j2, j3, j5, h.nsMap NS, kin _ _ l2, Heap.Ns.of_isNs (PySem.W.isNs_of_in kin o2), PySem.W.nsMap_none_of_in kin o2 i2, .base⟩
section
variable {X : Cx} {c m : Str} {np cp cpos : Pos} {j : Nat}
theorem pe_exc (hm : X.mg c = some (.ref C)) (hC : OwnK X.K C)
    (hg :autoParam (Gl X c) zu2._auto_1) (hd :autoParam ((c == ("__debug__" : Str)) = false) zu1._auto_1)
    (he :autoParam (starEach [Expr.Constant (.str m) j cp] X.env = (false, eval (.Constant (.str m) j cp) X.env) :: starEach [] X.env) zu2._auto_1) (hpl :autoParam (((backTo cpos (starEach [] X.env)).any (·.1)) = false) zu2._auto_1) :
    PE X (.Call (.Name c np) [.Constant (.str m) j cp] [] cpos) (fun _ H Q => ∀ a, H a = none -> Q (.ref a) (upd H a (.ext (ExcIs a C)))) := by
  intro pins s σ H Q I h
  have own := hC X.base X.mg c I.ok.mod.kin hm
  obtain ⟨tl, N, nm, q, bs, hdct, sn, sub, ab, col, dd, k0, k1, k2, k3, k5, mN, hCo, hN, hni, T⟩ := own.obj
  have hplain : (backTo cpos (starEach [Expr.Constant (.str m) j cp] X.env)).any (·.1) = false := by rw [he]; show (false || (backTo cpos (starEach [] X.env)).any (·.1)) = false; rw [hpl]; rfl
  refine wpAny_Call_ofName (ld_glob I hg hm ?_ hd)
  have pa := (pa_cons (X := X) (pe_str (X := X) (x := m) (j := j) (pos := cp)) pa_nil he) cpos pins s σ H (fun vs H1 => vs.length = 1 /\ H1 = H) I ⟨rfl, rfl⟩
  unfold callWith
  rw [he] at pa hplain ⊢
  refine wpAny_bind (wpAny_holding (Calls.evalArgs_plain (wpAny_mono pa (fun us s2 ⟨vs, H1, I1, r, q1, q2⟩ => wpAny_bind (wpAny_standAt ?_)) fun _ _ q => q)))
  subst q2
  have hlen : us.length <= sizeLine := by rw [<- r.length, q1]; decide
  have hC2 := I1.bk _ _ hCo
  have hN2 := hN.keeps I1.bk
  have T2 := T.keeps I1.bk
  obtain ⟨hp, g, d, tk, os⟩ := s2
  simp only [hplain]
  refine wpAny_bind (wpAny_keeperOf_exc hC2 ?_)
  refine wpAny_bind (wpAny_call_exc_subT (hrest := hlen) F.excBase_ValueError T2 hC2 hN2 hni fun h' e hm => wpAny_bind (wpAny_holding (wpAny_point (wpAny_pure ?_))))
  obtain ⟨t, ht, _, _⟩ := hm.there
  have ha := hok_none I1.hok hm.new
  exact ⟨.ref e, _, laidN (t' := tk) (o := .ext (ExcIs e C)) I1 hm.keeps hm.new ⟨⟨_, ht, rfl⟩, ⟨_, ht⟩, fun h1 h2 ⟨o, e, c⟩ k => ⟨o, k o e, c⟩⟩, rfl, h e ha⟩
theorem se_exc (hr : RaiOk X.K X.mg c)
    (hg :autoParam (Gl X c) zu2._auto_1) (hd :autoParam ((c == ("__debug__" : Str)) = false) zu1._auto_1)
    (he :autoParam (starEach [Expr.Constant (.str m) j cp] X.env = (false, eval (.Constant (.str m) j cp) X.env) :: starEach [] X.env) zu2._auto_1) (hpl :autoParam (((backTo cpos (starEach [] X.env)).any (·.1)) = false) zu2._auto_1) :
    SE X (.Call (.Name c np) [.Constant (.str m) j cp] [] cpos) (eC (.exc c)) := by
  obtain ⟨C, hm, hn, hC⟩ := hr
  refine ⟨_, pe_exc hm hC hg hd he hpl, fun B G H σ ρ d ρ' Q I hm k a ha => ?_⟩
  cases hm
  exact k _ _ _ (I.allocF ha (.ext (ExcIs a C))) (Fz.new (I.fz.free ha) _) ⟨a, C, rfl, hn, upd_same⟩
end
section
variable {X : Cx} {elt iter tg : Expr} {ifs : List Expr} {scope : Scope} {pos : Pos} {N : List Str} {cap : List Nat} {t : Nat} {mi : MA} {g : D -> R -> Option R} {mt : MT} {mo : MO}
theorem ss_unC (i0 : Nat) (is : List Nat) {tp lpos : Pos} (cap : List Nat) (t : Nat) (N : List Str) (hc : X.calm = true) (hi : SIt X tg iter mi) (hg : ∀ C s H fp, SG (cxC X N scope C s H fp) tg g) (ht : ∀ C s H fp, STs (cxC X N scope C s H fp) ifs mt) (he : ∀ C s H fp, SO (cxC X N scope C s H fp) elt mo) (hN : X.N.Nodup) (hn : PNames X is es)
    (hi0 :autoParam (Nat.blt i0 X.N.length = true) zu2._auto_1) (hl :autoParam ((assignEach es X.env).length = is.length) zu2._auto_1) (hst :autoParam ((assignEach es X.env).findIdx? (·.1) = none) zu2._auto_1)
    (hsw :autoParam (swapsWithSole [.Tuple es k tp] (.ListComp elt [⟨tg, iter, ifs, 0⟩] scope lpos) pos.line X.env = pure false) zu2._auto_1) (hw :autoParam (swappedStores [.Tuple es k tp] (.ListComp elt [⟨tg, iter, ifs, 0⟩] scope lpos) X.env = pure none) zu2._auto_1)
    (h1 :autoParam ((assignEach [.Tuple es k tp] X.env).map (·.2) = [assign (.Tuple es k tp) X.env]) zu2._auto_1)
    (hk :autoParam (scope.kind = .function) zu2._auto_1) (hb :autoParam (blkB X.env scope = true) zu10._auto_1) (hcap :autoParam (capB scope.names N X.N cap t = true) zu10._auto_1)
    (hs :autoParam (∀ x, foldedSetIterable iter X.env x = pure x) zu8._auto_1) : SS X (.Assign [.Tuple es k tp] (.ListComp elt [⟨tg, iter, ifs, 0⟩] scope lpos) pos) (sSeq (sTC i0 cap t mi g mt mo) (sUnT i0 is)) := by
  obtain ⟨wi, pi, si⟩ := hi
  have ps := ps_asg (pe_lc hc (blk_of hk hb) (cap_of hcap) pi (fun C s H fp => (hg C s H fp).choose_spec.1) (fun C s H fp => (ht C s H fp).choose_spec.1) (fun C s H fp => (he C s H fp).choose_spec.1) hs) (pg_tupL hc (pgs_names hN hn) hl hst) hsw hw h1
  refine ⟨fun D σ H => i0 < σ.length -> _, fun pins s σ H D I h => ps pins s σ H D I (h (by rw [I.len]; exact Nat.blt_eq.mp hi0)), fun B G H σ ρ fl ρ' E I hm kk hlt => ?_⟩
  obtain ⟨⟨f1, ρ1⟩, e1, hm⟩ := bind_inv hm
  have hf1 : f1 = .next := by
    obtain ⟨⟨items, ρ2⟩, z1, z2⟩ := bind_inv e1
    dsimp only at z2
    split at z2
    . obtain ⟨⟨all, ρe⟩, z3, z4⟩ := map_inv z2
      cases z4; rfl
    . cases z2
  subst hf1
  dsimp only at hm
  have key := sound_lcT (X := X) i0 si (fun C s H fp => (hg C s H fp).choose_spec.2) (fun C s H fp => (ht C s H fp).choose_spec.2) (fun C s H fp => (he C s H fp).choose_spec.2)
    B G H σ ρ .next ρ1 { nx := fun σ1 H1 => ∀ v, σ1 = σ.set i0 (some v) -> gTupL X.K is.length (gNames is) v σ H1 E.nx, rt := fun _ _ => False } I e1 ?_
  . have ef : (fun v H' => ∀ v', σ.set i0 (some v) = σ.set i0 (some v') -> gTupL X.K is.length (gNames is) v' σ H' E.nx) = fun v H' => gTupL X.K is.length (gNames is) v σ H' E.nx := by
      funext v H'
      refine propext ⟨fun h => h v rfl, fun h v' e => ?_⟩
      have := congrArg (fun l => l[i0]?) e
      simp only [List.getElem?_set, if_pos rfl, hlt, if_true] at this
      cases this
      exact h
    rw [show (fun v H' => Ends.nx { nx := fun σ1 H1 => ∀ v, σ1 = σ.set i0 (some v) -> gTupL X.K is.length (gNames is) v σ H1 E.nx, rt := fun _ _ => False } (σ.set i0 (some v)) H') = fun v H' => gTupL X.K is.length (gNames is) v σ H' E.nx from ef] at key
    exact key
  . intro G1 H1 σ1 I1 f1 v ev
    unfold sUnT at hm
    split at hm
    . rename_i cs e
      split at hm
      . rename_i hlen
        cases hm
        obtain ⟨v', A, k1, k2, k3, k4⟩ := I1.slot i0 _ e
        have k2' := k2
        obtain ⟨p, xs, A', rfl, h2, h3, rfl⟩ := k2
        have ln : ∀ {xs : List V} {cs : List Ch} {A : List Addr}, RepCs X.K G1 H1 xs cs A -> xs.length = cs.length := by
          intro xs
          induction xs with
          | nil => intro cs A r; cases cs with
            | nil => rfl
            | cons _ _ => exact r.elim
          | cons x xs ih => intro cs A r; cases cs with
            | nil => exact r.elim
            | cons c cs => obtain ⟨_, _, _, r2, _⟩ := r; rw [List.length_cons, List.length_cons, ih r2]
        have ev' : v = .ref p := by
          rw [ev, List.getElem?_set, if_pos rfl, if_pos hlt] at k1
          cases k1; rfl
        subst ev'
        have I0 : SI X.K B G1 H1 σ (ρ1.set i0 .emp) := by
          have h := I1.chg (i := i0) (ov := σ[i0]) (s' := .emp) I1.fz (Fz.refl G1) I1.new I1.keep I1.there (fun _ _ _ _ _ _ g _ => ⟨g, rfl, id⟩) trivial
          rw [ev, List.set_set, List.set_getElem_self] at h
          exact h
        refine ⟨p, xs, rfl, SqL.of h2, by rw [ln h3, hlen], ?_⟩
        refine put_cs I0 h3 (List.nodup_cons.mp k3).2 (fun a m => ⟨(k4 a (by simp [m])).1, (k4 a (by simp [m])).2, fun i s es w => ?_⟩) hlen fun σ' I' => kk G1 H1 σ' I' f1
        by_cases z : i = i0
        . subst z
          rw [List.getElem?_set, if_pos rfl] at es
          split at es
          . cases es; exact w
          . cases es
        . rw [List.getElem?_set_ne (Ne.symm z)] at es
          refine I1.dis i i0 s _ a z es e ?_ ⟨.ref p, _, k1, k2', by simp [m]⟩
          rw [ev, List.getElem?_set_ne (Ne.symm z)]
          exact w
      . cases hm
    . cases hm
end
noncomputable def tpX (d : D) : Bool := tpD d || match d with
  | .exc _ => true
  | _ => false
noncomputable def eLkX (j : Nat) (m : ME) : ME := fun ρ => match ρ[j]? with
  | some (.own ds) => (m (ρ.set j (.val (.lst ds)))).bind fun p => if tpX p.1 && ((ρ.set j .emp).zip p.2).all (fun q => likeS q.1 q.2) then some (p.1, ρ) else none
  | _ => none
section
variable {X : Cx}
open Classical in
theorem se_lookX {m : ME} (j : Nat) (h : SE X c m) : SE X c (eLkX j m) := by
  obtain ⟨t, pt, so⟩ := h
  refine ⟨t, pt, fun B G H σ ρ d ρ' Q I hm kk => ?_⟩
  unfold eLkX at hm
  split at hm
  . rename_i ds e
    obtain ⟨⟨d', ρ1⟩, e3, hm⟩ := bind_inv hm
    dsimp only at hm
    split at hm
    . rename_i al
      cases hm
      obtain ⟨tp, al⟩ := Bool.and_eq_true_iff.mp al
      obtain ⟨l, xs, k1, k2, k3, k4, k5⟩ := I.slot j _ e
      obtain ⟨l', xs', h1, f1, r1, I1⟩ := I.freeze e
      refine so B _ H σ _ d ρ1 _ I1 e3 fun G3 H3 v I3 f3 r3 => ?_
      have el : l' = l := by rw [k1] at h1; cases h1; rfl
      subst el
      have h1l : H l' = some (.lst xs') := I1.fz _ _ upd_same
      have ex : xs' = xs := by rw [k3] at h1l; cases h1l; rfl
      subst ex
      have g3 : G3 l' = some (.lst xs') := f3 _ _ upd_same
      have gl : H3 l' = some (.lst xs') := I3.fz _ _ g3
      have fg : Fz G (fun a => if a = l' then none else G3 a) := fun a o e => by
        have n : ¬ a = l' := fun h => by rw [h, k2] at e; cases e
        show (if a = l' then none else G3 a) = _
        rw [if_neg n]
        exact f3 a o (f1 a o e)
      have sub : Fz (fun a => if a = l' then none else G3 a) G3 := fun a o e => by
        dsimp only at e
        split at e
        . cases e
        . exact e
      have len1 : ρ1.length = ρ.length := by rw [<- I3.len, I.len]
      have rr : RepD X.K (fun a => if a = l' then none else G3 a) v d := by
        by_cases t1 : tpD d = true
        . refine repD_thin (fun a xs e => ?_) t1 r3
          have n : ¬ a = l' := fun h => by rw [h, g3] at e; cases e
          show (if a = l' then none else G3 a) = _
          rw [if_neg n]
          exact e
        . cases d with
          | exc c =>
            obtain ⟨a, C, e1, e2, e4⟩ := r3
            refine ⟨a, C, e1, e2, ?_⟩
            have n : ¬ a = l' := fun h => by rw [h, g3] at e4; cases e4
            show (if a = l' then none else G3 a) = _
            rw [if_neg n]
            exact e4
          | _ => unfold tpX at tp; rw [Bool.or_eq_true] at tp; rcases tp with tp | tp <;> first | exact absurd tp t1 | cases tp
      refine kk _ H3 v (I.move (sub.trans I3.fz) fg (fun b o e => I3.new b o (sub b o e)) I3.keep I3.there fun i s a es w g _ => ?_) fg rr
      by_cases hi : i = j
      . subst hi
        rw [e] at es; cases es
        cases k1.symm.trans (show σ[i]? = some (some (.ref a)) from w)
        exact ⟨if_pos rfl, gl.trans k3.symm⟩
      have il : i < ρ.length := (List.getElem?_eq_some_iff.mp es).1
      have es1 : ρ1[i]? = some (ρ1[i]'(by lia)) := List.getElem?_eq_getElem _
      have lk : likeS s (ρ1[i]'(by lia)) = true :=
        List.all_eq_true.mp al (s, ρ1[i]'(by lia)) (by
          apply List.mem_of_getElem? (i := i)
          rw [List.getElem?_zip_eq_some]
          exact ⟨by rw [List.getElem?_set_ne (Ne.symm hi)]; exact es, es1⟩)
      obtain ⟨z1, z2⟩ := like_keep lk (I.slot i s es) (I3.slot i _ es1) w
      refine ⟨?_, z2⟩
      split
      . rfl
      . exact z1
    . cases hm
  . cases hm
end
noncomputable def xPick (F1 F2 : List D -> Option Str) (mi : ME) (ma : MA) : MX := fun ρ => (mi ρ).bind fun p => match p.1 with
  | .int i => if i = 0 then xCall F1 ma p.2 else if i = 1 then xCall F2 ma p.2 else none
  | _ => none
section
variable {X : Cx} {S : St -> Prop} {E : XK} {k1 k2 k' n : Nat} {F1 F2 : List D -> Option Str} {x y : Str} {p1 p2 pl pb pos : Pos} {b e : Expr} {es : List Expr} {mi : ME} {ma : MA}
theorem run_fnX {sp : Sp} {H1 : Hp} {s1 : Shared} {Q : VK} (G0 : FnOk X.prog X.w X.K X.mg X.base (CX1 X.prog X.w) k f fdd ps sp) (hr : Room k X.A) (h3 : Binds X.K fdd ps []) (hx : PassesAt X S E) (hS : S σ) (I1 : Inv X pins σ H1 s1) (r : Vals vs us) (q : sp vs H1 Q E) :
    wpAny (model X.prog X.w) X.A (call (.ref f) us) (EP X pins σ Q) X.xe s1 := by
  have hl : us.length = ps.length := by rw [<- r.length]; exact G0.len _ _ _ _ q
  have hb := h3 s1 us I1.kIn (by rw [List.append_nil]; exact hl)
  rw [List.append_nil] at hb
  refine wpAny_call (codeAny_mono (G0.run X.A X.stack s1 H1 ⟨us, []⟩ us vs Q E hr I1.env0 hb r q) fun r s' hq => ?_)
  cases r with
  | error e => exact hx pins σ H1 s1 e s' I1 hS hq
  | ok fl =>
    cases fl with
    | ret u => exact I1.after hq
    | next => exact False.elim hq
    | brk => exact False.elim hq
    | cont => exact False.elim hq
theorem xe_pick2 (fd1 : FDX X.prog X.w X.K X.mg X.base k1 x (spX X.K n F1)) (fd2 : FDX X.prog X.w X.K X.mg X.base k2 y (spX X.K n F2)) (hx : PassesAt X S E) (hr : Room k' X.A) (hi : SE X b mi) (ha : SA X (e :: es) ma) (hlen : ∀ ρ as ρ', ma ρ = some (as, ρ') -> as.length = n) (hk1 :autoParam (k1 <= k') zu1._auto_1) (hk2 :autoParam (k2 <= k') zu1._auto_1)
    (g1 :autoParam (Gl X x) zu2._auto_1) (g2 :autoParam (Gl X y) zu2._auto_1) (hs :autoParam (PlainIx b) zu6._auto_1) (d1 :autoParam ((x == ("__debug__" : Str)) = false) zu1._auto_1) (d2 :autoParam ((y == ("__debug__" : Str)) = false) zu1._auto_1)
    (hl :autoParam (starEach [.Name x p1, .Name y p2] X.env = (false, eval (.Name x p1) X.env) :: starEach [.Name y p2] X.env) zu2._auto_1) (hl2 :autoParam (starEach [.Name y p2] X.env = (false, eval (.Name y p2) X.env) :: starEach [] X.env) zu2._auto_1)
    (he :autoParam (starEach (e :: es) X.env = (false, eval e X.env) :: starEach es X.env) zu2._auto_1) (hpl :autoParam ((backTo pos (starEach es X.env)).any (·.1) = false) zu2._auto_1)
    (hc :autoParam (eval (.Call (.Subscript (.List [.Name x p1, .Name y p2] pl) b pb) (e :: es) [] pos) X.env = (do callWith pos (<- eval (.Subscript (.List [.Name x p1, .Name y p2] pl) b pb) X.env) [] (backTo pos (starEach (e :: es) X.env)) (backToKw pos (keywordEach [] X.env)))) zu2._auto_1) :
    XE X S E (.Call (.Subscript (.List [.Name x p1, .Name y p2] pl) b pb) (e :: es) [] pos) (xPick F1 F2 mi ma) := by
  obtain ⟨f, fdd, ps, G0, a1, a2, a3⟩ := fd1.ex
  obtain ⟨g, gdd, qs, G1, c1, c2, c3⟩ := fd2.ex
  obtain ⟨t, pa, sa⟩ := ha
  obtain ⟨ti, pi, si⟩ := hi
  refine ⟨fun σ H Q => S σ /\ tPick X.K f g ti (fun σ H Q => t σ H fun vs H1 => spX X.K n F1 vs H1 Q E) (fun σ H Q => t σ H fun vs H1 => spX X.K n F2 vs H1 Q E) σ H Q, ?_, fun B G H σ ρ c I hS hm w Q => ⟨hS, ?_⟩⟩
  . rintro pins s σ H Q I ⟨hS, h⟩
    have pf := pe_ix (pos := pb) (ix_seq (X := X)) (pe_lst (pos := pl) (pa_cons (pe_glob (pos := p1) g1 a1 (show RelV (.ref f) (.ref f) from rfl) d1) (pa_cons (pe_glob (pos := p2) g2 c1 (show RelV (.ref g) (.ref g) from rfl) d2) pa_nil hl2) hl)) pi hs
    refine Call_ (thn (pf pins s σ H _ I h) fun u s1 ⟨v, H1, I1, r, q⟩ => ?_) hc
    rcases q with ⟨rfl, q⟩ | ⟨rfl, q⟩
    . cases r
      refine PySem.W.callWith_K (h₀ := X.base) I1.ok.mod.kin a2 (thn (pa pos pins s1 σ H1 _ I1 q) fun us s2 ⟨vs, H2, I2, r2', q2⟩ => ⟨I2.kIn, ?_⟩) he hpl
      exact run_fnX G0 (hr.mono hk1) a3 hx hS I2 r2' q2
    . cases r
      refine PySem.W.callWith_K (h₀ := X.base) I1.ok.mod.kin c2 (thn (pa pos pins s1 σ H1 _ I1 q) fun us s2 ⟨vs, H2, I2, r2', q2⟩ => ⟨I2.kIn, ?_⟩) he hpl
      exact run_fnX G1 (hr.mono hk2) c3 hx hS I2 r2' q2
  . obtain ⟨⟨di, ρ1⟩, e1, hm⟩ := bind_inv hm
    dsimp only at hm
    refine ⟨by simp; rw [sizeLine_eq]; decide, fun p hp => ?_⟩
    have I0 : SI X.K B (upd G p (.lst [.ref f, .ref g])) (upd H p (.lst [.ref f, .ref g])) σ ρ := I.allocF hp _
    refine si B _ _ σ ρ di ρ1 _ I0 e1 fun G2 H2 v I2 f2 rv => ?_
    have tail : ∀ {F : List D -> Option Str}, xCall F ma ρ1 = some c -> t σ H2 fun vs H1 => spX X.K n F vs H1 Q E := fun {F} hm => by
      obtain ⟨⟨as, ρ2⟩, e2, hm⟩ := bind_inv hm
      exact sa B G2 H2 σ ρ1 as ρ2 _ I2 e2 fun G3 H3 vs I3 f3 r3 => ⟨G3, as, c, hm, hlen ρ1 as ρ2 e2, I3.fz, r3, fun H' C fz hC => w H' C (fun b o q hn => fz b o (I3.keep b o q hn)) hC⟩
    split at hm
    . rename_i i
      cases (show v = V.int i from rv)
      have sq : SqL X.K H2 p [.ref f, .ref g] := SqL.of (I2.fz _ _ (f2 _ _ upd_same))
      split at hm
      . rename_i h0
        subst h0
        exact .inl ⟨p, _, 0, .ref f, rfl, rfl, sq, rfl, .inl ⟨rfl, tail hm⟩⟩
      . split at hm
        . rename_i h1
          subst h1
          exact .inl ⟨p, _, 1, .ref g, rfl, rfl, sq, rfl, .inr ⟨rfl, tail hm⟩⟩
        . cases hm
    . cases hm
end
end M
namespace L2
open PyProof.Rows PySem PySem.Spec
theorem set_sliceC {X : Cx} {pins : List (Addr × Obj)} {s : Shared} {σ : St} {H : Hp} {l b sl : Addr} {xs ys : List V} {a c : Int} {vl vu : Value} {Q : Unit -> Shared -> Prop} (I : Inv X pins σ H s)
    (hH : H l = some (.lst xs)) (hB : H b = some (.lst ys)) (hne : l ≠ b) (hs : s.heap.IsSliceOf sl vl vu .none) (ra : RelV (.int a) vl) (rc : RelV (.int c) vu) (h0 : 0 <= a) (hac : a <= c) (hc : a <= xs.length)
    (hz : xs.length + ys.length <= sizeLine) (h : ∀ s', Inv X pins σ (upd H l (.lst (xs.take a.toNat ++ ys ++ xs.drop c.toNat))) s' -> Q () s') :
    wpAny (model X.prog X.w) X.A (setItem (.ref l) (.ref sl) (.ref b)) Q X.xe s := by
  obtain ⟨ta, rfl⟩ := ra
  obtain ⟨tc, rfl⟩ := rc
  obtain ⟨z, its, n, r, hl, e⟩ := I.lstM hH
  obtain ⟨z2, its2, n2, r2, hl2, e2⟩ := I.lstM hB
  obtain ⟨a', rfl⟩ := Int.eq_ofNat_of_zero_le h0
  obtain ⟨c', rfl⟩ := Int.eq_ofNat_of_zero_le (Int.le_trans h0 hac)
  simp only [Int.toNat_natCast] at h
  have ed : xs.drop c' = xs.drop (min c' its.length) := by
    by_cases g : c' <= its.length
    . rw [Nat.min_eq_left g]
    . rw [Nat.min_eq_right (by lia), List.drop_eq_nil_of_le (by lia), List.drop_eq_nil_of_le (by lia)]
  rw [ed] at h
  refine setItem_sliceC (a := a') (c := c') e e2 hne hs (.int _ _) (.int _ _) (by lia) (by rw [List.size_toArray]; lia) (by rw [List.size_toArray, List.size_toArray]; lia) (h _ ?_)
  rw [List.size_toArray]
  refine I.lset (its' := its.take a' ++ its2 ++ its.drop (min c' its.length)) (t' := s.toks) hH e ?_ (Vals.append (Vals.append (r.take _) r2) (r.drop _)) ?_
  . exact splice_eq its its2 a' (min c' its.length)
  . rw [List.length_append, List.length_append, List.length_take, List.length_drop]
    lia
noncomputable def gCutC (i : Nat) (tl th : TE) : TG := fun v σ H Q => ∃ x, σ[i]? = some (some x) /\ tl σ H fun a H1 => th σ H1 fun c H2 => ∃ (l b : Addr) (xs ys : List V) (m n : Int), x = .ref l /\ v = .ref b /\ a = .int m /\ c = .int n /\ H2 l = some (.lst xs) /\ H2 b = some (.lst ys) /\ l ≠ b /\ 0 <= m /\ m <= n /\ m <= xs.length /\ xs.length + ys.length <= sizeLine /\ Q σ (upd H2 l (.lst (xs.take m.toNat ++ ys ++ xs.drop n.toNat)))
theorem pg_cutC {X : Cx} {i : Nat} {x : Str} {lo hi : Expr} {tl th : TE} {p p2 pos : Pos} (hl : PE X lo tl) (hu : PE X hi th) (hN : X.N[i]? = some x) (hv : Vis X.env.scope x) (hd :autoParam ((x == ("__debug__" : Str)) = false) zu1._auto_1) (hcd :autoParam ((x == ("__classdict__" : Str)) = false) zu1._auto_1) : PG X (.Subscript (.Name x p) (.Slice (some lo) (some hi) none p2) pos) (gCutC i tl th) := by
  intro pins s σ H v u Q I r h
  rw [arm_assign_Subscript]
  obtain ⟨y, hy, h⟩ := h
  refine wpAny_bind (wpAny_holding (thn (pe_var hN hv hd hcd pins s σ H (fun z H1 => z = y /\ H1 = H) I ⟨y, hy, rfl, rfl⟩) fun ov s1 ⟨z, H1, I1, r1, q1, q2⟩ => ?_))
  subst q1 q2
  refine wpAny_bind (wpAny_holding (wpAny_Slice (thn (hl pins s1 σ _ _ I1 h) fun vl s2 ⟨a, H2, I2, pl, q⟩ => ?_)))
  refine thn (hu pins s2 σ _ _ I2 q) fun vu s3 ⟨c, H3, I3, pu, l, b, xs, ys, m, n, f1, f2, f3, f4, f5, f6, f7, f8, f9, f10, f11, f12⟩ => ?_
  subst f1 f2 f3 f4
  cases r1
  cases r
  rw [evalPart_none]
  refine wpAny_pure (wpAny_bind (wpAny_standAt (wpAny_bind (wpAny_holding ?_))))
  have I4 : Inv X pins σ H3 { s3 with heap := s3.heap.push { cls := .type "slice", data := .fields #[vl, vu, .none] } } := I3.kept (t' := s3.toks) fun b ob q => Heap.get?_push_of_some _ q
  exact set_sliceC I4 f5 f6 f7 (Heap.IsSliceOf.new ..) pl pu f8 f9 f10 f11 fun s' I' => wpAny_release ⟨σ, _, I', f12⟩
end L2
namespace M
open L2 PySem PySem.Spec
open PyProof.Rows hiding St
noncomputable def sCutC (i : Nat) (me ml mh : ME) : MS := fun ρ => (me ρ).bind fun p => if (p.2[i]?.bind Sl.items).isSome then (ml p.2).bind fun q => (mh q.2).bind fun r => r.2[i]?.bind fun s => s.items.bind fun ds => match p.1, q.1, r.1 with
  | .lst es, .int m, .int n => if decide (0 <= m) && decide (m <= n) && decide (m <= ds.length) && decide (ds.length + es.length <= 16777216) then some (.next, r.2.set i (s.put (ds.take m.toNat ++ es ++ ds.drop n.toNat))) else none
  | _, _, _ => none else none
theorem ss_cutC {X : Cx} {e a b : Expr} {me ml mh : ME} {pos : Pos} (i : Nat) {x : Str} {p p2 pos' : Pos} (he : SE X e me) (hl : SE X a ml) (hh : SE X b mh) (hN :autoParam (X.N[i]? = some x) zu2._auto_1) (hv :autoParam (Vis X.env.scope x) zu5._auto_1) (hd :autoParam ((x == ("__debug__" : Str)) = false) zu1._auto_1) (hcd :autoParam ((x == ("__classdict__" : Str)) = false) zu1._auto_1)
    (hs :autoParam (swapsWithSole [.Subscript (.Name x p) (.Slice (some a) (some b) none p2) pos'] e pos.line X.env = pure false) zu2._auto_1) (hw :autoParam (swappedStores [.Subscript (.Name x p) (.Slice (some a) (some b) none p2) pos'] e X.env = pure none) zu2._auto_1)
    (h1 :autoParam ((assignEach [.Subscript (.Name x p) (.Slice (some a) (some b) none p2) pos'] X.env).map (·.2) = [assign (.Subscript (.Name x p) (.Slice (some a) (some b) none p2) pos') X.env]) zu2._auto_1) :
    SS X (.Assign [.Subscript (.Name x p) (.Slice (some a) (some b) none p2) pos'] e pos) (sCutC i me ml mh) := by
  obtain ⟨t, pe, se⟩ := he
  obtain ⟨t1, pl, sl⟩ := hl
  obtain ⟨t2, ph, sh⟩ := hh
  refine ⟨_, ps_asg pe (pg_cutC pl ph hN hv hd hcd) hs hw h1, fun B G H σ ρ fl ρ' E I hm k => ?_⟩
  obtain ⟨⟨d, ρ1⟩, e1, hm⟩ := bind_inv hm
  dsimp only at hm
  split at hm
  . rename_i hso
    obtain ⟨ds0, hso⟩ := Option.isSome_iff_exists.mp hso
    obtain ⟨s0, e0, q0⟩ := bind_inv hso
    obtain ⟨⟨dm, ρ2⟩, e2, hm⟩ := bind_inv hm
    obtain ⟨⟨dn, ρ3⟩, e3, hm⟩ := bind_inv hm
    obtain ⟨s1, e4, hm⟩ := bind_inv hm
    obtain ⟨ds, e5, hm⟩ := bind_inv hm
    dsimp only at hm
    split at hm
    . split at hm
      . rename_i hc
        simp only [Bool.and_eq_true, decide_eq_true_eq] at hc
        cases hm
        refine se B G H σ ρ _ ρ1 _ I e1 fun G1 H1 v I1 f1 r1 => ?_
        obtain ⟨l, xs0, k1, k2, k3, k4⟩ := I1.wr e0 q0
        refine ⟨.ref l, k1, sl B G1 H1 σ ρ1 _ ρ2 _ I1 e2 fun G2 H2 v2 I2 f2 r2 => sh B G2 H2 σ ρ2 _ ρ3 _ I2 e3 fun G3 H3 v3 I3 f3 r3 => ?_⟩
        obtain ⟨l', xs, j1, j2, j3, j4⟩ := I3.wr e4 e5
        rw [k1] at j1; cases j1
        obtain ⟨b', zs, rfl, hb, rb⟩ := RepD.mono (f2.trans f3) r1
        refine ⟨l, b', xs, zs, _, _, rfl, rfl, r2, r3, j3, I3.fz _ _ hb, fun z => ?_, hc.1.1.1, hc.1.1.2, by rw [j4.length]; exact hc.1.2, by rw [j4.length, rb.length, sizeLine_eq]; exact hc.2, ?_⟩
        . subst z; rw [j2] at hb; cases hb
        . exact k G3 _ σ (I3.write e4 e5 k1 (((j4.take _).append rb).append (j4.drop _))) (f1.trans (f2.trans f3))
      . cases hm
    . cases hm
  . cases hm
noncomputable def sApp3 (y i j k : Nat) : MS := fun ρ => match ρ[i]?, ρ[j]?, ρ[k]? with
  | some (.own d1), some (.own d2), some (.own d3) => if d1.length <= 1000000 /\ d2.length <= 1000000 /\ d3.length <= 1000000 then some (.next, (((ρ.set i .emp).set j .emp).set k .emp).set y .emp) else none
  | _, _, _ => none
section
variable {X : Cx} {xy xi xj xk : Str} {n : Int} {cj : Nat} {tk : Nat} {py pi' pj pk tp py2 apos cp cpos epos pos : Pos}
theorem ss_app3 (y i j k : Nat) (hij : i ≠ j) (hik : i ≠ k) (hjk : j ≠ k) (hp : PassesOwn (model X.prog X.w) X.A X.env X.xe) (hc : X.calm = true) (hN : X.N.Nodup)
    (hy :autoParam (X.N[y]? = some xy) zu2._auto_1) (hi :autoParam (X.N[i]? = some xi) zu2._auto_1) (hj :autoParam (X.N[j]? = some xj) zu2._auto_1) (hk :autoParam (X.N[k]? = some xk) zu2._auto_1)
    (ly :autoParam (Loc X.env.scope xy) zu9._auto_1) (fy :autoParam (X.fn xy = true \/ X.env.scope.names.lookup xy = some .local) zu9._auto_1)
    (vy :autoParam (Vis X.env.scope xy) zu5._auto_1) (vi :autoParam (Vis X.env.scope xi) zu5._auto_1) (vj :autoParam (Vis X.env.scope xj) zu5._auto_1) (vk :autoParam (Vis X.env.scope xk) zu5._auto_1)
    (dy :autoParam ((xy == ("__debug__" : Str)) = false) zu1._auto_1) (cy :autoParam ((xy == ("__classdict__" : Str)) = false) zu1._auto_1) (di :autoParam ((xi == ("__debug__" : Str)) = false) zu1._auto_1) (ci :autoParam ((xi == ("__classdict__" : Str)) = false) zu1._auto_1) (dj :autoParam ((xj == ("__debug__" : Str)) = false) zu1._auto_1) (cj' :autoParam ((xj == ("__classdict__" : Str)) = false) zu1._auto_1) (dk :autoParam ((xk == ("__debug__" : Str)) = false) zu1._auto_1) (ck :autoParam ((xk == ("__classdict__" : Str)) = false) zu1._auto_1)
    (hbase :autoParam (attributeBase (.Name xy py2) "append" X.env (eval (.Name xy py2) X.env) = eval (.Name xy py2) X.env) zu2._auto_1)
    (hfew :autoParam (((backTo cpos (starEach [Expr.Constant (.int n) cj cp] X.env)).all (fun x => !x.1) && (backToKw cpos (keywordEach [] X.env)).all (fun x => x.1.isSome)
      && decide ([Expr.Constant (.int n) cj cp].length + ([] : List Keyword).length + (if ([] : List Keyword).isEmpty then 0 else 1) < 30)) = true) zu2._auto_1)
    (hline :autoParam ((apos.endLine == cpos.line) = true) zu2._auto_1) (hs :autoParam (starEach [Expr.Constant (.int n) cj cp] X.env = (false, eval (.Constant (.int n) cj cp) X.env) :: starEach [] X.env) zu2._auto_1)
    (s1 :autoParam (starEach [.Name xi pi', .Name xj pj, .Name xk pk] X.env = (false, eval (.Name xi pi') X.env) :: starEach [.Name xj pj, .Name xk pk] X.env) zu2._auto_1) (s2 :autoParam (starEach [.Name xj pj, .Name xk pk] X.env = (false, eval (.Name xj pj) X.env) :: starEach [.Name xk pk] X.env) zu2._auto_1) (s3 :autoParam (starEach [.Name xk pk] X.env = (false, eval (.Name xk pk) X.env) :: starEach [] X.env) zu2._auto_1)
    (hf :autoParam (∀ x, foldedSetIterable (.Tuple [.Name xi pi', .Name xj pj, .Name xk pk] tk tp) X.env x = pure x) zu3._auto_1) :
    SS X (.For (.Name xy py) (.Tuple [.Name xi pi', .Name xj pj, .Name xk pk] tk tp) [.Expr (.Call (.Attribute (.Name xy py2) "append" apos) [.Constant (.int n) cj cp] [] cpos) epos] [] pos) (sApp3 y i j k) := by
  have body := pss_one (X := X) (ps_expr (pos := epos) (pe_bm PySem.F.plainAttrs_list PySem.F.slot_list_append PySem.F.type_list_append mt_append (pe_var (pos := py2) hy vy dy cy) (pa_cons (pe_int (X := X) (i := n) (pos := cp)) pa_nil hs) hbase hfew hline hs rfl) (by rfl))
  have ps := ps_for (pos := pos) hp hc (pi_tup (tg := .Name xy py) (pe_tup (x1 := tk) (pos := tp) (pa_cons (pe_var (pos := pi') hi vi di ci) (pa_cons (pe_var (pos := pj) hj vj dj cj') (pa_cons (pe_var (pos := pk) hk vk dk ck) pa_nil s3) s2) s1))) (pg_name (pos := py) hN hy ly fy) body hf
  refine ⟨fun D σ H => y < σ.length -> _, fun pins s σ H D I h => ps pins s σ H D I (h (by rw [I.len]; exact (List.getElem?_eq_some_iff.mp hy).1)), fun B G H σ ρ fl ρ' E I hm kk hlt => ?_⟩
  unfold sApp3 at hm
  split at hm
  . rename_i d1 d2 d3 e1 e2 e3
    split at hm
    . rename_i hl
      cases hm
      obtain ⟨l1, xs1, a1, a2, a3, a4, a5⟩ := I.slot i _ e1
      obtain ⟨l2, xs2, b1, b2, b3, b4, b5⟩ := I.slot j _ e2
      obtain ⟨l3, xs3, c1, c2, c3, c4, c5⟩ := I.slot k _ e3
      have n12 : l1 ≠ l2 := fun z => I.dis i j _ _ l1 hij e1 e2 a1 (by subst z; exact b1)
      have n13 : l1 ≠ l3 := fun z => I.dis i k _ _ l1 hik e1 e3 a1 (by subst z; exact c1)
      have n23 : l2 ≠ l3 := fun z => I.dis j k _ _ l2 hjk e2 e3 b1 (by subst z; exact c1)
      have lx1 : xs1.length < sizeLine := by rw [a4.length, sizeLine_eq]; lia
      have lx2 : xs2.length < sizeLine := by rw [b4.length, sizeLine_eq]; lia
      have lx3 : xs3.length < sizeLine := by rw [c4.length, sizeLine_eq]; lia
      refine ⟨.ref l1, a1, .ref l2, b1, .ref l3, c1, by show 3 <= sizeLine; decide, fun p hp => ⟨p, rfl, ⟨_, SqT.of upd_same⟩, ?_⟩⟩
      have p1 : l1 ≠ p := fun z => by subst z; rw [a3] at hp; cases hp
      have p2 : l2 ≠ p := fun z => by subst z; rw [b3] at hp; cases hp
      have p3 : l3 ≠ p := fun z => by subst z; rw [c3] at hp; cases hp
      let T : List V := [.ref l1, .ref l2, .ref l3]
      let H0 : Hp := upd H p (.tup T)
      let H1 : Hp := upd H0 l1 (.lst (xs1 ++ [.int n]))
      let H2 : Hp := upd H1 l2 (.lst (xs2 ++ [.int n]))
      let H3 : Hp := upd H2 l3 (.lst (xs3 ++ [.int n]))
      have q0 : H0 p = some (.tup T) := upd_same
      have q1 : H1 p = some (.tup T) := by show upd H0 l1 _ p = _; rw [upd_ne (Ne.symm p1)]; exact q0
      have q2 : H2 p = some (.tup T) := by show upd H1 l2 _ p = _; rw [upd_ne (Ne.symm p2)]; exact q1
      have q3 : H3 p = some (.tup T) := by show upd H2 l3 _ p = _; rw [upd_ne (Ne.symm p3)]; exact q2
      have r1 : H0 l1 = some (.lst xs1) := by show upd H p _ l1 = _; rw [upd_ne p1]; exact a3
      have r2 : H1 l2 = some (.lst xs2) := by show upd (upd H p _) l1 _ l2 = _; rw [upd_ne (Ne.symm n12), upd_ne p2]; exact b3
      have r3 : H2 l3 = some (.lst xs3) := by show upd (upd (upd H p _) l1 _) l2 _ l3 = _; rw [upd_ne (Ne.symm n23), upd_ne (Ne.symm n13), upd_ne p3]; exact c3
      have hset : ∀ (σ' : St) (v : V), σ'.length = σ.length -> (σ'.set y (some v))[y]? = some (some v) := fun σ' v e => by rw [List.getElem?_set, if_pos rfl, if_pos (by lia)]
      refine ⟨fun q m σ' H' => (q = 0 /\ m = 3 /\ σ' = σ /\ H' = H0) \/ (q = 1 /\ m = 2 /\ σ' = σ.set y (some (.ref l1)) /\ H' = H1) \/ (q = 2 /\ m = 1 /\ σ' = σ.set y (some (.ref l2)) /\ H' = H2) \/ (q = 3 /\ m = 0 /\ σ' = σ.set y (some (.ref l3)) /\ H' = H3), ⟨3, .inl ⟨rfl, rfl, rfl, rfl⟩⟩, ?_⟩
      rintro q m σ' H' (⟨rfl, rfl, hσ, hH⟩ | ⟨rfl, rfl, hσ, hH⟩ | ⟨rfl, rfl, hσ, hH⟩ | ⟨rfl, rfl, hσ, hH⟩) <;> rw [hσ, hH]
      . refine .inr ⟨⟨T, .ref l1, SqT.of q0, rfl⟩, fun σ' H' => σ' = σ.set y (some (.ref l1)) /\ H' = H1, fun σ' H' ⟨z1, z2⟩ => ⟨2, by decide, .inr (.inl ⟨rfl, rfl, z1, z2⟩)⟩, ?_⟩
        rintro x H' ⟨rfl, f⟩
        cases f T (SqT.of q0)
        exact ⟨.ref l1, hset σ _ rfl, .inl ⟨rfl, _, SqL.of r1⟩, l1, xs1, .int n, rfl, rfl, r1, lx1, rfl, rfl⟩
      . refine .inr ⟨⟨T, .ref l2, SqT.of q1, rfl⟩, fun σ' H' => σ' = σ.set y (some (.ref l2)) /\ H' = H2, fun σ' H' ⟨z1, z2⟩ => ⟨1, by decide, .inr (.inr (.inl ⟨rfl, rfl, z1, z2⟩))⟩, ?_⟩
        rintro x H' ⟨rfl, f⟩
        cases f T (SqT.of q1)
        refine ⟨.ref l2, hset _ _ (by rw [List.length_set]), .inl ⟨rfl, _, SqL.of r2⟩, l2, xs2, .int n, rfl, rfl, r2, lx2, ?_, rfl⟩
        rw [List.set_set]
      . refine .inr ⟨⟨T, .ref l3, SqT.of q2, rfl⟩, fun σ' H' => σ' = σ.set y (some (.ref l3)) /\ H' = H3, fun σ' H' ⟨z1, z2⟩ => ⟨0, by decide, .inr (.inr (.inr ⟨rfl, rfl, z1, z2⟩))⟩, ?_⟩
        rintro x H' ⟨rfl, f⟩
        cases f T (SqT.of q2)
        refine ⟨.ref l3, hset _ _ (by rw [List.length_set]), .inl ⟨rfl, _, SqL.of r3⟩, l3, xs3, .int n, rfl, rfl, r3, lx3, ?_, rfl⟩
        rw [List.set_set]
      . refine .inl ⟨⟨T, SqT.of q3, Nat.le_refl _⟩, ?_⟩
        have same : ∀ b, b ≠ p -> b ≠ l1 -> b ≠ l2 -> b ≠ l3 -> H3 b = H b := fun b z0 z1 z2 z3 => by
          show upd (upd (upd (upd H p _) l1 _) l2 _) l3 _ b = _
          rw [upd_ne z3, upd_ne z2, upd_ne z1, upd_ne z0]
        have notG : ∀ b o, G b = some o -> b ≠ p /\ b ≠ l1 /\ b ≠ l2 /\ b ≠ l3 := fun b o e => ⟨fun z => (by subst z; rw [I.fz _ _ e] at hp; cases hp), fun z => (by subst z; rw [a2] at e; cases e), fun z => (by subst z; rw [b2] at e; cases e), fun z => (by subst z; rw [c2] at e; cases e)⟩
        have I1 := (((I.emp i).emp j).emp k)
        have I2 : SI X.K B G H3 σ (((ρ.set i .emp).set j .emp).set k .emp) := by
          refine I1.move (fun b o e => ?_) (Fz.refl G) I.new (fun b o e hb => ?_) (fun b e => ?_) fun q s a es w g hh => ⟨g, ?_⟩
          . obtain ⟨z0, z1, z2, z3⟩ := notG b o e
            rw [same b z0 z1 z2 z3]; exact I.fz b o e
          . have hk' := I.keep b o e hb
            rw [same b (fun z => by subst z; rw [hk'] at hp; cases hp) (fun z => by subst z; rw [a5] at e; cases e) (fun z => by subst z; rw [b5] at e; cases e) (fun z => by subst z; rw [c5] at e; cases e)]
            exact hk'
          . by_cases z0 : b = p
            . subst z0; rw [q3] at e; cases e
            by_cases z1 : b = l1
            . subst z1; exact a5
            by_cases z2 : b = l2
            . subst z2; exact b5
            by_cases z3 : b = l3
            . subst z3; exact c5
            rw [same b z0 z1 z2 z3] at e
            exact I.there b e
          . have z1 : q ≠ i := fun z => by
              subst z
              rw [List.getElem?_set_ne (Ne.symm hik), List.getElem?_set_ne (Ne.symm hij), List.getElem?_set, if_pos rfl] at es
              split at es
              . cases es; exact w
              . cases es
            have z2 : q ≠ j := fun z => by
              subst z
              rw [List.getElem?_set_ne (Ne.symm hjk), List.getElem?_set, if_pos rfl] at es
              split at es
              . cases es; exact w
              . cases es
            have z3 : q ≠ k := fun z => by
              subst z
              rw [List.getElem?_set, if_pos rfl] at es
              split at es
              . cases es; exact w
              . cases es
            have es' : ρ[q]? = some s := by
              rw [List.getElem?_set_ne (Ne.symm z3), List.getElem?_set_ne (Ne.symm z2), List.getElem?_set_ne (Ne.symm z1)] at es
              exact es
            refine same a (fun z => hh (by subst z; exact hp)) (fun z => ?_) (fun z => ?_) fun z => ?_
            . subst z; exact I.dis q i _ _ a z1 es' e1 w a1
            . subst z; exact I.dis q j _ _ a z2 es' e2 w b1
            . subst z; exact I.dis q k _ _ a z3 es' e3 w c1
        exact kk G H3 _ (I2.chg (i := y) (ov := some (.ref l3)) (s' := .emp) I2.fz (Fz.refl G) I2.new I2.keep I2.there (fun _ _ _ _ _ _ g _ => ⟨g, rfl, id⟩) trivial) (Fz.refl G)
    . cases hm
  . cases hm
end
theorem se_call0 {X : Cx} {k k' : Nat} {x : Str} {p pos : Pos} {F : List D -> Option Sl} (fd : FD X.prog X.w X.K X.mg X.base k x (spP X.K 0 F)) (hr : Room k' X.A) (hk :autoParam (k <= k') zu1._auto_1) (hg :autoParam (Gl X x) zu2._auto_1) (hdb :autoParam ((x == ("__debug__" : Str)) = false) zu1._auto_1) : SE X (.Call (.Name x p) [] [] pos) (eCall F aNil) := by
  obtain ⟨f, fdd, ps, G0, h1, h2, h3⟩ := fd.ex
  refine ⟨_, pe_call0 G0 (hr.mono hk) hg h1 h2 h3 .nil pass0 hdb, fun B G H σ ρ d ρ' Q I hm kk => ?_⟩
  obtain ⟨⟨as, ρ1⟩, e1, hm⟩ := bind_inv hm
  cases e1
  obtain ⟨r, e2, hm⟩ := bind_inv hm
  refine ⟨G, [], r, e2, rfl, I.fz, rfl, fun G2 H2 v f2 fz2 nw kp rr => ?_⟩
  have I2 := I.grow f2 fz2 nw kp
  cases r with
  | val d' => cases hm; exact kk G2 H2 v I2 f2 rr
  | own ds =>
    cases hm
    obtain ⟨l, xs, rfl, g3, h3, r3, b3⟩ := rr
    obtain ⟨I3, f3, r4⟩ := frz_of I2 g3 h3 r3 (I.there l b3) (I.own_ne b3 nw kp)
    exact kk _ H2 _ I3 (f2.trans f3) r4
  | emp => cases hm
  | two _ _ => cases hm
  | tre _ => cases hm
  | ptr _ => cases hm
  | par _ => cases hm
end M
namespace M
open L2 PySem
variable {c d x : D} {b : MS} {z : Bool} {Q : Fl × R -> Prop} {a i n j N k : Nat} {f : D -> R -> Option (Option D × R)} {g : D -> R -> Option R} {mt : MT} {me m mi : ME} {ρ : R} {r : Sl} {h : List D -> R -> Option R} {ds xs ys : List D} {t : Option Sl} {ma : MA} {F : List D -> Option Sl} {cap : List Nat} {I : R -> Prop}
noncomputable abbrev Rt {α : Type} (_ : α -> Prop) : Type := Option α
noncomputable def OkQ {α : Type} (Q : α -> Prop) (o : Rt Q) : Prop := ∃ a, o = some a /\ Q a
noncomputable def Ok {α : Type} (o : Option α) (Q : α -> Prop) : Prop := OkQ Q o
noncomputable abbrev RtS {α : Sort u} (_ : α) : Type := Option Sl
section
variable {α β : Type} {o : Option α} {Q Q' : α -> Prop}
theorem ok_some {a : α} : OkQ Q (some a) = Q a := propext ⟨fun ⟨_, e, q⟩ => by cases e; exact q, fun q => ⟨a, rfl, q⟩⟩
theorem ok_none : OkQ Q (none : Option α) = False := propext ⟨fun ⟨_, e, _⟩ => (by cases e), False.elim⟩
theorem ok_bind {f : α -> Option β} {Q : β -> Prop} : OkQ Q (o.bind f) = OkQ (fun a => OkQ Q (f a)) o := by
  cases o with
  | none => exact propext ⟨fun ⟨_, e, _⟩ => (by cases e), fun ⟨_, e, _⟩ => (by cases e)⟩
  | some a => exact propext ⟨fun h => ⟨a, rfl, h⟩, fun ⟨_, e, h⟩ => by cases e; exact h⟩
theorem ok_map {f : α -> β} {Q : β -> Prop} : OkQ Q (o.map f) = OkQ (fun a => Q (f a)) o := by
  cases o with
  | none => exact propext ⟨fun ⟨_, e, _⟩ => (by cases e), fun ⟨_, e, _⟩ => (by cases e)⟩
  | some a => exact propext ⟨fun h => ⟨a, rfl, ok_some.mp h⟩, fun ⟨_, e, h⟩ => by cases e; exact ok_some.mpr h⟩
theorem ok_ite {c : Prop} [Decidable c] : OkQ Q (if c then o else none) = (c /\ OkQ Q o) := by
  by_cases h : c
  . rw [if_pos h]; exact propext ⟨fun k => ⟨h, k⟩, fun k => k.2⟩
  . rw [if_neg h]; exact propext ⟨fun k => (ok_none.mp k).elim, fun k => absurd k.1 h⟩
theorem ok_Q : Ok o Q = OkQ Q o := rfl
noncomputable def gd {α : Type} (b : Bool) (o : Option α) : Option α := if b then o else none
theorem ok_gd {b : Bool} (h : b = true) : OkQ Q (gd b o) = OkQ Q o := by subst h; rfl
theorem Ok.mono (h : Ok o Q) (k : ∀ a, Q a -> Q' a) : Ok o Q' := by
  obtain ⟨a, e, q⟩ := h; exact ⟨a, e, k a q⟩
theorem ok_iff {Q' : α -> Prop} (h : ∀ a, Q a = Q' a) : OkQ Q o = OkQ Q' o := by rw [funext h]
theorem Ok.of {a : α} (e : o = some a) (q : Q a) : Ok o Q := ⟨a, e, q⟩
end
section
variable {c : MT} {a b : MS} {ρ : R}
theorem bool2 {α : Type} {o u : Option α} {Q : α -> Prop} : OkQ Q (if z then o else u) = ((z = true -> OkQ Q o) /\ (z = false -> OkQ Q u)) := by cases z <;> simp
theorem ok_sIf : OkQ Q (sIf c a b ρ) = (OkQ (fun p => (p.1 = true -> OkQ Q (a p.2)) /\ (p.1 = false -> OkQ Q (b p.2))) (c ρ)) := by
  unfold sIf; rw [ok_bind]; exact ok_iff fun p => bool2
theorem ok_eIf {a b : ME} {Q : D × R -> Prop} : OkQ Q (eIf c a b ρ) = (OkQ (fun p => (p.1 = true -> OkQ Q (a p.2)) /\ (p.1 = false -> OkQ Q (b p.2))) (c ρ)) := by
  unfold eIf; rw [ok_bind]; exact ok_iff fun p => bool2
theorem ok_tAnd {a b : MT} {Q : Bool × R -> Prop} : OkQ Q (tAndM a b ρ) = (OkQ (fun p => (p.1 = true -> OkQ Q (b p.2)) /\ (p.1 = false -> Q (false, p.2))) (a ρ)) := by
  unfold tAndM; rw [ok_bind]; exact ok_iff fun p => by rw [bool2, ok_some]
theorem ok_tOr {a b : MT} {Q : Bool × R -> Prop} : OkQ Q (tOrM a b ρ) = (OkQ (fun p => (p.1 = true -> Q (true, p.2)) /\ (p.1 = false -> OkQ Q (b p.2))) (a ρ)) := by
  unfold tOrM; rw [ok_bind]; exact ok_iff fun p => by rw [bool2, ok_some]
theorem ok_eAnd {a b : ME} {Q : D × R -> Prop} : OkQ Q (eAnd a b ρ) = (OkQ (fun p => ∃ z, p.1 = .bl z /\ (z = true -> OkQ Q (b p.2)) /\ (z = false -> Q (.bl false, p.2))) (a ρ)) := by
  unfold eAnd; rw [ok_bind]
  have : ∀ p : D × R, Ok (match p.1 with
    | .bl true => b p.2
    | .bl false => some (.bl false, p.2)
    | _ => none) Q ↔ ∃ z, p.1 = .bl z /\ (z = true -> Ok (b p.2) Q) /\ (z = false -> Q (.bl false, p.2)) := by
    rintro ⟨d, ρ⟩
    cases d with
    | bl z => cases z <;> simp [ok_Q, ok_some]
    | _ => simp [ok_Q, ok_none]
  exact ok_iff fun p => propext (this p)
theorem ok_eOr {a b : ME} {Q : D × R -> Prop} : OkQ Q (eOr a b ρ) = (OkQ (fun p => ∃ z, p.1 = .bl z /\ (z = true -> Q (.bl true, p.2)) /\ (z = false -> OkQ Q (b p.2))) (a ρ)) := by
  unfold eOr; rw [ok_bind]
  have : ∀ p : D × R, Ok (match p.1 with
    | .bl true => some (.bl true, p.2)
    | .bl false => b p.2
    | _ => none) Q ↔ ∃ z, p.1 = .bl z /\ (z = true -> Q (.bl true, p.2)) /\ (z = false -> Ok (b p.2) Q) := by
    rintro ⟨d, ρ⟩
    cases d with
    | bl z => cases z <;> simp [ok_Q, ok_some]
    | _ => simp [ok_Q, ok_none]
  exact ok_iff fun p => propext (this p)
theorem ok_chain {f g : D -> D -> Option D} {a b c : ME} {Q : D × R -> Prop} : OkQ Q (eChain f g a b c ρ) = (OkQ (fun p => OkQ (fun q => OkQ (fun t => ∃ z, t = .bl z /\ (z = true -> OkQ (fun r => OkQ (fun d => Q (d, r.2)) (g q.1 r.1)) (c q.2)) /\ (z = false -> Q (.bl false, q.2))) (f p.1 q.1)) (b p.2)) (a ρ)) := by
  unfold eChain; rw [ok_bind]
  have : ∀ (p q : D × R) (t : D), Ok (match t with
    | .bl true => (c q.2).bind fun r => (g q.1 r.1).map fun d => (d, r.2)
    | .bl false => some (.bl false, q.2)
    | _ => none) Q ↔ ∃ z, t = .bl z /\ (z = true -> Ok (c q.2) fun r => Ok (g q.1 r.1) fun d => Q (d, r.2)) /\ (z = false -> Q (.bl false, q.2)) := by
    intro p q t
    cases t with
    | bl z =>
      cases z
      . simp [ok_Q, ok_some]
      . simp only [ok_Q, ok_bind, D.bl.injEq, exists_eq_left', forall_const, reduceCtorEq, false_implies, and_true]
        exact iff_of_eq (ok_iff fun r => ok_map)
    | _ => simp [ok_Q, ok_none]
  exact ok_iff fun p => by rw [ok_bind]; exact ok_iff fun q => by rw [ok_bind]; exact ok_iff fun t => propext (this p q t)
theorem ok_turnM {Q : Option D × R -> Prop} : OkQ Q (turnM g mt me d ρ) = (OkQ (fun ρ1 => OkQ (fun p => (p.1 = true -> OkQ (fun q => noOwn q.2 = true /\ Q (some q.1, q.2)) (me p.2)) /\ (p.1 = false -> noOwn p.2 = true /\ Q (none, p.2))) (mt ρ1)) (g d ρ)) := by
  unfold turnM; rw [ok_bind]; exact ok_iff fun ρ1 => by rw [ok_bind]; exact ok_iff fun p => by rw [bool2, ok_bind, ok_ite, ok_some]; congr 1; exact propext (imp_congr Iff.rfl (iff_of_eq (ok_iff fun q => by rw [ok_ite, ok_some])))
theorem ok_turnP {bk : Nat} {Q : Option D × R -> Prop} : OkQ Q (turnP bk g mt me d ρ) = (OkQ (fun ρ1 => OkQ (fun p => (p.1 = true -> OkQ (fun q => onlyP bk q.2 = true /\ Q (some q.1, q.2)) (me p.2)) /\ (p.1 = false -> onlyP bk p.2 = true /\ Q (none, p.2))) (mt ρ1)) (g d ρ)) := by
  unfold turnP; rw [ok_bind]; exact ok_iff fun ρ1 => by rw [ok_bind]; exact ok_iff fun p => by rw [bool2, ok_bind, ok_ite, ok_some]; congr 1; exact propext (imp_congr Iff.rfl (iff_of_eq (ok_iff fun q => by rw [ok_ite, ok_some])))
theorem natAbs_lit (n : Nat) : Int.natAbs (no_index (OfNat.ofNat n)) = n := rfl
end
section
theorem ok_sNext : OkQ Q (sNext ρ) = (Q (.next, ρ)) := ok_some
noncomputable def SeqK (b : MS) (Q : Fl × R -> Prop) (p : Fl × R) : Prop := OkQ Q (match p.1 with
  | .next => b p.2
  | f => some (f, p.2))
theorem seqK_next : SeqK b Q (.next, ρ) = (OkQ Q (b ρ)) := rfl
theorem seqK_ret : SeqK b Q (.ret r, ρ) = (Q (.ret r, ρ)) := ok_some
theorem seqK_brk : SeqK b Q (.brk, ρ) = (Q (.brk, ρ)) := ok_some
theorem seqK_cont : SeqK b Q (.cont, ρ) = (Q (.cont, ρ)) := ok_some
theorem ok_sSeq {a b : MS} : OkQ Q (sSeq a b ρ) = (OkQ (SeqK b Q) (a ρ)) := ok_bind
theorem ok_sRet : OkQ Q (sRet m ρ) = (OkQ (fun p => Q (.ret (.val p.1), p.2)) (m ρ)) := ok_map
theorem ok_sRetO {m : MO} : OkQ Q (sRetO m ρ) = (OkQ (fun p => Q (.ret (.own p.1), p.2)) (m ρ)) := ok_map
theorem ok_sRetV : OkQ Q (sRetV i ρ) = OkQ Q (match ρ[i]? with
  | some (.val d) => some (.ret (.val d), ρ)
  | some (.own ds) => some (.ret (.own ds), ρ.set i .emp)
  | _ => none) := rfl
theorem ok_gN {Q : R -> Prop} : OkQ Q (gN i d ρ) = (Q (ρ.set i (.val d))) := ok_some
theorem ok_gsNil  {ds : List D} {ρ : R} {Q : R -> Prop} : OkQ Q (gsNil ds ρ) = OkQ Q (match ds with
  | [] => some ρ
  | _ => none) := rfl
theorem ok_gsCons {Q : R -> Prop} : OkQ Q (gsCons g h ds ρ) = OkQ Q (match ds with
  | d :: ds => (g d ρ).bind fun ρ1 => h ds ρ1
  | [] => none) := rfl
theorem ok_gT {g : List D -> R -> Option R} {Q : R -> Prop} : OkQ Q (gT n g d ρ) = OkQ Q (match d with
  | .tup ds => if ds.length = n then g ds ρ else none
  | _ => none) := rfl
theorem ok_sAsg : OkQ Q (sAsg m g ρ) = (OkQ (fun p => OkQ (fun ρ' => Q (.next, ρ')) (g p.1 p.2)) (m ρ)) := ok_bind.trans (ok_iff fun _ => ok_map)
theorem ok_sSet : OkQ Q (sSet i m ρ) = (OkQ (fun p => Q (.next, p.2.set i (.val p.1))) (m ρ)) := ok_map
theorem ok_sSetO {m : MO} : OkQ Q (sSetO i m ρ) = (OkQ (fun p => Q (.next, p.2.set i (.own p.1))) (m ρ)) := ok_map
theorem ok_sApp : OkQ Q (sApp i m ρ) = OkQ Q (gd ((ρ[i]?.bind Sl.items).isSome) ((m ρ).bind fun p => p.2[i]?.bind fun s => s.items.bind fun ds => if ds.length < 16777216 then some (.next, p.2.set i (s.put (ds ++ [p.1]))) else none)) := rfl
theorem ok_sPut : OkQ Q (sPut j mi me ρ) = OkQ Q ((me ρ).bind fun p => gd (hasV p.2 j) ((mi p.2).bind fun q => match q.1 with
  | .int k => q.2[j]?.bind fun s => s.items.bind fun ds => (ixN ds.length k).bind fun n => some (.next, q.2.set j (s.put (ds.set n p.1)))
  | _ => none)) := rfl
theorem ok_eC {Q : D × R -> Prop} : OkQ Q (eC d ρ) = (Q (d, ρ)) := ok_some
noncomputable def eVQ (Q : D × R -> Prop) (s : RtS Q) (ρ : R) (i : Nat) : Prop := match s with
  | some (.val d) => Q (d, ρ)
  | some (.own ds) => Q (.lst ds, ρ.set i (.val (.lst ds)))
  | _ => False
theorem eVQ_val {Q : D × R -> Prop} : eVQ Q (some (.val d)) ρ i = Q (d, ρ) := rfl
theorem eVQ_own {Q : D × R -> Prop} : eVQ Q (some (.own ds)) ρ i = Q (.lst ds, ρ.set i (.val (.lst ds))) := rfl
theorem ok_eVar {Q : D × R -> Prop} : OkQ Q (eVar i ρ) = eVQ Q ρ[i]? ρ i := by
  unfold eVar eVQ
  cases ρ[i]? with
  | none => exact ok_none
  | some s => cases s <;> first | exact ok_some | exact ok_none
noncomputable def Vb (Q : D -> D -> Prop) (P : Prop) (s : RtS Q) (t : Option Sl) : Prop := match s, t with
  | some (.val x), some (.val y) => Q x y
  | _, _ => P
theorem Vb_val {Q : D -> D -> Prop} {P : Prop} {x y : D} : Vb Q P (some (.val x)) (some (.val y)) = Q x y := rfl
theorem Vb_own {Q : D -> D -> Prop} {P : Prop} : Vb Q P (some (.own xs)) t = P := rfl
theorem Vb_own2 {Q : D -> D -> Prop} {P : Prop} : Vb Q P (some (.val x)) (some (.own ys)) = P := rfl
noncomputable def Va (Q : D -> Prop) (P : Prop) (s : RtS Q) : Prop := match s with
  | some (.val x) => Q x
  | _ => P
theorem Va_val {Q : D -> Prop} {P : Prop} : Va Q P (some (.val x)) = Q x := rfl
theorem Va_own {Q : D -> Prop} {P : Prop} : Va Q P (some (.own xs)) = P := rfl
theorem ok_aNil {Q : List D × R -> Prop} : OkQ Q (aNil ρ) = (Q ([], ρ)) := ok_some
theorem ok_aCons {r : MA} {Q : List D × R -> Prop} : OkQ Q (aCons m r ρ) = (OkQ (fun p => OkQ (fun q => Q (p.1 :: q.1, q.2)) (r p.2)) (m ρ)) := ok_bind.trans (ok_iff fun _ => ok_map)
theorem ok_m2 {f : D -> D -> Option D} {ma mb : ME} {Q : D × R -> Prop} : OkQ Q (m2 f ma mb ρ) = (OkQ (fun p => OkQ (fun q => OkQ (fun d => Q (d, q.2)) (f p.1 q.1)) (mb p.2)) (ma ρ)) := ok_bind.trans (ok_iff fun _ => ok_bind.trans (ok_iff fun _ => ok_map))
theorem ok_m2VV {f : D -> D -> Option D} {a b : Nat} {Q : D × R -> Prop} : OkQ Q (m2 f (eVar a) (eVar b) ρ) = Vb (fun x y => OkQ (fun d => Q (d, ρ)) (f x y)) (OkQ (fun p => OkQ (fun q => OkQ (fun d => Q (d, q.2)) (f p.1 q.1)) (eVar b p.2)) (eVar a ρ)) ρ[a]? ρ[b]? := by
  rw [ok_m2, Vb.eq_def]
  split
  . rename_i x y h1 h2
    rw [ok_eVar, h1, eVQ_val, ok_eVar, h2, eVQ_val]
  . rfl
theorem ok_m2VC {f : D -> D -> Option D} {Q : D × R -> Prop} : OkQ Q (m2 f (eVar a) (eC c) ρ) = Va (fun x => OkQ (fun d => Q (d, ρ)) (f x c)) (OkQ (fun p => OkQ (fun d => Q (d, p.2)) (f p.1 c)) (eVar a ρ)) ρ[a]? := by
  rw [ok_m2, Va.eq_def, show (fun p : D × R => OkQ (fun q => OkQ (fun d => Q (d, q.2)) (f p.1 q.1)) (eC c p.2)) = fun p => OkQ (fun d => Q (d, p.2)) (f p.1 c) from funext fun p => ok_eC]
  split
  . rename_i x h1
    rw [ok_eVar, h1, eVQ_val]
  . rfl
theorem ok_m2CV {f : D -> D -> Option D} {Q : D × R -> Prop} : OkQ Q (m2 f (eC c) (eVar a) ρ) = Va (fun x => OkQ (fun d => Q (d, ρ)) (f c x)) (OkQ (fun p => OkQ (fun d => Q (d, p.2)) (f c p.1)) (eVar a ρ)) ρ[a]? := by
  rw [ok_m2, Va.eq_def, ok_eC]
  split
  . rename_i x h1
    rw [ok_eVar, h1, eVQ_val]
  . rfl
theorem ok_m1 {f : D -> Option D} {ma : ME} {Q : D × R -> Prop} : OkQ Q (m1 f ma ρ) = (OkQ (fun p => OkQ (fun d => Q (d, p.2)) (f p.1)) (ma ρ)) := ok_bind.trans (ok_iff fun _ => ok_map)
theorem ok_mC {f : List D -> Option D} {Q : D × R -> Prop} : OkQ Q (mC f ma ρ) = (OkQ (fun p => OkQ (fun d => Q (d, p.2)) (f p.1)) (ma ρ)) := ok_bind.trans (ok_iff fun _ => ok_map)
theorem ok_eIxV {Q : D × R -> Prop} : OkQ Q (eIxV j mi ρ) = OkQ Q (gd (hasV ρ j) ((mi ρ).bind fun p => (p.2[j]?.bind Sl.read).bind fun d => (dIx d p.1).map fun e => (e, p.2))) := Eq.trans rfl rfl
noncomputable def ixR (s : Option Sl) (c : D) : Option D := match s with
  | some (.val d) => dIx d c
  | some (.own ds) => dIx (.lst ds) c
  | some (.par ds) => dIx (.lst ds) c
  | _ => none
theorem ixR_val : ixR (some (.val d)) c = dIx d c := rfl
theorem ixR_own : ixR (some (.own ds)) c = dIx (.lst ds) c := rfl
theorem ixR_par : ixR (some (.par ds)) c = dIx (.lst ds) c := rfl
theorem eIxV_get : (if hasV ρ j then (ρ[j]?.bind Sl.read).bind fun d => (dIx d c).map fun e => (e, ρ) else none) = (ixR ρ[j]? c).map fun e => (e, ρ) := by
  unfold hasV
  cases ρ[j]? with
  | none => rfl
  | some s => cases s <;> rfl
theorem ok_eIxC {Q : D × R -> Prop} : OkQ Q (eIxV j (eC c) ρ) = OkQ (fun e => Q (e, ρ)) (ixR ρ[j]? c) := by
  rw [show eIxV j (eC c) ρ = (ixR ρ[j]? c).map fun e => (e, ρ) from eIxV_get, ok_map]
theorem ok_eIxE {Q : D × R -> Prop} : OkQ Q (eIxV j (eVar i) ρ) = Va (fun c => OkQ (fun e => Q (e, ρ)) (ixR ρ[j]? c)) (OkQ Q (gd (hasV ρ j) ((eVar i ρ).bind fun p => (p.2[j]?.bind Sl.read).bind fun d => (dIx d p.1).map fun e => (e, p.2)))) ρ[i]? := by
  rw [Va.eq_def]
  split
  . rename_i x h1
    rw [show eIxV j (eVar i) ρ = (ixR ρ[j]? x).map fun e => (e, ρ) by
      rw [<- eIxV_get]; unfold eIxV; rw [show eVar i ρ = some (x, ρ) by unfold eVar; rw [h1]]; rfl, ok_map]
  . rfl
theorem ok_eLenV {Q : D × R -> Prop} : OkQ Q (eLenV j ρ) = OkQ Q ((ρ[j]?.bind Sl.read).bind fun d => (dLen [d]).map fun e => (e, ρ)) := rfl
theorem ok_oC {f : List D -> Option (List D)} {Q : List D × R -> Prop} : OkQ Q (oC f ma ρ) = (OkQ (fun p => OkQ (fun d => Q (d, p.2)) (f p.1)) (ma ρ)) := ok_bind.trans (ok_iff fun _ => ok_map)
theorem ok_eTup {Q : D × R -> Prop} : OkQ Q (eTup ma ρ) = (OkQ (fun p => p.1.length <= 16777216 /\ Q (.tup p.1, p.2)) (ma ρ)) := ok_bind.trans (ok_iff fun _ => by rw [ok_ite, ok_some])
theorem ok_oLst {Q : List D × R -> Prop} : OkQ Q (oLst ma ρ) = (OkQ (fun p => p.1.length <= 16777216 /\ Q (p.1, p.2)) (ma ρ)) := ok_bind.trans (ok_iff fun _ => by rw [ok_ite, ok_some])
theorem ok_tTru {ma : ME} {Q : Bool × R -> Prop} : OkQ Q (tTru ma ρ) = (OkQ (fun p => OkQ (fun b => Q (b, p.2)) (dTru p.1)) (ma ρ)) := ok_bind.trans (ok_iff fun _ => ok_map)
theorem ok_tNotM {a : MT} {Q : Bool × R -> Prop} : OkQ Q (tNotM a ρ) = (OkQ (fun p => Q (!p.1, p.2)) (a ρ)) := ok_map
theorem ok_eCall {Q : D × R -> Prop} : OkQ Q (eCall F ma ρ) = OkQ Q ((ma ρ).bind fun p => (F p.1).bind fun r => match r with
  | .val d => some (d, p.2)
  | .own ds => some (.lst ds, p.2)
  | _ => none) := rfl
theorem ok_oCall {Q : List D × R -> Prop} : OkQ Q (oCall F ma ρ) = OkQ Q ((ma ρ).bind fun p => (F p.1).bind fun r => match r with
  | .own ds => some (ds, p.2)
  | _ => none) := rfl
theorem ok_eCallM {F : List D -> List D -> Option (Sl × List D)} {Q : D × R -> Prop} : OkQ Q (eCallM F j ma ρ) = OkQ Q (gd ((ρ[j]?.bind Sl.items).isSome) ((ma ρ).bind fun p => p.2[j]?.bind fun s => s.items.bind fun cs => (F cs p.1).bind fun r => match r.1 with
  | .val d => some (d, p.2.set j (s.put r.2))
  | .own ds => some (.lst ds, p.2.set j (s.put r.2))
  | _ => none)) := rfl
theorem ok_iR2L {Q : List D × R -> Prop} : OkQ Q (iR2L ma ρ) = OkQ Q ((ma ρ).bind fun p => match p.1 with
  | [.int i, .int j] => some (rangeD i (j - i).toNat, p.2)
  | _ => none) := rfl
theorem ok_eFz {m : MO} {Q : D × R -> Prop} : OkQ Q (eFz m ρ) = (OkQ (fun p => Q (.lst p.1, p.2)) (m ρ)) := ok_map
theorem ok_iSeq {Q : List D × R -> Prop} : OkQ Q (iSeq m ρ) = (OkQ (fun p => OkQ (fun ds => Q (ds, p.2)) (dItems [p.1])) (m ρ)) := ok_bind.trans (ok_iff fun _ => ok_map)
theorem ok_iR1 {Q : List D × R -> Prop} : OkQ Q (iR1 ma ρ) = OkQ Q ((ma ρ).bind fun p => match p.1 with
  | [.int j] => if smallI j then some (rangeD 0 j.toNat, p.2) else none
  | _ => none) := rfl
theorem ok_sFor {mi : MA} {mb : MS} : OkQ Q (sFor mi g mb ρ) = (OkQ (fun p => OkQ Q (forM (fun d ρ => (g d ρ).bind fun ρ' => mb ρ') p.1 p.2)) (mi ρ)) := ok_bind
theorem ok_oLC {t : Nat} {mi : MA} {Q : List D × R -> Prop} : OkQ Q (oLC cap t mi g mt me ρ) = OkQ Q ((mi ρ).bind fun p => if p.1.length <= 16777216 then (compM (turnM g mt me) p.1 (capR cap t (fzL cap p.2))).map fun q => (q.1, fzL cap p.2) else none) := rfl
theorem ok_tTrue {Q : Bool × R -> Prop} : OkQ Q (tTrue ρ) = (Q (true, ρ)) := ok_some
theorem ok_eIsI {T : String} {ma : ME} {Q : D × R -> Prop} : OkQ Q (eIsI T ma ρ) = OkQ Q ((ma ρ).bind fun p => if okT T && eIsI.noS1 p.1 then some (.bl (isI T p.1), p.2) else none) := rfl
theorem ok_iZ3 {Q : List D × R -> Prop} : OkQ Q (iZ3 ma ρ) = OkQ Q ((ma ρ).bind fun p => match p.1 with
  | [a, b, c] => (dItems [a]).bind fun xs => (dItems [b]).bind fun ys => (dItems [c]).bind fun zs => some (zip3D xs ys zs, p.2)
  | _ => none) := rfl
theorem ok_ePick {F1 F2 : List D -> Option Sl} {Q : D × R -> Prop} : OkQ Q (ePick F1 F2 mi ma ρ) = OkQ Q ((mi ρ).bind fun p => match p.1 with
  | .int i => if i = 0 then eCall F1 ma p.2 else if i = 1 then eCall F2 ma p.2 else none
  | _ => none) := rfl
noncomputable def initR : Nat -> List D -> R
  | N, [] => List.replicate N .emp
  | N, d :: ds => .val d :: initR (N - 1) ds
theorem initR_cons {d : D} : initR N (d :: ds) = .val d :: initR (N - 1) ds := rfl
theorem initR_nil : initR N [] = List.replicate N .emp := rfl
theorem initR_eq : ∀ (N : Nat) (ds : List D), ds.map .val ++ List.replicate (N - ds.length) .emp = initR N ds
  | _, [] => rfl
  | N, d :: ds => by rw [initR_cons, <- initR_eq (N - 1) ds, List.map_cons, List.length_cons, Nat.sub_sub, Nat.add_comm 1]; rfl
theorem map_consR {α β : Type} {f : α -> β} {a : α} {l : List α} : (a :: l).map f = f a :: l.map f := rfl
theorem map_nilR {α β : Type} {f : α -> β} : [].map f = [] := rfl
theorem ok_fP {m : MS} {Q : Sl -> Prop} : OkQ Q (fP N m ds) = OkQ Q ((m (initR N ds)).bind fun p => match p.1 with
  | .ret r => some r
  | .next => some (.val .non)
  | _ => none) := by rw [<- initR_eq]; rfl
theorem ok_fM {m : MS} {cs : List D} {Q : Sl × List D -> Prop} : OkQ Q (fM N m cs ds) = OkQ Q ((m (.par cs :: initR (N - 1) ds)).bind fun p => match p.1, (p.2[0]? : Option Sl) with
  | Fl.ret r, some (Sl.par out) => some (r, out)
  | Fl.next, some (Sl.par out) => some (.val .non, out)
  | _, _ => none) := by rw [<- initR_eq, Nat.sub_sub, Nat.add_comm 1]; rfl
end
noncomputable def Turn (I : R -> Prop) (Q : Fl × R -> Prop) (p : Fl × R) : Prop := match p.1 with
  | .next => I p.2
  | .cont => I p.2
  | .brk => Q (.next, p.2)
  | .ret r => Q (.ret r, p.2)
theorem turn_next : Turn I Q (.next, ρ) = (I ρ) := rfl
theorem turn_cont : Turn I Q (.cont, ρ) = (I ρ) := rfl
theorem turn_brk : Turn I Q (.brk, ρ) = (Q (.next, ρ)) := rfl
theorem turn_ret : Turn I Q (.ret r, ρ) = (Q (.ret r, ρ)) := rfl
theorem ok_forL {α : Type} {f : D -> R -> Option (Fl × R)} (enc : α -> D) (I : Nat -> R -> Prop) : ∀ (l : List α) (b : Nat) (ρ : R), I b ρ ->
    (∀ i a ρ, l[i]? = some a -> I (b + i) ρ -> Ok (f (enc a) ρ) (Turn (I (b + i + 1)) Q)) -> (∀ ρ, I (b + l.length) ρ -> Q (.next, ρ)) -> Ok (forM f (l.map enc) ρ) Q
  | [], b, ρ, h0, _, hq => ok_some.mpr (hq ρ h0)
  | a :: l, b, ρ, h0, hs, hq => by
    obtain ⟨p, e, t⟩ := hs 0 a ρ rfl h0
    obtain ⟨fl, ρ1⟩ := p
    have go : ∀ ρ1, I (b + 1) ρ1 -> Ok (forM f (l.map enc) ρ1) Q := fun ρ1 h1 => ok_forL enc I l (b + 1) ρ1 h1 (fun i a' ρ' hi hp => by
      have := hs (i + 1) a' ρ' (by simpa using hi) (by rw [show b + (i + 1) = b + 1 + i by lia]; exact hp)
      rw [show b + (i + 1) + 1 = b + 1 + i + 1 by lia] at this
      exact this) (fun ρ h => hq ρ (by rw [List.length_cons, show b + (l.length + 1) = b + 1 + l.length by lia]; exact h))
    have e' : forM f ((a :: l).map enc) ρ = (f (enc a) ρ).bind fun p => match p.1 with
      | .next => forM f (l.map enc) p.2
      | .cont => forM f (l.map enc) p.2
      | .brk => some (.next, p.2)
      | .ret r => some (.ret r, p.2) := rfl
    rw [e', e]
    cases fl with
    | next => exact go ρ1 t
    | cont => exact go ρ1 t
    | brk => exact ok_some.mpr t
    | ret r => exact ok_some.mpr t
theorem ok_for {α : Type} {f : D -> R -> Option (Fl × R)} {enc : α -> D} {l : List α} (I : Nat -> R -> Prop) (h0 : I 0 ρ)
    (hs : ∀ i a ρ, l[i]? = some a -> I i ρ -> Ok (f (enc a) ρ) (Turn (I (i + 1)) Q)) (hq : ∀ ρ, I l.length ρ -> Q (.next, ρ)) : Ok (forM f (l.map enc) ρ) Q :=
  ok_forL enc I l 0 ρ h0 (fun i a ρ hi h => by rw [Nat.zero_add] at h ⊢; exact hs i a ρ hi h) (fun ρ h => hq ρ (by rw [Nat.zero_add] at h; exact h))
theorem ok_compIL {α : Type} (enc : α -> D) {Q : List D × R -> Prop} (I : Nat -> List D -> R -> Prop) : ∀ (l : List α) (b : Nat) (acc : List D) (ρ : R), I b acc ρ ->
    (∀ i a acc ρ, l[i]? = some a -> I (b + i) acc ρ -> Ok (f (enc a) ρ) fun p => I (b + i + 1) (acc ++ p.1.toList) p.2) -> (∀ ds ρ, I (b + l.length) (acc ++ ds) ρ -> Q (ds, ρ)) -> Ok (compM f (l.map enc) ρ) Q
  | [], b, acc, ρ, h0, _, hq => ok_some.mpr (hq [] ρ (by rw [List.append_nil]; exact h0))
  | a :: l, b, acc, ρ, h0, hs, hq => by
    obtain ⟨p, e, t⟩ := hs 0 a acc ρ rfl h0
    have go := ok_compIL enc (Q := fun q => Q (p.1.toList ++ q.1, q.2)) I l (b + 1) (acc ++ p.1.toList) p.2 t (fun i a' acc' ρ' hi hp => by
      have := hs (i + 1) a' acc' ρ' (by simpa using hi) (by rw [show b + (i + 1) = b + 1 + i by lia]; exact hp)
      rw [show b + (i + 1) + 1 = b + 1 + i + 1 by lia] at this
      exact this) (fun ds ρ h => hq _ ρ (by rw [List.length_cons, show b + (l.length + 1) = b + 1 + l.length by lia, <- List.append_assoc]; exact h))
    have e' : compM f ((a :: l).map enc) ρ = (f (enc a) ρ).bind fun p => (compM f (l.map enc) p.2).map fun q => (p.1.toList ++ q.1, q.2) := rfl
    rw [e', e]
    exact ok_map.mpr go
theorem ok_compI {α : Type} {enc : α -> D} {l : List α} {Q : List D × R -> Prop} (I : Nat -> List D -> R -> Prop) (h0 : I 0 [] ρ)
    (hs : ∀ i a acc ρ, l[i]? = some a -> I i acc ρ -> Ok (f (enc a) ρ) fun p => I (i + 1) (acc ++ p.1.toList) p.2) (hq : ∀ ds ρ, I l.length ds ρ -> Q (ds, ρ)) : Ok (compM f (l.map enc) ρ) Q :=
  ok_compIL enc I l 0 [] ρ h0 (fun i a acc ρ hi h => by rw [Nat.zero_add] at h ⊢; exact hs i a acc ρ hi h) (fun ds ρ h => hq ds ρ (by rw [Nat.zero_add] at h; exact h))
theorem ok_compF {α : Type} {enc : α -> D} {l : List α} {Q : List D × R -> Prop} (P : R -> Prop) (g : α -> Option D) (h0 : P ρ)
    (hs : ∀ a ρ, a ∈ l -> P ρ -> Ok (f (enc a) ρ) fun p => p.1 = g a /\ P p.2) (hq : ∀ ρ, P ρ -> Q (l.filterMap g, ρ)) : Ok (compM f (l.map enc) ρ) Q :=
  ok_compI (fun i ds ρ => ds = (l.take i).filterMap g /\ P ρ) ⟨rfl, h0⟩ (fun i a acc ρ hi ⟨e, p⟩ => by
    refine (hs a ρ (List.mem_of_getElem? hi) p).mono fun r h => ⟨?_, h.2⟩
    obtain ⟨h1, h2⟩ := List.getElem?_eq_some_iff.mp hi
    rw [h.1, e, List.take_add_one, hi, List.filterMap_append]
    cases q : g a <;> simp [q]) (fun ds ρ ⟨e, p⟩ => by rw [List.take_length] at e; rw [e]; exact hq ρ p)
theorem ok_comp {α : Type} {enc : α -> D} {l : List α} {Q : List D × R -> Prop} (P : R -> Prop) (g : α -> D) (h0 : P ρ)
    (hs : ∀ a ρ, a ∈ l -> P ρ -> Ok (f (enc a) ρ) fun p => p.1 = some (g a) /\ P p.2) (hq : ∀ ρ, P ρ -> Q (l.map g, ρ)) : Ok (compM f (l.map enc) ρ) Q :=
  ok_compF P (fun a => some (g a)) h0 hs (fun ρ p => by rw [<- Function.comp_def some g, List.filterMap_eq_map]; exact hq ρ p)
theorem dEq_int (i j : Int) : dEq (.int i) (.int j) = some (.bl (i == j)) := by
  unfold dEq
  rw [show noS (.int i) = true from rfl, show noS (.int j) = true from rfl, show depth (.int i) = 0 from rfl]
  rfl
theorem dNe_int (i j : Int) : dNe (.int i) (.int j) = some (.bl (i != j)) := by
  unfold dNe
  rw [show noS (.int i) = true from rfl, show noS (.int j) = true from rfl, show depth (.int i) = 0 from rfl]
  rfl
theorem atI_n {α : Type} (xs : List α) (i : Nat) : atI xs (i : Int) = xs[i]? := by
  unfold atI ixN
  rw [if_pos (by lia)]
  by_cases h : i < xs.length
  . rw [if_pos (by lia)]; simp
  . rw [if_neg (by lia)]; simp [List.getElem?_eq_none (by lia : xs.length <= i)]
theorem atI_lit {α : Type} (xs : List α) (n : Nat) : atI xs (no_index (@OfNat.ofNat Int n _)) = xs[n]? := atI_n xs n
theorem atI_n1 {α : Type} (xs : List α) (i : Nat) : atI xs ((i : Int) + 1) = xs[i + 1]? := atI_n xs (i + 1)
theorem ixN_n (n i : Nat) : ixN n (i : Int) = if i < n then some i else none := by
  unfold ixN
  rw [if_pos (by lia)]
  by_cases h : i < n
  . rw [if_pos (by lia), if_pos h]; simp
  . rw [if_neg (by lia), if_neg h]
theorem ixN_lit (n i : Nat) : ixN n (no_index (@OfNat.ofNat Int i _)) = if i < n then some i else none := ixN_n n i
theorem mulOk_l {i j : Int} (h : i.natAbs < 18446744073709551616) : mulOk i j = true := by
  unfold mulOk
  have : decide (i.natAbs < 2 ^ 64) = true := decide_eq_true h
  rw [this]; rfl
theorem mulOk_r {i j : Int} (h : j.natAbs < 18446744073709551616) : mulOk i j = true := by
  unfold mulOk
  have : decide (j.natAbs < 2 ^ 64) = true := decide_eq_true h
  rw [this]; simp
theorem smallI_of {j : Int} (h1 : -1000000000000 <= j) (h2 : j <= 1000000000000) : smallI j = true := by
  unfold smallI; rw [decide_eq_true h1, decide_eq_true h2]; rfl
noncomputable def wL (n : Nat) (f : Nat -> D) : List D := (List.range n).map f
noncomputable abbrev wI (n : Nat) (f : Nat -> Int) : List D := wL n fun i => .int (f i)
theorem wL_len (n : Nat) (f : Nat -> D) : (wL n f).length = n := by simp [wL]
theorem wL_get (f : Nat -> D) (h : i < n) : (wL n f)[i]? = some (f i) := by simp [wL, h]
theorem wL_succ (n : Nat) (f : Nat -> D) : wL (n + 1) f = wL n f ++ [f n] := by simp [wL, List.range_succ]
theorem wL_congr {f g : Nat -> D} (h : ∀ i, i < n -> f i = g i) : wL n f = wL n g := List.map_congr_left fun i hi => h i (List.mem_range.mp hi)
theorem wL_snoc (n : Nat) (f : Nat -> D) (x : D) : wL n f ++ [x] = wL (n + 1) fun j => if j < n then f j else x := by
  rw [wL_succ]; congr 1
  . exact wL_congr fun i hi => by rw [if_pos hi]
  . rw [if_neg (by lia)]
theorem intsOf_ints : ∀ (l : List Int), intsOf (l.map .int) = some l
  | [] => rfl
  | i :: l => by simp [intsOf, intsOf_ints l]
mutual
theorem eqB_same : ∀ (d : D), noS d = true -> eqB d d = true
  | .non, _ => rfl
  | .bl b, _ => by simp [eqB]
  | .int i, _ => by simp [eqB]
  | .str s, _ => by simp [eqB]
  | .lst ds, h => by simp only [eqB]; exact eqBL_same ds (by simpa [noS] using h)
  | .tup ds, h => by simp only [eqB]; exact eqBL_same ds (by simpa [noS] using h)
  | .scr _, h => by simp [noS] at h
  | .exc _, h => by simp [noS] at h
theorem eqBL_same : ∀ (ds : List D), noSL ds = true -> eqBL ds ds = true
  | [], _ => rfl
  | d :: ds, h => by
    simp only [noSL, Bool.and_eq_true] at h
    simp only [eqBL, Bool.and_eq_true]
    exact ⟨eqB_same d h.1, eqBL_same ds h.2⟩
end
theorem dEq_same (h : noS d = true) (k : depth d <= 50) : dEq d d = some (.bl true) := by simp [dEq, h, k, eqB_same d h]
theorem noSL_of : ∀ {ds : List D}, (∀ d ∈ ds, noS d = true) -> noSL ds = true
  | [], _ => rfl
  | d :: ds, h => by simp only [noSL, Bool.and_eq_true]; exact ⟨h d List.mem_cons_self, noSL_of fun e he => h e (List.mem_cons_of_mem _ he)⟩
theorem depthL_of : ∀ {ds : List D}, (∀ d ∈ ds, depth d <= k) -> depthL ds <= k
  | [], _ => Nat.zero_le _
  | d :: ds, h => by simp only [depthL]; exact Nat.max_le.mpr ⟨h d List.mem_cons_self, depthL_of fun e he => h e (List.mem_cons_of_mem _ he)⟩
noncomputable def Pl (k : Nat) (d : D) : Prop := noS d = true /\ depth d <= k
theorem pl_int (k : Nat) (i : Int) : Pl k (.int i) := ⟨rfl, Nat.zero_le _⟩
theorem pl_lst (h : ∀ d ∈ ds, Pl k d) : Pl (k + 1) (.lst ds) := ⟨by simp only [noS]; exact noSL_of fun d hd => (h d hd).1, by simp only [depth]; exact Nat.succ_le_succ (depthL_of fun d hd => (h d hd).2)⟩
theorem pl_tup (h : ∀ d ∈ ds, Pl k d) : Pl (k + 1) (.tup ds) := ⟨by simp only [noS]; exact noSL_of fun d hd => (h d hd).1, by simp only [depth]; exact Nat.succ_le_succ (depthL_of fun d hd => (h d hd).2)⟩
theorem Pl.eq (h : Pl k d) (l : k <= 50) : dEq d d = some (.bl true) := dEq_same h.1 (Nat.le_trans h.2 l)
theorem rangeD_w (n : Nat) : rangeD 0 n = wL n fun i => .int (i : Nat) := by unfold rangeD wL; simp only [Int.zero_add]
section
variable {n : Nat} {e : Nat -> D} {ρ : R}
theorem ok_forW {f : D -> R -> Option (Fl × R)} (I : Nat -> R -> Prop) (h0 : I 0 ρ)
    (hs : ∀ i ρ, i < n -> I i ρ -> Ok (f (e i) ρ) (Turn (I (i + 1)) Q)) (hq : ∀ ρ, I n ρ -> Q (.next, ρ)) : Ok (forM f (wL n e) ρ) Q :=
  ok_for (enc := e) (l := List.range n) I h0 (fun i a ρ hi h => by
    obtain ⟨h1, h2⟩ := List.getElem?_eq_some_iff.mp hi
    have : a = i := by simpa using h2.symm
    subst this
    exact hs a ρ (by simpa using h1) h) (fun ρ h => hq ρ (by simpa using h))
variable {f : D -> R -> Option (Option D × R)} {Q : List D × R -> Prop}
theorem ok_compW (P : R -> Prop) (g : Nat -> D) (h0 : P ρ)
    (hs : ∀ i ρ, i < n -> P ρ -> Ok (f (e i) ρ) fun p => p.1 = some (g i) /\ P p.2) (hq : ∀ ρ, P ρ -> Q (wL n g, ρ)) : Ok (compM f (wL n e) ρ) Q :=
  ok_comp (enc := e) (l := List.range n) P g h0 (fun a ρ ha hp => hs a ρ (List.mem_range.mp ha) hp) hq
end
end M
namespace M
theorem wI_snoc (n : Nat) (f : Nat -> Int) (x : Int) : wI n f ++ [.int x] = wI (n + 1) fun j => if j < n then f j else x := by
  rw [wI, wL_snoc]; exact wL_congr fun j _ => by dsimp only; split <;> rfl
theorem divOk_big {j : Int} (h0 : 0 < j) (h1 : j < 2 ^ 250) : divOk j = true := by
  have h : j.natAbs.log2 < 9000 := by
    have : j.natAbs.log2 < 250 := (Nat.log2_lt (by lia)).mpr (by lia)
    lia
  unfold divOk; rw [decide_eq_true h0, decide_eq_true h]; rfl
theorem isN_non : isN .non = true := rfl
theorem isN_int (i : Int) : isN (.int i) = false := rfl
theorem isN_bl (b : Bool) : isN (.bl b) = false := rfl
theorem isN_str (s : PySem.Str) : isN (.str s) = false := rfl
theorem isN_lst (ds : List D) : isN (.lst ds) = false := rfl
theorem isN_tup (ds : List D) : isN (.tup ds) = false := rfl
end M
namespace M
open L2 PySem
theorem dItems_l (ds : List D) : dItems [.lst ds] = some ds := rfl
theorem dItems_t (ds : List D) : dItems [.tup ds] = some ds := rfl
theorem dItems_s (ns : List Int) : dItems [.scr ns] = some (ns.map .int) := rfl
theorem dLen_l (ds : List D) : dLen [.lst ds] = some (.int ds.length) := rfl
theorem dLen_t (ds : List D) : dLen [.tup ds] = some (.int ds.length) := rfl
theorem dLen_s (ns : List Int) : dLen [.scr ns] = some (.int ns.length) := rfl
theorem dTuple_l (ds : List D) : dTuple [.lst ds] = some (.tup ds) := rfl
theorem dTuple_t (ds : List D) : dTuple [.tup ds] = some (.tup ds) := rfl
theorem dTuple_s (ns : List Int) : dTuple [.scr ns] = some (.tup (ns.map .int)) := rfl
theorem dCut_l (ds : List D) (a b : Option Int) : dCut (.lst ds) a b = some (.lst (cutD ds a b)) := rfl
theorem dCut_t (ds : List D) (a b : Option Int) : dCut (.tup ds) a b = some (.tup (cutD ds a b)) := rfl
theorem dCut_s (ns : List Int) (a b : Option Int) : dCut (.scr ns) a b = some (.lst ((cutD ns a b).map .int)) := rfl
theorem dIx_l (ds : List D) (i : Int) : dIx (.lst ds) (.int i) = atI ds i := rfl
theorem dIx_t (ds : List D) (i : Int) : dIx (.tup ds) (.int i) = atI ds i := rfl
theorem dIx_s (ns : List Int) (i : Int) : dIx (.scr ns) (.int i) = (atI ns i).map .int := rfl
theorem dEq_str (a b : Str) : dEq (.str a) (.str b) = some (.bl (a == b)) := by
  unfold dEq
  rw [show noS (.str a) = true from rfl, show noS (.str b) = true from rfl, show depth (.str a) = 0 from rfl]
  rfl
theorem zip3D_w (n : Nat) (f g h : Nat -> D) : zip3D (wL n f) (wL n g) (wL n h) = wL n fun i => .tup [f i, g i, h i] := by
  apply List.ext_getElem?
  intro j
  unfold zip3D
  by_cases hj : j < n
  . have e : (List.zip (wL n g) (wL n h))[j]? = some (g j, h j) := by
      rw [List.getElem?_zip_eq_some]; exact ⟨wL_get g hj, wL_get h hj⟩
    rw [List.getElem?_zipWith, e, wL_get _ hj, wL_get _ hj]
  . rw [List.getElem?_eq_none (by simp [wL_len]; lia), List.getElem?_eq_none (by simp [wL_len]; lia)]
structure Sq (d : D) (n : Nat) (f : Nat -> Int) : Prop where
  it : dItems [d] = some (wI n f)
  ln : dLen [d] = some (.int n)
  tp : dTuple [d] = some (.tup (wI n f))
  ix : ∀ i, dIx d (.int i) = atI (wI n f) i
  ct : ∀ lo hi, ∃ d', dCut d lo hi = some d' /\ dItems [d'] = some (cutD (wI n f) lo hi)
theorem Sq.lst (n : Nat) (f : Nat -> Int) : Sq (.lst (wI n f)) n f := ⟨rfl, by rw [dLen_l, wL_len], rfl, fun _ => rfl, fun lo hi => ⟨_, rfl, rfl⟩⟩
theorem Sq.tup (n : Nat) (f : Nat -> Int) : Sq (.tup (wI n f)) n f := ⟨rfl, by rw [dLen_t, wL_len], rfl, fun _ => rfl, fun lo hi => ⟨_, rfl, rfl⟩⟩
theorem boolsOf_w (n : Nat) (b : Nat -> Bool) : boolsOf (wL n fun i => .bl (b i)) = some ((List.range n).map b) := by
  have : ∀ l : List Nat, boolsOf (l.map fun i => D.bl (b i)) = some (l.map b) := by
    intro l
    induction l with
    | nil => rfl
    | cons a l ih => simp [boolsOf, ih]
  exact this _
theorem all_w (n : Nat) (b : Nat -> Bool) : (((List.range n).map b).all id = true) ↔ ∀ i, i < n -> b i = true := by simp
end M
namespace M
open L2 PySem
open PyProof.Rows (step_dedup firstMet)
theorem ok_eIsO {tab : List (Str × Bool)} {ma : ME} {ρ : R} {Q : D × R -> Prop} : OkQ Q (eIsO tab ma ρ) = OkQ Q ((ma ρ).bind fun p => match p.1 with
  | .exc c => (tab.lookup c).map fun b => (.bl b, p.2)
  | _ => none) := rfl
theorem try_calm {m : MS} {x : MX} {ok : List Str} {i j : Nat} {ρ : R} {Q : Fl × R -> Prop} (hx : x ρ = none) (h : Ok (m ρ) Q) : Ok (sTry m x ok i j ρ) Q := by
  unfold sTry; rw [hx]; exact h
theorem try_raised {m : MS} {x : MX} {ok : List Str} {i j : Nat} {ρ : R} {Q : Fl × R -> Prop} {c : Str} (hx : x ρ = some c) (hn : noOwn ρ = true) (hc : ok.contains c = true) (h : Q (.next, (ρ.set i (.val (.exc c))).set j .emp)) : Ok (sTry m x ok i j ρ) Q := by
  unfold sTry; rw [hx]; dsimp only; rw [if_pos hn, if_pos hc]; exact ok_some.mpr h
theorem xIf_yes {c : MT} {a : MX} {ρ : R} {r : Str} (h : Ok (c ρ) fun p => p.1 = true /\ a p.2 = some r) : xIf c a ρ = some r := by
  obtain ⟨p, e, h1, h2⟩ := h
  unfold xIf; rw [e]; show (if p.1 = true then a p.2 else none) = _; rw [if_pos h1, h2]
theorem xIf_no {c : MT} {a : MX} {ρ : R} (h : Ok (c ρ) fun p => p.1 = false) : xIf c a ρ = none := by
  obtain ⟨p, e, h1⟩ := h
  unfold xIf; rw [e]; show (if p.1 = true then a p.2 else none) = _; rw [h1]; rfl
end M
namespace M
open L2 PySem
variable {j N i : Nat} {d : D} {Q : Fl × R -> Prop} {is cap : List Nat} {ds : List D} {ma : MA} {g : D -> R -> Option R} {mt : MT} {mo : MO} {me : ME}
theorem ok_gS {mi : ME} {ρ : R} {Q : R -> Prop} : OkQ Q (gS j mi d ρ) = OkQ Q (gd (hasV ρ j) ((mi ρ).bind fun q => match q.1 with
  | .int k => q.2[j]?.bind fun s => s.items.bind fun ds => (ixN ds.length k).bind fun n => some (q.2.set j (s.put (ds.set n d)))
  | _ => none)) := rfl
theorem like_par (ns : List Int) : likeS (.par (ns.map .int)) (.par (ns.map .int)) = true := by
  show (match intsOf (ns.map D.int), intsOf (ns.map D.int) with
    | some a, some b => a == b
    | _, _ => false) = true
  rw [intsOf_ints]; exact beq_self_eq_true ns
theorem like_own (ns : List Int) : likeS (.own (ns.map .int)) (.own (ns.map .int)) = true := like_par ns
theorem like_emp (s : Sl) : likeS .emp s = true := by cases s <;> rfl
section
variable {j : Nat} {mk me : ME} {ρ : R}
theorem ok_tDI {neg : Bool} {Q : Bool × R -> Prop} : OkQ Q (tDI j neg mk ρ) = (OkQ (fun p => OkQ Q (match p.1 with
  | .int k => (p.2[j]?.bind Sl.dic).map fun q => (((lkD q.1 q.2 k).isSome != neg), p.2)
  | _ => none)) (mk ρ)) := ok_bind
theorem ok_sUnT : OkQ Q (sUnT j is ρ) = OkQ Q (match ρ[j]? with
  | some (.tre (.lst cs)) => if cs.length = is.length then some (.next, putCs is cs (ρ.set j .emp)) else none
  | _ => none) := rfl
theorem ok_cOwn {r : MP'} {Q : List Ch × R -> Prop} : OkQ Q (cOwn j r ρ) = OkQ Q (match ρ[j]? with
  | some (.own ds) => (r (ρ.set j .emp)).map fun q => (.l ds :: q.1, q.2)
  | _ => none) := rfl
theorem ok_fMT {m : MS} {cs : List D} {t : T} {Q : Sl × List D -> Prop} : OkQ Q (fMT N m cs t ds) = OkQ Q ((m (.par cs :: .tre t :: initR (N - 2) ds)).bind fun p => match p.1, (p.2[0]? : Option Sl) with
  | Fl.ret r, some (Sl.par out) => some (r, out)
  | Fl.next, some (Sl.par out) => some (.val .non, out)
  | _, _ => none) := by rw [<- initR_eq, Nat.sub_sub, Nat.add_comm 2]; rfl
theorem ok_sPar : OkQ Q (sPar i j ma ρ) = OkQ Q ((ma ρ).bind fun p => match p.1 with
  | [c, d] => some (.next, (p.2.set i (.val c)).set j (.val d))
  | _ => none) := rfl
theorem ok_turnT {Q : Option (List D) × R -> Prop} : OkQ Q (turnT g mt mo d ρ) = (OkQ (fun ρ1 => OkQ (fun p => (p.1 = true -> OkQ (fun q => noOwn q.2 = true /\ Q (some q.1, q.2)) (mo p.2)) /\ (p.1 = false -> noOwn p.2 = true /\ Q (none, p.2))) (mt ρ1)) (g d ρ)) := by
  unfold turnT; rw [ok_bind]; exact ok_iff fun ρ1 => by rw [ok_bind]; exact ok_iff fun p => by rw [bool2, ok_bind, ok_ite, ok_some]; congr 1; exact propext (imp_congr Iff.rfl (iff_of_eq (ok_iff fun q => by rw [ok_ite, ok_some])))
theorem ok_compT {f : D -> R -> Option (Option (List D) × R)} {e : Nat -> D} (P : R -> Prop) (g : Nat -> List D) {Q : List (List D) × R -> Prop} : ∀ {n k : Nat} {ρ : R}, P ρ -> (∀ i ρ, i < n -> P ρ -> Ok (f (e (k + i)) ρ) fun p => p.1 = some (g (k + i)) /\ P p.2) -> (∀ ρ, P ρ -> Q ((List.range n).map (fun i => g (k + i)), ρ)) -> Ok (compT f ((List.range n).map fun i => e (k + i)) ρ) Q
  | 0, k, ρ, h0, _, hq => Ok.of rfl (hq ρ h0)
  | n + 1, k, ρ, h0, hs, hq => by
    have s1 : ∀ {α : Type} (e : Nat -> α), (List.range (n + 1)).map (fun i => e (k + i)) = e k :: (List.range n).map fun i => e (k + 1 + i) := fun e => by
      rw [List.range_succ_eq_map, List.map_cons, List.map_map]
      congr 1
      exact List.map_congr_left fun i _ => by show e (k + (i + 1)) = _; congr 1; lia
    rw [s1 e]
    obtain ⟨p, e1, h1, h2⟩ := (hs 0 ρ (by lia) h0)
    obtain ⟨q, e2, h3⟩ := (ok_compT (f := f) (e := e) P g (Q := fun z => Q (g k :: z.1, z.2)) (n := n) (k := k + 1) h2 (fun i ρ hi hp => by have := hs (i + 1) ρ (by lia) hp; rwa [show k + (i + 1) = k + 1 + i by lia] at this) fun ρ hp => by have := hq ρ hp; rwa [s1 g] at this)
    refine Ok.of (a := (g k :: q.1, q.2)) ?_ h3
    obtain ⟨p1, p2⟩ := p
    have h1 : p1 = some (g k) := h1
    subst h1
    have e1 : f (e k) ρ = some (some (g k), p2) := e1
    have e2 : compT f ((List.range n).map fun i => e (k + 1 + i)) p2 = some q := e2
    simp only [compT, e1, Option.bind_some, e2, Option.map_some]
    rfl
theorem ok_compTW {n : Nat} {e : Nat -> D} {f : D -> R -> Option (Option (List D) × R)} {Q : List (List D) × R -> Prop} (P : R -> Prop) (g : Nat -> List D) (h0 : P ρ)
    (hs : ∀ i ρ, i < n -> P ρ -> Ok (f (e i) ρ) fun p => p.1 = some (g i) /\ P p.2) (hq : ∀ ρ, P ρ -> Q ((List.range n).map g, ρ)) : Ok (compT f (wL n e) ρ) Q := by
  have := ok_compT (f := f) (e := e) P g (Q := Q) (n := n) (k := 0) h0 (fun i ρ hi hp => by rw [Nat.zero_add]; exact hs i ρ hi hp) (fun ρ hp => by simpa using hq ρ hp)
  simpa [wL] using this
theorem ok_sTC {i t : Nat} {mi : MA} : OkQ Q (sTC i cap t mi g mt mo ρ) = OkQ Q ((mi ρ).bind fun p => if p.1.length <= 16777216 then (compT (turnT g mt mo) p.1 (capR cap t (fzL cap p.2))).map fun q => (.next, (fzL cap p.2).set i (.tre (.lst (q.1.map .l)))) else none) := rfl
theorem ok_sIns : OkQ Q (sIns j ma ρ) = OkQ Q (gd ((ρ[j]?.bind Sl.items).isSome) ((ma ρ).bind fun p => p.2[j]?.bind fun s => s.items.bind fun ds => match p.1 with
  | [.int k, d] => if 0 <= k /\ k <= ds.length /\ ds.length < 16777216 then some (.next, p.2.set j (s.put (ds.take k.toNat ++ d :: ds.drop k.toNat))) else none
  | _ => none)) := rfl
theorem ok_turnQ {b c : Nat} {Q : Option D × R -> Prop} : OkQ Q (turnQ b c g mt me d ρ) = (OkQ (fun ρ1 => OkQ (fun p => (p.1 = true -> OkQ (fun q => only2 b c q.2 = true /\ Q (some q.1, q.2)) (me p.2)) /\ (p.1 = false -> only2 b c p.2 = true /\ Q (none, p.2))) (mt ρ1)) (g d ρ)) := by
  unfold turnQ; rw [ok_bind]; exact ok_iff fun ρ1 => by rw [ok_bind]; exact ok_iff fun p => by rw [bool2, ok_bind, ok_ite, ok_some]; congr 1; exact propext (imp_congr Iff.rfl (iff_of_eq (ok_iff fun q => by rw [ok_ite, ok_some])))
theorem ok_sCut {me ml mh : ME} : OkQ Q (sCut i me ml mh ρ) = OkQ Q ((me ρ).bind fun p => gd ((p.2[i]?.bind Sl.items).isSome) ((ml p.2).bind fun q => (mh q.2).bind fun r => r.2[i]?.bind fun s => s.items.bind fun ds => match p.1, q.1, r.1 with
  | .lst es, .int m, .int n => if decide (0 <= m) && decide (m <= n) && decide (n <= ds.length) && decide (ds.length + es.length <= 16777216) then some (.next, r.2.set i (s.put (ds.take m.toNat ++ es ++ ds.drop n.toNat))) else none
  | _, _, _ => none)) := rfl
theorem ok_chain3 {f g h : D -> D -> Option D} {a b c d : ME} {Q : D × R -> Prop} : OkQ Q (eChain3 f g h a b c d ρ) = (OkQ (fun p => OkQ (fun q => OkQ (fun t => ∃ z, t = .bl z /\ (z = true -> OkQ (fun r => OkQ (fun t' => ∃ z', t' = .bl z' /\ (z' = true -> OkQ (fun s => OkQ (fun x => Q (x, s.2)) (h r.1 s.1)) (d r.2)) /\ (z' = false -> Q (.bl false, r.2))) (g q.1 r.1)) (c q.2)) /\ (z = false -> Q (.bl false, q.2))) (f p.1 q.1)) (b p.2)) (a ρ)) := by
  unfold eChain3
  rw [ok_bind]
  refine ok_iff fun p => ?_
  rw [ok_bind]
  refine ok_iff fun q => ?_
  rw [ok_bind]
  refine ok_iff fun t => ?_
  cases t with
  | bl z =>
    cases z
    . simp [ok_some]
    . simp only [D.bl.injEq, exists_eq_left', forall_const, Bool.true_eq_false, false_implies, and_true]
      rw [ok_bind]
      refine ok_iff fun r => ?_
      rw [ok_bind]
      refine ok_iff fun t' => ?_
      cases t' with
      | bl z =>
        cases z
        . simp [ok_some]
        . simp only [D.bl.injEq, exists_eq_left', forall_const, Bool.true_eq_false, false_implies, and_true]
          rw [ok_bind]
          exact ok_iff fun s => ok_map
      | _ => simp [ok_none]
  | _ => simp [ok_none]
end
section
variable {ρ : R} {j : Nat}
theorem ok_eLkX {m : ME} {Q : D × R -> Prop} : OkQ Q (eLkX j m ρ) = OkQ Q (match ρ[j]? with
  | some (.own ds) => (m (ρ.set j (.val (.lst ds)))).bind fun p => if tpX p.1 && ((ρ.set j .emp).zip p.2).all (fun q => likeS q.1 q.2) then some (p.1, ρ) else none
  | _ => none) := rfl
theorem ok_sCutC {me ml mh : ME} : OkQ Q (sCutC i me ml mh ρ) = OkQ Q ((me ρ).bind fun p => gd ((p.2[i]?.bind Sl.items).isSome) ((ml p.2).bind fun q => (mh q.2).bind fun r => r.2[i]?.bind fun s => s.items.bind fun ds => match p.1, q.1, r.1 with
  | .lst es, .int m, .int n => if decide (0 <= m) && decide (m <= n) && decide (m <= ds.length) && decide (ds.length + es.length <= 16777216) then some (.next, r.2.set i (s.put (ds.take m.toNat ++ es ++ ds.drop n.toNat))) else none
  | _, _, _ => none)) := rfl
theorem ok_sApp3 {y i k : Nat} : OkQ Q (sApp3 y i j k ρ) = OkQ Q (match ρ[i]?, ρ[j]?, ρ[k]? with
  | some (.own d1), some (.own d2), some (.own d3) => if d1.length <= 1000000 /\ d2.length <= 1000000 /\ d3.length <= 1000000 then some (.next, (((ρ.set i .emp).set j .emp).set k .emp).set y .emp) else none
  | _, _, _ => none) := rfl
end
end M
local macro_rules | `(tactic| simp! only [$ls,*]) => do
  let f (d : Bool) (n : String) : Lean.MacroM (Lean.TSyntax `Lean.Parser.Tactic.simpLemma) := let i := Lean.mkIdent n.toName; if d then `(Lean.Parser.Tactic.simpLemma| ↓$i:term) else `(Lean.Parser.Tactic.simpLemma| $i:term)
  let a ← ("M.ok_Q M.ok_sIf M.ok_eIf M.ok_tAnd M.ok_tOr M.ok_eAnd M.ok_eOr M.ok_chain M.ok_chain3 M.ok_turnM M.ok_turnP M.ok_turnQ M.ok_bind M.ok_map M.ok_gd M.ok_ite M.ok_some M.ok_sNext M.ok_sSeq M.ok_sRet M.ok_sRetO M.ok_sRetV M.ok_gN M.ok_gsNil M.ok_gsCons M.ok_gT M.ok_sAsg M.ok_sSet M.ok_sSetO M.ok_sApp M.ok_sPut M.ok_eC M.ok_eVar M.ok_aNil M.ok_aCons M.ok_m1 M.ok_mC M.ok_eLenV M.ok_oC M.ok_eTup M.ok_oLst M.ok_tTru M.ok_tNotM M.ok_eCall M.ok_oCall M.ok_eCallM M.ok_eFz M.ok_iSeq M.ok_iR1 M.ok_sFor M.ok_oLC M.ok_tTrue M.ok_eIsI M.ok_fP M.ok_fM M.ok_iZ3 M.ok_ePick M.ok_eIsO M.ok_sUnT M.ok_fMT M.ok_turnT M.ok_sTC M.ok_sIns M.ok_eLkX M.ok_sCutC M.ok_sApp3 M.ok_eIxC M.ok_eIxE M.ok_m2VV M.ok_m2VC M.ok_m2CV".splitOn " ").toArray.mapM (f true)
  let b ← ("M.ok_m2 M.ok_eIxV M.dI2 M.dSub M.dDiv M.dMod M.dPow M.dLt M.dLe M.dGt M.dGe M.dNeg M.dMul M.dAdd M.dTru M.dNot M.Sl.read M.Sl.items M.Sl.put M.hasV M.noOwn M.fz1 M.fzL M.capS M.capR M.eIsI.noS1 M.okT M.isI M.d2I M.dInt M.dAll M.dNotN M.onlyP M.parAt M.fzD M.putCs M.Ch.sl M.Sl.dic M.Sl.dit M.Sl.tree M.Sl.putT M.Sl.dit M.fzT M.Ch.D M.fzDT M.fzU M.rowsOf M.only2 M.seqK_next M.seqK_ret M.seqK_brk M.seqK_cont M.turn_next M.turn_cont M.turn_brk M.turn_ret List.getElem?_cons_zero List.getElem?_cons_succ List.set_cons_zero List.set_cons_succ Option.bind_some Option.isSome_some Option.map_some if_true M.map_consR M.map_nilR M.initR_cons M.initR_nil M.ixR_val M.ixR_own M.ixR_par M.eVQ_val M.eVQ_own M.Vb_val M.Vb_own M.Vb_own2 M.Va_val M.Va_own List.replicate_succ List.replicate_zero List.length_cons List.length_nil List.cons_append List.nil_append List.all_cons List.all_nil Bool.and_true Bool.true_and Bool.and_self Bool.true_eq_false Bool.false_eq_true if_false M.dEq_int M.dNe_int List.length_map List.length_append M.atI_n M.atI_lit M.ixN_n M.ixN_lit M.atI_n1 M.ok_none M.dItems_l M.dItems_t M.dItems_s M.dLen_l M.dLen_t M.dLen_s M.dTuple_l M.dTuple_t M.dTuple_s M.dCut_l M.dCut_t M.dCut_s M.dIx_l M.dIx_t M.dIx_s M.dEq_str M.zip3D_w M.isN_non M.isN_int M.isN_bl M.isN_str M.isN_lst M.isN_tup beq_self_eq_true Bool.not_true Bool.not_false M.intsOf_ints Int.toNat_natCast M.rangeD_w M.wL_len decide_eq_true_eq Bool.and_eq_true true_and and_true Nat.reduceAdd Nat.reduceLeDiff Int.reduceLT Int.reduceLE Int.reduceNeg Nat.reduceSub Int.reducePow Int.reduceMul Int.reduceAdd Int.reduceSub Int.reduceMod Int.reduceDiv Nat.reduceLT Nat.reduceBNe Nat.reduceEqDiff List.filter_cons List.filter_nil bne_self_eq_false Int.reduceToNat Nat.reducePow M.natAbs_lit Int.reduceEq Int.reduceBEq Int.reduceBNe Nat.reduceMod decide_true decide_false beq_iff_eq beq_eq_false_iff_ne bne_iff_ne bne_eq_false_iff_eq decide_eq_false_iff_not Int.not_le Int.not_lt ne_eq forall_const true_implies false_implies reduceCtorEq imp_self implies_true M.D.bl.injEq exists_eq_left' Bool.not_true Bool.not_false".splitOn " ").toArray.mapM (f false)
  `(tactic| simp only [$a,*, $b,*, $ls,*])
namespace Prf
open L2 M PySem
noncomputable def top (i : Nat) : Stmt := PySem.Challenge.pw_tellsum_k02_lines_and_rings_made.main.body.getD i (.Pass ⟨0, 0, 0, 0⟩)
noncomputable def tab_BadTelling : List (Str × Bool) := [("BadTelling", true), ("NoFit", false), ("NoNumber", false), ("NoPlace", false), ("NotTwos", false), ("NoPast", false), ("NoText", false), ("NoRow", false), ("Unlike", false), ("SumError", false)]
noncomputable def tab_NoFit : List (Str × Bool) := [("BadTelling", false), ("NoFit", true), ("NoNumber", false), ("NoPlace", false), ("NotTwos", false), ("NoPast", false), ("NoText", false), ("NoRow", false), ("Unlike", false), ("SumError", false)]
noncomputable def tab_NoNumber : List (Str × Bool) := [("BadTelling", false), ("NoFit", false), ("NoNumber", true), ("NoPlace", false), ("NotTwos", false), ("NoPast", false), ("NoText", false), ("NoRow", false), ("Unlike", false), ("SumError", false)]
noncomputable def tab_NoPast : List (Str × Bool) := [("BadTelling", false), ("NoFit", false), ("NoNumber", false), ("NoPlace", false), ("NotTwos", false), ("NoPast", true), ("NoText", false), ("NoRow", false), ("Unlike", false), ("SumError", false)]
noncomputable def tab_NoPlace : List (Str × Bool) := [("BadTelling", false), ("NoFit", false), ("NoNumber", false), ("NoPlace", true), ("NotTwos", false), ("NoPast", false), ("NoText", false), ("NoRow", false), ("Unlike", false), ("SumError", false)]
noncomputable def tab_NoRow : List (Str × Bool) := [("BadTelling", false), ("NoFit", false), ("NoNumber", false), ("NoPlace", false), ("NotTwos", false), ("NoPast", false), ("NoText", false), ("NoRow", true), ("Unlike", false), ("SumError", false)]
noncomputable def tab_NoText : List (Str × Bool) := [("BadTelling", false), ("NoFit", false), ("NoNumber", false), ("NoPlace", false), ("NotTwos", false), ("NoPast", false), ("NoText", true), ("NoRow", false), ("Unlike", false), ("SumError", false)]
noncomputable def tab_NotTwos : List (Str × Bool) := [("BadTelling", false), ("NoFit", false), ("NoNumber", false), ("NoPlace", false), ("NotTwos", true), ("NoPast", false), ("NoText", false), ("NoRow", false), ("Unlike", false), ("SumError", false)]
noncomputable def tab_SumError : List (Str × Bool) := [("BadTelling", true), ("NoFit", true), ("NoNumber", true), ("NoPlace", true), ("NotTwos", true), ("NoPast", true), ("NoText", true), ("NoRow", true), ("Unlike", true), ("SumError", true)]
noncomputable def tab_Unlike : List (Str × Bool) := [("BadTelling", false), ("NoFit", false), ("NoNumber", false), ("NoPlace", false), ("NotTwos", false), ("NoPast", false), ("NoText", false), ("NoRow", false), ("Unlike", true), ("SumError", false)]
noncomputable def tab_ValueError : List (Str × Bool) := [("BadTelling", true), ("NoFit", true), ("NoNumber", true), ("NoPlace", true), ("NotTwos", true), ("NoPast", true), ("NoText", true), ("NoRow", true), ("Unlike", true), ("SumError", true)]
structure BN (K : PySem.W.Frag) (mg : Str -> Option Value) : Prop where
  r_BadTelling : RaiOk K mg "BadTelling"
  r_NoFit : RaiOk K mg "NoFit"
  r_NoNumber : RaiOk K mg "NoNumber"
  r_NoPlace : RaiOk K mg "NoPlace"
  r_NotTwos : RaiOk K mg "NotTwos"
  r_NoPast : RaiOk K mg "NoPast"
  r_NoText : RaiOk K mg "NoText"
  r_NoRow : RaiOk K mg "NoRow"
  r_Unlike : RaiOk K mg "Unlike"
  r_SumError : RaiOk K mg "SumError"
  t_SumError : CatOk K mg "SumError" ["BadTelling", "NoFit", "NoNumber", "NoPlace", "NotTwos", "NoPast", "NoText", "NoRow", "Unlike", "SumError"]
  i_BadTelling : IsOk K mg "BadTelling" tab_BadTelling
  i_NoFit : IsOk K mg "NoFit" tab_NoFit
  i_NoNumber : IsOk K mg "NoNumber" tab_NoNumber
  i_NoPast : IsOk K mg "NoPast" tab_NoPast
  i_NoPlace : IsOk K mg "NoPlace" tab_NoPlace
  i_NoRow : IsOk K mg "NoRow" tab_NoRow
  i_NoText : IsOk K mg "NoText" tab_NoText
  i_NotTwos : IsOk K mg "NotTwos" tab_NotTwos
  i_SumError : IsOk K mg "SumError" tab_SumError
  i_Unlike : IsOk K mg "Unlike" tab_Unlike
  i_ValueError : TabOk K (.type "ValueError") tab_ValueError
  ValueError' : mg "ValueError" = none
  all' : mg "all" = none
  any' : mg "any" = none
  int' : mg "int" = none
  isinstance' : mg "isinstance" = none
  len' : mg "len" = none
  list' : mg "list" = none
  max' : mg "max" = none
  min' : mg "min" = none
  range' : mg "range" = none
  str' : mg "str" = none
  tuple' : mg "tuple" = none
  zip' : mg "zip" = none
  c_MOST_PLACES : ∃ t, mg "MOST_PLACES" = some (.int 24 t)
section
variable {P : Program} {w : World} {K : PySem.W.Frag} {mg : Str -> Option Value} {base hp : Heap} {f : Addr} {fd : FuncData} (X : K.In hp) (G : hp.Ns mainGlobals mg) (bn : BN K mg)
include X G bn
abbrev st_row_within : Stmt := top 13
def ce_row_within_1 : ME :=
  (eChain dLe dLe (eVar 0) (eVar 1) (eVar 2))
def co_row_within_1 : MO :=
  oLC [] 3 (iZ3 (aCons (eVar 1) (aCons (eVar 0) (aCons (eVar 2) aNil)))) (gT 3 (gsCons (gN 0) (gsCons (gN 1) (gsCons (gN 2) gsNil)))) tTrue ce_row_within_1
def rs_row_within_2 : MS :=
  (sRet (mC (dAll fun bs => bs.all id) (aCons (eFz co_row_within_1) aNil)))
def m_row_within : MS :=
  (sSeq (sIf (tTru (m2 dNe (eLenV 0) (eLenV 1)))
    (sRet (eC (.bl false)))
    sNext)
    rs_row_within_2)
def F_row_within : List D -> Option Sl := fP 3 m_row_within
theorem ok_row_within  (h : FnAt K "row_within" st_row_within) : FD P w K mg base 1 "row_within" (spP K 3 F_row_within) :=
  fdP (N := ["row", "least", "greatest"]) (k := 0) (m := m_row_within) X G h fun _ _ _ _ _ _ _ hr nd => (sss_cons (ss_if (st_ne hr.units (se_lenV 0 bn.len') (se_lenV 1 bn.len'))
    (sss_one (ss_ret se_bl))
    sss_nil)
    (sss_one (ss_ret (se_all rfl bn.all' (sa_cons (SO.se (so_lc [] 3 ["low", "number", "high"] rfl (it_zip3 bn.zip' (sa_cons (se_var 1) (sa_cons (se_var 0) (sa_cons (se_var 2) sa_nil)))) (fun C s H fp => (sg_tup rfl (sgs_cons (sg_name 0 ndk) (sgs_cons (sg_name 1 ndk) (sgs_cons (sg_name 2 ndk) sgs_nil))))) (fun C s H fp => sts_nil) (fun C s H fp => (se_chain op_le op_le v2_cmp v2_cmp (se_var 0) (se_var 1) (se_var 2))))) sa_nil)))))
abbrev st_bounds_right : Stmt := top 14
def m_bounds_right : MS :=
  (sRet (eAnd (m2 dEq (eLenV 0) (eVar 2)) (eAnd (m2 dEq (eLenV 1) (eVar 2)) (eCall F_row_within (aCons (eVar 0) (aCons (eVar 0) (aCons (eVar 1) aNil)))))))
def F_bounds_right : List D -> Option Sl := fP 3 m_bounds_right
theorem ok_bounds_right (fd_row_within : FD P w K mg base 1 "row_within" (spP K 3 F_row_within)) (h : FnAt K "bounds_right" st_bounds_right) : FD P w K mg base 2 "bounds_right" (spP K 3 F_bounds_right) :=
  fdP (N := ["least", "greatest", "many"]) (k := 1) (m := m_bounds_right) X G h fun _ _ _ _ _ _ _ hr nd => (sss_one (ss_ret (se_and (se_eq hr.units (se_lenV 0 bn.len') (se_var 2)) (se_and (se_eq hr.units (se_lenV 1 bn.len') (se_var 2)) (se_one (se_call fd_row_within hr (sa_cons (se_var 0) (sa_cons (se_var 0) (sa_cons (se_var 1) sa_nil))) (hlen := (aLen_cons (aLen_cons (aLen_cons aLen_nil))))))))))
abbrev st_k_right : Stmt := top 15
def m_k_right : MS :=
  (sRet (eChain dLe dLe (eC (.int 2)) (eVar 0) (eC (.int 5))))
def F_k_right : List D -> Option Sl := fP 1 m_k_right
theorem ok_k_right  (h : FnAt K "k_right" st_k_right) : FD P w K mg base 1 "k_right" (spP K 1 F_k_right) :=
  fdP (N := ["k"]) (k := 0) (m := m_k_right) X G h fun _ _ _ _ _ _ _ hr nd => (sss_one (ss_ret (se_chain op_le op_le v2_cmp v2_cmp se_int (se_var 0) se_int)))
abbrev st_line_parts_right : Stmt := top 16
def rs_line_parts_right_1 : MS :=
  (sSeq (sSet 4 (m2 dSub (m2 dAdd (eLenV 1) (eVar 0)) (eC (.int 1))))
    (sRet (eAnd (m2 dLe (eVar 4) (eC (.int 24))) (eCall F_bounds_right (aCons (eVar 2) (aCons (eVar 3) (aCons (eVar 4) aNil)))))))
def m_line_parts_right : MS :=
  (sSeq (sIf (tOrM (tNotM (tTru (eCall F_k_right (aCons (eVar 0) aNil)))) (tTru (m2 dEq (eLenV 1) (eC (.int 0)))))
    (sRet (eC (.bl false)))
    sNext)
    rs_line_parts_right_1)
def F_line_parts_right : List D -> Option Sl := fP 5 m_line_parts_right
theorem ok_line_parts_right (fd_bounds_right : FD P w K mg base 2 "bounds_right" (spP K 3 F_bounds_right)) (fd_k_right : FD P w K mg base 1 "k_right" (spP K 1 F_k_right)) (h : FnAt K "line_parts_right" st_line_parts_right) : FD P w K mg base 3 "line_parts_right" (spP K 4 F_line_parts_right) :=
  fdP (N := ["k", "sums", "least", "greatest", "many"]) (k := 2) (m := m_line_parts_right) X G h fun _ _ _ _ _ _ _ hr nd => (sss_cons (ss_if (STw.st (sw_or (st_not (st_truth (se_call fd_k_right hr (sa_cons (se_var 0) sa_nil) (hlen := (aLen_cons aLen_nil))))) (sw_or1 (st_eq hr.units (se_lenV 1 bn.len') se_int))))
    (sss_one (ss_ret se_bl))
    sss_nil)
    (sss_cons (ss_set 4 (se_sub (se_add (se_lenV 1 bn.len') (se_var 0)) se_int) nd)
    (sss_one (ss_ret (se_and (se_le (se_var 4) (se_globE bn.c_MOST_PLACES)) (se_one (se_call fd_bounds_right hr (sa_cons (se_var 2) (sa_cons (se_var 3) (sa_cons (se_var 4) sa_nil))) (hlen := (aLen_cons (aLen_cons (aLen_cons aLen_nil)))))))))))
abbrev st_ring_parts_right : Stmt := top 17
def m_ring_parts_right : MS :=
  (sSeq (sSet 4 (eLenV 1))
    (sRet (eAnd (eCall F_k_right (aCons (eVar 0) aNil)) (eAnd (eChain dLe dLe (eVar 0) (eVar 4) (eC (.int 24))) (eCall F_bounds_right (aCons (eVar 2) (aCons (eVar 3) (aCons (eVar 4) aNil))))))))
def F_ring_parts_right : List D -> Option Sl := fP 5 m_ring_parts_right
theorem ok_ring_parts_right (fd_bounds_right : FD P w K mg base 2 "bounds_right" (spP K 3 F_bounds_right)) (fd_k_right : FD P w K mg base 1 "k_right" (spP K 1 F_k_right)) (h : FnAt K "ring_parts_right" st_ring_parts_right) : FD P w K mg base 3 "ring_parts_right" (spP K 4 F_ring_parts_right) :=
  fdP (N := ["k", "sums", "least", "greatest", "many"]) (k := 2) (m := m_ring_parts_right) X G h fun _ _ _ _ _ _ _ hr nd => (sss_cons (ss_set 4 (se_lenV 1 bn.len') nd)
    (sss_one (ss_ret (se_and (se_call fd_k_right hr (sa_cons (se_var 0) sa_nil) (hlen := (aLen_cons aLen_nil))) (se_and (se_chain op_le op_le v2_cmp v2_cmp (se_var 0) (se_var 4) (se_globE bn.c_MOST_PLACES)) (se_one (se_call fd_bounds_right hr (sa_cons (se_var 2) (sa_cons (se_var 3) (sa_cons (se_var 4) sa_nil))) (hlen := (aLen_cons (aLen_cons (aLen_cons aLen_nil)))))))))))
abbrev st_made_line : Stmt := top 18
def rs_made_line_1 : MS :=
  (sRet (eTup (aCons (eVar 0) (aCons (mC dTuple (aCons (eVar 1) aNil)) (aCons (mC dTuple (aCons (eVar 2) aNil)) (aCons (mC dTuple (aCons (eVar 3) aNil)) aNil))))))
def m_made_line : MS :=
  (sSeq (sIf (tNotM (tTru (eCall F_line_parts_right (aCons (eVar 0) (aCons (eVar 1) (aCons (eVar 2) (aCons (eVar 3) aNil)))))))
    (fun _ => none)
    sNext)
    rs_made_line_1)
def F_made_line : List D -> Option Sl := fP 4 m_made_line
theorem ok_made_line (fd_line_parts_right : FD P w K mg base 3 "line_parts_right" (spP K 4 F_line_parts_right)) (h : FnAt K "made_line" st_made_line) : FD P w K mg base 4 "made_line" (spP K 4 F_made_line) :=
  fdP (N := ["k", "sums", "least", "greatest"]) (k := 3) (m := m_made_line) X G h fun _ _ _ _ _ _ _ hr nd => (sss_cons (ss_if (st_not (st_truth (se_call fd_line_parts_right hr (sa_cons (se_var 0) (sa_cons (se_var 1) (sa_cons (se_var 2) (sa_cons (se_var 3) sa_nil)))) (hlen := (aLen_cons (aLen_cons (aLen_cons (aLen_cons aLen_nil))))))))
    (sss_one ss_never)
    sss_nil)
    (sss_one (ss_ret (se_tup (sa_cons (se_var 0) (sa_cons (se_tuple bn.tuple' (sa_cons (se_var 1) sa_nil)) (sa_cons (se_tuple bn.tuple' (sa_cons (se_var 2) sa_nil)) (sa_cons (se_tuple bn.tuple' (sa_cons (se_var 3) sa_nil)) sa_nil))))))))
def x_made_line : MX :=
  (xIf (tNotM (tTru (eCall F_line_parts_right (aCons (eVar 0) (aCons (eVar 1) (aCons (eVar 2) (aCons (eVar 3) aNil))))))) (fun _ => some "BadTelling"))
def X_made_line : List D -> Option Str := fX 4 x_made_line
theorem okx_made_line (fd_line_parts_right : FD P w K mg base 3 "line_parts_right" (spP K 4 F_line_parts_right)) (h : FnAt K "made_line" st_made_line) : FDX P w K mg base 4 "made_line" (spX K 4 X_made_line) :=
  fdX (N := ["k", "sums", "least", "greatest"]) (k := 3) (m := x_made_line) X G h fun _ _ _ _ _ _ _ hr nd => (xss_here (xs_if (st_not (st_truth (se_call fd_line_parts_right hr (sa_cons (se_var 0) (sa_cons (se_var 1) (sa_cons (se_var 2) (sa_cons (se_var 3) sa_nil)))) (hlen := (aLen_cons (aLen_cons (aLen_cons (aLen_cons aLen_nil)))))))) (xss_here (xs_raiseC cx_top rfl rfl rfl bn.r_BadTelling))))
abbrev st_made_ring : Stmt := top 19
def rs_made_ring_1 : MS :=
  (sRet (eTup (aCons (eVar 0) (aCons (mC dTuple (aCons (eVar 1) aNil)) (aCons (mC dTuple (aCons (eVar 2) aNil)) (aCons (mC dTuple (aCons (eVar 3) aNil)) aNil))))))
def m_made_ring : MS :=
  (sSeq (sIf (tNotM (tTru (eCall F_ring_parts_right (aCons (eVar 0) (aCons (eVar 1) (aCons (eVar 2) (aCons (eVar 3) aNil)))))))
    (fun _ => none)
    sNext)
    rs_made_ring_1)
def F_made_ring : List D -> Option Sl := fP 4 m_made_ring
theorem ok_made_ring (fd_ring_parts_right : FD P w K mg base 3 "ring_parts_right" (spP K 4 F_ring_parts_right)) (h : FnAt K "made_ring" st_made_ring) : FD P w K mg base 4 "made_ring" (spP K 4 F_made_ring) :=
  fdP (N := ["k", "sums", "least", "greatest"]) (k := 3) (m := m_made_ring) X G h fun _ _ _ _ _ _ _ hr nd => (sss_cons (ss_if (st_not (st_truth (se_call fd_ring_parts_right hr (sa_cons (se_var 0) (sa_cons (se_var 1) (sa_cons (se_var 2) (sa_cons (se_var 3) sa_nil)))) (hlen := (aLen_cons (aLen_cons (aLen_cons (aLen_cons aLen_nil))))))))
    (sss_one ss_never)
    sss_nil)
    (sss_one (ss_ret (se_tup (sa_cons (se_var 0) (sa_cons (se_tuple bn.tuple' (sa_cons (se_var 1) sa_nil)) (sa_cons (se_tuple bn.tuple' (sa_cons (se_var 2) sa_nil)) (sa_cons (se_tuple bn.tuple' (sa_cons (se_var 3) sa_nil)) sa_nil))))))))
def x_made_ring : MX :=
  (xIf (tNotM (tTru (eCall F_ring_parts_right (aCons (eVar 0) (aCons (eVar 1) (aCons (eVar 2) (aCons (eVar 3) aNil))))))) (fun _ => some "BadTelling"))
def X_made_ring : List D -> Option Str := fX 4 x_made_ring
theorem okx_made_ring (fd_ring_parts_right : FD P w K mg base 3 "ring_parts_right" (spP K 4 F_ring_parts_right)) (h : FnAt K "made_ring" st_made_ring) : FDX P w K mg base 4 "made_ring" (spX K 4 X_made_ring) :=
  fdX (N := ["k", "sums", "least", "greatest"]) (k := 3) (m := x_made_ring) X G h fun _ _ _ _ _ _ _ hr nd => (xss_here (xs_if (st_not (st_truth (se_call fd_ring_parts_right hr (sa_cons (se_var 0) (sa_cons (se_var 1) (sa_cons (se_var 2) (sa_cons (se_var 3) sa_nil)))) (hlen := (aLen_cons (aLen_cons (aLen_cons (aLen_cons aLen_nil)))))))) (xss_here (xs_raiseC cx_top rfl rfl rfl bn.r_BadTelling))))
abbrev st__law_pot : Stmt := top 21
def lb__law_pot_1 : MS :=
  (sSeq (sSet 4 (m2 dMod (m2 dAdd (m2 dAdd (m2 dMul (eVar 4) (eC (.int 48271))) (m2 dMul (eC (.int 7919)) (eVar 5))) (eC (.int 104729))) (eC (.int 2147483647))))
    (sSet 3 (m2 dAdd (m2 dMul (eVar 3) (eC (.int 1048576))) (m2 dMod (m2 dDiv (m2 dMod (m2 dMul (eVar 4) (eVar 4)) (eC (.int 2147483629))) (eC (.int 128))) (eC (.int 1048576))))))
def lp__law_pot_1 : MS :=
  sFor (iR1 (aCons (eC (.int 50)) aNil)) (gN 5) lb__law_pot_1
def rs__law_pot_2 : MS :=
  (sSeq (sSet 3 (eC (.int 0)))
    (sSeq (sSet 4 (m2 dAdd (m2 dAdd (m2 dMod (eVar 2) (eC (.int 2147483647))) (m2 dMul (eC (.int 271)) (eVar 1))) (eC (.int 65537))))
    (sSeq lp__law_pot_1
    (sRetO (oLst (aCons (eVar 3) aNil))))))
def rs__law_pot_3 : MS :=
  (sSeq (sIf (tTru (m2 dGe (eVar 2) (m2 dPow (eC (.int 10)) (eC (.int 18)))))
    (sRetO (oLst (aCons (m2 dMod (m2 dSub (eVar 2) (m2 dPow (eC (.int 10)) (eC (.int 18)))) (m2 dMul (m2 dMul (m2 dMul (m2 dPow (eC (.int 10)) (eC (.int 60))) (m2 dPow (eC (.int 10)) (eC (.int 60)))) (m2 dPow (eC (.int 10)) (eC (.int 60)))) (m2 dPow (eC (.int 10)) (eC (.int 60))))) aNil)))
    sNext)
    rs__law_pot_2)
def m__law_pot : MS :=
  (sSeq (sSet 2 (eC (.int 0)))
    (sSeq (sIf (tTru (m2 dLt (eVar 1) (eLenV 0)))
    (sSet 2 (eIxV 0 (eVar 1)))
    sNext)
    rs__law_pot_3))
def F__law_pot : List D -> Option Sl := fP 6 m__law_pot
theorem ok__law_pot  (h : FnAt K "_law_pot" st__law_pot) : FD P w K mg base 1 "_law_pot" (spP K 2 F__law_pot) :=
  fdP (N := ["script", "k", "cell", "great", "one", "turn"]) (k := 0) (m := m__law_pot) X G h fun _ _ _ _ _ _ _ hr nd => (sss_cons (ss_set 2 se_int nd)
    (sss_cons (ss_if (st_lt (se_var 1) (se_lenV 0 bn.len'))
    (sss_one (ss_set 2 (se_itemV 0 (se_var 1)) nd))
    sss_nil)
    (sss_cons (ss_if (st_ge (se_var 2) (se_pow se_int se_int))
    (sss_one (ss_retO (so_lst (sa_cons (se_mod (se_sub (se_var 2) (se_pow se_int se_int)) (se_mul (se_mul (se_mul (se_pow se_int se_int) (se_pow se_int se_int)) (se_pow se_int se_int)) (se_pow se_int se_int))) sa_nil))))
    sss_nil)
    (sss_cons (ss_set 3 se_int nd)
    (sss_cons (ss_set 4 (se_add (se_add (se_mod (se_var 2) se_int) (se_mul se_int (se_var 1))) se_int) nd)
    (sss_cons (ss_for PassesOwn.never rfl (it_range1 bn.range' (sa_cons se_int sa_nil)) (sg_name 5 nd)
    (sss_cons (ss_set 4 (se_mod (se_add (se_add (se_mul (se_var 4) se_int) (se_mul se_int (se_var 5))) se_int) se_int) nd)
    (sss_one (ss_set 3 (se_add (se_mul (se_var 3) se_int) (se_mod (se_div (se_mod (se_mul (se_var 4) (se_var 4)) se_int) se_int) se_int)) nd))))
    (sss_one (ss_retO (so_lst (sa_cons (se_var 3) sa_nil))))))))))
abbrev st__law_take : Stmt := top 22
def m__law_take : MS :=
  (sSeq (sSet 2 (m2 dMod (eIxV 0 (eC (.int 0))) (eVar 1)))
    (sSeq (sPut 0 (eC (.int 0)) (m2 dDiv (eIxV 0 (eC (.int 0))) (eVar 1)))
    (sRetV 2)))
def F__law_take : List D -> List D -> Option (Sl × List D) := fM 3 m__law_take
theorem ok__law_take  (h : FnAt K "_law_take" st__law_take) : FD P w K mg base 1 "_law_take" (spM K 2 F__law_take) :=
  fdM (N := ["pot", "many", "digit"]) (k := 0) (m := m__law_take) X G h fun _ _ _ _ _ _ _ hr nd => (sss_cons (ss_set 2 (se_mod (se_itemV 0 se_int) (se_var 1)) nd)
    (sss_cons (ss_put 0 (se_div (se_itemV 0 se_int) (se_var 1)) se_int)
    (sss_one (ss_retV 2))))
abbrev st__law_row : Stmt := top 23
def lb__law_row_1 : MS :=
  (sIf (tTru (m2 dLt (eVar 2) (eC (.int 4))))
    (sApp 3 (m2 dSub (eCallM F__law_take 0 (aCons (m2 dIx (eTup (aCons (eC (.int 2)) (aCons (eC (.int 10)) (aCons (eC (.int 11)) (aCons (m2 dPow (eC (.int 10)) (eC (.int 6))) aNil))))) (eVar 2)) aNil)) (m2 dIx (eTup (aCons (eC (.int 0)) (aCons (eC (.int 0)) (aCons (eC (.int 5)) (aCons (eC (.int 0)) aNil))))) (eVar 2))))
    (sSeq (sSet 5 (m2 dAdd (m2 dMul (m2 dPow (eC (.int 10)) (eC (.int 57))) (eCallM F__law_take 0 (aCons (eC (.int 80)) aNil))) (eCallM F__law_take 0 (aCons (m2 dPow (eC (.int 10)) (eC (.int 6))) aNil))))
    (sApp 3 (m2 dIx (eTup (aCons (eVar 5) (aCons (m1 dNeg (eVar 5)) (aCons (eCallM F__law_take 0 (aCons (eC (.int 3)) aNil)) aNil)))) (eCallM F__law_take 0 (aCons (eC (.int 3)) aNil))))))
def lp__law_row_1 : MS :=
  sFor (iR1 (aCons (eVar 1) aNil)) (gN 4) lb__law_row_1
def m__law_row : MS :=
  (sSeq (sSet 2 (eCallM F__law_take 0 (aCons (eC (.int 5)) aNil)))
    (sSeq (sSetO 3 (oLst aNil))
    (sSeq lp__law_row_1
    (sRetV 3))))
def F__law_row : List D -> List D -> Option (Sl × List D) := fM 6 m__law_row
theorem ok__law_row (fd__law_take : FD P w K mg base 1 "_law_take" (spM K 2 F__law_take)) (h : FnAt K "_law_row" st__law_row) : FD P w K mg base 2 "_law_row" (spM K 2 F__law_row) :=
  fdM (N := ["pot", "many", "way", "row", "place", "far"]) (k := 1) (m := m__law_row) X G h fun _ _ _ _ _ _ _ hr nd => (sss_cons (ss_set 2 (se_callM 0 fd__law_take hr (sa_cons se_int sa_nil) (aLen1 (aLen_cons aLen_nil))) nd)
    (sss_cons (ss_setO 3 (so_lst sa_nil) nd)
    (sss_cons (ss_for PassesOwn.never rfl (it_range1 bn.range' (sa_cons (se_var 1) sa_nil)) (sg_name 4 nd)
    (sss_one (ss_if (st_lt (se_var 2) se_int)
    (sss_one (ss_app 3 (se_sub (se_callM 0 fd__law_take hr (sa_cons (se_item (se_tup (sa_cons se_int (sa_cons se_int (sa_cons se_int (sa_cons (se_pow se_int se_int) sa_nil))))) (se_var 2)) sa_nil) (aLen1 (aLen_cons aLen_nil))) (se_item (se_tup (sa_cons se_int (sa_cons se_int (sa_cons se_int (sa_cons se_int sa_nil))))) (se_var 2)))))
    (sss_cons (ss_set 5 (se_add (se_mul (se_pow se_int se_int) (se_callM 0 fd__law_take hr (sa_cons se_int sa_nil) (aLen1 (aLen_cons aLen_nil)))) (se_callM 0 fd__law_take hr (sa_cons (se_pow se_int se_int) sa_nil) (aLen1 (aLen_cons aLen_nil)))) nd)
    (sss_one (ss_app 3 (se_item (se_tup (sa_cons (se_var 5) (sa_cons (se_neg (se_var 5)) (sa_cons (se_callM 0 fd__law_take hr (sa_cons se_int sa_nil) (aLen1 (aLen_cons aLen_nil))) sa_nil)))) (se_callM 0 fd__law_take hr (sa_cons se_int sa_nil) (aLen1 (aLen_cons aLen_nil))))))))))
    (sss_one (ss_retV 3)))))
abbrev st__law_bounds : Stmt := top 24
def lb__law_bounds_1 : MS :=
  (sSeq (sApp 2 (m2 dSub (eVar 5) (eCallM F__law_take 0 (aCons (eVar 4) aNil))))
    (sApp 3 (m2 dAdd (eVar 5) (eCallM F__law_take 0 (aCons (eVar 4) aNil)))))
def lp__law_bounds_1 : MS :=
  sFor (iSeq (eVar 1)) (gN 5) lb__law_bounds_1
def m__law_bounds : MS :=
  (sSeq (sSetO 2 (oLst aNil))
    (sSeq (sSetO 3 (oLst aNil))
    (sSeq (sSet 4 (m2 dIx (eTup (aCons (eC (.int 1)) (aCons (eC (.int 2)) (aCons (eC (.int 9)) (aCons (m2 dPow (eC (.int 10)) (eC (.int 6))) aNil))))) (eCallM F__law_take 0 (aCons (eC (.int 4)) aNil))))
    (sSeq lp__law_bounds_1
    (sRet (eTup (aCons (eVar 2) (aCons (eVar 3) aNil))))))))
def F__law_bounds : List D -> List D -> Option (Sl × List D) := fM 6 m__law_bounds
theorem ok__law_bounds (fd__law_take : FD P w K mg base 1 "_law_take" (spM K 2 F__law_take)) (h : FnAt K "_law_bounds" st__law_bounds) : FD P w K mg base 2 "_law_bounds" (spM K 2 F__law_bounds) :=
  fdM (N := ["pot", "row", "least", "greatest", "by", "number"]) (k := 1) (m := m__law_bounds) X G h fun _ _ _ _ _ _ _ hr nd => (sss_cons (ss_setO 2 (so_lst sa_nil) nd)
    (sss_cons (ss_setO 3 (so_lst sa_nil) nd)
    (sss_cons (ss_set 4 (se_item (se_tup (sa_cons se_int (sa_cons se_int (sa_cons se_int (sa_cons (se_pow se_int se_int) sa_nil))))) (se_callM 0 fd__law_take hr (sa_cons se_int sa_nil) (aLen1 (aLen_cons aLen_nil)))) nd)
    (sss_cons (ss_for PassesOwn.never rfl (it_seq (se_var 1)) (sg_name 5 nd)
    (sss_cons (ss_app 2 (se_sub (se_var 5) (se_callM 0 fd__law_take hr (sa_cons (se_var 4) sa_nil) (aLen1 (aLen_cons aLen_nil)))))
    (sss_one (ss_app 3 (se_add (se_var 5) (se_callM 0 fd__law_take hr (sa_cons (se_var 4) sa_nil) (aLen1 (aLen_cons aLen_nil))))))))
    (sss_one (ss_ret (se_tup (sa_cons (se_var 2) (sa_cons (se_var 3) sa_nil)))))))))
abbrev st__law_are_bounds : Stmt := top 25
def ce__law_are_bounds_1 : ME :=
  (m2 dGt (eIxV 0 (eVar 2)) (eIxV 1 (eVar 2)))
def co__law_are_bounds_1 : MO :=
  oLC [0, 1] 1 (iR1 (aCons (eVar 2) aNil)) (gN 2) tTrue ce__law_are_bounds_1
def rs__law_are_bounds_2 : MS :=
  (sRet (m1 dNot (mC (dAll fun bs => bs.any id) (aCons (eFz co__law_are_bounds_1) aNil))))
def m__law_are_bounds : MS :=
  (sSeq (sIf (tOrM (tTru (m2 dNe (eLenV 0) (eVar 2))) (tTru (m2 dNe (eLenV 1) (eVar 2))))
    (sRet (eC (.bl false)))
    sNext)
    rs__law_are_bounds_2)
def F__law_are_bounds : List D -> Option Sl := fP 3 m__law_are_bounds
theorem ok__law_are_bounds  (h : FnAt K "_law_are_bounds" st__law_are_bounds) : FD P w K mg base 1 "_law_are_bounds" (spP K 3 F__law_are_bounds) :=
  fdP (N := ["least", "greatest", "many"]) (k := 0) (m := m__law_are_bounds) X G h fun _ _ _ _ _ _ _ hr nd => (sss_cons (ss_if (STw.st (sw_or (st_ne hr.units (se_lenV 0 bn.len') (se_var 2)) (sw_or1 (st_ne hr.units (se_lenV 1 bn.len') (se_var 2)))))
    (sss_one (ss_ret se_bl))
    sss_nil)
    (sss_one (ss_ret (se_not (se_any rfl bn.any' (sa_cons (SO.se (so_lc [0, 1] 1 ["least", "greatest", "place"] rfl (it_range1 bn.range' (sa_cons (se_var 2) sa_nil)) (fun C s H fp => (sg_name 2 ndk)) (fun C s H fp => sts_nil) (fun C s H fp => (se_gt (se_itemV 0 (se_var 2)) (se_itemV 1 (se_var 2)))))) sa_nil))))))
abbrev st__law_is_line : Stmt := top 26
def rs__law_is_line_1 : MS :=
  (sRet (eCall F__law_are_bounds (aCons (eVar 2) (aCons (eVar 3) (aCons (m2 dSub (m2 dAdd (eLenV 1) (eVar 0)) (eC (.int 1))) aNil)))))
def m__law_is_line : MS :=
  (sSeq (sIf (tOrM (tTru (m2 dLt (eVar 0) (eC (.int 2)))) (tOrM (tTru (m2 dGt (eVar 0) (eC (.int 5)))) (tOrM (tTru (m2 dLt (eLenV 1) (eC (.int 1)))) (tTru (m2 dGt (m2 dAdd (eLenV 1) (eVar 0)) (eC (.int 25)))))))
    (sRet (eC (.bl false)))
    sNext)
    rs__law_is_line_1)
def F__law_is_line : List D -> Option Sl := fP 4 m__law_is_line
theorem ok__law_is_line (fd__law_are_bounds : FD P w K mg base 1 "_law_are_bounds" (spP K 3 F__law_are_bounds)) (h : FnAt K "_law_is_line" st__law_is_line) : FD P w K mg base 2 "_law_is_line" (spP K 4 F__law_is_line) :=
  fdP (N := ["k", "sums", "least", "greatest"]) (k := 1) (m := m__law_is_line) X G h fun _ _ _ _ _ _ _ hr nd => (sss_cons (ss_if (STw.st (sw_or (st_lt (se_var 0) se_int) (sw_or (st_gt (se_var 0) se_int) (sw_or (st_lt (se_lenV 1 bn.len') se_int) (sw_or1 (st_gt (se_add (se_lenV 1 bn.len') (se_var 0)) se_int))))))
    (sss_one (ss_ret se_bl))
    sss_nil)
    (sss_one (ss_ret (se_call fd__law_are_bounds hr (sa_cons (se_var 2) (sa_cons (se_var 3) (sa_cons (se_sub (se_add (se_lenV 1 bn.len') (se_var 0)) se_int) sa_nil))) (hlen := (aLen_cons (aLen_cons (aLen_cons aLen_nil))))))))
abbrev st__law_is_ring : Stmt := top 27
def rs__law_is_ring_1 : MS :=
  (sRet (eCall F__law_are_bounds (aCons (eVar 2) (aCons (eVar 3) (aCons (eLenV 1) aNil)))))
def m__law_is_ring : MS :=
  (sSeq (sIf (tOrM (tTru (m2 dLt (eVar 0) (eC (.int 2)))) (tOrM (tTru (m2 dGt (eVar 0) (eC (.int 5)))) (tOrM (tTru (m2 dLt (eLenV 1) (eVar 0))) (tTru (m2 dGt (eLenV 1) (eC (.int 24)))))))
    (sRet (eC (.bl false)))
    sNext)
    rs__law_is_ring_1)
def F__law_is_ring : List D -> Option Sl := fP 4 m__law_is_ring
theorem ok__law_is_ring (fd__law_are_bounds : FD P w K mg base 1 "_law_are_bounds" (spP K 3 F__law_are_bounds)) (h : FnAt K "_law_is_ring" st__law_is_ring) : FD P w K mg base 2 "_law_is_ring" (spP K 4 F__law_is_ring) :=
  fdP (N := ["k", "sums", "least", "greatest"]) (k := 1) (m := m__law_is_ring) X G h fun _ _ _ _ _ _ _ hr nd => (sss_cons (ss_if (STw.st (sw_or (st_lt (se_var 0) se_int) (sw_or (st_gt (se_var 0) se_int) (sw_or (st_lt (se_lenV 1 bn.len') (se_var 0)) (sw_or1 (st_gt (se_lenV 1 bn.len') se_int))))))
    (sss_one (ss_ret se_bl))
    sss_nil)
    (sss_one (ss_ret (se_call fd__law_are_bounds hr (sa_cons (se_var 2) (sa_cons (se_var 3) (sa_cons (se_lenV 1 bn.len') sa_nil))) (hlen := (aLen_cons (aLen_cons (aLen_cons aLen_nil))))))))
abbrev st__law_bent_row : Stmt := top 28
def rs__law_bent_row_1 : MS :=
  (sRetV 2)
def rs__law_bent_row_2 : MS :=
  (sSeq (sIf (tAndM (tTru (m2 dEq (eVar 5) (eC (.int 5)))) (tAndM (tTru (m2 dLt (eVar 3) (eLenV 2))) (tTru (m2 dLt (eVar 4) (eLenV 2)))))
    (sAsg (eTup (aCons (eIxV 2 (eVar 4)) (aCons (eIxV 2 (eVar 3)) aNil))) (gT 2 (gsCons (gS 2 (eVar 3)) (gsCons (gS 2 (eVar 4)) gsNil))))
    sNext)
    rs__law_bent_row_1)
def rs__law_bent_row_3 : MS :=
  (sSeq (sIf (tTru (m2 dEq (eVar 5) (eC (.int 4))))
    (sCutC 2 (eFz (oLst aNil)) (eVar 3) (m2 dAdd (eVar 3) (eC (.int 1))))
    sNext)
    rs__law_bent_row_2)
def rs__law_bent_row_4 : MS :=
  (sSeq (sIf (tTru (m2 dEq (eVar 5) (eC (.int 3))))
    (sIns 2 (aCons (eVar 3) (aCons (eVar 6) aNil)))
    sNext)
    rs__law_bent_row_3)
def m__law_bent_row : MS :=
  (sSeq (sSetO 2 (oC dItems (aCons (eVar 1) aNil)))
    (sSeq (sSet 3 (eCallM F__law_take 0 (aCons (m2 dAdd (eLenV 2) (eC (.int 1))) aNil)))
    (sSeq (sSet 4 (eCallM F__law_take 0 (aCons (m2 dAdd (eLenV 2) (eC (.int 1))) aNil)))
    (sSeq (sSet 5 (eCallM F__law_take 0 (aCons (eC (.int 6)) aNil)))
    (sSeq (sSet 6 (m2 dIx (eTup (aCons (eC (.int 1)) (aCons (m1 dNeg (eC (.int 1))) (aCons (m2 dPow (eC (.int 10)) (eC (.int 59))) (aCons (m1 dNeg (m2 dPow (eC (.int 10)) (eC (.int 59)))) aNil))))) (eCallM F__law_take 0 (aCons (eC (.int 4)) aNil))))
    (sSeq (sIf (tAndM (tTru (m2 dLt (eVar 5) (eC (.int 3)))) (tTru (m2 dLt (eVar 3) (eLenV 2))))
    (sPut 2 (eVar 3) (m2 dIx (eTup (aCons (m2 dAdd (m2 dMod (eIxV 2 (eVar 3)) (m2 dPow (eC (.int 10)) (eC (.int 58)))) (eVar 6)) (aCons (m2 dSub (m2 dAdd (eIxV 2 (eVar 3)) (m2 dMod (eVar 6) (eC (.int 5)))) (eC (.int 2))) (aCons (eVar 6) aNil)))) (eVar 5)))
    sNext)
    rs__law_bent_row_4))))))
def F__law_bent_row : List D -> List D -> Option (Sl × List D) := fM 7 m__law_bent_row
theorem ok__law_bent_row (fd__law_take : FD P w K mg base 1 "_law_take" (spM K 2 F__law_take)) (h : FnAt K "_law_bent_row" st__law_bent_row) : FD P w K mg base 2 "_law_bent_row" (spM K 2 F__law_bent_row) :=
  fdM (N := ["pot", "row", "some", "at", "other", "way", "by"]) (k := 1) (m := m__law_bent_row) X G h fun _ _ _ _ _ _ _ hr nd => (sss_cons (ss_setO 2 (so_list bn.list' (sa_cons (se_var 1) sa_nil)) nd)
    (sss_cons (ss_set 3 (se_callM 0 fd__law_take hr (sa_cons (se_add (se_lenV 2 bn.len') se_int) sa_nil) (aLen1 (aLen_cons aLen_nil))) nd)
    (sss_cons (ss_set 4 (se_callM 0 fd__law_take hr (sa_cons (se_add (se_lenV 2 bn.len') se_int) sa_nil) (aLen1 (aLen_cons aLen_nil))) nd)
    (sss_cons (ss_set 5 (se_callM 0 fd__law_take hr (sa_cons se_int sa_nil) (aLen1 (aLen_cons aLen_nil))) nd)
    (sss_cons (ss_set 6 (se_item (se_tup (sa_cons se_int (sa_cons (se_neg se_int) (sa_cons (se_pow se_int se_int) (sa_cons (se_neg (se_pow se_int se_int)) sa_nil))))) (se_callM 0 fd__law_take hr (sa_cons se_int sa_nil) (aLen1 (aLen_cons aLen_nil)))) nd)
    (sss_cons (ss_if (STw.st (sw_and (st_lt (se_var 5) se_int) (sw_and1 (st_lt (se_var 3) (se_lenV 2 bn.len')))))
    (sss_one (ss_put 2 (se_item (se_tup (sa_cons (se_add (se_mod (se_itemV 2 (se_var 3)) (se_pow se_int se_int)) (se_var 6)) (sa_cons (se_sub (se_add (se_itemV 2 (se_var 3)) (se_mod (se_var 6) se_int)) se_int) (sa_cons (se_var 6) sa_nil)))) (se_var 5)) (se_var 3)))
    sss_nil)
    (sss_cons (ss_if (st_eq hr.units (se_var 5) se_int)
    (sss_one (ss_ins 2 (sa_cons (se_var 3) (sa_cons (se_var 6) sa_nil))))
    sss_nil)
    (sss_cons (ss_if (st_eq hr.units (se_var 5) se_int)
    (sss_one (ss_cutC 2 (SO.se (so_lst sa_nil)) (se_var 3) (se_add (se_var 3) se_int)))
    sss_nil)
    (sss_cons (ss_if (STw.st (sw_and (st_eq hr.units (se_var 5) se_int) (sw_and (st_lt (se_var 3) (se_lenV 2 bn.len')) (sw_and1 (st_lt (se_var 4) (se_lenV 2 bn.len'))))))
    (sss_one (ss_asg (se_tup (sa_cons (se_itemV 2 (se_var 4)) (sa_cons (se_itemV 2 (se_var 3)) sa_nil))) (sg_tup rfl (sgs_cons (sg_sub 2 (se_var 3)) (sgs_cons (sg_sub 2 (se_var 4)) sgs_nil)))))
    sss_nil)
    (sss_one (ss_retV 2)))))))))))
abbrev st__law_kinds : Stmt := top 29
def m__law_kinds : MS :=
  (sSeq (sSet 1 (eFz (oLst (aCons (eIsO tab_BadTelling (eVar 0)) (aCons (eIsO tab_NoFit (eVar 0)) (aCons (eIsO tab_NoNumber (eVar 0)) (aCons (eIsO tab_NoPlace (eVar 0)) aNil)))))))
    (sSeq (sSet 1 (m2 dAdd (eVar 1) (eFz (oLst (aCons (eIsO tab_NotTwos (eVar 0)) (aCons (eIsO tab_NoPast (eVar 0)) (aCons (eIsO tab_NoText (eVar 0)) (aCons (eIsO tab_NoRow (eVar 0)) aNil))))))))
    (sRet (m2 dAdd (eVar 1) (eFz (oLst (aCons (eIsO tab_Unlike (eVar 0)) (aCons (eIsO tab_SumError (eVar 0)) (aCons (eIsO tab_ValueError (eVar 0)) aNil)))))))))
def F__law_kinds : List D -> Option Sl := fP 2 m__law_kinds
theorem ok__law_kinds  (h : FnAt K "_law_kinds" st__law_kinds) : FD P w K mg base 1 "_law_kinds" (spP K 1 F__law_kinds) :=
  fdP (N := ["e", "some"]) (k := 0) (m := m__law_kinds) X G h fun _ _ _ _ _ _ _ hr nd => (sss_cons (ss_set 1 (SO.se (so_lst (sa_cons (se_isOx bn.isinstance' bn.i_BadTelling (se_var 0)) (sa_cons (se_isOx bn.isinstance' bn.i_NoFit (se_var 0)) (sa_cons (se_isOx bn.isinstance' bn.i_NoNumber (se_var 0)) (sa_cons (se_isOx bn.isinstance' bn.i_NoPlace (se_var 0)) sa_nil)))))) nd)
    (sss_cons (ss_set 1 (se_add (se_var 1) (SO.se (so_lst (sa_cons (se_isOx bn.isinstance' bn.i_NotTwos (se_var 0)) (sa_cons (se_isOx bn.isinstance' bn.i_NoPast (se_var 0)) (sa_cons (se_isOx bn.isinstance' bn.i_NoText (se_var 0)) (sa_cons (se_isOx bn.isinstance' bn.i_NoRow (se_var 0)) sa_nil))))))) nd)
    (sss_one (ss_ret (se_add (se_var 1) (SO.se (so_lst (sa_cons (se_isOx bn.isinstance' bn.i_Unlike (se_var 0)) (sa_cons (se_isOx bn.isinstance' bn.i_SumError (se_var 0)) (sa_cons (se_isOT bn.isinstance' bn.ValueError' (by decide +kernel) bn.i_ValueError (se_var 0)) sa_nil))))))))))
abbrev st__law_alone : Stmt := top 30
def ce__law_alone_1 : ME :=
  (m2 dEq (eVar 1) (eVar 0))
def co__law_alone_1 : MO :=
  oLC [1] 1 (iR1 (aCons (eC (.int 9)) aNil)) (gN 1) tTrue ce__law_alone_1
def m__law_alone : MS :=
  (sRet (eAnd (m2 dNotN (eVar 0) (eC .non)) (m2 dEq (eCall F__law_kinds (aCons (eVar 0) aNil)) (m2 dAdd (eFz co__law_alone_1) (eFz (oLst (aCons (eC (.bl true)) (aCons (eC (.bl true)) aNil))))))))
def F__law_alone : List D -> Option Sl := fP 2 m__law_alone
theorem ok__law_alone (fd__law_kinds : FD P w K mg base 1 "_law_kinds" (spP K 1 F__law_kinds)) (h : FnAt K "_law_alone" st__law_alone) : FD P w K mg base 2 "_law_alone" (spP K 2 F__law_alone) :=
  fdP (N := ["e", "at"]) (k := 1) (m := m__law_alone) X G h fun _ _ _ _ _ _ _ hr nd => (sss_one (ss_ret (se_and (se_isNot (se_var 0) se_non) (se_one (se_eq hr.units (se_call fd__law_kinds hr (sa_cons (se_var 0) sa_nil) (hlen := (aLen_cons aLen_nil))) (se_add (SO.se (so_lc [1] 1 ["at", "k"] rfl (it_range1 bn.range' (sa_cons se_int sa_nil)) (fun C s H fp => (sg_name 1 ndk)) (fun C s H fp => sts_nil) (fun C s H fp => (se_eq hr.units (se_var 1) (se_var 0))))) (SO.se (so_lst (sa_cons se_bl (sa_cons se_bl sa_nil))))))))))
abbrev st__law_apart : Stmt := top 31
def ce__law_apart_1 : ME :=
  (eCall F__law_alone (aCons (eIxV 0 (eVar 1)) (aCons (eVar 1) aNil)))
def co__law_apart_1 : MO :=
  oLC [0] 1 (iR1 (aCons (eC (.int 9)) aNil)) (gN 1) tTrue ce__law_apart_1
def rs__law_apart_2 : MS :=
  (sRet (m2 dEq (eCall F__law_kinds (aCons (eC (.exc "SumError")) aNil)) (m2 dAdd (m2 dMul (eFz (oLst (aCons (eC (.bl false)) aNil))) (eC (.int 9))) (eFz (oLst (aCons (eC (.bl true)) (aCons (eC (.bl true)) aNil)))))))
def m__law_apart : MS :=
  (sSeq (sSet 0 (eFz (oLst (aCons (eC (.exc "BadTelling")) (aCons (eC (.exc "NoFit")) (aCons (eC (.exc "NoNumber")) (aCons (eC (.exc "NoPlace")) (aCons (eC (.exc "NotTwos")) (aCons (eC (.exc "NoPast")) aNil)))))))))
    (sSeq (sSet 0 (m2 dAdd (eVar 0) (eFz (oLst (aCons (eC (.exc "NoText")) (aCons (eC (.exc "NoRow")) (aCons (eC (.exc "Unlike")) aNil)))))))
    (sSeq (sIf (tNotM (tTru (mC (dAll fun bs => bs.all id) (aCons (eFz co__law_apart_1) aNil))))
    (sRet (eC (.bl false)))
    sNext)
    rs__law_apart_2)))
def F__law_apart : List D -> Option Sl := fP 1 m__law_apart
theorem ok__law_apart (fd__law_alone : FD P w K mg base 2 "_law_alone" (spP K 2 F__law_alone)) (fd__law_kinds : FD P w K mg base 1 "_law_kinds" (spP K 1 F__law_kinds)) (h : FnAt K "_law_apart" st__law_apart) : FD P w K mg base 3 "_law_apart" (spP K 0 F__law_apart) :=
  fdP (N := ["some"]) (k := 2) (m := m__law_apart) X G h fun _ _ _ _ _ _ _ hr nd => (sss_cons (ss_set 0 (SO.se (so_lst (sa_cons (se_exc bn.r_BadTelling) (sa_cons (se_exc bn.r_NoFit) (sa_cons (se_exc bn.r_NoNumber) (sa_cons (se_exc bn.r_NoPlace) (sa_cons (se_exc bn.r_NotTwos) (sa_cons (se_exc bn.r_NoPast) sa_nil)))))))) nd)
    (sss_cons (ss_set 0 (se_add (se_var 0) (SO.se (so_lst (sa_cons (se_exc bn.r_NoText) (sa_cons (se_exc bn.r_NoRow) (sa_cons (se_exc bn.r_Unlike) sa_nil)))))) nd)
    (sss_cons (ss_if (st_not (st_truth (se_all rfl bn.all' (sa_cons (SO.se (so_lc [0] 1 ["some", "k"] rfl (it_range1 bn.range' (sa_cons se_int sa_nil)) (fun C s H fp => (sg_name 1 ndk)) (fun C s H fp => sts_nil) (fun C s H fp => (se_call fd__law_alone hr (sa_cons (se_itemV 0 (se_var 1)) (sa_cons (se_var 1) sa_nil)) (hlen := (aLen_cons (aLen_cons aLen_nil))))))) sa_nil))))
    (sss_one (ss_ret se_bl))
    sss_nil)
    (sss_one (ss_ret (se_eq hr.units (se_call fd__law_kinds hr (sa_cons (se_exc bn.r_SumError) sa_nil) (hlen := (aLen_cons aLen_nil))) (se_add (se_mul (SO.se (so_lst (sa_cons se_bl sa_nil))) se_int) (SO.se (so_lst (sa_cons se_bl (sa_cons se_bl sa_nil)))))))))))
abbrev st__law_made : Stmt := top 32
def tb__law_made_1 : MS :=
  (sSet 5 (ePick F_made_line F_made_ring (eVar 0) (aCons (eVar 1) (aCons (eVar 2) (aCons (eVar 3) (aCons (eVar 4) aNil))))))
def tx__law_made_1 : MX :=
  (xPick X_made_line X_made_ring (eVar 0) (aCons (eVar 1) (aCons (eVar 2) (aCons (eVar 3) (aCons (eVar 4) aNil)))))
def rs__law_made_2 : MS :=
  (sRetV 5)
def m__law_made : MS :=
  (sSeq (sSet 5 (eC .non))
    (sSeq (sTry tb__law_made_1 tx__law_made_1 ["BadTelling", "NoFit", "NoNumber", "NoPlace", "NotTwos", "NoPast", "NoText", "NoRow", "Unlike", "SumError"] 5 6)
    rs__law_made_2))
def F__law_made : List D -> Option Sl := fP 7 m__law_made
theorem ok__law_made (fd_made_line : FD P w K mg base 4 "made_line" (spP K 4 F_made_line)) (fd_made_ring : FD P w K mg base 4 "made_ring" (spP K 4 F_made_ring)) (fdx_made_line : FDX P w K mg base 4 "made_line" (spX K 4 X_made_line)) (fdx_made_ring : FDX P w K mg base 4 "made_ring" (spX K 4 X_made_ring)) (h : FnAt K "_law_made" st__law_made) : FD P w K mg base 5 "_law_made" (spP K 5 F__law_made) :=
  fdP (N := ["way", "k", "sums", "least", "greatest", "found", "e"]) (k := 4) (m := m__law_made) X G h fun _ _ _ _ _ _ _ hr nd => (sss_cons (ss_set 5 se_non nd)
    (sss_cons (ss_try 5 6 ⟨rfl, rfl, rfl⟩ (fun pins => (sss_one (ss_set 5 (se_pick2 fd_made_line fd_made_ring hr (se_var 0) (sa_cons (se_var 1) (sa_cons (se_var 2) (sa_cons (se_var 3) (sa_cons (se_var 4) sa_nil)))) (aLen_cons (aLen_cons (aLen_cons (aLen_cons aLen_nil))))) nd))) (fun pins F S E hx => (xss_here (xs_set 5 (xe_pick2 fdx_made_line fdx_made_ring hx hr (se_var 0) (sa_cons (se_var 1) (sa_cons (se_var 2) (sa_cons (se_var 3) (sa_cons (se_var 4) sa_nil)))) (aLen_cons (aLen_cons (aLen_cons (aLen_cons aLen_nil))))) nd))) bn.t_SumError nd)
    (sss_one (ss_retV 5))))
abbrev st__law_right : Stmt := top 33
def ce__law_right_1 : MO :=
  (oC dItems (aCons (eVar 0) aNil))
def rs__law_right_2 : MS :=
  (sRet (eAnd (eIsI "tuple" (eVar 7)) (eAnd (m2 dEq (eVar 7) (eVar 8)) (m2 dEq (eCall F__law_made (aCons (eVar 0) (aCons (eVar 1) (aCons (eIxV 8 (eC (.int 1))) (aCons (eIxV 8 (eC (.int 2))) (aCons (eIxV 8 (eC (.int 3))) aNil)))))) (eVar 8)))))
def rs__law_right_3 : MS :=
  (sSeq (sSet 8 (eTup (aCons (eVar 1) (aCons (eLkX 3 (mC dTuple (aCons (eVar 3) aNil))) (aCons (eLkX 4 (mC dTuple (aCons (eVar 4) aNil))) (aCons (eLkX 5 (mC dTuple (aCons (eVar 5) aNil))) aNil))))))
    (sSeq (sApp3 9 3 4 5)
    (sSeq (sIf (tNotM (tTru (ePick F__law_is_line F__law_is_ring (eVar 0) (aCons (eVar 1) (aCons (eIxV 8 (eC (.int 1))) (aCons (eIxV 8 (eC (.int 2))) (aCons (eIxV 8 (eC (.int 3))) aNil)))))))
    (sRet (eAnd (eCall F__law_alone (aCons (eVar 7) (aCons (eC (.int 0)) aNil))) (eCall F__law_alone (aCons (eCall F__law_made (aCons (eVar 0) (aCons (eVar 1) (aCons (eIxV 8 (eC (.int 1))) (aCons (eIxV 8 (eC (.int 2))) (aCons (eIxV 8 (eC (.int 3))) aNil)))))) (aCons (eC (.int 0)) aNil)))))
    sNext)
    rs__law_right_2)))
def m__law_right : MS :=
  (sSeq (sSeq (sTC 3 [] 1 (iSeq (eVar 2)) (gN 0) tTrue ce__law_right_1) (sUnT 3 [3, 4, 5]))
    (sSeq (sSet 6 (eLkX 3 (eLkX 4 (eLkX 5 (mC dStr (aCons (eFz (oLst (aCons (eVar 3) (aCons (eVar 4) (aCons (eVar 5) aNil))))) aNil))))))
    (sSeq (sSet 7 (eLkX 3 (eLkX 4 (eLkX 5 (eCall F__law_made (aCons (eVar 0) (aCons (eVar 1) (aCons (eVar 3) (aCons (eVar 4) (aCons (eVar 5) aNil))))))))))
    (sSeq (sIf (tTru (m2 dNe (eLkX 3 (eLkX 4 (eLkX 5 (mC dStr (aCons (eFz (oLst (aCons (eVar 3) (aCons (eVar 4) (aCons (eVar 5) aNil))))) aNil))))) (eVar 6)))
    (sRet (eC (.bl false)))
    sNext)
    rs__law_right_3))))
def F__law_right : List D -> Option Sl := fP 10 m__law_right
theorem ok__law_right (fd__law_alone : FD P w K mg base 2 "_law_alone" (spP K 2 F__law_alone)) (fd__law_is_line : FD P w K mg base 2 "_law_is_line" (spP K 4 F__law_is_line)) (fd__law_is_ring : FD P w K mg base 2 "_law_is_ring" (spP K 4 F__law_is_ring)) (fd__law_made : FD P w K mg base 5 "_law_made" (spP K 5 F__law_made)) (h : FnAt K "_law_right" st__law_right) : FD P w K mg base 6 "_law_right" (spP K 3 F__law_right) :=
  fdP (N := ["way", "k", "lists", "sums", "least", "greatest", "kept", "found", "due", "some"]) (k := 5) (m := m__law_right) X G h fun _ _ _ _ _ _ _ hr nd => (sss_cons (ss_unC 3 [3, 4, 5] [] 1 ["some"] rfl (it_seq (se_var 2)) (fun C s H fp => (sg_name 0 ndk)) (fun C s H fp => sts_nil) (fun C s H fp => (so_list bn.list' (sa_cons (se_var 0) sa_nil))) nd ⟨rfl, by first | exact Or.inl rfl | exact Or.inr rfl, by first | exact Or.inl rfl | exact Or.inr rfl, rfl, by first | exact Or.inl rfl | exact Or.inr rfl, by first | exact Or.inl rfl | exact Or.inr rfl, rfl, by first | exact Or.inl rfl | exact Or.inr rfl, by first | exact Or.inl rfl | exact Or.inr rfl, trivial⟩)
    (sss_cons (ss_set 6 (se_lookX 3 (se_lookX 4 (se_lookX 5 (se_strOf bn.str' hr.gd hr.units (sa_cons (SO.se (so_lst (sa_cons (se_var 3) (sa_cons (se_var 4) (sa_cons (se_var 5) sa_nil))))) sa_nil))))) nd)
    (sss_cons (ss_set 7 (se_lookX 3 (se_lookX 4 (se_lookX 5 (se_call fd__law_made hr (sa_cons (se_var 0) (sa_cons (se_var 1) (sa_cons (se_var 3) (sa_cons (se_var 4) (sa_cons (se_var 5) sa_nil))))) (hlen := (aLen_cons (aLen_cons (aLen_cons (aLen_cons (aLen_cons aLen_nil)))))))))) nd)
    (sss_cons (ss_if (st_ne hr.units (se_lookX 3 (se_lookX 4 (se_lookX 5 (se_strOf bn.str' hr.gd hr.units (sa_cons (SO.se (so_lst (sa_cons (se_var 3) (sa_cons (se_var 4) (sa_cons (se_var 5) sa_nil))))) sa_nil))))) (se_var 6))
    (sss_one (ss_ret se_bl))
    sss_nil)
    (sss_cons (ss_set 8 (se_tup (sa_cons (se_var 1) (sa_cons (se_lookX 3 (se_tuple bn.tuple' (sa_cons (se_var 3) sa_nil))) (sa_cons (se_lookX 4 (se_tuple bn.tuple' (sa_cons (se_var 4) sa_nil))) (sa_cons (se_lookX 5 (se_tuple bn.tuple' (sa_cons (se_var 5) sa_nil))) sa_nil))))) nd)
    (sss_cons (ss_app3 9 3 4 5 (by decide) (by decide) (by decide) PassesOwn.never rfl nd)
    (sss_cons (ss_if (st_not (st_truth (se_pick2 fd__law_is_line fd__law_is_ring hr (se_var 0) (sa_cons (se_var 1) (sa_cons (se_itemV 8 se_int) (sa_cons (se_itemV 8 se_int) (sa_cons (se_itemV 8 se_int) sa_nil)))) (aLen_cons (aLen_cons (aLen_cons (aLen_cons aLen_nil)))))))
    (sss_one (ss_ret (se_and (se_call fd__law_alone hr (sa_cons (se_var 7) (sa_cons se_int sa_nil)) (hlen := (aLen_cons (aLen_cons aLen_nil)))) (se_one (se_call fd__law_alone hr (sa_cons (se_call fd__law_made hr (sa_cons (se_var 0) (sa_cons (se_var 1) (sa_cons (se_itemV 8 se_int) (sa_cons (se_itemV 8 se_int) (sa_cons (se_itemV 8 se_int) sa_nil))))) (hlen := (aLen_cons (aLen_cons (aLen_cons (aLen_cons (aLen_cons aLen_nil))))))) (sa_cons se_int sa_nil)) (hlen := (aLen_cons (aLen_cons aLen_nil))))))))
    sss_nil)
    (sss_one (ss_ret (se_and (se_isI "tuple" bn.isinstance' bn.tuple' (by decide +kernel) (se_var 7)) (se_and (se_eq hr.units (se_var 7) (se_var 8)) (se_one (se_eq hr.units (se_call fd__law_made hr (sa_cons (se_var 0) (sa_cons (se_var 1) (sa_cons (se_itemV 8 se_int) (sa_cons (se_itemV 8 se_int) (sa_cons (se_itemV 8 se_int) sa_nil))))) (hlen := (aLen_cons (aLen_cons (aLen_cons (aLen_cons (aLen_cons aLen_nil))))))) (se_var 8))))))))))))))
abbrev st_law : Stmt := top 34
def rs_law_1 : MS :=
  (sIf (tOrM (tNotM (tTru (eCall F__law_right (aCons (eVar 4) (aCons (eVar 3) (aCons (eVar 10) aNil)))))) (tNotM (tTru (eCall F__law_right (aCons (m2 dSub (eC (.int 1)) (eVar 4)) (aCons (eVar 3) (aCons (eVar 10) aNil)))))))
    (sRet (eC (.bl false)))
    sNext)
def rs_law_2 : MS :=
  (sSeq (sIf (tTru (m2 dEq (eVar 11) (eC (.int 3))))
    (sSetO 10 (oLst (aCons (eVar 6) (aCons (eVar 9) (aCons (eVar 8) aNil)))))
    sNext)
    rs_law_1)
def lb_law_3 : MS :=
  (sSeq (sSetO 2 (oCall F__law_pot (aCons (eVar 0) (aCons (eVar 1) aNil))))
    (sSeq (sSet 3 (m2 dIx (eTup (aCons (m2 dAdd (eC (.int 2)) (eCallM F__law_take 2 (aCons (eC (.int 4)) aNil))) (aCons (eCallM F__law_take 2 (aCons (eC (.int 8)) aNil)) (aCons (m1 dNeg (m2 dPow (eC (.int 10)) (eC (.int 59)))) (aCons (m2 dPow (eC (.int 10)) (eC (.int 59))) aNil))))) (mC (d2I max2) (aCons (eC (.int 0)) (aCons (m2 dSub (eCallM F__law_take 2 (aCons (eC (.int 9)) aNil)) (eC (.int 5))) aNil)))))
    (sSeq (sSet 4 (eCallM F__law_take 2 (aCons (eC (.int 2)) aNil)))
    (sSeq (sSet 5 (m2 dAdd (eC (.int 1)) (eCallM F__law_take 2 (aCons (eC (.int 25)) aNil))))
    (sSeq (sSet 6 (eCallM F__law_row 2 (aCons (eVar 5) aNil)))
    (sSeq (sSet 7 (m2 dAdd (eVar 5) (m2 dMul (m2 dSub (eVar 3) (eC (.int 1))) (mC dInt (aCons (eAnd (m2 dEq (eVar 4) (eC (.int 0))) (eChain dLt dLt (eC (.int 1)) (eVar 3) (eC (.int 6)))) aNil)))))
    (sSeq (sAsg (eCallM F__law_bounds 2 (aCons (eCallM F__law_row 2 (aCons (mC (d2I min2) (aCons (eC (.int 40)) (aCons (eVar 7) aNil))) aNil)) aNil)) (gT 2 (gsCons (gN 8) (gsCons (gN 9) gsNil))))
    (sSeq (sSetO 10 (oLst (aCons (eVar 6) (aCons (eVar 8) (aCons (eVar 9) aNil)))))
    (sSeq (sSet 11 (eCallM F__law_take 2 (aCons (eC (.int 8)) aNil)))
    (sSeq (sIf (tTru (m2 dLt (eVar 11) (eC (.int 3))))
    (sPut 10 (eVar 11) (eCallM F__law_bent_row 2 (aCons (eIxV 10 (eVar 11)) aNil)))
    sNext)
    rs_law_2))))))))))
def lp_law_3 : MS :=
  sFor (iR1 (aCons (mC (d2I max2) (aCons (eC (.int 1)) (aCons (mC (d2I min2) (aCons (eLenV 0) (aCons (eC (.int 12)) aNil))) aNil))) aNil)) (gN 1) lb_law_3
def rs_law_4 : MS :=
  (sSeq lp_law_3
    (sRet (eC (.bl true))))
def m_law : MS :=
  (sSeq (sIf (tNotM (tTru (eCall F__law_apart aNil)))
    (sRet (eC (.bl false)))
    sNext)
    rs_law_4)
def F_law : List D -> Option Sl := fP 12 m_law
theorem ok_law (fd__law_apart : FD P w K mg base 3 "_law_apart" (spP K 0 F__law_apart)) (fd__law_bent_row : FD P w K mg base 2 "_law_bent_row" (spM K 2 F__law_bent_row)) (fd__law_bounds : FD P w K mg base 2 "_law_bounds" (spM K 2 F__law_bounds)) (fd__law_pot : FD P w K mg base 1 "_law_pot" (spP K 2 F__law_pot)) (fd__law_right : FD P w K mg base 6 "_law_right" (spP K 3 F__law_right)) (fd__law_row : FD P w K mg base 2 "_law_row" (spM K 2 F__law_row)) (fd__law_take : FD P w K mg base 1 "_law_take" (spM K 2 F__law_take)) (F : Fun K "law" "law" st_law f fd) : FnOk P w K mg base CX0 7 f fd ["script"] (spP K 1 F_law) :=
  lawP (N := ["script", "cell", "pot", "k", "way", "many", "sums", "places", "least", "greatest", "lists", "turn"]) (k := 6) (n := 1) (m := m_law) F fun _ _ _ _ _ _ _ hr nd => (sss_cons (ss_if (st_not (st_truth (se_call0 fd__law_apart hr)))
    (sss_one (ss_ret se_bl))
    sss_nil)
    (sss_cons (ss_for PassesOwn.never rfl (it_range1 bn.range' (sa_cons (se_max2 rfl bn.max' (sa_cons se_int (sa_cons (se_min2 rfl bn.min' (sa_cons (se_lenV 0 bn.len') (sa_cons se_int sa_nil))) sa_nil))) sa_nil)) (sg_name 1 nd)
    (sss_cons (ss_setO 2 (so_call fd__law_pot hr (sa_cons (se_var 0) (sa_cons (se_var 1) sa_nil)) (hlen := (aLen_cons (aLen_cons aLen_nil)))) nd)
    (sss_cons (ss_set 3 (se_item (se_tup (sa_cons (se_add se_int (se_callM 2 fd__law_take hr (sa_cons se_int sa_nil) (aLen1 (aLen_cons aLen_nil)))) (sa_cons (se_callM 2 fd__law_take hr (sa_cons se_int sa_nil) (aLen1 (aLen_cons aLen_nil))) (sa_cons (se_neg (se_pow se_int se_int)) (sa_cons (se_pow se_int se_int) sa_nil))))) (se_max2 rfl bn.max' (sa_cons se_int (sa_cons (se_sub (se_callM 2 fd__law_take hr (sa_cons se_int sa_nil) (aLen1 (aLen_cons aLen_nil))) se_int) sa_nil)))) nd)
    (sss_cons (ss_set 4 (se_callM 2 fd__law_take hr (sa_cons se_int sa_nil) (aLen1 (aLen_cons aLen_nil))) nd)
    (sss_cons (ss_set 5 (se_add se_int (se_callM 2 fd__law_take hr (sa_cons se_int sa_nil) (aLen1 (aLen_cons aLen_nil)))) nd)
    (sss_cons (ss_set 6 (se_callM 2 fd__law_row hr (sa_cons (se_var 5) sa_nil) (aLen1 (aLen_cons aLen_nil))) nd)
    (sss_cons (ss_set 7 (se_add (se_var 5) (se_mul (se_sub (se_var 3) se_int) (se_intOf bn.int' (sa_cons (se_and (se_eq hr.units (se_var 4) se_int) (se_one (se_chain op_lt op_lt v2_cmp v2_cmp se_int (se_var 3) se_int))) sa_nil)))) nd)
    (sss_cons (ss_asg (se_callM 2 fd__law_bounds hr (sa_cons (se_callM 2 fd__law_row hr (sa_cons (se_min2 rfl bn.min' (sa_cons se_int (sa_cons (se_var 7) sa_nil))) sa_nil) (aLen1 (aLen_cons aLen_nil))) sa_nil) (aLen1 (aLen_cons aLen_nil))) (sg_tup rfl (sgs_cons (sg_name 8 nd) (sgs_cons (sg_name 9 nd) sgs_nil))))
    (sss_cons (ss_setO 10 (so_lst (sa_cons (se_var 6) (sa_cons (se_var 8) (sa_cons (se_var 9) sa_nil)))) nd)
    (sss_cons (ss_set 11 (se_callM 2 fd__law_take hr (sa_cons se_int sa_nil) (aLen1 (aLen_cons aLen_nil))) nd)
    (sss_cons (ss_if (st_lt (se_var 11) se_int)
    (sss_one (ss_put 10 (se_callM 2 fd__law_bent_row hr (sa_cons (se_itemV 10 (se_var 11)) sa_nil) (aLen1 (aLen_cons aLen_nil))) (se_var 11)))
    sss_nil)
    (sss_cons (ss_if (st_eq hr.units (se_var 11) se_int)
    (sss_one (ss_setO 10 (so_lst (sa_cons (se_var 6) (sa_cons (se_var 9) (sa_cons (se_var 8) sa_nil)))) nd))
    sss_nil)
    (sss_one (ss_if (STw.st (sw_or (st_not (st_truth (se_call fd__law_right hr (sa_cons (se_var 4) (sa_cons (se_var 3) (sa_cons (se_var 10) sa_nil))) (hlen := (aLen_cons (aLen_cons (aLen_cons aLen_nil))))))) (sw_or1 (st_not (st_truth (se_call fd__law_right hr (sa_cons (se_sub se_int (se_var 4)) (sa_cons (se_var 3) (sa_cons (se_var 10) sa_nil))) (hlen := (aLen_cons (aLen_cons (aLen_cons aLen_nil))))))))))
    (sss_one (ss_ret se_bl))
    sss_nil))))))))))))))
    (sss_one (ss_ret se_bl))))
end
set_option maxHeartbeats 0 in
theorem all_mk {l : PySem.W.OpenLaw} {w : World} {K : PySem.W.Frag} {h : Heap} {mg : Str -> Option Value} {fa : Addr} (X : K.In h) (G : h.Ns mainGlobals mg) (hfa : mg "law" = some (.ref fa))
    (h1 : FnAt K "row_within" st_row_within)
    (h2 : FnAt K "bounds_right" st_bounds_right)
    (h3 : FnAt K "k_right" st_k_right)
    (h4 : FnAt K "line_parts_right" st_line_parts_right)
    (h5 : FnAt K "ring_parts_right" st_ring_parts_right)
    (h6 : FnAt K "made_line" st_made_line)
    (h7 : FnAt K "made_ring" st_made_ring)
    (h8 : FnAt K "_law_pot" st__law_pot)
    (h9 : FnAt K "_law_take" st__law_take)
    (h10 : FnAt K "_law_row" st__law_row)
    (h11 : FnAt K "_law_bounds" st__law_bounds)
    (h12 : FnAt K "_law_are_bounds" st__law_are_bounds)
    (h13 : FnAt K "_law_is_line" st__law_is_line)
    (h14 : FnAt K "_law_is_ring" st__law_is_ring)
    (h15 : FnAt K "_law_bent_row" st__law_bent_row)
    (h16 : FnAt K "_law_kinds" st__law_kinds)
    (h17 : FnAt K "_law_alone" st__law_alone)
    (h18 : FnAt K "_law_apart" st__law_apart)
    (h19 : FnAt K "_law_made" st__law_made)
    (h20 : FnAt K "_law_right" st__law_right)
    (h21 : FnAt K "law" st_law)
    {ty0 : Tok}
    (z0 : PySem.W.nsIn K mainGlobals "ValueError" = some none) (z1 : PySem.W.nsIn K mainGlobals "all" = some none) (z2 : PySem.W.nsIn K mainGlobals "any" = some none) (z3 : PySem.W.nsIn K mainGlobals "int" = some none) (z4 : PySem.W.nsIn K mainGlobals "isinstance" = some none) (z5 : PySem.W.nsIn K mainGlobals "len" = some none) (z6 : PySem.W.nsIn K mainGlobals "list" = some none) (z7 : PySem.W.nsIn K mainGlobals "max" = some none) (z8 : PySem.W.nsIn K mainGlobals "min" = some none) (z9 : PySem.W.nsIn K mainGlobals "range" = some none) (z10 : PySem.W.nsIn K mainGlobals "str" = some none) (z11 : PySem.W.nsIn K mainGlobals "tuple" = some none) (z12 : PySem.W.nsIn K mainGlobals "zip" = some none) (y0 : PySem.W.nsIn K mainGlobals "MOST_PLACES" = some (some (.int 24 ty0))) {C_BadTelling : Addr} (n_BadTelling : PySem.W.nsIn K mainGlobals "BadTelling" = some (some (.ref C_BadTelling))) {C_NoFit : Addr} (n_NoFit : PySem.W.nsIn K mainGlobals "NoFit" = some (some (.ref C_NoFit))) {C_NoNumber : Addr} (n_NoNumber : PySem.W.nsIn K mainGlobals "NoNumber" = some (some (.ref C_NoNumber))) {C_NoPlace : Addr} (n_NoPlace : PySem.W.nsIn K mainGlobals "NoPlace" = some (some (.ref C_NoPlace))) {C_NotTwos : Addr} (n_NotTwos : PySem.W.nsIn K mainGlobals "NotTwos" = some (some (.ref C_NotTwos))) {C_NoPast : Addr} (n_NoPast : PySem.W.nsIn K mainGlobals "NoPast" = some (some (.ref C_NoPast))) {C_NoText : Addr} (n_NoText : PySem.W.nsIn K mainGlobals "NoText" = some (some (.ref C_NoText))) {C_NoRow : Addr} (n_NoRow : PySem.W.nsIn K mainGlobals "NoRow" = some (some (.ref C_NoRow))) {C_Unlike : Addr} (n_Unlike : PySem.W.nsIn K mainGlobals "Unlike" = some (some (.ref C_Unlike))) {C_SumError : Addr} (n_SumError : PySem.W.nsIn K mainGlobals "SumError" = some (some (.ref C_SumError))) (hsp : PySem.W.specialIn K (.builtin "object.__class__") "__get__" = some (some (.builtin "getset_descriptor.__get__"))) (htk : PySem.W.takesIn K (.builtin "object.__class__") = some true) {nm_BadTelling qn_BadTelling : Str} {N_BadTelling : Addr} {bs_BadTelling sub_BadTelling : List Value} {hd_BadTelling ab_BadTelling : Bool} {sn_BadTelling : List Str} {col_BadTelling : Option Bool} {dd_BadTelling : Option Addr} {j0_BadTelling j1_BadTelling j2_BadTelling j3_BadTelling j5_BadTelling : Option Value} (lk_BadTelling : K.lookup C_BadTelling = some (excClassObj nm_BadTelling qn_BadTelling C_BadTelling N_BadTelling bs_BadTelling (.ref C_SumError :: bmV) hd_BadTelling sn_BadTelling sub_BadTelling ab_BadTelling col_BadTelling dd_BadTelling j0_BadTelling j1_BadTelling j2_BadTelling j3_BadTelling j5_BadTelling "ValueError.__new__")) (in_BadTelling : PySem.W.nsIn K N_BadTelling "__init__" = some none) {cN_BadTelling : Value} {dN_BadTelling : Option Addr} {es_BadTelling : List DictEntry} {ep_BadTelling : Nat} {sN_BadTelling : Array (Option Value)} (ln_BadTelling : K.lookup N_BadTelling = some ⟨cN_BadTelling, dN_BadTelling, .dict es_BadTelling.toArray ep_BadTelling, sN_BadTelling⟩) (on_BadTelling : (es_BadTelling.all fun e => match e.key with | .str _ _ => true | _ => false) = true) {nm_NoFit qn_NoFit : Str} {N_NoFit : Addr} {bs_NoFit sub_NoFit : List Value} {hd_NoFit ab_NoFit : Bool} {sn_NoFit : List Str} {col_NoFit : Option Bool} {dd_NoFit : Option Addr} {j0_NoFit j1_NoFit j2_NoFit j3_NoFit j5_NoFit : Option Value} (lk_NoFit : K.lookup C_NoFit = some (excClassObj nm_NoFit qn_NoFit C_NoFit N_NoFit bs_NoFit (.ref C_SumError :: bmV) hd_NoFit sn_NoFit sub_NoFit ab_NoFit col_NoFit dd_NoFit j0_NoFit j1_NoFit j2_NoFit j3_NoFit j5_NoFit "ValueError.__new__")) (in_NoFit : PySem.W.nsIn K N_NoFit "__init__" = some none) {cN_NoFit : Value} {dN_NoFit : Option Addr} {es_NoFit : List DictEntry} {ep_NoFit : Nat} {sN_NoFit : Array (Option Value)} (ln_NoFit : K.lookup N_NoFit = some ⟨cN_NoFit, dN_NoFit, .dict es_NoFit.toArray ep_NoFit, sN_NoFit⟩) (on_NoFit : (es_NoFit.all fun e => match e.key with | .str _ _ => true | _ => false) = true) {nm_NoNumber qn_NoNumber : Str} {N_NoNumber : Addr} {bs_NoNumber sub_NoNumber : List Value} {hd_NoNumber ab_NoNumber : Bool} {sn_NoNumber : List Str} {col_NoNumber : Option Bool} {dd_NoNumber : Option Addr} {j0_NoNumber j1_NoNumber j2_NoNumber j3_NoNumber j5_NoNumber : Option Value} (lk_NoNumber : K.lookup C_NoNumber = some (excClassObj nm_NoNumber qn_NoNumber C_NoNumber N_NoNumber bs_NoNumber (.ref C_SumError :: bmV) hd_NoNumber sn_NoNumber sub_NoNumber ab_NoNumber col_NoNumber dd_NoNumber j0_NoNumber j1_NoNumber j2_NoNumber j3_NoNumber j5_NoNumber "ValueError.__new__")) (in_NoNumber : PySem.W.nsIn K N_NoNumber "__init__" = some none) {cN_NoNumber : Value} {dN_NoNumber : Option Addr} {es_NoNumber : List DictEntry} {ep_NoNumber : Nat} {sN_NoNumber : Array (Option Value)} (ln_NoNumber : K.lookup N_NoNumber = some ⟨cN_NoNumber, dN_NoNumber, .dict es_NoNumber.toArray ep_NoNumber, sN_NoNumber⟩) (on_NoNumber : (es_NoNumber.all fun e => match e.key with | .str _ _ => true | _ => false) = true) {nm_NoPlace qn_NoPlace : Str} {N_NoPlace : Addr} {bs_NoPlace sub_NoPlace : List Value} {hd_NoPlace ab_NoPlace : Bool} {sn_NoPlace : List Str} {col_NoPlace : Option Bool} {dd_NoPlace : Option Addr} {j0_NoPlace j1_NoPlace j2_NoPlace j3_NoPlace j5_NoPlace : Option Value} (lk_NoPlace : K.lookup C_NoPlace = some (excClassObj nm_NoPlace qn_NoPlace C_NoPlace N_NoPlace bs_NoPlace (.ref C_SumError :: bmV) hd_NoPlace sn_NoPlace sub_NoPlace ab_NoPlace col_NoPlace dd_NoPlace j0_NoPlace j1_NoPlace j2_NoPlace j3_NoPlace j5_NoPlace "ValueError.__new__")) (in_NoPlace : PySem.W.nsIn K N_NoPlace "__init__" = some none) {cN_NoPlace : Value} {dN_NoPlace : Option Addr} {es_NoPlace : List DictEntry} {ep_NoPlace : Nat} {sN_NoPlace : Array (Option Value)} (ln_NoPlace : K.lookup N_NoPlace = some ⟨cN_NoPlace, dN_NoPlace, .dict es_NoPlace.toArray ep_NoPlace, sN_NoPlace⟩) (on_NoPlace : (es_NoPlace.all fun e => match e.key with | .str _ _ => true | _ => false) = true) {nm_NotTwos qn_NotTwos : Str} {N_NotTwos : Addr} {bs_NotTwos sub_NotTwos : List Value} {hd_NotTwos ab_NotTwos : Bool} {sn_NotTwos : List Str} {col_NotTwos : Option Bool} {dd_NotTwos : Option Addr} {j0_NotTwos j1_NotTwos j2_NotTwos j3_NotTwos j5_NotTwos : Option Value} (lk_NotTwos : K.lookup C_NotTwos = some (excClassObj nm_NotTwos qn_NotTwos C_NotTwos N_NotTwos bs_NotTwos (.ref C_SumError :: bmV) hd_NotTwos sn_NotTwos sub_NotTwos ab_NotTwos col_NotTwos dd_NotTwos j0_NotTwos j1_NotTwos j2_NotTwos j3_NotTwos j5_NotTwos "ValueError.__new__")) (in_NotTwos : PySem.W.nsIn K N_NotTwos "__init__" = some none) {cN_NotTwos : Value} {dN_NotTwos : Option Addr} {es_NotTwos : List DictEntry} {ep_NotTwos : Nat} {sN_NotTwos : Array (Option Value)} (ln_NotTwos : K.lookup N_NotTwos = some ⟨cN_NotTwos, dN_NotTwos, .dict es_NotTwos.toArray ep_NotTwos, sN_NotTwos⟩) (on_NotTwos : (es_NotTwos.all fun e => match e.key with | .str _ _ => true | _ => false) = true) {nm_NoPast qn_NoPast : Str} {N_NoPast : Addr} {bs_NoPast sub_NoPast : List Value} {hd_NoPast ab_NoPast : Bool} {sn_NoPast : List Str} {col_NoPast : Option Bool} {dd_NoPast : Option Addr} {j0_NoPast j1_NoPast j2_NoPast j3_NoPast j5_NoPast : Option Value} (lk_NoPast : K.lookup C_NoPast = some (excClassObj nm_NoPast qn_NoPast C_NoPast N_NoPast bs_NoPast (.ref C_SumError :: bmV) hd_NoPast sn_NoPast sub_NoPast ab_NoPast col_NoPast dd_NoPast j0_NoPast j1_NoPast j2_NoPast j3_NoPast j5_NoPast "ValueError.__new__")) (in_NoPast : PySem.W.nsIn K N_NoPast "__init__" = some none) {cN_NoPast : Value} {dN_NoPast : Option Addr} {es_NoPast : List DictEntry} {ep_NoPast : Nat} {sN_NoPast : Array (Option Value)} (ln_NoPast : K.lookup N_NoPast = some ⟨cN_NoPast, dN_NoPast, .dict es_NoPast.toArray ep_NoPast, sN_NoPast⟩) (on_NoPast : (es_NoPast.all fun e => match e.key with | .str _ _ => true | _ => false) = true) {nm_NoText qn_NoText : Str} {N_NoText : Addr} {bs_NoText sub_NoText : List Value} {hd_NoText ab_NoText : Bool} {sn_NoText : List Str} {col_NoText : Option Bool} {dd_NoText : Option Addr} {j0_NoText j1_NoText j2_NoText j3_NoText j5_NoText : Option Value} (lk_NoText : K.lookup C_NoText = some (excClassObj nm_NoText qn_NoText C_NoText N_NoText bs_NoText (.ref C_SumError :: bmV) hd_NoText sn_NoText sub_NoText ab_NoText col_NoText dd_NoText j0_NoText j1_NoText j2_NoText j3_NoText j5_NoText "ValueError.__new__")) (in_NoText : PySem.W.nsIn K N_NoText "__init__" = some none) {cN_NoText : Value} {dN_NoText : Option Addr} {es_NoText : List DictEntry} {ep_NoText : Nat} {sN_NoText : Array (Option Value)} (ln_NoText : K.lookup N_NoText = some ⟨cN_NoText, dN_NoText, .dict es_NoText.toArray ep_NoText, sN_NoText⟩) (on_NoText : (es_NoText.all fun e => match e.key with | .str _ _ => true | _ => false) = true) {nm_NoRow qn_NoRow : Str} {N_NoRow : Addr} {bs_NoRow sub_NoRow : List Value} {hd_NoRow ab_NoRow : Bool} {sn_NoRow : List Str} {col_NoRow : Option Bool} {dd_NoRow : Option Addr} {j0_NoRow j1_NoRow j2_NoRow j3_NoRow j5_NoRow : Option Value} (lk_NoRow : K.lookup C_NoRow = some (excClassObj nm_NoRow qn_NoRow C_NoRow N_NoRow bs_NoRow (.ref C_SumError :: bmV) hd_NoRow sn_NoRow sub_NoRow ab_NoRow col_NoRow dd_NoRow j0_NoRow j1_NoRow j2_NoRow j3_NoRow j5_NoRow "ValueError.__new__")) (in_NoRow : PySem.W.nsIn K N_NoRow "__init__" = some none) {cN_NoRow : Value} {dN_NoRow : Option Addr} {es_NoRow : List DictEntry} {ep_NoRow : Nat} {sN_NoRow : Array (Option Value)} (ln_NoRow : K.lookup N_NoRow = some ⟨cN_NoRow, dN_NoRow, .dict es_NoRow.toArray ep_NoRow, sN_NoRow⟩) (on_NoRow : (es_NoRow.all fun e => match e.key with | .str _ _ => true | _ => false) = true) {nm_Unlike qn_Unlike : Str} {N_Unlike : Addr} {bs_Unlike sub_Unlike : List Value} {hd_Unlike ab_Unlike : Bool} {sn_Unlike : List Str} {col_Unlike : Option Bool} {dd_Unlike : Option Addr} {j0_Unlike j1_Unlike j2_Unlike j3_Unlike j5_Unlike : Option Value} (lk_Unlike : K.lookup C_Unlike = some (excClassObj nm_Unlike qn_Unlike C_Unlike N_Unlike bs_Unlike (.ref C_SumError :: bmV) hd_Unlike sn_Unlike sub_Unlike ab_Unlike col_Unlike dd_Unlike j0_Unlike j1_Unlike j2_Unlike j3_Unlike j5_Unlike "ValueError.__new__")) (in_Unlike : PySem.W.nsIn K N_Unlike "__init__" = some none) {cN_Unlike : Value} {dN_Unlike : Option Addr} {es_Unlike : List DictEntry} {ep_Unlike : Nat} {sN_Unlike : Array (Option Value)} (ln_Unlike : K.lookup N_Unlike = some ⟨cN_Unlike, dN_Unlike, .dict es_Unlike.toArray ep_Unlike, sN_Unlike⟩) (on_Unlike : (es_Unlike.all fun e => match e.key with | .str _ _ => true | _ => false) = true) {nm_SumError qn_SumError : Str} {N_SumError : Addr} {bs_SumError sub_SumError : List Value} {hd_SumError ab_SumError : Bool} {sn_SumError : List Str} {col_SumError : Option Bool} {dd_SumError : Option Addr} {j0_SumError j1_SumError j2_SumError j3_SumError j5_SumError : Option Value} (lk_SumError : K.lookup C_SumError = some (excClassObj nm_SumError qn_SumError C_SumError N_SumError bs_SumError bmV hd_SumError sn_SumError sub_SumError ab_SumError col_SumError dd_SumError j0_SumError j1_SumError j2_SumError j3_SumError j5_SumError "ValueError.__new__")) (in_SumError : PySem.W.nsIn K N_SumError "__init__" = some none) {cN_SumError : Value} {dN_SumError : Option Addr} {es_SumError : List DictEntry} {ep_SumError : Nat} {sN_SumError : Array (Option Value)} (ln_SumError : K.lookup N_SumError = some ⟨cN_SumError, dN_SumError, .dict es_SumError.toArray ep_SumError, sN_SumError⟩) (on_SumError : (es_SumError.all fun e => match e.key with | .str _ _ => true | _ => false) = true) (et_BadTelling : PySem.W.typeIn K (.ref C_BadTelling) = some (.type "type")) (et_NoFit : PySem.W.typeIn K (.ref C_NoFit) = some (.type "type")) (et_NoNumber : PySem.W.typeIn K (.ref C_NoNumber) = some (.type "type")) (et_NoPlace : PySem.W.typeIn K (.ref C_NoPlace) = some (.type "type")) (et_NotTwos : PySem.W.typeIn K (.ref C_NotTwos) = some (.type "type")) (et_NoPast : PySem.W.typeIn K (.ref C_NoPast) = some (.type "type")) (et_NoText : PySem.W.typeIn K (.ref C_NoText) = some (.type "type")) (et_NoRow : PySem.W.typeIn K (.ref C_NoRow) = some (.type "type")) (et_Unlike : PySem.W.typeIn K (.ref C_Unlike) = some (.type "type")) (et_SumError : PySem.W.typeIn K (.ref C_SumError) = some (.type "type")) (hb_SumError : PySem.W.mroIn K C_SumError (.type "BaseException") = some true) (eb_BadTelling : PySem.W.mroIn K C_BadTelling (.type "BaseException") = some true) (ega_BadTelling : PySem.W.findIn K (.ref C_BadTelling) "__getattribute__" = some (some (.builtin "BaseException.__getattribute__"))) (egt_BadTelling : PySem.W.findIn K (.ref C_BadTelling) "__getattr__" = some none) (ef_BadTelling : PySem.W.findIn K (.ref C_BadTelling) "__class__" = some (some (.builtin "object.__class__"))) (eo_BadTelling : PySem.W.mroIn K C_BadTelling (.type "object") = some true) (q_BadTelling_BadTelling : PySem.W.mroIn K C_BadTelling (.ref C_BadTelling) = some true) (q_BadTelling_SumError : PySem.W.mroIn K C_BadTelling (.ref C_SumError) = some true) (q_BadTelling_NoFit : PySem.W.mroIn K C_BadTelling (.ref C_NoFit) = some false) (q_BadTelling_NoNumber : PySem.W.mroIn K C_BadTelling (.ref C_NoNumber) = some false) (q_BadTelling_NoPast : PySem.W.mroIn K C_BadTelling (.ref C_NoPast) = some false) (q_BadTelling_NoPlace : PySem.W.mroIn K C_BadTelling (.ref C_NoPlace) = some false) (q_BadTelling_NoRow : PySem.W.mroIn K C_BadTelling (.ref C_NoRow) = some false) (q_BadTelling_NoText : PySem.W.mroIn K C_BadTelling (.ref C_NoText) = some false) (q_BadTelling_NotTwos : PySem.W.mroIn K C_BadTelling (.ref C_NotTwos) = some false) (q_BadTelling_Unlike : PySem.W.mroIn K C_BadTelling (.ref C_Unlike) = some false) (q_BadTelling_ValueError : PySem.W.mroIn K C_BadTelling (.type "ValueError") = some true) (eb_NoFit : PySem.W.mroIn K C_NoFit (.type "BaseException") = some true) (ega_NoFit : PySem.W.findIn K (.ref C_NoFit) "__getattribute__" = some (some (.builtin "BaseException.__getattribute__"))) (egt_NoFit : PySem.W.findIn K (.ref C_NoFit) "__getattr__" = some none) (ef_NoFit : PySem.W.findIn K (.ref C_NoFit) "__class__" = some (some (.builtin "object.__class__"))) (eo_NoFit : PySem.W.mroIn K C_NoFit (.type "object") = some true) (q_NoFit_NoFit : PySem.W.mroIn K C_NoFit (.ref C_NoFit) = some true) (q_NoFit_SumError : PySem.W.mroIn K C_NoFit (.ref C_SumError) = some true) (q_NoFit_BadTelling : PySem.W.mroIn K C_NoFit (.ref C_BadTelling) = some false) (q_NoFit_NoNumber : PySem.W.mroIn K C_NoFit (.ref C_NoNumber) = some false) (q_NoFit_NoPast : PySem.W.mroIn K C_NoFit (.ref C_NoPast) = some false) (q_NoFit_NoPlace : PySem.W.mroIn K C_NoFit (.ref C_NoPlace) = some false) (q_NoFit_NoRow : PySem.W.mroIn K C_NoFit (.ref C_NoRow) = some false) (q_NoFit_NoText : PySem.W.mroIn K C_NoFit (.ref C_NoText) = some false) (q_NoFit_NotTwos : PySem.W.mroIn K C_NoFit (.ref C_NotTwos) = some false) (q_NoFit_Unlike : PySem.W.mroIn K C_NoFit (.ref C_Unlike) = some false) (q_NoFit_ValueError : PySem.W.mroIn K C_NoFit (.type "ValueError") = some true) (eb_NoNumber : PySem.W.mroIn K C_NoNumber (.type "BaseException") = some true) (ega_NoNumber : PySem.W.findIn K (.ref C_NoNumber) "__getattribute__" = some (some (.builtin "BaseException.__getattribute__"))) (egt_NoNumber : PySem.W.findIn K (.ref C_NoNumber) "__getattr__" = some none) (ef_NoNumber : PySem.W.findIn K (.ref C_NoNumber) "__class__" = some (some (.builtin "object.__class__"))) (eo_NoNumber : PySem.W.mroIn K C_NoNumber (.type "object") = some true) (q_NoNumber_NoNumber : PySem.W.mroIn K C_NoNumber (.ref C_NoNumber) = some true) (q_NoNumber_SumError : PySem.W.mroIn K C_NoNumber (.ref C_SumError) = some true) (q_NoNumber_BadTelling : PySem.W.mroIn K C_NoNumber (.ref C_BadTelling) = some false) (q_NoNumber_NoFit : PySem.W.mroIn K C_NoNumber (.ref C_NoFit) = some false) (q_NoNumber_NoPast : PySem.W.mroIn K C_NoNumber (.ref C_NoPast) = some false) (q_NoNumber_NoPlace : PySem.W.mroIn K C_NoNumber (.ref C_NoPlace) = some false) (q_NoNumber_NoRow : PySem.W.mroIn K C_NoNumber (.ref C_NoRow) = some false) (q_NoNumber_NoText : PySem.W.mroIn K C_NoNumber (.ref C_NoText) = some false) (q_NoNumber_NotTwos : PySem.W.mroIn K C_NoNumber (.ref C_NotTwos) = some false) (q_NoNumber_Unlike : PySem.W.mroIn K C_NoNumber (.ref C_Unlike) = some false) (q_NoNumber_ValueError : PySem.W.mroIn K C_NoNumber (.type "ValueError") = some true) (eb_NoPlace : PySem.W.mroIn K C_NoPlace (.type "BaseException") = some true) (ega_NoPlace : PySem.W.findIn K (.ref C_NoPlace) "__getattribute__" = some (some (.builtin "BaseException.__getattribute__"))) (egt_NoPlace : PySem.W.findIn K (.ref C_NoPlace) "__getattr__" = some none) (ef_NoPlace : PySem.W.findIn K (.ref C_NoPlace) "__class__" = some (some (.builtin "object.__class__"))) (eo_NoPlace : PySem.W.mroIn K C_NoPlace (.type "object") = some true) (q_NoPlace_NoPlace : PySem.W.mroIn K C_NoPlace (.ref C_NoPlace) = some true) (q_NoPlace_SumError : PySem.W.mroIn K C_NoPlace (.ref C_SumError) = some true) (q_NoPlace_BadTelling : PySem.W.mroIn K C_NoPlace (.ref C_BadTelling) = some false) (q_NoPlace_NoFit : PySem.W.mroIn K C_NoPlace (.ref C_NoFit) = some false) (q_NoPlace_NoNumber : PySem.W.mroIn K C_NoPlace (.ref C_NoNumber) = some false) (q_NoPlace_NoPast : PySem.W.mroIn K C_NoPlace (.ref C_NoPast) = some false) (q_NoPlace_NoRow : PySem.W.mroIn K C_NoPlace (.ref C_NoRow) = some false) (q_NoPlace_NoText : PySem.W.mroIn K C_NoPlace (.ref C_NoText) = some false) (q_NoPlace_NotTwos : PySem.W.mroIn K C_NoPlace (.ref C_NotTwos) = some false) (q_NoPlace_Unlike : PySem.W.mroIn K C_NoPlace (.ref C_Unlike) = some false) (q_NoPlace_ValueError : PySem.W.mroIn K C_NoPlace (.type "ValueError") = some true) (eb_NotTwos : PySem.W.mroIn K C_NotTwos (.type "BaseException") = some true) (ega_NotTwos : PySem.W.findIn K (.ref C_NotTwos) "__getattribute__" = some (some (.builtin "BaseException.__getattribute__"))) (egt_NotTwos : PySem.W.findIn K (.ref C_NotTwos) "__getattr__" = some none) (ef_NotTwos : PySem.W.findIn K (.ref C_NotTwos) "__class__" = some (some (.builtin "object.__class__"))) (eo_NotTwos : PySem.W.mroIn K C_NotTwos (.type "object") = some true) (q_NotTwos_NotTwos : PySem.W.mroIn K C_NotTwos (.ref C_NotTwos) = some true) (q_NotTwos_SumError : PySem.W.mroIn K C_NotTwos (.ref C_SumError) = some true) (q_NotTwos_BadTelling : PySem.W.mroIn K C_NotTwos (.ref C_BadTelling) = some false) (q_NotTwos_NoFit : PySem.W.mroIn K C_NotTwos (.ref C_NoFit) = some false) (q_NotTwos_NoNumber : PySem.W.mroIn K C_NotTwos (.ref C_NoNumber) = some false) (q_NotTwos_NoPast : PySem.W.mroIn K C_NotTwos (.ref C_NoPast) = some false) (q_NotTwos_NoPlace : PySem.W.mroIn K C_NotTwos (.ref C_NoPlace) = some false) (q_NotTwos_NoRow : PySem.W.mroIn K C_NotTwos (.ref C_NoRow) = some false) (q_NotTwos_NoText : PySem.W.mroIn K C_NotTwos (.ref C_NoText) = some false) (q_NotTwos_Unlike : PySem.W.mroIn K C_NotTwos (.ref C_Unlike) = some false) (q_NotTwos_ValueError : PySem.W.mroIn K C_NotTwos (.type "ValueError") = some true) (eb_NoPast : PySem.W.mroIn K C_NoPast (.type "BaseException") = some true) (ega_NoPast : PySem.W.findIn K (.ref C_NoPast) "__getattribute__" = some (some (.builtin "BaseException.__getattribute__"))) (egt_NoPast : PySem.W.findIn K (.ref C_NoPast) "__getattr__" = some none) (ef_NoPast : PySem.W.findIn K (.ref C_NoPast) "__class__" = some (some (.builtin "object.__class__"))) (eo_NoPast : PySem.W.mroIn K C_NoPast (.type "object") = some true) (q_NoPast_NoPast : PySem.W.mroIn K C_NoPast (.ref C_NoPast) = some true) (q_NoPast_SumError : PySem.W.mroIn K C_NoPast (.ref C_SumError) = some true) (q_NoPast_BadTelling : PySem.W.mroIn K C_NoPast (.ref C_BadTelling) = some false) (q_NoPast_NoFit : PySem.W.mroIn K C_NoPast (.ref C_NoFit) = some false) (q_NoPast_NoNumber : PySem.W.mroIn K C_NoPast (.ref C_NoNumber) = some false) (q_NoPast_NoPlace : PySem.W.mroIn K C_NoPast (.ref C_NoPlace) = some false) (q_NoPast_NoRow : PySem.W.mroIn K C_NoPast (.ref C_NoRow) = some false) (q_NoPast_NoText : PySem.W.mroIn K C_NoPast (.ref C_NoText) = some false) (q_NoPast_NotTwos : PySem.W.mroIn K C_NoPast (.ref C_NotTwos) = some false) (q_NoPast_Unlike : PySem.W.mroIn K C_NoPast (.ref C_Unlike) = some false) (q_NoPast_ValueError : PySem.W.mroIn K C_NoPast (.type "ValueError") = some true) (eb_NoText : PySem.W.mroIn K C_NoText (.type "BaseException") = some true) (ega_NoText : PySem.W.findIn K (.ref C_NoText) "__getattribute__" = some (some (.builtin "BaseException.__getattribute__"))) (egt_NoText : PySem.W.findIn K (.ref C_NoText) "__getattr__" = some none) (ef_NoText : PySem.W.findIn K (.ref C_NoText) "__class__" = some (some (.builtin "object.__class__"))) (eo_NoText : PySem.W.mroIn K C_NoText (.type "object") = some true) (q_NoText_NoText : PySem.W.mroIn K C_NoText (.ref C_NoText) = some true) (q_NoText_SumError : PySem.W.mroIn K C_NoText (.ref C_SumError) = some true) (q_NoText_BadTelling : PySem.W.mroIn K C_NoText (.ref C_BadTelling) = some false) (q_NoText_NoFit : PySem.W.mroIn K C_NoText (.ref C_NoFit) = some false) (q_NoText_NoNumber : PySem.W.mroIn K C_NoText (.ref C_NoNumber) = some false) (q_NoText_NoPast : PySem.W.mroIn K C_NoText (.ref C_NoPast) = some false) (q_NoText_NoPlace : PySem.W.mroIn K C_NoText (.ref C_NoPlace) = some false) (q_NoText_NoRow : PySem.W.mroIn K C_NoText (.ref C_NoRow) = some false) (q_NoText_NotTwos : PySem.W.mroIn K C_NoText (.ref C_NotTwos) = some false) (q_NoText_Unlike : PySem.W.mroIn K C_NoText (.ref C_Unlike) = some false) (q_NoText_ValueError : PySem.W.mroIn K C_NoText (.type "ValueError") = some true) (eb_NoRow : PySem.W.mroIn K C_NoRow (.type "BaseException") = some true) (ega_NoRow : PySem.W.findIn K (.ref C_NoRow) "__getattribute__" = some (some (.builtin "BaseException.__getattribute__"))) (egt_NoRow : PySem.W.findIn K (.ref C_NoRow) "__getattr__" = some none) (ef_NoRow : PySem.W.findIn K (.ref C_NoRow) "__class__" = some (some (.builtin "object.__class__"))) (eo_NoRow : PySem.W.mroIn K C_NoRow (.type "object") = some true) (q_NoRow_NoRow : PySem.W.mroIn K C_NoRow (.ref C_NoRow) = some true) (q_NoRow_SumError : PySem.W.mroIn K C_NoRow (.ref C_SumError) = some true) (q_NoRow_BadTelling : PySem.W.mroIn K C_NoRow (.ref C_BadTelling) = some false) (q_NoRow_NoFit : PySem.W.mroIn K C_NoRow (.ref C_NoFit) = some false) (q_NoRow_NoNumber : PySem.W.mroIn K C_NoRow (.ref C_NoNumber) = some false) (q_NoRow_NoPast : PySem.W.mroIn K C_NoRow (.ref C_NoPast) = some false) (q_NoRow_NoPlace : PySem.W.mroIn K C_NoRow (.ref C_NoPlace) = some false) (q_NoRow_NoText : PySem.W.mroIn K C_NoRow (.ref C_NoText) = some false) (q_NoRow_NotTwos : PySem.W.mroIn K C_NoRow (.ref C_NotTwos) = some false) (q_NoRow_Unlike : PySem.W.mroIn K C_NoRow (.ref C_Unlike) = some false) (q_NoRow_ValueError : PySem.W.mroIn K C_NoRow (.type "ValueError") = some true) (eb_Unlike : PySem.W.mroIn K C_Unlike (.type "BaseException") = some true) (ega_Unlike : PySem.W.findIn K (.ref C_Unlike) "__getattribute__" = some (some (.builtin "BaseException.__getattribute__"))) (egt_Unlike : PySem.W.findIn K (.ref C_Unlike) "__getattr__" = some none) (ef_Unlike : PySem.W.findIn K (.ref C_Unlike) "__class__" = some (some (.builtin "object.__class__"))) (eo_Unlike : PySem.W.mroIn K C_Unlike (.type "object") = some true) (q_Unlike_Unlike : PySem.W.mroIn K C_Unlike (.ref C_Unlike) = some true) (q_Unlike_SumError : PySem.W.mroIn K C_Unlike (.ref C_SumError) = some true) (q_Unlike_BadTelling : PySem.W.mroIn K C_Unlike (.ref C_BadTelling) = some false) (q_Unlike_NoFit : PySem.W.mroIn K C_Unlike (.ref C_NoFit) = some false) (q_Unlike_NoNumber : PySem.W.mroIn K C_Unlike (.ref C_NoNumber) = some false) (q_Unlike_NoPast : PySem.W.mroIn K C_Unlike (.ref C_NoPast) = some false) (q_Unlike_NoPlace : PySem.W.mroIn K C_Unlike (.ref C_NoPlace) = some false) (q_Unlike_NoRow : PySem.W.mroIn K C_Unlike (.ref C_NoRow) = some false) (q_Unlike_NoText : PySem.W.mroIn K C_Unlike (.ref C_NoText) = some false) (q_Unlike_NotTwos : PySem.W.mroIn K C_Unlike (.ref C_NotTwos) = some false) (q_Unlike_ValueError : PySem.W.mroIn K C_Unlike (.type "ValueError") = some true) (eb_SumError : PySem.W.mroIn K C_SumError (.type "BaseException") = some true) (ega_SumError : PySem.W.findIn K (.ref C_SumError) "__getattribute__" = some (some (.builtin "BaseException.__getattribute__"))) (egt_SumError : PySem.W.findIn K (.ref C_SumError) "__getattr__" = some none) (ef_SumError : PySem.W.findIn K (.ref C_SumError) "__class__" = some (some (.builtin "object.__class__"))) (eo_SumError : PySem.W.mroIn K C_SumError (.type "object") = some true) (q_SumError_SumError : PySem.W.mroIn K C_SumError (.ref C_SumError) = some true) (q_SumError_BadTelling : PySem.W.mroIn K C_SumError (.ref C_BadTelling) = some false) (q_SumError_NoFit : PySem.W.mroIn K C_SumError (.ref C_NoFit) = some false) (q_SumError_NoNumber : PySem.W.mroIn K C_SumError (.ref C_NoNumber) = some false) (q_SumError_NoPast : PySem.W.mroIn K C_SumError (.ref C_NoPast) = some false) (q_SumError_NoPlace : PySem.W.mroIn K C_SumError (.ref C_NoPlace) = some false) (q_SumError_NoRow : PySem.W.mroIn K C_SumError (.ref C_NoRow) = some false) (q_SumError_NoText : PySem.W.mroIn K C_SumError (.ref C_NoText) = some false) (q_SumError_NotTwos : PySem.W.mroIn K C_SumError (.ref C_NotTwos) = some false) (q_SumError_Unlike : PySem.W.mroIn K C_SumError (.ref C_Unlike) = some false) (q_SumError_ValueError : PySem.W.mroIn K C_SumError (.type "ValueError") = some true) :
    ∃ fd : FuncData, (∀ (s : Shared) (v : Value), BindsTo s fd ⟨[v], []⟩ [("script", v)]) /\ ∀ base : Heap, K.In base -> base.Ns mainGlobals mg -> FnOk l.prog w K mg base CX0 7 fa fd ["script"] (spP K 1 F_law) := by
  have ex_BadTelling : ExcC K C_BadTelling := ⟨exm_base eb_BadTelling, ega_BadTelling, egt_BadTelling, ef_BadTelling, hsp, htk, eo_BadTelling, cls_of lk_BadTelling, et_BadTelling⟩
  have ex_NoFit : ExcC K C_NoFit := ⟨exm_base eb_NoFit, ega_NoFit, egt_NoFit, ef_NoFit, hsp, htk, eo_NoFit, cls_of lk_NoFit, et_NoFit⟩
  have ex_NoNumber : ExcC K C_NoNumber := ⟨exm_base eb_NoNumber, ega_NoNumber, egt_NoNumber, ef_NoNumber, hsp, htk, eo_NoNumber, cls_of lk_NoNumber, et_NoNumber⟩
  have ex_NoPlace : ExcC K C_NoPlace := ⟨exm_base eb_NoPlace, ega_NoPlace, egt_NoPlace, ef_NoPlace, hsp, htk, eo_NoPlace, cls_of lk_NoPlace, et_NoPlace⟩
  have ex_NotTwos : ExcC K C_NotTwos := ⟨exm_base eb_NotTwos, ega_NotTwos, egt_NotTwos, ef_NotTwos, hsp, htk, eo_NotTwos, cls_of lk_NotTwos, et_NotTwos⟩
  have ex_NoPast : ExcC K C_NoPast := ⟨exm_base eb_NoPast, ega_NoPast, egt_NoPast, ef_NoPast, hsp, htk, eo_NoPast, cls_of lk_NoPast, et_NoPast⟩
  have ex_NoText : ExcC K C_NoText := ⟨exm_base eb_NoText, ega_NoText, egt_NoText, ef_NoText, hsp, htk, eo_NoText, cls_of lk_NoText, et_NoText⟩
  have ex_NoRow : ExcC K C_NoRow := ⟨exm_base eb_NoRow, ega_NoRow, egt_NoRow, ef_NoRow, hsp, htk, eo_NoRow, cls_of lk_NoRow, et_NoRow⟩
  have ex_Unlike : ExcC K C_Unlike := ⟨exm_base eb_Unlike, ega_Unlike, egt_Unlike, ef_Unlike, hsp, htk, eo_Unlike, cls_of lk_Unlike, et_Unlike⟩
  have ex_SumError : ExcC K C_SumError := ⟨exm_base eb_SumError, ega_SumError, egt_SumError, ef_SumError, hsp, htk, eo_SumError, cls_of lk_SumError, et_SumError⟩
  have bn : BN K mg := ⟨⟨C_BadTelling, PySem.W.mg_of X G n_BadTelling, n_BadTelling, ownK_two lk_BadTelling lk_SumError in_BadTelling in_SumError (ns_ok ln_BadTelling on_BadTelling) (ns_ok ln_SumError on_SumError)⟩, ⟨C_NoFit, PySem.W.mg_of X G n_NoFit, n_NoFit, ownK_two lk_NoFit lk_SumError in_NoFit in_SumError (ns_ok ln_NoFit on_NoFit) (ns_ok ln_SumError on_SumError)⟩, ⟨C_NoNumber, PySem.W.mg_of X G n_NoNumber, n_NoNumber, ownK_two lk_NoNumber lk_SumError in_NoNumber in_SumError (ns_ok ln_NoNumber on_NoNumber) (ns_ok ln_SumError on_SumError)⟩, ⟨C_NoPlace, PySem.W.mg_of X G n_NoPlace, n_NoPlace, ownK_two lk_NoPlace lk_SumError in_NoPlace in_SumError (ns_ok ln_NoPlace on_NoPlace) (ns_ok ln_SumError on_SumError)⟩, ⟨C_NotTwos, PySem.W.mg_of X G n_NotTwos, n_NotTwos, ownK_two lk_NotTwos lk_SumError in_NotTwos in_SumError (ns_ok ln_NotTwos on_NotTwos) (ns_ok ln_SumError on_SumError)⟩, ⟨C_NoPast, PySem.W.mg_of X G n_NoPast, n_NoPast, ownK_two lk_NoPast lk_SumError in_NoPast in_SumError (ns_ok ln_NoPast on_NoPast) (ns_ok ln_SumError on_SumError)⟩, ⟨C_NoText, PySem.W.mg_of X G n_NoText, n_NoText, ownK_two lk_NoText lk_SumError in_NoText in_SumError (ns_ok ln_NoText on_NoText) (ns_ok ln_SumError on_SumError)⟩, ⟨C_NoRow, PySem.W.mg_of X G n_NoRow, n_NoRow, ownK_two lk_NoRow lk_SumError in_NoRow in_SumError (ns_ok ln_NoRow on_NoRow) (ns_ok ln_SumError on_SumError)⟩, ⟨C_Unlike, PySem.W.mg_of X G n_Unlike, n_Unlike, ownK_two lk_Unlike lk_SumError in_Unlike in_SumError (ns_ok ln_Unlike on_Unlike) (ns_ok ln_SumError on_SumError)⟩, ⟨C_SumError, PySem.W.mg_of X G n_SumError, n_SumError, ownK_one lk_SumError in_SumError (ns_ok ln_SumError on_SumError)⟩, ⟨C_SumError, PySem.W.mg_of X G n_SumError, (cat_cons ⟨C_BadTelling, n_BadTelling, exm_own hb_SumError (cls_of lk_SumError) et_SumError q_BadTelling_SumError⟩ (cat_cons ⟨C_NoFit, n_NoFit, exm_own hb_SumError (cls_of lk_SumError) et_SumError q_NoFit_SumError⟩ (cat_cons ⟨C_NoNumber, n_NoNumber, exm_own hb_SumError (cls_of lk_SumError) et_SumError q_NoNumber_SumError⟩ (cat_cons ⟨C_NoPlace, n_NoPlace, exm_own hb_SumError (cls_of lk_SumError) et_SumError q_NoPlace_SumError⟩ (cat_cons ⟨C_NotTwos, n_NotTwos, exm_own hb_SumError (cls_of lk_SumError) et_SumError q_NotTwos_SumError⟩ (cat_cons ⟨C_NoPast, n_NoPast, exm_own hb_SumError (cls_of lk_SumError) et_SumError q_NoPast_SumError⟩ (cat_cons ⟨C_NoText, n_NoText, exm_own hb_SumError (cls_of lk_SumError) et_SumError q_NoText_SumError⟩ (cat_cons ⟨C_NoRow, n_NoRow, exm_own hb_SumError (cls_of lk_SumError) et_SumError q_NoRow_SumError⟩ (cat_cons ⟨C_Unlike, n_Unlike, exm_own hb_SumError (cls_of lk_SumError) et_SumError q_Unlike_SumError⟩ (cat_cons ⟨C_SumError, n_SumError, exm_own hb_SumError (cls_of lk_SumError) et_SumError q_SumError_SumError⟩ cat_nil))))))))))⟩, ⟨C_BadTelling, PySem.W.mg_of X G n_BadTelling, (tab_cons ⟨C_BadTelling, n_BadTelling, ex_BadTelling, kit_true (cls_of lk_BadTelling) et_BadTelling q_BadTelling_BadTelling⟩ (tab_cons ⟨C_NoFit, n_NoFit, ex_NoFit, kit_false q_NoFit_NoFit (cls_of lk_BadTelling) et_BadTelling q_NoFit_BadTelling⟩ (tab_cons ⟨C_NoNumber, n_NoNumber, ex_NoNumber, kit_false q_NoNumber_NoNumber (cls_of lk_BadTelling) et_BadTelling q_NoNumber_BadTelling⟩ (tab_cons ⟨C_NoPlace, n_NoPlace, ex_NoPlace, kit_false q_NoPlace_NoPlace (cls_of lk_BadTelling) et_BadTelling q_NoPlace_BadTelling⟩ (tab_cons ⟨C_NotTwos, n_NotTwos, ex_NotTwos, kit_false q_NotTwos_NotTwos (cls_of lk_BadTelling) et_BadTelling q_NotTwos_BadTelling⟩ (tab_cons ⟨C_NoPast, n_NoPast, ex_NoPast, kit_false q_NoPast_NoPast (cls_of lk_BadTelling) et_BadTelling q_NoPast_BadTelling⟩ (tab_cons ⟨C_NoText, n_NoText, ex_NoText, kit_false q_NoText_NoText (cls_of lk_BadTelling) et_BadTelling q_NoText_BadTelling⟩ (tab_cons ⟨C_NoRow, n_NoRow, ex_NoRow, kit_false q_NoRow_NoRow (cls_of lk_BadTelling) et_BadTelling q_NoRow_BadTelling⟩ (tab_cons ⟨C_Unlike, n_Unlike, ex_Unlike, kit_false q_Unlike_Unlike (cls_of lk_BadTelling) et_BadTelling q_Unlike_BadTelling⟩ (tab_cons ⟨C_SumError, n_SumError, ex_SumError, kit_false q_SumError_SumError (cls_of lk_BadTelling) et_BadTelling q_SumError_BadTelling⟩ tab_nil))))))))))⟩, ⟨C_NoFit, PySem.W.mg_of X G n_NoFit, (tab_cons ⟨C_BadTelling, n_BadTelling, ex_BadTelling, kit_false q_BadTelling_BadTelling (cls_of lk_NoFit) et_NoFit q_BadTelling_NoFit⟩ (tab_cons ⟨C_NoFit, n_NoFit, ex_NoFit, kit_true (cls_of lk_NoFit) et_NoFit q_NoFit_NoFit⟩ (tab_cons ⟨C_NoNumber, n_NoNumber, ex_NoNumber, kit_false q_NoNumber_NoNumber (cls_of lk_NoFit) et_NoFit q_NoNumber_NoFit⟩ (tab_cons ⟨C_NoPlace, n_NoPlace, ex_NoPlace, kit_false q_NoPlace_NoPlace (cls_of lk_NoFit) et_NoFit q_NoPlace_NoFit⟩ (tab_cons ⟨C_NotTwos, n_NotTwos, ex_NotTwos, kit_false q_NotTwos_NotTwos (cls_of lk_NoFit) et_NoFit q_NotTwos_NoFit⟩ (tab_cons ⟨C_NoPast, n_NoPast, ex_NoPast, kit_false q_NoPast_NoPast (cls_of lk_NoFit) et_NoFit q_NoPast_NoFit⟩ (tab_cons ⟨C_NoText, n_NoText, ex_NoText, kit_false q_NoText_NoText (cls_of lk_NoFit) et_NoFit q_NoText_NoFit⟩ (tab_cons ⟨C_NoRow, n_NoRow, ex_NoRow, kit_false q_NoRow_NoRow (cls_of lk_NoFit) et_NoFit q_NoRow_NoFit⟩ (tab_cons ⟨C_Unlike, n_Unlike, ex_Unlike, kit_false q_Unlike_Unlike (cls_of lk_NoFit) et_NoFit q_Unlike_NoFit⟩ (tab_cons ⟨C_SumError, n_SumError, ex_SumError, kit_false q_SumError_SumError (cls_of lk_NoFit) et_NoFit q_SumError_NoFit⟩ tab_nil))))))))))⟩, ⟨C_NoNumber, PySem.W.mg_of X G n_NoNumber, (tab_cons ⟨C_BadTelling, n_BadTelling, ex_BadTelling, kit_false q_BadTelling_BadTelling (cls_of lk_NoNumber) et_NoNumber q_BadTelling_NoNumber⟩ (tab_cons ⟨C_NoFit, n_NoFit, ex_NoFit, kit_false q_NoFit_NoFit (cls_of lk_NoNumber) et_NoNumber q_NoFit_NoNumber⟩ (tab_cons ⟨C_NoNumber, n_NoNumber, ex_NoNumber, kit_true (cls_of lk_NoNumber) et_NoNumber q_NoNumber_NoNumber⟩ (tab_cons ⟨C_NoPlace, n_NoPlace, ex_NoPlace, kit_false q_NoPlace_NoPlace (cls_of lk_NoNumber) et_NoNumber q_NoPlace_NoNumber⟩ (tab_cons ⟨C_NotTwos, n_NotTwos, ex_NotTwos, kit_false q_NotTwos_NotTwos (cls_of lk_NoNumber) et_NoNumber q_NotTwos_NoNumber⟩ (tab_cons ⟨C_NoPast, n_NoPast, ex_NoPast, kit_false q_NoPast_NoPast (cls_of lk_NoNumber) et_NoNumber q_NoPast_NoNumber⟩ (tab_cons ⟨C_NoText, n_NoText, ex_NoText, kit_false q_NoText_NoText (cls_of lk_NoNumber) et_NoNumber q_NoText_NoNumber⟩ (tab_cons ⟨C_NoRow, n_NoRow, ex_NoRow, kit_false q_NoRow_NoRow (cls_of lk_NoNumber) et_NoNumber q_NoRow_NoNumber⟩ (tab_cons ⟨C_Unlike, n_Unlike, ex_Unlike, kit_false q_Unlike_Unlike (cls_of lk_NoNumber) et_NoNumber q_Unlike_NoNumber⟩ (tab_cons ⟨C_SumError, n_SumError, ex_SumError, kit_false q_SumError_SumError (cls_of lk_NoNumber) et_NoNumber q_SumError_NoNumber⟩ tab_nil))))))))))⟩, ⟨C_NoPast, PySem.W.mg_of X G n_NoPast, (tab_cons ⟨C_BadTelling, n_BadTelling, ex_BadTelling, kit_false q_BadTelling_BadTelling (cls_of lk_NoPast) et_NoPast q_BadTelling_NoPast⟩ (tab_cons ⟨C_NoFit, n_NoFit, ex_NoFit, kit_false q_NoFit_NoFit (cls_of lk_NoPast) et_NoPast q_NoFit_NoPast⟩ (tab_cons ⟨C_NoNumber, n_NoNumber, ex_NoNumber, kit_false q_NoNumber_NoNumber (cls_of lk_NoPast) et_NoPast q_NoNumber_NoPast⟩ (tab_cons ⟨C_NoPlace, n_NoPlace, ex_NoPlace, kit_false q_NoPlace_NoPlace (cls_of lk_NoPast) et_NoPast q_NoPlace_NoPast⟩ (tab_cons ⟨C_NotTwos, n_NotTwos, ex_NotTwos, kit_false q_NotTwos_NotTwos (cls_of lk_NoPast) et_NoPast q_NotTwos_NoPast⟩ (tab_cons ⟨C_NoPast, n_NoPast, ex_NoPast, kit_true (cls_of lk_NoPast) et_NoPast q_NoPast_NoPast⟩ (tab_cons ⟨C_NoText, n_NoText, ex_NoText, kit_false q_NoText_NoText (cls_of lk_NoPast) et_NoPast q_NoText_NoPast⟩ (tab_cons ⟨C_NoRow, n_NoRow, ex_NoRow, kit_false q_NoRow_NoRow (cls_of lk_NoPast) et_NoPast q_NoRow_NoPast⟩ (tab_cons ⟨C_Unlike, n_Unlike, ex_Unlike, kit_false q_Unlike_Unlike (cls_of lk_NoPast) et_NoPast q_Unlike_NoPast⟩ (tab_cons ⟨C_SumError, n_SumError, ex_SumError, kit_false q_SumError_SumError (cls_of lk_NoPast) et_NoPast q_SumError_NoPast⟩ tab_nil))))))))))⟩, ⟨C_NoPlace, PySem.W.mg_of X G n_NoPlace, (tab_cons ⟨C_BadTelling, n_BadTelling, ex_BadTelling, kit_false q_BadTelling_BadTelling (cls_of lk_NoPlace) et_NoPlace q_BadTelling_NoPlace⟩ (tab_cons ⟨C_NoFit, n_NoFit, ex_NoFit, kit_false q_NoFit_NoFit (cls_of lk_NoPlace) et_NoPlace q_NoFit_NoPlace⟩ (tab_cons ⟨C_NoNumber, n_NoNumber, ex_NoNumber, kit_false q_NoNumber_NoNumber (cls_of lk_NoPlace) et_NoPlace q_NoNumber_NoPlace⟩ (tab_cons ⟨C_NoPlace, n_NoPlace, ex_NoPlace, kit_true (cls_of lk_NoPlace) et_NoPlace q_NoPlace_NoPlace⟩ (tab_cons ⟨C_NotTwos, n_NotTwos, ex_NotTwos, kit_false q_NotTwos_NotTwos (cls_of lk_NoPlace) et_NoPlace q_NotTwos_NoPlace⟩ (tab_cons ⟨C_NoPast, n_NoPast, ex_NoPast, kit_false q_NoPast_NoPast (cls_of lk_NoPlace) et_NoPlace q_NoPast_NoPlace⟩ (tab_cons ⟨C_NoText, n_NoText, ex_NoText, kit_false q_NoText_NoText (cls_of lk_NoPlace) et_NoPlace q_NoText_NoPlace⟩ (tab_cons ⟨C_NoRow, n_NoRow, ex_NoRow, kit_false q_NoRow_NoRow (cls_of lk_NoPlace) et_NoPlace q_NoRow_NoPlace⟩ (tab_cons ⟨C_Unlike, n_Unlike, ex_Unlike, kit_false q_Unlike_Unlike (cls_of lk_NoPlace) et_NoPlace q_Unlike_NoPlace⟩ (tab_cons ⟨C_SumError, n_SumError, ex_SumError, kit_false q_SumError_SumError (cls_of lk_NoPlace) et_NoPlace q_SumError_NoPlace⟩ tab_nil))))))))))⟩, ⟨C_NoRow, PySem.W.mg_of X G n_NoRow, (tab_cons ⟨C_BadTelling, n_BadTelling, ex_BadTelling, kit_false q_BadTelling_BadTelling (cls_of lk_NoRow) et_NoRow q_BadTelling_NoRow⟩ (tab_cons ⟨C_NoFit, n_NoFit, ex_NoFit, kit_false q_NoFit_NoFit (cls_of lk_NoRow) et_NoRow q_NoFit_NoRow⟩ (tab_cons ⟨C_NoNumber, n_NoNumber, ex_NoNumber, kit_false q_NoNumber_NoNumber (cls_of lk_NoRow) et_NoRow q_NoNumber_NoRow⟩ (tab_cons ⟨C_NoPlace, n_NoPlace, ex_NoPlace, kit_false q_NoPlace_NoPlace (cls_of lk_NoRow) et_NoRow q_NoPlace_NoRow⟩ (tab_cons ⟨C_NotTwos, n_NotTwos, ex_NotTwos, kit_false q_NotTwos_NotTwos (cls_of lk_NoRow) et_NoRow q_NotTwos_NoRow⟩ (tab_cons ⟨C_NoPast, n_NoPast, ex_NoPast, kit_false q_NoPast_NoPast (cls_of lk_NoRow) et_NoRow q_NoPast_NoRow⟩ (tab_cons ⟨C_NoText, n_NoText, ex_NoText, kit_false q_NoText_NoText (cls_of lk_NoRow) et_NoRow q_NoText_NoRow⟩ (tab_cons ⟨C_NoRow, n_NoRow, ex_NoRow, kit_true (cls_of lk_NoRow) et_NoRow q_NoRow_NoRow⟩ (tab_cons ⟨C_Unlike, n_Unlike, ex_Unlike, kit_false q_Unlike_Unlike (cls_of lk_NoRow) et_NoRow q_Unlike_NoRow⟩ (tab_cons ⟨C_SumError, n_SumError, ex_SumError, kit_false q_SumError_SumError (cls_of lk_NoRow) et_NoRow q_SumError_NoRow⟩ tab_nil))))))))))⟩, ⟨C_NoText, PySem.W.mg_of X G n_NoText, (tab_cons ⟨C_BadTelling, n_BadTelling, ex_BadTelling, kit_false q_BadTelling_BadTelling (cls_of lk_NoText) et_NoText q_BadTelling_NoText⟩ (tab_cons ⟨C_NoFit, n_NoFit, ex_NoFit, kit_false q_NoFit_NoFit (cls_of lk_NoText) et_NoText q_NoFit_NoText⟩ (tab_cons ⟨C_NoNumber, n_NoNumber, ex_NoNumber, kit_false q_NoNumber_NoNumber (cls_of lk_NoText) et_NoText q_NoNumber_NoText⟩ (tab_cons ⟨C_NoPlace, n_NoPlace, ex_NoPlace, kit_false q_NoPlace_NoPlace (cls_of lk_NoText) et_NoText q_NoPlace_NoText⟩ (tab_cons ⟨C_NotTwos, n_NotTwos, ex_NotTwos, kit_false q_NotTwos_NotTwos (cls_of lk_NoText) et_NoText q_NotTwos_NoText⟩ (tab_cons ⟨C_NoPast, n_NoPast, ex_NoPast, kit_false q_NoPast_NoPast (cls_of lk_NoText) et_NoText q_NoPast_NoText⟩ (tab_cons ⟨C_NoText, n_NoText, ex_NoText, kit_true (cls_of lk_NoText) et_NoText q_NoText_NoText⟩ (tab_cons ⟨C_NoRow, n_NoRow, ex_NoRow, kit_false q_NoRow_NoRow (cls_of lk_NoText) et_NoText q_NoRow_NoText⟩ (tab_cons ⟨C_Unlike, n_Unlike, ex_Unlike, kit_false q_Unlike_Unlike (cls_of lk_NoText) et_NoText q_Unlike_NoText⟩ (tab_cons ⟨C_SumError, n_SumError, ex_SumError, kit_false q_SumError_SumError (cls_of lk_NoText) et_NoText q_SumError_NoText⟩ tab_nil))))))))))⟩, ⟨C_NotTwos, PySem.W.mg_of X G n_NotTwos, (tab_cons ⟨C_BadTelling, n_BadTelling, ex_BadTelling, kit_false q_BadTelling_BadTelling (cls_of lk_NotTwos) et_NotTwos q_BadTelling_NotTwos⟩ (tab_cons ⟨C_NoFit, n_NoFit, ex_NoFit, kit_false q_NoFit_NoFit (cls_of lk_NotTwos) et_NotTwos q_NoFit_NotTwos⟩ (tab_cons ⟨C_NoNumber, n_NoNumber, ex_NoNumber, kit_false q_NoNumber_NoNumber (cls_of lk_NotTwos) et_NotTwos q_NoNumber_NotTwos⟩ (tab_cons ⟨C_NoPlace, n_NoPlace, ex_NoPlace, kit_false q_NoPlace_NoPlace (cls_of lk_NotTwos) et_NotTwos q_NoPlace_NotTwos⟩ (tab_cons ⟨C_NotTwos, n_NotTwos, ex_NotTwos, kit_true (cls_of lk_NotTwos) et_NotTwos q_NotTwos_NotTwos⟩ (tab_cons ⟨C_NoPast, n_NoPast, ex_NoPast, kit_false q_NoPast_NoPast (cls_of lk_NotTwos) et_NotTwos q_NoPast_NotTwos⟩ (tab_cons ⟨C_NoText, n_NoText, ex_NoText, kit_false q_NoText_NoText (cls_of lk_NotTwos) et_NotTwos q_NoText_NotTwos⟩ (tab_cons ⟨C_NoRow, n_NoRow, ex_NoRow, kit_false q_NoRow_NoRow (cls_of lk_NotTwos) et_NotTwos q_NoRow_NotTwos⟩ (tab_cons ⟨C_Unlike, n_Unlike, ex_Unlike, kit_false q_Unlike_Unlike (cls_of lk_NotTwos) et_NotTwos q_Unlike_NotTwos⟩ (tab_cons ⟨C_SumError, n_SumError, ex_SumError, kit_false q_SumError_SumError (cls_of lk_NotTwos) et_NotTwos q_SumError_NotTwos⟩ tab_nil))))))))))⟩, ⟨C_SumError, PySem.W.mg_of X G n_SumError, (tab_cons ⟨C_BadTelling, n_BadTelling, ex_BadTelling, kit_true (cls_of lk_SumError) et_SumError q_BadTelling_SumError⟩ (tab_cons ⟨C_NoFit, n_NoFit, ex_NoFit, kit_true (cls_of lk_SumError) et_SumError q_NoFit_SumError⟩ (tab_cons ⟨C_NoNumber, n_NoNumber, ex_NoNumber, kit_true (cls_of lk_SumError) et_SumError q_NoNumber_SumError⟩ (tab_cons ⟨C_NoPlace, n_NoPlace, ex_NoPlace, kit_true (cls_of lk_SumError) et_SumError q_NoPlace_SumError⟩ (tab_cons ⟨C_NotTwos, n_NotTwos, ex_NotTwos, kit_true (cls_of lk_SumError) et_SumError q_NotTwos_SumError⟩ (tab_cons ⟨C_NoPast, n_NoPast, ex_NoPast, kit_true (cls_of lk_SumError) et_SumError q_NoPast_SumError⟩ (tab_cons ⟨C_NoText, n_NoText, ex_NoText, kit_true (cls_of lk_SumError) et_SumError q_NoText_SumError⟩ (tab_cons ⟨C_NoRow, n_NoRow, ex_NoRow, kit_true (cls_of lk_SumError) et_SumError q_NoRow_SumError⟩ (tab_cons ⟨C_Unlike, n_Unlike, ex_Unlike, kit_true (cls_of lk_SumError) et_SumError q_Unlike_SumError⟩ (tab_cons ⟨C_SumError, n_SumError, ex_SumError, kit_true (cls_of lk_SumError) et_SumError q_SumError_SumError⟩ tab_nil))))))))))⟩, ⟨C_Unlike, PySem.W.mg_of X G n_Unlike, (tab_cons ⟨C_BadTelling, n_BadTelling, ex_BadTelling, kit_false q_BadTelling_BadTelling (cls_of lk_Unlike) et_Unlike q_BadTelling_Unlike⟩ (tab_cons ⟨C_NoFit, n_NoFit, ex_NoFit, kit_false q_NoFit_NoFit (cls_of lk_Unlike) et_Unlike q_NoFit_Unlike⟩ (tab_cons ⟨C_NoNumber, n_NoNumber, ex_NoNumber, kit_false q_NoNumber_NoNumber (cls_of lk_Unlike) et_Unlike q_NoNumber_Unlike⟩ (tab_cons ⟨C_NoPlace, n_NoPlace, ex_NoPlace, kit_false q_NoPlace_NoPlace (cls_of lk_Unlike) et_Unlike q_NoPlace_Unlike⟩ (tab_cons ⟨C_NotTwos, n_NotTwos, ex_NotTwos, kit_false q_NotTwos_NotTwos (cls_of lk_Unlike) et_Unlike q_NotTwos_Unlike⟩ (tab_cons ⟨C_NoPast, n_NoPast, ex_NoPast, kit_false q_NoPast_NoPast (cls_of lk_Unlike) et_Unlike q_NoPast_Unlike⟩ (tab_cons ⟨C_NoText, n_NoText, ex_NoText, kit_false q_NoText_NoText (cls_of lk_Unlike) et_Unlike q_NoText_Unlike⟩ (tab_cons ⟨C_NoRow, n_NoRow, ex_NoRow, kit_false q_NoRow_NoRow (cls_of lk_Unlike) et_Unlike q_NoRow_Unlike⟩ (tab_cons ⟨C_Unlike, n_Unlike, ex_Unlike, kit_true (cls_of lk_Unlike) et_Unlike q_Unlike_Unlike⟩ (tab_cons ⟨C_SumError, n_SumError, ex_SumError, kit_false q_SumError_SumError (cls_of lk_Unlike) et_Unlike q_SumError_Unlike⟩ tab_nil))))))))))⟩, (tab_cons ⟨C_BadTelling, n_BadTelling, ex_BadTelling, kit_type (by decide +kernel) q_BadTelling_ValueError⟩ (tab_cons ⟨C_NoFit, n_NoFit, ex_NoFit, kit_type (by decide +kernel) q_NoFit_ValueError⟩ (tab_cons ⟨C_NoNumber, n_NoNumber, ex_NoNumber, kit_type (by decide +kernel) q_NoNumber_ValueError⟩ (tab_cons ⟨C_NoPlace, n_NoPlace, ex_NoPlace, kit_type (by decide +kernel) q_NoPlace_ValueError⟩ (tab_cons ⟨C_NotTwos, n_NotTwos, ex_NotTwos, kit_type (by decide +kernel) q_NotTwos_ValueError⟩ (tab_cons ⟨C_NoPast, n_NoPast, ex_NoPast, kit_type (by decide +kernel) q_NoPast_ValueError⟩ (tab_cons ⟨C_NoText, n_NoText, ex_NoText, kit_type (by decide +kernel) q_NoText_ValueError⟩ (tab_cons ⟨C_NoRow, n_NoRow, ex_NoRow, kit_type (by decide +kernel) q_NoRow_ValueError⟩ (tab_cons ⟨C_Unlike, n_Unlike, ex_Unlike, kit_type (by decide +kernel) q_Unlike_ValueError⟩ (tab_cons ⟨C_SumError, n_SumError, ex_SumError, kit_type (by decide +kernel) q_SumError_ValueError⟩ tab_nil)))))))))), PySem.W.mg_none_of X G z0, PySem.W.mg_none_of X G z1, PySem.W.mg_none_of X G z2, PySem.W.mg_none_of X G z3, PySem.W.mg_none_of X G z4, PySem.W.mg_none_of X G z5, PySem.W.mg_none_of X G z6, PySem.W.mg_none_of X G z7, PySem.W.mg_none_of X G z8, PySem.W.mg_none_of X G z9, PySem.W.mg_none_of X G z10, PySem.W.mg_none_of X G z11, PySem.W.mg_none_of X G z12, ⟨_, PySem.W.mg_of X G y0⟩⟩
  obtain ⟨a, b, c, d, e, f, T⟩ := h21.law X G hfa
  refine ⟨PySem.W.fnOf "law" "law" (defArgs st_law) (defBody st_law) (defScope st_law) .none a b c d e f, fun s v => .of_eq rfl, fun base _ _ => ?_⟩
  have fd_row_within := ok_row_within (P := l.prog) (w := w) (base := base) X G bn  h1
  have fd_bounds_right := ok_bounds_right (P := l.prog) (w := w) (base := base) X G bn fd_row_within h2
  have fd_k_right := ok_k_right (P := l.prog) (w := w) (base := base) X G bn  h3
  have fd_line_parts_right := ok_line_parts_right (P := l.prog) (w := w) (base := base) X G bn fd_bounds_right fd_k_right h4
  have fd_ring_parts_right := ok_ring_parts_right (P := l.prog) (w := w) (base := base) X G bn fd_bounds_right fd_k_right h5
  have fd_made_line := ok_made_line (P := l.prog) (w := w) (base := base) X G bn fd_line_parts_right h6
  have fdx_made_line := okx_made_line (P := l.prog) (w := w) (base := base) X G bn fd_line_parts_right h6
  have fd_made_ring := ok_made_ring (P := l.prog) (w := w) (base := base) X G bn fd_ring_parts_right h7
  have fdx_made_ring := okx_made_ring (P := l.prog) (w := w) (base := base) X G bn fd_ring_parts_right h7
  have fd__law_pot := ok__law_pot (P := l.prog) (w := w) (base := base) X G bn  h8
  have fd__law_take := ok__law_take (P := l.prog) (w := w) (base := base) X G bn  h9
  have fd__law_row := ok__law_row (P := l.prog) (w := w) (base := base) X G bn fd__law_take h10
  have fd__law_bounds := ok__law_bounds (P := l.prog) (w := w) (base := base) X G bn fd__law_take h11
  have fd__law_are_bounds := ok__law_are_bounds (P := l.prog) (w := w) (base := base) X G bn  h12
  have fd__law_is_line := ok__law_is_line (P := l.prog) (w := w) (base := base) X G bn fd__law_are_bounds h13
  have fd__law_is_ring := ok__law_is_ring (P := l.prog) (w := w) (base := base) X G bn fd__law_are_bounds h14
  have fd__law_bent_row := ok__law_bent_row (P := l.prog) (w := w) (base := base) X G bn fd__law_take h15
  have fd__law_kinds := ok__law_kinds (P := l.prog) (w := w) (base := base) X G bn  h16
  have fd__law_alone := ok__law_alone (P := l.prog) (w := w) (base := base) X G bn fd__law_kinds h17
  have fd__law_apart := ok__law_apart (P := l.prog) (w := w) (base := base) X G bn fd__law_alone fd__law_kinds h18
  have fd__law_made := ok__law_made (P := l.prog) (w := w) (base := base) X G bn fd_made_line fd_made_ring fdx_made_line fdx_made_ring h19
  have fd__law_right := ok__law_right (P := l.prog) (w := w) (base := base) X G bn fd__law_alone fd__law_is_line fd__law_is_ring fd__law_made h20
  exact ok_law X G bn fd__law_apart fd__law_bent_row fd__law_bounds fd__law_pot fd__law_right fd__law_row fd__law_take T
theorem walk {l : PySem.W.OpenLaw} {q : Program} {loose : List Str} {XP : (Str -> Option Value) -> Heap -> Prop} {YP : World -> Heap -> Prop} {d : DefRec} {K : Params -> PySem.W.Frag} (hn : l.most = some 63) (hdf : d.params.defaults = [])
    (hm : ∀ ns : List Int, ns.length <= 63 -> F_law [.scr ns] = some (.val (.bl true)))
    (hY : ∀ (w : World) (h : Heap), YP w h -> (K w.params).In h)
    (F : ∀ (w : World) (mg : Str -> Option Value) (fa : Addr) (h : Heap), (K w.params).In h -> h.Ns mainGlobals mg -> mg d.name = some (.ref fa) ->
      ∃ fd : FuncData, (∀ (s : Shared) (u : Value), BindsTo s fd ⟨[u], []⟩ [("script", u)]) /\ ∀ base : Heap, (K w.params).In base -> base.Ns mainGlobals mg -> FnOk l.prog w (K w.params) mg base CX0 7 fa fd ["script"] (spP (K w.params) 1 F_law)) :
    PySem.W.WalkO q loose XP YP l.row.toRowW d [] (fun f vs => PySem.call f vs) :=
  L2.walk_of (n := 63) (k := 7) (x := "script") (CX := fun _ => CX0) (sp := fun w => spP (K w.params) 1 F_law) hn (by decide) hdf ⟨rfl, by decide, by decide, rfl⟩ hY F
    (fun w H a ns hl _ hS => ⟨H, [.scr ns], .val (.bl true), hm ns hl, rfl, Fz.refl H, .cons ⟨a, rfl, hS⟩ .nil, fun _ _ _ _ _ _ _ rr => rr⟩) fun _ _ _ _ _ z => z
end Prf
set_option exponentiation.threshold 5000
namespace Prf
open L2 M PySem
variable {d : D} {ds : List D} {w dp n p : Nat} {i m z : Int} {r : Nat -> Int} {Q : D × R -> Prop} {l A B C : List Int}
structure PG (d : D) (w dp : Nat) : Prop where
  no : noS d = true
  sh : (toPy d).showable = true
  ls : (toPy d).leavesShort 100 = true
  wt : (toPy d).weight <= w
  de : (toPy d).depth <= dp
structure PGL (ds : List D) (w dp : Nat) : Prop where
  no : noSL ds = true
  sh : PyData.showableAll (toPyL ds) = true
  ls : PyData.leavesShortAll 100 (toPyL ds) = true
  wt : PyData.weightAll (toPyL ds) <= w
  de : PyData.depthAll (toPyL ds) <= dp
theorem PGL.nil (dp : Nat) : PGL [] 0 dp := ⟨rfl, rfl, rfl, Nat.le_refl _, Nat.zero_le _⟩
theorem PGL.cons {d : D} {w1 w2 dp : Nat} (h : PG d w1 dp) (t : PGL ds w2 dp) : PGL (d :: ds) (w1 + 1 + w2) dp := by
  refine ⟨?_, ?_, ?_, ?_, ?_⟩
  . rw [noSL, h.no, t.no]; rfl
  . rw [toPyL, PyData.showableAll, h.sh, t.sh]; rfl
  . rw [toPyL, PyData.leavesShortAll, h.ls, t.ls]; rfl
  . rw [toPyL, PyData.weightAll]; have := h.wt; have := t.wt; lia
  . rw [toPyL, PyData.depthAll]; have := h.de; have := t.de; lia
theorem PGL.mono {w w' dp dp' : Nat} (h : PGL ds w dp) (hw : w <= w') (hd : dp <= dp') : PGL ds w' dp' := ⟨h.no, h.sh, h.ls, Nat.le_trans h.wt hw, Nat.le_trans h.de hd⟩
theorem PG.mono {w w' dp dp' : Nat} (h : PG d w dp) (hw : w <= w') (hd : dp <= dp') : PG d w' dp' := ⟨h.no, h.sh, h.ls, Nat.le_trans h.wt hw, Nat.le_trans h.de hd⟩
theorem PGL.all {w dp : Nat} : ∀ {ds : List D}, (∀ d ∈ ds, PG d w dp) -> PGL ds ((w + 1) * ds.length) dp
  | [], _ => PGL.nil dp
  | d :: ds, h => by
    have t := PGL.all (w := w) (dp := dp) (ds := ds) fun x hx => h x (List.mem_cons_of_mem _ hx)
    refine (PGL.cons (h d List.mem_cons_self) t).mono ?_ (Nat.le_refl _)
    rw [List.length_cons, Nat.mul_succ]; lia
theorem PGL.lst (h : PGL ds w dp) : PG (.lst ds) w (dp + 1) := by
  refine ⟨by rw [noS]; exact h.no, by rw [toPy, PyData.showable]; exact h.sh, by rw [toPy, PyData.leavesShort]; exact h.ls, by rw [toPy, PyData.weight]; exact h.wt, by rw [toPy, PyData.depth]; have := h.de; lia⟩
theorem log_lt {n k : Nat} (h : n < 2 ^ k) (hk : 0 < k) : n.log2 < k := by
  rcases Nat.eq_zero_or_pos n with h0 | hp
  . rw [h0]; simpa using hk
  . exact (Nat.log2_lt (Nat.ne_of_gt hp)).mpr h
theorem PG.int (h : i.natAbs < 10 ^ 70) : PG (.int i) 240 0 := by
  have h60 : (10 : Nat) ^ 70 <= 2 ^ 240 := by decide
  have hl : i.natAbs.log2 < 240 := log_lt (Nat.lt_of_lt_of_le h h60) (by decide)
  refine ⟨rfl, ?_, ?_, ?_, ?_⟩
  . rw [toPy, PyData.showable]; exact decide_eq_true (by lia)
  . rw [toPy, PyData.leavesShort]
    refine decide_eq_true ?_
    have := int_text_length_le10 (a := i) (k := 70) (by decide) h
    show (Str.ofString (toString i)).length <= 100
    rw [ofString_length]; lia
  . rw [toPy, PyData.weight]; split <;> lia
  . rw [toPy, PyData.depth]; exact Nat.le_refl 0
def lD (l : List Int) : D := .lst (l.map D.int)
def Sm (l : List Int) : Prop := l.length <= 60 /\ ∀ x ∈ l, -(10 ^ 61) < x /\ x < 10 ^ 61
theorem str3 {a b c : List Int} (ha : Sm a) (hb : Sm b) (hc : Sm c) : ∃ s, dStr [.lst [lD a, lD b, lD c]] = some (.str s) := by
  have row : ∀ l : List Int, Sm l -> PG (lD l) (241 * 60) 1 := fun l hl => by
    have := PGL.all (w := 240) (dp := 0) (ds := l.map D.int) fun d hd => by
      obtain ⟨x, hx, rfl⟩ := List.mem_map.mp hd
      have := hl.2 x hx
      exact PG.int (by lia)
    rw [List.length_map] at this
    exact this.lst.mono (Nat.mul_le_mul_left _ hl.1) (Nat.le_refl _)
  have all := (PGL.cons (row a ha) (PGL.cons (row b hb) (PGL.cons (row c hc) (PGL.nil 1)))).lst
  have ok : shOk (.lst [lD a, lD b, lD c]) = true := by
    unfold shOk
    rw [all.no, all.sh, all.ls, decide_eq_true (Nat.le_trans all.wt (by decide)), decide_eq_true (Nat.le_trans all.de (by decide))]
    rfl
  refine ⟨(toPy (.lst [lD a, lD b, lD c])).shown, ?_⟩
  show (if shOk (.lst [lD a, lD b, lD c]) = true then _ else none) = _
  rw [if_pos ok]
def Pot (ds : List D) : Prop := ∃ p : Int, ds = [.int p]
theorem take_ok (h : Pot ds) (h0 : 0 < m) (h1 : m < 2 ^ 250) : Ok (F__law_take ds [.int m]) fun r => ∃ (i : Nat) (ds' : List D), (i : Int) < m /\ Pot ds' /\ r = (.val (.int i), ds') := by
  obtain ⟨p, rfl⟩ := h
  simp! only [↓F__law_take, ↓m__law_take]
  have m0 := Int.emod_nonneg p (Int.ne_of_gt h0)
  refine ⟨h0, divOk_big h0 h1, (p % m).toNat, [.int (p / m)], ?_, ⟨_, rfl⟩, ?_⟩
  . have := Int.emod_lt_of_pos p h0; lia
  . rw [show (((p % m).toNat : Nat) : Int) = p % m by lia]
theorem pot_ok (ns : List Int) (k : Nat) (hk : k < 64) : Ok (F__law_pot [.scr ns, .int k]) fun r => ∃ ds, Pot ds /\ r = .own ds := by
  have last : ∀ c : Int, Ok (rs__law_pot_3 [.val (.scr ns), .val (.int k), .val (.int c), .emp, .emp, .emp]) fun p => ∃ ds a, Pot ds /\ p = (.ret (.own ds), a) := fun c => by
    simp! only [↓rs__law_pot_3]
    refine ⟨fun _ => ⟨by decide +kernel, by decide +kernel, by decide +kernel, _, _, ⟨_, rfl⟩, rfl⟩, fun _ => ?_⟩
    simp! only [↓rs__law_pot_2, ↓lp__law_pot_1]
    refine ⟨mulOk_l (by decide), rfl, ok_forW (fun _ ρ => ∃ (a b : Int) (s5 : Sl), 0 <= b /\ b < 4294967296 /\ ρ = [.val (.scr ns), .val (.int k), .val (.int c), .val (.int a), .val (.int b), s5]) ⟨0, _, .emp, by lia, by lia, rfl⟩ ?_ ?_⟩
    . rintro i _ hi ⟨a, b, s5, b0, b1, rfl⟩
      simp! only [↓lb__law_pot_1]
      have e1 : 0 <= (b * 48271 + 7919 * (i : Int) + 104729) % 2147483647 := Int.emod_nonneg _ (by decide)
      have e2 : (b * 48271 + 7919 * (i : Int) + 104729) % 2147483647 < 2147483647 := Int.emod_lt_of_pos _ (by decide)
      exact ⟨mulOk_l (by lia), mulOk_l (by decide), mulOk_r (by decide), mulOk_l (by lia), by decide +kernel, _, _, _, e1, by lia, rfl⟩
    . rintro _ ⟨a, b, s5, _, _, rfl⟩
      simp! only []
      exact ⟨_, _, ⟨_, rfl⟩, rfl⟩
  simp! only [↓F__law_pot, ↓m__law_pot]
  refine ⟨fun h => ?_, fun h => ?_⟩
  . rw [List.getElem?_eq_getElem (show k < ns.length by lia)]
    simp! only []
    refine (last _).mono ?_
    rintro _ ⟨d, a, h, rfl⟩
    simp! only []
    exact ⟨_, h, rfl⟩
  . refine (last _).mono ?_
    rintro _ ⟨d, a, h, rfl⟩
    simp! only []
    exact ⟨_, h, rfl⟩
def Bd (m : Int) (x : Int) : Prop := -m < x /\ x < m
theorem law_row_ok (h : Pot ds) (n : Nat) (hn : n <= 1000) : Ok (F__law_row ds [.int n]) fun x => ∃ (r : Nat -> Int) (ds' : List D), Pot ds' /\ (∀ i, i < n -> Bd (8 * 10 ^ 58) (r i)) /\ x = (.own (wI n r), ds') := by
  simp! only [↓F__law_row, ↓m__law_row]
  refine (take_ok h (m := 5) (by lia) (by lia)).mono ?_
  rintro _ ⟨way, d1, hw, h1, rfl⟩
  simp! only [↓lp__law_row_1]
  refine ⟨smallI_of (by lia) (by lia), ok_forW (fun i ρ => ∃ (r : Nat -> Int) (ds' : List D) (s4 s5 : Sl), Pot ds' /\ (∀ p, p < i -> Bd (8 * 10 ^ 58) (r p)) /\ ρ = [.par ds', .val (.int n), .val (.int way), .own (wI i r), s4, s5]) ⟨fun _ => 0, d1, _, _, h1, fun _ h => by lia, rfl⟩ ?_ ?_⟩
  . rintro i _ hi ⟨r, d2, s4, s5, h2, br, rfl⟩
    have fin : ∀ (z : Int), Bd (8 * 10 ^ 58) z -> ∀ p, p < i + 1 -> Bd (8 * 10 ^ 58) (if p < i then r p else z) := fun z hz p hp => by
      by_cases e : p < i
      . rw [if_pos e]; exact br p e
      . rw [if_neg e]; exact hz
    simp! only [↓lb__law_row_1]
    refine ⟨fun hlt => ?_, fun hge => ?_⟩
    . have hw' : ∃ (m : Int) (z : Int), 0 < m /\ m <= 1000000 /\ m < 2 ^ 250 /\ 0 <= z /\ z <= 5 /\ [D.int 2, D.int 10, D.int 11, D.int 1000000][way]? = some (.int m) /\ [D.int 0, D.int 0, D.int 5, D.int 0][way]? = some (.int z) := by
        have : way = 0 \/ way = 1 \/ way = 2 \/ way = 3 := by lia
        rcases this with rfl | rfl | rfl | rfl
        . exact ⟨_, _, by decide, by decide, by decide, by decide, by decide, rfl, rfl⟩
        . exact ⟨_, _, by decide, by decide, by decide, by decide, by decide, rfl, rfl⟩
        . exact ⟨_, _, by decide, by decide, by decide, by decide, by decide, rfl, rfl⟩
        . exact ⟨_, _, by decide, by decide, by decide, by decide, by decide, rfl, rfl⟩
      obtain ⟨m, z, m0, m6, m1, z0, z5, em, ez⟩ := hw'
      simp! only [em]
      refine (take_ok h2 (m := m) m0 m1).mono ?_
      rintro _ ⟨t, d3, ht, h3, rfl⟩
      simp! only [ez, wI_snoc]
      exact ⟨by lia, _, d3, _, _, h3, fin _ ⟨by lia, by lia⟩, rfl⟩
    . refine (take_ok h2 (m := 80) (by lia) (by lia)).mono ?_
      rintro _ ⟨a, d3, ha, h3, rfl⟩
      simp! only []
      refine ⟨mulOk_r (by lia), ?_⟩
      refine (take_ok h3 (m := 1000000) (by lia) (by lia)).mono ?_
      rintro _ ⟨b, d4, hb, h4, rfl⟩
      simp! only []
      have bf : 0 <= 1000000000000000000000000000000000000000000000000000000000 * (a : Int) + (b : Int) /\ 1000000000000000000000000000000000000000000000000000000000 * (a : Int) + (b : Int) < 8 * 10 ^ 58 := by lia
      revert bf
      generalize 1000000000000000000000000000000000000000000000000000000000 * (a : Int) + (b : Int) = far
      intro bf
      refine (take_ok h4 (m := 3) (by lia) (by lia)).mono ?_
      rintro _ ⟨c, d5, hc, h5, rfl⟩
      simp! only []
      refine (take_ok h5 (m := 3) (by lia) (by lia)).mono ?_
      rintro _ ⟨e, d6, he, h6, rfl⟩
      have he' : ∃ z : Int, Bd (8 * 10 ^ 58) z /\ [D.int far, D.int (-far), D.int c][e]? = some (.int z) := by
        have : e = 0 \/ e = 1 \/ e = 2 := by lia
        rcases this with rfl | rfl | rfl
        . exact ⟨far, ⟨by lia, by lia⟩, rfl⟩
        . exact ⟨-far, ⟨by lia, by lia⟩, rfl⟩
        . exact ⟨c, ⟨by lia, by lia⟩, rfl⟩
      obtain ⟨z, bz, ez⟩ := he'
      simp! only [ez, wI_snoc]
      exact ⟨by lia, _, d6, _, _, h6, fin z bz, rfl⟩
  . rintro _ ⟨r, d2, s4, s5, h2, br, rfl⟩
    simp! only []
    exact ⟨r, d2, h2, br, rfl⟩
theorem bounds_ok (h : Pot ds) (n : Nat) (hn : n <= 1000) (r : Nat -> Int) : Ok (F__law_bounds ds [.lst (wI n r)]) fun x => ∃ (L G : Nat -> Int) (ds' : List D), Pot ds' /\ (∀ p, p < n -> r p - 1000000 <= L p /\ L p <= r p /\ r p <= G p /\ G p <= r p + 1000000) /\ x = (.val (.tup [.lst (wI n L), .lst (wI n G)]), ds') := by
  simp! only [↓F__law_bounds, ↓m__law_bounds]
  refine (take_ok h (m := 4) (by lia) (by lia)).mono ?_
  rintro _ ⟨w, d1, hw, h1, rfl⟩
  have hw' : ∃ m : Int, 0 < m /\ m <= 1000000 /\ m < 2 ^ 250 /\ [D.int 1, D.int 2, D.int 9, D.int 1000000][w]? = some (.int m) := by
    have : w = 0 \/ w = 1 \/ w = 2 \/ w = 3 := by lia
    rcases this with rfl | rfl | rfl | rfl
    . exact ⟨_, by decide, by decide, by decide, rfl⟩
    . exact ⟨_, by decide, by decide, by decide, rfl⟩
    . exact ⟨_, by decide, by decide, by decide, rfl⟩
    . exact ⟨_, by decide, by decide, by decide, rfl⟩
  obtain ⟨m, m0, m6, m1, em⟩ := hw'
  simp! only [em, ↓lp__law_bounds_1]
  refine ok_forW (fun i ρ => ∃ (L G : Nat -> Int) (ds' : List D) (s5 : Sl), Pot ds' /\ (∀ p, p < i -> r p - 1000000 <= L p /\ L p <= r p /\ r p <= G p /\ G p <= r p + 1000000) /\ ρ = [.par ds', .val (.lst (wI n r)), .own (wI i L), .own (wI i G), .val (.int m), s5]) ⟨fun _ => 0, fun _ => 0, d1, _, h1, fun _ h => by lia, rfl⟩ ?_ ?_
  . rintro i _ hi ⟨L, G, d2, s5, h2, b, rfl⟩
    simp! only [↓lb__law_bounds_1]
    refine (take_ok h2 (m := m) m0 m1).mono ?_
    rintro _ ⟨x, d3, hx, h3, rfl⟩
    simp! only [wI_snoc]
    refine ⟨by lia, ?_⟩
    refine (take_ok h3 (m := m) m0 m1).mono ?_
    rintro _ ⟨y, d4, hy, h4, rfl⟩
    simp! only [wI_snoc]
    refine ⟨by lia, _, _, d4, _, h4, fun p hp => ?_, rfl⟩
    by_cases e : p < i
    . simp only [e, if_true]; exact b p e
    . have e' : p = i := by lia
      subst e'
      simp only [e, if_false]; lia
  . rintro _ ⟨L, G, d2, s5, h2, b, rfl⟩
    simp! only []
    exact ⟨L, G, d2, h2, b, rfl⟩
theorem w_map {α : Type} (L : List α) (a : α) (f : α -> D) : L.map f = wL L.length (fun i => f (L.getD i a)) := by
  apply List.ext_getElem?
  intro j
  rw [List.getElem?_map]
  by_cases hj : j < L.length
  . rw [wL_get _ hj, List.getElem?_eq_getElem hj, List.getD_eq_getElem?_getD, List.getElem?_eq_getElem hj]; rfl
  . rw [List.getElem?_eq_none (by lia), List.getElem?_eq_none (by rw [wL_len]; lia)]; rfl
theorem row_within_ok {d1 d2 d3 : D} {m n : Nat} {r L G : Nat -> Int} (h1 : Sq d1 m r) (h2 : Sq d2 n L) (h3 : Sq d3 n G) (hn : n <= 1000) :
    Ok (F_row_within [d1, d2, d3]) fun x => ∃ b, x = .val (.bl b) /\ (b = true ↔ m = n /\ ∀ p, p < n -> L p <= r p /\ r p <= G p) := by
  simp! only [↓F_row_within, ↓m_row_within, h1.ln, h2.ln]
  refine ⟨fun h => ⟨false, rfl, by simp; lia⟩, fun h => ?_⟩
  have e : m = n := by lia
  subst e
  simp! only [↓rs_row_within_2, ↓co_row_within_1, h1.it, h2.it, h3.it]
  refine ⟨by lia, ok_compW (fun ρ => ∃ a b c, ρ = [a, b, c]) (fun p => .bl (decide (L p <= r p) && decide (r p <= G p))) ⟨_, _, _, rfl⟩ ?_ ?_⟩
  . rintro p _ hp ⟨a, b, c, rfl⟩
    simp! only [↓ce_row_within_1]
    refine ⟨fun h => ⟨by simp [h], _, _, _, rfl⟩, fun h => ⟨?_, _, _, _, rfl⟩⟩
    rw [decide_eq_false (by lia)]; rfl
  . rintro _ ⟨a, b, c, rfl⟩
    simp! only [boolsOf_w]
    refine ⟨_, rfl, ?_⟩
    rw [all_w]
    simp
def BR (m : Int) (L G : List Int) : Prop := (L.length : Int) = m /\ (G.length : Int) = m /\ ∀ p, p < L.length -> L.getD p 0 <= G.getD p 0
def Rt (w : Nat) (k : Int) (S L G : List Int) : Prop := if w = 0 then 2 <= k /\ k <= 5 /\ 1 <= S.length /\ (S.length : Int) + k - 1 <= 24 /\ BR (S.length + k - 1) L G else 2 <= k /\ k <= 5 /\ k <= S.length /\ (S.length : Int) <= 24 /\ BR S.length L G
abbrev SqI (d : D) (l : List Int) : Prop := Sq d l.length (fun i => l.getD i 0)
theorem sq_l (l : List Int) : SqI (lD l) l := by
  unfold lD SqI
  rw [w_map l 0]
  exact Sq.lst _ _
def tD (l : List Int) : D := .tup (l.map D.int)
theorem sq_t (l : List Int) : SqI (tD l) l := by
  unfold tD SqI
  rw [w_map l 0]
  exact Sq.tup _ _
section
variable {k : Int} {S L G : List Int} {dS dL dG : D}
theorem bounds_right_ok (hl : SqI dL L) (hg : SqI dG G) (hL : L.length <= 60) (hG : G.length <= 60) (m : Int) : Ok (F_bounds_right [dL, dG, .int m]) fun x => ∃ b, x = .val (.bl b) /\ (b = true ↔ BR m L G) := by
  have nope : ¬ BR m L G -> ∃ b, Sl.val (D.bl false) = Sl.val (D.bl b) /\ (b = true ↔ BR m L G) := fun h => ⟨false, rfl, by simp [h]⟩
  simp! only [↓F_bounds_right, ↓m_bounds_right, hl.ln, hg.ln]
  refine ⟨fun e1 => ⟨fun e2 => ?_, fun e2 => nope fun r => ?_⟩, fun e1 => nope fun r => ?_⟩
  . have eq : G.length = L.length := by lia
    unfold SqI at hg
    rw [eq] at hg
    refine (row_within_ok hl hl hg (by lia)).mono ?_
    rintro _ ⟨b, rfl, hb⟩
    simp! only []
    refine ⟨b, rfl, hb.trans ?_⟩
    constructor
    . rintro ⟨-, h⟩
      exact ⟨e1, by lia, fun p hp => (h p hp).2⟩
    . intro r
      exact ⟨rfl, fun p hp => ⟨Int.le_refl _, r.2.2 p hp⟩⟩
  . exact e2 r.2.1
  . exact e1 r.1
theorem line_parts_ok (hs : SqI dS S) (hl : SqI dL L) (hg : SqI dG G) (hL : L.length <= 60) (hG : G.length <= 60) : Ok (F_line_parts_right [.int k, dS, dL, dG]) fun x => ∃ b, x = .val (.bl b) /\ (b = true ↔ Rt 0 k S L G) := by
  have nope : ¬ Rt 0 k S L G -> ∃ b, Sl.val (D.bl false) = Sl.val (D.bl b) /\ (b = true ↔ Rt 0 k S L G) := fun h => ⟨false, rfl, by simp [h]⟩
  have er : Rt 0 k S L G = (2 <= k /\ k <= 5 /\ 1 <= S.length /\ (S.length : Int) + k - 1 <= 24 /\ BR (S.length + k - 1) L G) := if_pos rfl
  simp! only [↓F_line_parts_right, ↓m_line_parts_right, ↓F_k_right, ↓m_k_right, hs.ln]
  refine ⟨fun k2 => ⟨fun k5 => nope fun r => ?_, fun k5 => ⟨fun s0 => nope fun r => ?_, fun s0 => ?_⟩⟩, fun k2 => nope fun r => ?_⟩
  . rw [er] at r; have := r.2.1; simp at k5; lia
  . rw [er] at r; have := r.2.2.1; lia
  . have k5' : k <= 5 := by simpa using k5
    simp! only [↓rs_line_parts_right_1, hs.ln]
    refine ⟨fun h24 => ?_, fun h24 => nope fun r => ?_⟩
    . refine (bounds_right_ok hl hg hL hG _).mono ?_
      rintro _ ⟨b, rfl, hb⟩
      simp! only []
      refine ⟨b, rfl, hb.trans ?_⟩
      rw [er]
      exact ⟨fun h => ⟨k2, k5', by lia, h24, h⟩, fun h => h.2.2.2.2⟩
    . rw [er] at r; have := r.2.2.2.1; lia
  . rw [er] at r; have := r.1; lia
theorem ring_parts_ok (hs : SqI dS S) (hl : SqI dL L) (hg : SqI dG G) (hL : L.length <= 60) (hG : G.length <= 60) : Ok (F_ring_parts_right [.int k, dS, dL, dG]) fun x => ∃ b, x = .val (.bl b) /\ (b = true ↔ Rt 1 k S L G) := by
  have nope : ¬ Rt 1 k S L G -> ∃ b, Sl.val (D.bl false) = Sl.val (D.bl b) /\ (b = true ↔ Rt 1 k S L G) := fun h => ⟨false, rfl, by simp [h]⟩
  have er : Rt 1 k S L G = (2 <= k /\ k <= 5 /\ k <= S.length /\ (S.length : Int) <= 24 /\ BR S.length L G) := if_neg (by decide)
  simp! only [↓F_ring_parts_right, ↓m_ring_parts_right, ↓F_k_right, ↓m_k_right, hs.ln]
  refine ⟨fun k2 => ⟨fun k5 => ⟨fun ks => ⟨fun s24 => ?_, fun h => nope fun r => ?_⟩, fun h => nope fun r => ?_⟩, fun h => nope fun r => ?_⟩, fun h => nope fun r => ?_⟩
  . refine (bounds_right_ok hl hg hL hG _).mono ?_
    rintro _ ⟨b, rfl, hb⟩
    simp! only []
    refine ⟨b, rfl, hb.trans ?_⟩
    rw [er]
    exact ⟨fun h => ⟨k2, k5, ks, s24, h⟩, fun h => h.2.2.2.2⟩
  . rw [er] at r; have := r.2.2.2.1; lia
  . rw [er] at r; have := r.2.2.1; lia
  . rw [er] at r; have := r.2.1; lia
  . rw [er] at r; have := r.1; lia
theorem made_line_ok (hs : SqI dS S) (hl : SqI dL L) (hg : SqI dG G) (hL : L.length <= 60) (hG : G.length <= 60) : (Rt 0 k S L G -> Ok (F_made_line [.int k, dS, dL, dG]) (fun x => x = .val (.tup [.int k, tD S, tD L, tD G])) /\ X_made_line [.int k, dS, dL, dG] = none) /\ (¬ Rt 0 k S L G -> X_made_line [.int k, dS, dL, dG] = some "BadTelling") := by
  have pr := line_parts_ok (k := k) hs hl hg hL hG
  have e1 : tD S = .tup (wI S.length fun i => S.getD i 0) := by unfold tD; rw [w_map S 0]
  have e2 : tD L = .tup (wI L.length fun i => L.getD i 0) := by unfold tD; rw [w_map L 0]
  have e3 : tD G = .tup (wI G.length fun i => G.getD i 0) := by unfold tD; rw [w_map G 0]
  refine ⟨fun r => ⟨?_, ?_⟩, fun r => ?_⟩
  . simp! only [↓F_made_line, ↓m_made_line]
    refine pr.mono ?_
    rintro _ ⟨b, rfl, hb⟩
    rw [hb.mpr r]
    simp! only [↓rs_made_line_1, hs.tp, hl.tp, hg.tp, e1, e2, e3]
  . unfold X_made_line x_made_line fX
    refine xIf_no ?_
    simp! only []
    refine pr.mono ?_
    rintro _ ⟨b, rfl, hb⟩
    rw [hb.mpr r]
    simp! only []
  . unfold X_made_line x_made_line fX
    refine xIf_yes ?_
    simp! only []
    refine pr.mono ?_
    rintro _ ⟨b, rfl, hb⟩
    have : b = false := by
      cases b with
      | false => rfl
      | true => exact absurd (hb.mp rfl) r
    rw [this]
    simp! only []
theorem made_ring_ok (hs : SqI dS S) (hl : SqI dL L) (hg : SqI dG G) (hL : L.length <= 60) (hG : G.length <= 60) : (Rt 1 k S L G -> Ok (F_made_ring [.int k, dS, dL, dG]) (fun x => x = .val (.tup [.int k, tD S, tD L, tD G])) /\ X_made_ring [.int k, dS, dL, dG] = none) /\ (¬ Rt 1 k S L G -> X_made_ring [.int k, dS, dL, dG] = some "BadTelling") := by
  have pr := ring_parts_ok (k := k) hs hl hg hL hG
  have e1 : tD S = .tup (wI S.length fun i => S.getD i 0) := by unfold tD; rw [w_map S 0]
  have e2 : tD L = .tup (wI L.length fun i => L.getD i 0) := by unfold tD; rw [w_map L 0]
  have e3 : tD G = .tup (wI G.length fun i => G.getD i 0) := by unfold tD; rw [w_map G 0]
  refine ⟨fun r => ⟨?_, ?_⟩, fun r => ?_⟩
  . simp! only [↓F_made_ring, ↓m_made_ring]
    refine pr.mono ?_
    rintro _ ⟨b, rfl, hb⟩
    rw [hb.mpr r]
    simp! only [↓rs_made_ring_1, hs.tp, hl.tp, hg.tp, e1, e2, e3]
  . unfold X_made_ring x_made_ring fX
    refine xIf_no ?_
    simp! only []
    refine pr.mono ?_
    rintro _ ⟨b, rfl, hb⟩
    rw [hb.mpr r]
    simp! only []
  . unfold X_made_ring x_made_ring fX
    refine xIf_yes ?_
    simp! only []
    refine pr.mono ?_
    rintro _ ⟨b, rfl, hb⟩
    have : b = false := by
      cases b with
      | false => rfl
      | true => exact absurd (hb.mp rfl) r
    rw [this]
    simp! only []
theorem are_bounds_ok (hl : SqI dL L) (hg : SqI dG G) (hL : L.length <= 60) (hG : G.length <= 60) (m : Int) (m0 : 0 <= m) : Ok (F__law_are_bounds [dL, dG, .int m]) fun x => ∃ b, x = .val (.bl b) /\ (b = true ↔ BR m L G) := by
  have nope : ¬ BR m L G -> ∃ b, Sl.val (D.bl false) = Sl.val (D.bl b) /\ (b = true ↔ BR m L G) := fun h => ⟨false, rfl, by simp [h]⟩
  simp! only [↓F__law_are_bounds, ↓m__law_are_bounds, hl.ln, hg.ln]
  refine ⟨fun h => nope fun r => h r.1, fun e1 => ⟨fun h => nope fun r => h r.2.1, fun e2 => ?_⟩⟩
  obtain ⟨m', em⟩ := Int.eq_ofNat_of_zero_le m0
  have eL : L.length = m' := by lia
  have eG : G.length = m' := by lia
  unfold SqI at hl hg
  rw [eL] at hl
  rw [eG] at hg
  rw [em]
  simp! only [↓rs__law_are_bounds_2, ↓co__law_are_bounds_1]
  refine ⟨smallI_of (by lia) (by lia), by lia, ok_compW (fun ρ => ∃ a, ρ = [.val dL, .val dG, a]) (fun p => .bl (decide (G.getD p 0 < L.getD p 0))) ⟨_, rfl⟩ ?_ ?_⟩
  . rintro p _ hp ⟨a, rfl⟩
    have gl : dIx dL (.int (p : Int)) = some (.int (L.getD p 0)) := by rw [hl.ix, atI_n, wL_get _ hp]
    have gg : dIx dG (.int (p : Int)) = some (.int (G.getD p 0)) := by rw [hg.ix, atI_n, wL_get _ hp]
    simp! only [↓ce__law_are_bounds_1, gl, gg]
    exact ⟨_, rfl⟩
  . rintro _ ⟨a, rfl⟩
    simp! only [boolsOf_w]
    refine ⟨_, rfl, ?_⟩
    rw [Bool.not_eq_true', List.any_eq_false]
    constructor
    . intro h
      refine ⟨by lia, by lia, fun p hp => ?_⟩
      have := h (decide (G.getD p 0 < L.getD p 0)) (List.mem_map.mpr ⟨p, List.mem_range.mpr (by lia), rfl⟩)
      simp only [id, decide_eq_true_eq] at this
      lia
    . intro r b hb
      obtain ⟨p, hp, rfl⟩ := List.mem_map.mp hb
      have := r.2.2 p (by have := List.mem_range.mp hp; lia)
      simp only [id, decide_eq_true_eq]
      lia
theorem is_line_ok (hs : SqI dS S) (hl : SqI dL L) (hg : SqI dG G) (hL : L.length <= 60) (hG : G.length <= 60) : Ok (F__law_is_line [.int k, dS, dL, dG]) fun x => ∃ b, x = .val (.bl b) /\ (b = true ↔ Rt 0 k S L G) := by
  have nope : ¬ Rt 0 k S L G -> ∃ b, Sl.val (D.bl false) = Sl.val (D.bl b) /\ (b = true ↔ Rt 0 k S L G) := fun h => ⟨false, rfl, by simp [h]⟩
  have er : Rt 0 k S L G = (2 <= k /\ k <= 5 /\ 1 <= S.length /\ (S.length : Int) + k - 1 <= 24 /\ BR (S.length + k - 1) L G) := if_pos rfl
  simp! only [↓F__law_is_line, ↓m__law_is_line, ↓rs__law_is_line_1, hs.ln]
  refine ⟨fun h => nope fun r => ?_, fun k2 => ⟨fun h => nope fun r => ?_, fun k5 => ⟨fun h => nope fun r => ?_, fun s1 => ⟨fun h => nope fun r => ?_, fun s25 => ?_⟩⟩⟩⟩
  . rw [er] at r; have := r.1; lia
  . rw [er] at r; have := r.2.1; lia
  . rw [er] at r; have := r.2.2.1; lia
  . rw [er] at r; have := r.2.2.2.1; lia
  . refine (are_bounds_ok hl hg hL hG _ (by lia)).mono ?_
    rintro _ ⟨b, rfl, hb⟩
    simp! only []
    refine ⟨b, rfl, hb.trans ?_⟩
    rw [er]
    exact ⟨fun h => ⟨k2, k5, by lia, by lia, h⟩, fun h => h.2.2.2.2⟩
theorem is_ring_ok (hs : SqI dS S) (hl : SqI dL L) (hg : SqI dG G) (hL : L.length <= 60) (hG : G.length <= 60) : Ok (F__law_is_ring [.int k, dS, dL, dG]) fun x => ∃ b, x = .val (.bl b) /\ (b = true ↔ Rt 1 k S L G) := by
  have nope : ¬ Rt 1 k S L G -> ∃ b, Sl.val (D.bl false) = Sl.val (D.bl b) /\ (b = true ↔ Rt 1 k S L G) := fun h => ⟨false, rfl, by simp [h]⟩
  have er : Rt 1 k S L G = (2 <= k /\ k <= 5 /\ k <= S.length /\ (S.length : Int) <= 24 /\ BR S.length L G) := if_neg (by decide)
  simp! only [↓F__law_is_ring, ↓m__law_is_ring, ↓rs__law_is_ring_1, hs.ln]
  refine ⟨fun h => nope fun r => ?_, fun k2 => ⟨fun h => nope fun r => ?_, fun k5 => ⟨fun h => nope fun r => ?_, fun s1 => ⟨fun h => nope fun r => ?_, fun s25 => ?_⟩⟩⟩⟩
  . rw [er] at r; have := r.1; lia
  . rw [er] at r; have := r.2.1; lia
  . rw [er] at r; have := r.2.2.1; lia
  . rw [er] at r; have := r.2.2.2.1; lia
  . refine (are_bounds_ok hl hg hL hG _ (by lia)).mono ?_
    rintro _ ⟨b, rfl, hb⟩
    simp! only []
    refine ⟨b, rfl, hb.trans ?_⟩
    rw [er]
    exact ⟨fun h => ⟨k2, k5, by lia, by lia, h⟩, fun h => h.2.2.2.2⟩
end
theorem pl_bl (k : Nat) (b : Bool) : Pl k (.bl b) := ⟨rfl, by simp only [depth]; lia⟩
theorem alone_of (c : Str) {b0 b1 b2 b3 b4 b5 b6 b7 b8 : Bool} (e0 : List.lookup c tab_BadTelling = some b0) (e1 : List.lookup c tab_NoFit = some b1) (e2 : List.lookup c tab_NoNumber = some b2) (e3 : List.lookup c tab_NoPlace = some b3) (e4 : List.lookup c tab_NotTwos = some b4) (e5 : List.lookup c tab_NoPast = some b5) (e6 : List.lookup c tab_NoText = some b6) (e7 : List.lookup c tab_NoRow = some b7) (e8 : List.lookup c tab_Unlike = some b8) (e9 : List.lookup c tab_SumError = some true) (e10 : List.lookup c tab_ValueError = some true)
    (g : [D.bl b0, .bl b1, .bl b2, .bl b3, .bl b4, .bl b5, .bl b6, .bl b7, .bl b8] = wL 9 fun i => .bl ((i : Int) == (p : Int))) : Ok (F__law_alone [.exc c, .int (p : Int)]) fun x => x = .val (.bl true) := by
  simp! only [↓F__law_alone, ↓m__law_alone, ↓F__law_kinds, ↓m__law_kinds, ↓co__law_alone_1, e0, e1, e2, e3, e4, e5, e6, e7, e8, e9, e10]
  refine ⟨fun _ => ⟨by decide, ok_compW (fun ρ => ∃ a, ρ = [.val (.int p), a]) (fun i => .bl ((i : Int) == (p : Int))) ⟨_, rfl⟩ ?_ ?_⟩, fun z => (nomatch z)⟩
  . rintro i _ hi ⟨a, rfl⟩
    simp! only [↓ce__law_alone_1]
    exact ⟨_, rfl⟩
  . rintro _ ⟨a, rfl⟩
    rw [<- g]
    have pe : dEq (.lst [D.bl b0, .bl b1, .bl b2, .bl b3, .bl b4, .bl b5, .bl b6, .bl b7, .bl b8, .bl true, .bl true]) (.lst [D.bl b0, .bl b1, .bl b2, .bl b3, .bl b4, .bl b5, .bl b6, .bl b7, .bl b8, .bl true, .bl true]) = some (.bl true) := (pl_lst (k := 0) (fun d hd => by simp only [List.mem_cons, List.not_mem_nil, or_false] at hd; rcases hd with rfl | rfl | rfl | rfl | rfl | rfl | rfl | rfl | rfl | rfl | rfl <;> exact pl_bl 0 _)).eq (by decide)
    simp! only [pe]
theorem al_0 : Ok (F__law_alone [.exc "BadTelling", .int 0]) fun x => x = .val (.bl true) :=
  alone_of (p := 0) _ (by decide +kernel) (by decide +kernel) (by decide +kernel) (by decide +kernel) (by decide +kernel) (by decide +kernel) (by decide +kernel) (by decide +kernel) (by decide +kernel) (by decide +kernel) (by decide +kernel) rfl
theorem al_1 : Ok (F__law_alone [.exc "NoFit", .int 1]) fun x => x = .val (.bl true) :=
  alone_of (p := 1) _ (by decide +kernel) (by decide +kernel) (by decide +kernel) (by decide +kernel) (by decide +kernel) (by decide +kernel) (by decide +kernel) (by decide +kernel) (by decide +kernel) (by decide +kernel) (by decide +kernel) rfl
theorem al_2 : Ok (F__law_alone [.exc "NoNumber", .int 2]) fun x => x = .val (.bl true) :=
  alone_of (p := 2) _ (by decide +kernel) (by decide +kernel) (by decide +kernel) (by decide +kernel) (by decide +kernel) (by decide +kernel) (by decide +kernel) (by decide +kernel) (by decide +kernel) (by decide +kernel) (by decide +kernel) rfl
theorem al_3 : Ok (F__law_alone [.exc "NoPlace", .int 3]) fun x => x = .val (.bl true) :=
  alone_of (p := 3) _ (by decide +kernel) (by decide +kernel) (by decide +kernel) (by decide +kernel) (by decide +kernel) (by decide +kernel) (by decide +kernel) (by decide +kernel) (by decide +kernel) (by decide +kernel) (by decide +kernel) rfl
theorem al_4 : Ok (F__law_alone [.exc "NotTwos", .int 4]) fun x => x = .val (.bl true) :=
  alone_of (p := 4) _ (by decide +kernel) (by decide +kernel) (by decide +kernel) (by decide +kernel) (by decide +kernel) (by decide +kernel) (by decide +kernel) (by decide +kernel) (by decide +kernel) (by decide +kernel) (by decide +kernel) rfl
theorem al_5 : Ok (F__law_alone [.exc "NoPast", .int 5]) fun x => x = .val (.bl true) :=
  alone_of (p := 5) _ (by decide +kernel) (by decide +kernel) (by decide +kernel) (by decide +kernel) (by decide +kernel) (by decide +kernel) (by decide +kernel) (by decide +kernel) (by decide +kernel) (by decide +kernel) (by decide +kernel) rfl
theorem al_6 : Ok (F__law_alone [.exc "NoText", .int 6]) fun x => x = .val (.bl true) :=
  alone_of (p := 6) _ (by decide +kernel) (by decide +kernel) (by decide +kernel) (by decide +kernel) (by decide +kernel) (by decide +kernel) (by decide +kernel) (by decide +kernel) (by decide +kernel) (by decide +kernel) (by decide +kernel) rfl
theorem al_7 : Ok (F__law_alone [.exc "NoRow", .int 7]) fun x => x = .val (.bl true) :=
  alone_of (p := 7) _ (by decide +kernel) (by decide +kernel) (by decide +kernel) (by decide +kernel) (by decide +kernel) (by decide +kernel) (by decide +kernel) (by decide +kernel) (by decide +kernel) (by decide +kernel) (by decide +kernel) rfl
theorem al_8 : Ok (F__law_alone [.exc "Unlike", .int 8]) fun x => x = .val (.bl true) :=
  alone_of (p := 8) _ (by decide +kernel) (by decide +kernel) (by decide +kernel) (by decide +kernel) (by decide +kernel) (by decide +kernel) (by decide +kernel) (by decide +kernel) (by decide +kernel) (by decide +kernel) (by decide +kernel) rfl
def nine : List D := [D.exc "BadTelling", D.exc "NoFit", D.exc "NoNumber", D.exc "NoPlace", D.exc "NotTwos", D.exc "NoPast", D.exc "NoText", D.exc "NoRow", D.exc "Unlike"]
theorem kinds_sum : Ok (F__law_kinds [.exc "SumError"]) fun x => x = .val (.lst [.bl false, .bl false, .bl false, .bl false, .bl false, .bl false, .bl false, .bl false, .bl false, .bl true, .bl true]) := by
  have e0 : List.lookup ("SumError" : Str) tab_BadTelling = some false := by decide +kernel
  have e1 : List.lookup ("SumError" : Str) tab_NoFit = some false := by decide +kernel
  have e2 : List.lookup ("SumError" : Str) tab_NoNumber = some false := by decide +kernel
  have e3 : List.lookup ("SumError" : Str) tab_NoPlace = some false := by decide +kernel
  have e4 : List.lookup ("SumError" : Str) tab_NotTwos = some false := by decide +kernel
  have e5 : List.lookup ("SumError" : Str) tab_NoPast = some false := by decide +kernel
  have e6 : List.lookup ("SumError" : Str) tab_NoText = some false := by decide +kernel
  have e7 : List.lookup ("SumError" : Str) tab_NoRow = some false := by decide +kernel
  have e8 : List.lookup ("SumError" : Str) tab_Unlike = some false := by decide +kernel
  have e9 : List.lookup ("SumError" : Str) tab_SumError = some true := by decide +kernel
  have e10 : List.lookup ("SumError" : Str) tab_ValueError = some true := by decide +kernel
  simp! only [↓F__law_kinds, ↓m__law_kinds, e0, e1, e2, e3, e4, e5, e6, e7, e8, e9, e10]
theorem one_ok (i : Nat) (hi : i < 9) : ∃ d, nine[i]? = some d /\ Ok (F__law_alone [d, .int (i : Int)]) fun x => x = .val (.bl true) := by
  match i, hi with
  | 0, _ => exact ⟨_, rfl, al_0⟩
  | 1, _ => exact ⟨_, rfl, al_1⟩
  | 2, _ => exact ⟨_, rfl, al_2⟩
  | 3, _ => exact ⟨_, rfl, al_3⟩
  | 4, _ => exact ⟨_, rfl, al_4⟩
  | 5, _ => exact ⟨_, rfl, al_5⟩
  | 6, _ => exact ⟨_, rfl, al_6⟩
  | 7, _ => exact ⟨_, rfl, al_7⟩
  | 8, _ => exact ⟨_, rfl, al_8⟩
  | n + 9, h => exact absurd h (by lia)
theorem apart_ok : Ok (F__law_apart []) fun x => x = .val (.bl true) := by
  have all1 : ∀ k : Nat, ((List.range k).map fun _ => true).all id = true := fun k => by simp
  have comp : Ok (co__law_apart_1 [.val (.lst nine)]) fun p => p = (wL 9 (fun _ => .bl true), [.val (.lst nine)]) := by
    simp! only [↓co__law_apart_1]
    refine ⟨by decide, ok_compW (fun ρ => ∃ a, ρ = [.val (.lst nine), a]) (fun i => .bl true) ⟨_, rfl⟩ ?_ ?_⟩
    . rintro i _ hi ⟨a, rfl⟩
      obtain ⟨d, ed, hd⟩ := one_ok i hi
      simp! only [↓ce__law_apart_1, ed]
      refine hd.mono ?_
      rintro _ rfl
      simp! only []
      exact ⟨_, rfl⟩
    . rintro _ ⟨a, rfl⟩
      simp! only []
  simp! only [↓F__law_apart, ↓m__law_apart]
  refine comp.mono ?_
  rintro _ rfl
  simp! only [boolsOf_w, all1, ↓rs__law_apart_2]
  refine kinds_sum.mono ?_
  rintro _ rfl
  simp! only []
  refine ⟨by decide, by decide, ?_⟩
  have pe : dEq (.lst [D.bl false, .bl false, .bl false, .bl false, .bl false, .bl false, .bl false, .bl false, .bl false, .bl true, .bl true]) (.lst [D.bl false, .bl false, .bl false, .bl false, .bl false, .bl false, .bl false, .bl false, .bl false, .bl true, .bl true]) = some (.bl true) := (pl_lst (k := 0) (fun d hd => by simp only [List.mem_cons, List.not_mem_nil, or_false] at hd; rcases hd with rfl | rfl | rfl | rfl | rfl | rfl | rfl | rfl | rfl | rfl | rfl <;> exact pl_bl 0 _)).eq (by decide)
  change OkQ _ (dEq (.lst [D.bl false, .bl false, .bl false, .bl false, .bl false, .bl false, .bl false, .bl false, .bl false, .bl true, .bl true]) (.lst [D.bl false, .bl false, .bl false, .bl false, .bl false, .bl false, .bl false, .bl false, .bl false, .bl true, .bl true]))
  rw [pe]
  simp! only []
theorem dNe_str (a b : Str) : dNe (.str a) (.str b) = some (.bl (a != b)) := by
  unfold dNe
  rw [show noS (.str a) = true from rfl, show noS (.str b) = true from rfl, show depth (.str a) = 0 from rfl]
  rfl
section
variable {k : Int} {S L G : List Int} {dS dL dG : D}
abbrev tup4 (k : Int) (S L G : List Int) : D := .tup [.int k, tD S, tD L, tD G]
theorem tx_made (w : Nat) (hw : w < 2) : tx__law_made_1 [.val (.int w), .val (.int k), .val dS, .val dL, .val dG, .val .non, .emp] = if w = 0 then X_made_line [.int k, dS, dL, dG] else X_made_ring [.int k, dS, dL, dG] := by
  have : w = 0 \/ w = 1 := by lia
  rcases this with rfl | rfl <;> rfl
theorem made_ok (w : Nat) (hw : w < 2) (hs : SqI dS S) (hl : SqI dL L) (hg : SqI dG G) (hL : L.length <= 60) (hG : G.length <= 60) : (Rt w k S L G -> Ok (F__law_made [.int w, .int k, dS, dL, dG]) (fun x => x = .val (tup4 k S L G))) /\ (¬ Rt w k S L G -> Ok (F__law_made [.int w, .int k, dS, dL, dG]) (fun x => x = .val (.exc "BadTelling"))) := by
  have tx := tx_made (k := k) (dS := dS) (dL := dL) (dG := dG) w hw
  have : w = 0 \/ w = 1 := by lia
  rcases this with rfl | rfl
  . obtain ⟨m1, m2⟩ := made_line_ok (k := k) hs hl hg hL hG
    refine ⟨fun r => ?_, fun r => ?_⟩
    . simp! only [↓F__law_made, ↓m__law_made]
      refine try_calm (tx.trans (m1 r).2) ?_
      simp! only [↓tb__law_made_1, Int.natCast_zero]
      refine (m1 r).1.mono ?_
      rintro _ rfl
      simp! only [↓rs__law_made_2]
    . simp! only [↓F__law_made, ↓m__law_made]
      refine try_raised (tx.trans (m2 r)) (by simp! only []) (by decide +kernel) ?_
      simp! only [↓rs__law_made_2]
  . obtain ⟨m1, m2⟩ := made_ring_ok (k := k) hs hl hg hL hG
    refine ⟨fun r => ?_, fun r => ?_⟩
    . simp! only [↓F__law_made, ↓m__law_made]
      refine try_calm (tx.trans (m1 r).2) ?_
      simp! only [↓tb__law_made_1, Int.natCast_one]
      refine (m1 r).1.mono ?_
      rintro _ rfl
      simp! only [↓rs__law_made_2]
    . simp! only [↓F__law_made, ↓m__law_made]
      refine try_raised (tx.trans (m2 r)) (by simp! only []) (by decide +kernel) ?_
      simp! only [↓rs__law_made_2]
abbrev fro (a0 a1 a2 : Sl) (S L G : List Int) (a6 a7 a8 a9 : Sl) : R := [a0, a1, a2, .own (S.map D.int), .own (L.map D.int), .own (G.map D.int), a6, a7, a8, a9]
abbrev frv (a0 a1 a2 : Sl) (S L G : List Int) (a6 a7 a8 a9 : Sl) : R := [a0, a1, a2, .val (lD S), .val (lD L), .val (lD G), a6, a7, a8, a9]
theorem like_own (l : List Int) : likeS (.own (l.map D.int)) (.own (l.map D.int)) = true := by
  have : intsOf (l.map D.int) = some l := intsOf_ints l
  simp only [likeS, this]
  exact beq_self_eq_true l
theorem like_any (d : D) (a : Sl) : likeS (.val d) a = true := by cases a <;> rfl
theorem like_emp (a : Sl) : likeS .emp a = true := by cases a <;> rfl
theorem tp_tD (l : List Int) : tpX (tD l) = true := by
  have : tpL (l.map D.int) = true := by
    induction l with
    | nil => rfl
    | cons x l ih => simp only [List.map_cons, tpL, tpD, ih, Bool.and_true]
  unfold tD tpX
  simp only [tpD, this, Bool.true_or]
section
variable {a0 a1 a2 a6 a7 a8 a9 : Sl} (h0 : likeS a0 a0 = true) (h1 : likeS a1 a1 = true) (h2 : likeS a2 a2 = true) (h6 : likeS a6 a6 = true) (h7 : likeS a7 a7 = true) (h8 : likeS a8 a8 = true) (h9 : likeS a9 a9 = true)
include h0 h1 h2 h6 h7 h8 h9
theorem look3 {m : ME} (hm : Ok (m (frv a0 a1 a2 S L G a6 a7 a8 a9)) fun p => p = (d, frv a0 a1 a2 S L G a6 a7 a8 a9)) (tp : tpX d = true) (hQ : Q (d, fro a0 a1 a2 S L G a6 a7 a8 a9)) : Ok (eLkX 3 (eLkX 4 (eLkX 5 m)) (fro a0 a1 a2 S L G a6 a7 a8 a9)) Q := by
  simp! only [fro]
  refine hm.mono ?_
  rintro _ rfl
  simp! only [frv, tp, List.zip_cons_cons, List.zip_nil_left, h0, h1, h2, h6, h7, h8, h9, like_any, like_emp, like_own]
  exact hQ
theorem look_3 (hQ : Q (tD S, fro a0 a1 a2 S L G a6 a7 a8 a9)) : Ok (eLkX 3 (mC dTuple (aCons (eVar 3) aNil)) (fro a0 a1 a2 S L G a6 a7 a8 a9)) Q := by
  simp! only [fro, List.zip_cons_cons, List.zip_nil_left, h0, h1, h2, h6, h7, h8, h9, like_any, like_emp, like_own]
  exact ⟨tp_tD S, hQ⟩
theorem look_4 (hQ : Q (tD L, fro a0 a1 a2 S L G a6 a7 a8 a9)) : Ok (eLkX 4 (mC dTuple (aCons (eVar 4) aNil)) (fro a0 a1 a2 S L G a6 a7 a8 a9)) Q := by
  simp! only [fro, List.zip_cons_cons, List.zip_nil_left, h0, h1, h2, h6, h7, h8, h9, like_any, like_emp, like_own]
  exact ⟨tp_tD L, hQ⟩
theorem look_5 (hQ : Q (tD G, fro a0 a1 a2 S L G a6 a7 a8 a9)) : Ok (eLkX 5 (mC dTuple (aCons (eVar 5) aNil)) (fro a0 a1 a2 S L G a6 a7 a8 a9)) Q := by
  simp! only [fro, List.zip_cons_cons, List.zip_nil_left, h0, h1, h2, h6, h7, h8, h9, like_any, like_emp, like_own]
  exact ⟨tp_tD G, hQ⟩
end
def lkS : ME := eLkX 3 (eLkX 4 (eLkX 5 (mC dStr (aCons (eFz (oLst (aCons (eVar 3) (aCons (eVar 4) (aCons (eVar 5) aNil))))) aNil))))
def lkM : ME := eLkX 3 (eLkX 4 (eLkX 5 (eCall F__law_made (aCons (eVar 0) (aCons (eVar 1) (aCons (eVar 3) (aCons (eVar 4) (aCons (eVar 5) aNil))))))))
def lk3 : ME := eLkX 3 (mC dTuple (aCons (eVar 3) aNil))
def lk4 : ME := eLkX 4 (mC dTuple (aCons (eVar 4) aNil))
def lk5 : ME := eLkX 5 (mC dTuple (aCons (eVar 5) aNil))
def rest4 : MS := sSeq (sIf (tNotM (tTru (ePick F__law_is_line F__law_is_ring (eVar 0) (aCons (eVar 1) (aCons (eIxV 8 (eC (.int 1))) (aCons (eIxV 8 (eC (.int 2))) (aCons (eIxV 8 (eC (.int 3))) aNil)))))))
    (sRet (eAnd (eCall F__law_alone (aCons (eVar 7) (aCons (eC (.int 0)) aNil))) (eCall F__law_alone (aCons (eCall F__law_made (aCons (eVar 0) (aCons (eVar 1) (aCons (eIxV 8 (eC (.int 1))) (aCons (eIxV 8 (eC (.int 2))) (aCons (eIxV 8 (eC (.int 3))) aNil)))))) (aCons (eC (.int 0)) aNil)))))
    sNext)
    rs__law_right_2
def rest3 : MS := sSeq (sSet 8 (eTup (aCons (eVar 1) (aCons lk3 (aCons lk4 (aCons lk5 aNil)))))) (sSeq (sApp3 9 3 4 5) rest4)
def first3 : MS := sSeq (sSet 6 lkS) (sSeq (sSet 7 lkM) (sSeq (sIf (tTru (m2 dNe lkS (eVar 6))) (sRet (eC (.bl false))) sNext) rest3))
theorem m_right_eq : m__law_right = sSeq (sSeq (sTC 3 [] 1 (iSeq (eVar 2)) (gN 0) tTrue ce__law_right_1) (sUnT 3 [3, 4, 5])) first3 := rfl
theorem rest4_ok (w : Nat) (hw : w < 2) (hL : L.length <= 60) (hG : G.length <= 60) {dF : D} (hF : (Rt w k S L G /\ dF = tup4 k S L G) \/ (¬ Rt w k S L G /\ dF = .exc "BadTelling")) (a2 a3 a4 a5 a6 a9 : Sl) : Ok (rest4 [.val (.int w), .val (.int k), a2, a3, a4, a5, a6, .val dF, .val (tup4 k S L G), a9]) fun p => ∃ ρ, p = (.ret (.val (.bl true)), ρ) := by
  have hs := sq_t S
  have hl := sq_t L
  have hg := sq_t G
  obtain ⟨mk1, mk2⟩ := made_ok (k := k) w hw hs hl hg hL hG
  have jd : ∀ {Q : D × R -> Prop} {ρ : R}, (∀ b, (b = true ↔ Rt w k S L G) -> Q (.bl b, ρ)) -> ∀ (mi : ME) (ma : MA), mi ρ = some (.int w, ρ) -> ma ρ = some ([.int k, tD S, tD L, tD G], ρ) -> Ok (ePick F__law_is_line F__law_is_ring mi ma ρ) Q := fun {Q ρ} hQ mi ma e1 e2 => by
    have : w = 0 \/ w = 1 := by lia
    rcases this with rfl | rfl
    . simp! only [e1, e2, Int.natCast_zero]
      refine (is_line_ok hs hl hg hL hG).mono ?_
      rintro _ ⟨b, rfl, hb⟩
      simp! only []
      exact hQ b hb
    . simp! only [e1, e2, Int.natCast_one]
      refine (is_ring_ok hs hl hg hL hG).mono ?_
      rintro _ ⟨b, rfl, hb⟩
      simp! only []
      exact hQ b hb
  have pt : Pl 2 (tup4 k S L G) := pl_tup fun d hd => by
    simp only [List.mem_cons, List.not_mem_nil, or_false] at hd
    rcases hd with rfl | rfl | rfl | rfl
    . exact pl_int _ _
    . exact pl_tup fun d hd => by obtain ⟨x, _, rfl⟩ := List.mem_map.mp hd; exact pl_int 0 _
    . exact pl_tup fun d hd => by obtain ⟨x, _, rfl⟩ := List.mem_map.mp hd; exact pl_int 0 _
    . exact pl_tup fun d hd => by obtain ⟨x, _, rfl⟩ := List.mem_map.mp hd; exact pl_int 0 _
  have pe := pt.eq (by decide)
  unfold rest4
  rw [Ok, ok_sSeq, ok_sIf, ok_tNotM, ok_tTru]
  refine jd (fun b hb => ?_) _ _ rfl rfl
  rcases hF with ⟨rt, rfl⟩ | ⟨rt, rfl⟩
  . rw [hb.mpr rt]
    simp! only [↓rs__law_right_2]
    refine ⟨by decide, ?_⟩
    simp! only [pe]
    refine (mk1 rt).mono ?_
    rintro _ rfl
    simp! only [pe]
    exact ⟨_, rfl⟩
  . have bf : b = false := by
      cases b with
      | false => rfl
      | true => exact absurd (hb.mp rfl) rt
    rw [bf]
    simp! only []
    refine al_0.mono ?_
    rintro _ rfl
    simp! only []
    refine (mk2 rt).mono ?_
    rintro _ rfl
    simp! only []
    refine al_0.mono ?_
    rintro _ rfl
    simp! only []
    exact ⟨_, rfl⟩
theorem right_ok (w : Nat) (hw : w < 2) (k : Int) (S L G : List Int) (hS : Sm S) (hL : Sm L) (hG : Sm G) : Ok (F__law_right [.int w, .int k, .lst [lD S, lD L, lD G]]) fun x => x = .val (.bl true) := by
  obtain ⟨s3, es⟩ := str3 hS hL hG
  have lc : ∀ {Q : List (List D) × R -> Prop}, (∀ ρ, Q ([S.map D.int, L.map D.int, G.map D.int], ρ)) -> Ok (compT (turnT (gN 0) tTrue ce__law_right_1) [lD S, lD L, lD G] [.emp]) Q := fun {Q} hQ => by
    have e : [lD S, lD L, lD G] = wL 3 (fun i => lD ([S, L, G].getD i [])) := rfl
    rw [e]
    refine ok_compTW (fun ρ => ∃ a, ρ = [a]) (fun i => ([S, L, G].getD i []).map D.int) ⟨_, rfl⟩ ?_ ?_
    . rintro i _ hi ⟨a, rfl⟩
      generalize [S, L, G].getD i [] = l
      simp! only [↓ok_turnT, ↓ce__law_right_1, lD]
      exact ⟨_, rfl⟩
    . rintro ρ ⟨a, rfl⟩
      exact hQ _
  have hs := sq_l S
  have hl := sq_l L
  have hg := sq_l G
  have hs' := sq_t S
  have hl' := sq_t L
  have hg' := sq_t G
  have li : ∀ l : List Int, intsOf (l.map D.int) = some l := fun l => intsOf_ints l
  have hv : ∀ (d : D), likeS (.val d) (.val d) = true := fun d => rfl
  have he : likeS .emp .emp = true := rfl
  obtain ⟨mk1, mk2⟩ := made_ok (k := k) w hw hs hl hg hL.1 hG.1
  obtain ⟨dF, hF, mF⟩ : ∃ dF, ((Rt w k S L G /\ dF = tup4 k S L G) \/ (¬ Rt w k S L G /\ dF = .exc "BadTelling")) /\ Ok (F__law_made [.int w, .int k, lD S, lD L, lD G]) fun x => x = .val dF := by
    by_cases rt : Rt w k S L G
    . exact ⟨_, .inl ⟨rt, rfl⟩, mk1 rt⟩
    . exact ⟨_, .inr ⟨rt, rfl⟩, mk2 rt⟩
  have tF : tpX dF = true := by
    rcases hF with ⟨_, rfl⟩ | ⟨_, rfl⟩
    . have h : ∀ l : List Int, tpD (tD l) = true := fun l => by
        have := tp_tD l
        unfold tpX at this
        simpa [tD] using this
      unfold tpX tup4
      simp only [tpD, tpL, h, Bool.and_self, Bool.true_or, Bool.and_true]
    . rfl
  have ls : ∀ (a0 a1 a2 a6 a7 a8 a9 : Sl), likeS a0 a0 = true -> likeS a1 a1 = true -> likeS a2 a2 = true -> likeS a6 a6 = true -> likeS a7 a7 = true -> likeS a8 a8 = true -> likeS a9 a9 = true -> ∀ {Q : D × R -> Prop}, Q (.str s3, fro a0 a1 a2 S L G a6 a7 a8 a9) -> Ok (lkS (fro a0 a1 a2 S L G a6 a7 a8 a9)) Q := fun a0 a1 a2 a6 a7 a8 a9 h0 h1 h2 h6 h7 h8 h9 {Q} hQ => by
    refine look3 h0 h1 h2 h6 h7 h8 h9 ?_ (d := .str s3) rfl hQ
    simp! only [frv, es]
  have lm : ∀ (a2 a6 a7 a8 a9 : Sl), likeS a2 a2 = true -> likeS a6 a6 = true -> likeS a7 a7 = true -> likeS a8 a8 = true -> likeS a9 a9 = true -> ∀ {Q : D × R -> Prop}, Q (dF, fro (.val (.int w)) (.val (.int k)) a2 S L G a6 a7 a8 a9) -> Ok (lkM (fro (.val (.int w)) (.val (.int k)) a2 S L G a6 a7 a8 a9)) Q := fun a2 a6 a7 a8 a9 h2 h6 h7 h8 h9 {Q} hQ => by
    refine look3 (hv _) (hv _) h2 h6 h7 h8 h9 ?_ (d := dF) tF hQ
    simp! only [frv]
    refine mF.mono ?_
    rintro _ rfl
    simp! only []
  have fin : Ok (first3 (fro (.val (.int w)) (.val (.int k)) (.val (.lst [lD S, lD L, lD G])) S L G .emp .emp .emp .emp)) fun p => ∃ ρ, p = (.ret (.val (.bl true)), ρ) := by
    unfold first3
    rw [Ok, ok_sSeq, ok_sSet]
    refine ls _ _ _ _ _ _ _ (hv _) (hv _) (hv _) he he he he ?_
    simp! only [fro]
    refine lm (.val (.lst [lD S, lD L, lD G])) (.val (.str s3)) .emp .emp .emp (hv _) (hv _) he he he ?_
    simp! only [fro]
    refine ls _ _ _ _ _ _ _ (hv _) (hv _) (hv _) (hv _) (hv _) he he ?_
    simp! only [fro, dNe_str]
    unfold rest3
    simp! only []
    refine look_3 (S := S) (L := L) (G := G) (hv _) (hv _) (hv _) (hv _) (hv _) he he ?_
    simp! only [fro]
    refine look_4 (S := S) (L := L) (G := G) (hv _) (hv _) (hv _) (hv _) (hv _) he he ?_
    simp! only [fro]
    refine look_5 (S := S) (L := L) (G := G) (hv _) (hv _) (hv _) (hv _) (hv _) he he ?_
    have l1 := hS.1
    have l2 := hL.1
    have l3 := hG.1
    simp! only [fro]
    refine ⟨⟨by lia, by lia, by lia⟩, ?_⟩
    exact rest4_ok w hw hL.1 hG.1 hF _ _ _ _ _ _
  rw [show F__law_right = fP 10 m__law_right from rfl, m_right_eq]
  simp! only []
  refine lc fun ρ => ?_
  simp! only [List.map_cons, List.map_nil, show putCs [3, 4, 5] [Ch.l (S.map D.int), Ch.l (L.map D.int), Ch.l (G.map D.int)] [Sl.val (D.int w), Sl.val (D.int k), Sl.val (D.lst [lD S, lD L, lD G]), Sl.emp, Sl.emp, Sl.emp, Sl.emp, Sl.emp, Sl.emp, Sl.emp] = [Sl.val (D.int w), Sl.val (D.int k), Sl.val (D.lst [lD S, lD L, lD G]), Sl.own (S.map D.int), Sl.own (L.map D.int), Sl.own (G.map D.int), Sl.emp, Sl.emp, Sl.emp, Sl.emp] from rfl]
  refine fin.mono ?_
  rintro _ ⟨ρ, rfl⟩
  simp! only []
end
theorem w_ints (n : Nat) (r : Nat -> Int) : wI n r = ((List.range n).map r).map D.int := by
  unfold wI wL
  rw [List.map_map]; rfl
theorem bent_ok (h : Pot ds) (hl : l.length <= 50) (hb : ∀ x ∈ l, -(10 ^ 60) < x /\ x < 10 ^ 60) : Ok (F__law_bent_row ds [lD l]) fun x => ∃ (o : List Int) (ds' : List D), Pot ds' /\ Sm o /\ x = (.own (o.map D.int), ds') := by
  have sm : ∀ o : List Int, o.length <= 60 -> (∀ x ∈ o, (-(10 ^ 61) < x /\ x < 10 ^ 61)) -> Sm o := fun o a b => ⟨a, b⟩
  have hb' : ∀ x ∈ l, -(10 ^ 61) < x /\ x < 10 ^ 61 := fun x hx => by have := hb x hx; lia
  have last : ∀ (way at' other : Nat) (by' : Int) (o : List Int) (ds : List D), Pot ds -> Sm o -> Ok (rs__law_bent_row_2 [.par ds, .val (lD l), .own (o.map D.int), .val (.int at'), .val (.int other), .val (.int way), .val (.int by')]) fun x => ∃ (o : List Int) (ds' : List D) (a : List Sl), Pot ds' /\ Sm o /\ x = (.ret (.own (o.map D.int)), .par ds' :: a) := fun way at' other by' o ds h ho => by
    simp! only [↓rs__law_bent_row_2]
    have fin : ∀ (o : List Int) (a1 a3 a4 a5 a6 : Sl), Sm o -> Ok (rs__law_bent_row_1 [.par ds, a1, .own (o.map D.int), a3, a4, a5, a6]) fun x => ∃ (o : List Int) (ds' : List D) (a : List Sl), Pot ds' /\ Sm o /\ x = (.ret (.own (o.map D.int)), .par ds' :: a) := fun o a1 a3 a4 a5 a6 ho => by
      simp! only [↓rs__law_bent_row_1]
      exact ⟨o, ds, _, h, ho, rfl⟩
    refine ⟨fun _ => ⟨fun ha => ⟨fun hb => ?_, fun _ => fin o _ _ _ _ _ ho⟩, fun _ => fin o _ _ _ _ _ ho⟩, fun _ => fin o _ _ _ _ _ ho⟩
    have ha' : at' < o.length := by lia
    have hb' : other < o.length := by lia
    have ga : (o.map D.int)[at']? = some (.int o[at']) := by rw [List.getElem?_map, List.getElem?_eq_getElem ha']; rfl
    have gb : (o.map D.int)[other]? = some (.int o[other]) := by rw [List.getElem?_map, List.getElem?_eq_getElem hb']; rfl
    simp! only [ga, gb, ↓ok_gS, ha', hb', List.length_set]
    have e2 : ((o.map D.int).set at' (.int o[other])).set other (.int o[at']) = ((o.set at' o[other]).set other o[at']).map D.int := by rw [List.map_set, List.map_set]
    rw [e2]
    refine fin _ _ _ _ _ _ ⟨by rw [List.length_set, List.length_set]; exact ho.1, fun x hx => ?_⟩
    rcases List.mem_or_eq_of_mem_set hx with hx | rfl
    . rcases List.mem_or_eq_of_mem_set hx with hx | rfl
      . exact ho.2 x hx
      . exact ho.2 _ (List.getElem_mem hb')
    . exact ho.2 _ (List.getElem_mem ha')
  have mid : ∀ (way at' other : Nat) (by' : Int) (o : List Int) (ds : List D), Pot ds -> o.length <= 50 -> at' <= o.length -> (-(10 ^ 61) < by' /\ by' < 10 ^ 61) -> (∀ x ∈ o, (-(10 ^ 61) < x /\ x < 10 ^ 61)) -> Ok (rs__law_bent_row_4 [.par ds, .val (lD l), .own (o.map D.int), .val (.int at'), .val (.int other), .val (.int way), .val (.int by')]) fun x => ∃ (o : List Int) (ds' : List D) (a : List Sl), Pot ds' /\ Sm o /\ x = (.ret (.own (o.map D.int)), .par ds' :: a) := fun way at' other by' o ds h lo la bb ob => by
    have c3 : ∀ o' : List Int, o'.length <= 60 -> (∀ x ∈ o', (-(10 ^ 61) < x /\ x < 10 ^ 61)) -> (at' <= o'.length) -> Ok (rs__law_bent_row_3 [.par ds, .val (lD l), .own (o'.map D.int), .val (.int at'), .val (.int other), .val (.int way), .val (.int by')]) fun x => ∃ (o : List Int) (ds' : List D) (a : List Sl), Pot ds' /\ Sm o /\ x = (.ret (.own (o.map D.int)), .par ds' :: a) := fun o' lo' ob' la' => by
      simp! only [↓rs__law_bent_row_3]
      refine ⟨fun _ => ⟨⟨⟨⟨by lia, by lia⟩, by lia⟩, by lia⟩, ?_⟩, fun _ => last way at' other by' o' ds h ⟨lo', ob'⟩⟩
      have e2 : List.take at' (o'.map D.int) ++ [] ++ List.drop ((at' : Int) + 1).toNat (o'.map D.int) = (o'.take at' ++ o'.drop (at' + 1)).map D.int := by
        rw [List.append_nil, List.map_append, List.map_take, List.map_drop, show ((at' : Int) + 1).toNat = at' + 1 by lia]
      rw [e2]
      refine last way at' other by' _ ds h ⟨by rw [List.length_append, List.length_take, List.length_drop]; lia, fun x hx => ?_⟩
      rcases List.mem_append.mp hx with hx | hx
      . exact ob' x (List.mem_of_mem_take hx)
      . exact ob' x (List.mem_of_mem_drop hx)
    simp! only [↓rs__law_bent_row_4]
    refine ⟨fun _ => ⟨⟨by lia, by lia, by lia⟩, ?_⟩, fun _ => c3 o (by lia) ob la⟩
    have e2 : List.take at' (o.map D.int) ++ D.int by' :: List.drop at' (o.map D.int) = (o.take at' ++ by' :: o.drop at').map D.int := by
      rw [List.map_append, List.map_cons, List.map_take, List.map_drop]
    rw [e2]
    have ln : (o.take at' ++ by' :: o.drop at').length = o.length + 1 := by rw [List.length_append, List.length_cons, List.length_take, List.length_drop]; lia
    refine c3 _ (by rw [ln]; lia) (fun x hx => ?_) (by rw [ln]; lia)
    rcases List.mem_append.mp hx with hx | hx
    . exact ob x (List.mem_of_mem_take hx)
    . rcases List.mem_cons.mp hx with rfl | hx
      . exact bb
      . exact ob x (List.mem_of_mem_drop hx)
  simp! only [↓F__law_bent_row, ↓m__law_bent_row, lD]
  refine (take_ok h (m := ((l.length : Int) + 1)) (by lia) (by lia)).mono ?_
  rintro _ ⟨at', d1, hat, h1, rfl⟩
  simp! only []
  refine (take_ok h1 (m := ((l.length : Int) + 1)) (by lia) (by lia)).mono ?_
  rintro _ ⟨other, d2, hot, h2, rfl⟩
  simp! only []
  refine (take_ok h2 (m := 6) (by lia) (by lia)).mono ?_
  rintro _ ⟨way, d3, hw, h3, rfl⟩
  simp! only []
  refine (take_ok h3 (m := 4) (by lia) (by lia)).mono ?_
  rintro _ ⟨v, d4, hv, h4, rfl⟩
  have hv' : ∃ z : Int, -(10 ^ 60) < z /\ z < 10 ^ 60 /\ [D.int 1, D.int (-1), D.int 100000000000000000000000000000000000000000000000000000000000, D.int (-100000000000000000000000000000000000000000000000000000000000)][v]? = some (.int z) := by
    have : v = 0 \/ v = 1 \/ v = 2 \/ v = 3 := by lia
    rcases this with rfl | rfl | rfl | rfl
    . exact ⟨_, by decide, by decide, rfl⟩
    . exact ⟨_, by decide, by decide, rfl⟩
    . exact ⟨_, by decide, by decide, rfl⟩
    . exact ⟨_, by decide, by decide, rfl⟩
  obtain ⟨z, z0, z1, ez⟩ := hv'
  have tail : ∀ o : List Int, o.length = l.length -> (∀ x ∈ o, -(10 ^ 61) < x /\ x < 10 ^ 61) -> ∀ {Q : Fl × R -> Prop}, (∀ (o : List Int) (ds' : List D) (a : List Sl), Pot ds' -> Sm o -> Q (.ret (.own (o.map D.int)), .par ds' :: a)) -> Ok (rs__law_bent_row_4 [.par d4, .val (lD l), .own (o.map D.int), .val (.int at'), .val (.int other), .val (.int way), .val (.int z)]) Q := fun o lo ob {Q} hQ => by
    refine (mid way at' other z o d4 h4 (by lia) (by lia) ⟨by lia, by lia⟩ ob).mono ?_
    rintro _ ⟨o', ds', a, hp, sm', rfl⟩
    exact hQ o' ds' a hp sm'
  simp! only [ez]
  refine ⟨fun hw3 => ⟨fun hat' => ?_, fun _ => tail l rfl hb' fun o' ds' a hp s' => ?_⟩, fun _ => tail l rfl hb' fun o' ds' a hp s' => ?_⟩
  rotate_left
  . simp! only []
    exact ⟨o', ds', hp, s', rfl⟩
  . simp! only []
    exact ⟨o', ds', hp, s', rfl⟩
  have ha : at' < l.length := by lia
  have ga : (l.map D.int)[at']? = some (.int l[at']) := by rw [List.getElem?_map, List.getElem?_eq_getElem ha]; rfl
  have bx := hb _ (List.getElem_mem ha)
  have b5 : 0 <= z % 5 /\ z % 5 < 5 := ⟨Int.emod_nonneg _ (by decide), Int.emod_lt_of_pos _ (by decide)⟩
  have b58 : 0 <= l[at'] % 10000000000000000000000000000000000000000000000000000000000 /\ l[at'] % 10000000000000000000000000000000000000000000000000000000000 < 10000000000000000000000000000000000000000000000000000000000 := ⟨Int.emod_nonneg _ (by decide), Int.emod_lt_of_pos _ (by decide)⟩
  have h3 : ∃ y : Int, (-(10 ^ 61) < y /\ y < 10 ^ 61) /\ [D.int (l[at'] % 10000000000000000000000000000000000000000000000000000000000 + z), D.int (l[at'] + z % 5 - 2), D.int z][way]? = some (.int y) := by
    have : way = 0 \/ way = 1 \/ way = 2 := by lia
    rcases this with rfl | rfl | rfl
    . exact ⟨_, ⟨by lia, by lia⟩, rfl⟩
    . exact ⟨_, ⟨by lia, by lia⟩, rfl⟩
    . exact ⟨_, ⟨by lia, by lia⟩, rfl⟩
  obtain ⟨y, yb, ey⟩ := h3
  simp! only [ga, ey, ha]
  have e2 : (l.map D.int).set at' (.int y) = (l.set at' y).map D.int := by rw [List.map_set]
  rw [e2]
  refine tail _ (by rw [List.length_set]) (fun x hx => ?_) fun o' ds' a hp s' => ?_
  rotate_left
  . simp! only []
    exact ⟨o', ds', hp, s', rfl⟩
  rcases List.mem_or_eq_of_mem_set hx with hx | rfl
  . exact hb' x hx
  . exact yb
def mk (n : Nat) (r : Nat -> Int) : List Int := (List.range n).map r
theorem lD_mk (n : Nat) (r : Nat -> Int) : D.lst (wI n r) = lD (mk n r) := by unfold lD mk; rw [w_ints]
def Sn (l : List Int) : Prop := l.length <= 50 /\ ∀ x ∈ l, -(10 ^ 60) < x /\ x < 10 ^ 60
theorem Sn.sm (h : Sn l) : Sm l := ⟨by have := h.1; lia, fun x hx => by have := h.2 x hx; lia⟩
theorem sn_mk (hn : n <= 50) (h : ∀ i, i < n -> -(10 ^ 60) < r i /\ r i < 10 ^ 60) : Sn (mk n r) := by
  refine ⟨by unfold mk; simpa using hn, fun x hx => ?_⟩
  obtain ⟨i, hi, rfl⟩ := List.mem_map.mp hx
  exact h i (List.mem_range.mp hi)
theorem both_ok (w : Nat) (hw : w < 2) (k : Int) (hA : Sm A) (hB : Sm B) (hC : Sm C) (a0 a1 a2 a5 a6 a7 a8 a9 a11 : Sl) : Ok (rs_law_1 [a0, a1, a2, .val (.int k), .val (.int w), a5, a6, a7, a8, a9, .own [lD A, lD B, lD C], a11]) fun p => ∃ ρ, p = (.next, a0 :: ρ) /\ ρ.length = 11 := by
  have e1 : (1 : Int) - (w : Int) = ((1 - w : Nat) : Int) := by lia
  simp! only [↓rs_law_1]
  refine (right_ok w hw k A B C hA hB hC).mono ?_
  rintro _ rfl
  simp! only [e1]
  refine (right_ok (1 - w) (by lia) k A B C hA hB hC).mono ?_
  rintro _ rfl
  simp! only []
  exact ⟨_, rfl, rfl⟩
theorem turn_ok (w : Nat) (hw : w < 2) (k : Int) (hA : Sm A) (hB : Sm B) (hC : Sm C) {S L G : List Int} (hS : Sm S) (hL : Sm L) (hG : Sm G) (t : Nat) (a0 a1 a2 a5 a7 : Sl) : Ok (rs_law_2 [a0, a1, a2, .val (.int k), .val (.int w), a5, .val (lD S), a7, .val (lD L), .val (lD G), .own [lD A, lD B, lD C], .val (.int t)]) fun p => ∃ ρ, p = (.next, a0 :: ρ) /\ ρ.length = 11 := by
  simp! only [↓rs_law_2]
  exact ⟨fun _ => both_ok w hw k hS hG hL _ _ _ _ _ _ _ _ _, fun _ => both_ok w hw k hA hB hC _ _ _ _ _ _ _ _ _⟩
def plc : ME := (m2 dAdd (eVar 5) (m2 dMul (m2 dSub (eVar 3) (eC (.int 1))) (mC dInt (aCons (eAnd (m2 dEq (eVar 4) (eC (.int 0))) (eChain dLt dLt (eC (.int 1)) (eVar 3) (eC (.int 6)))) aNil))))
def tail7 : MS := (sSeq (sAsg (eCallM F__law_bounds 2 (aCons (eCallM F__law_row 2 (aCons (mC (d2I min2) (aCons (eC (.int 40)) (aCons (eVar 7) aNil))) aNil)) aNil)) (gT 2 (gsCons (gN 8) (gsCons (gN 9) gsNil))))
    (sSeq (sSetO 10 (oLst (aCons (eVar 6) (aCons (eVar 8) (aCons (eVar 9) aNil)))))
    (sSeq (sSet 11 (eCallM F__law_take 2 (aCons (eC (.int 8)) aNil)))
    (sSeq (sIf (tTru (m2 dLt (eVar 11) (eC (.int 3))))
    (sPut 10 (eVar 11) (eCallM F__law_bent_row 2 (aCons (eIxV 10 (eVar 11)) aNil)))
    sNext)
    rs_law_2))))
theorem lb_eq : lb_law_3 = (sSeq (sSetO 2 (oCall F__law_pot (aCons (eVar 0) (aCons (eVar 1) aNil))))
    (sSeq (sSet 3 (m2 dIx (eTup (aCons (m2 dAdd (eC (.int 2)) (eCallM F__law_take 2 (aCons (eC (.int 4)) aNil))) (aCons (eCallM F__law_take 2 (aCons (eC (.int 8)) aNil)) (aCons (m1 dNeg (m2 dPow (eC (.int 10)) (eC (.int 59)))) (aCons (m2 dPow (eC (.int 10)) (eC (.int 59))) aNil))))) (mC (d2I max2) (aCons (eC (.int 0)) (aCons (m2 dSub (eCallM F__law_take 2 (aCons (eC (.int 9)) aNil)) (eC (.int 5))) aNil)))))
    (sSeq (sSet 4 (eCallM F__law_take 2 (aCons (eC (.int 2)) aNil)))
    (sSeq (sSet 5 (m2 dAdd (eC (.int 1)) (eCallM F__law_take 2 (aCons (eC (.int 25)) aNil))))
    (sSeq (sSet 6 (eCallM F__law_row 2 (aCons (eVar 5) aNil)))
    (sSeq (sSet 7 plc)
    tail7)))))) := rfl
theorem plc_ok (k : Int) (w m : Nat) (hm : m <= 26) (a0 a1 a2 a6 a7 a8 a9 a10 a11 : Sl) (hQ : ∀ n : Nat, n <= 40 -> ∀ z : Int, min2 40 z = (n : Int) -> Q (.int z, [a0, a1, a2, .val (.int k), .val (.int w), .val (.int m), a6, a7, a8, a9, a10, a11])) : Ok (plc [a0, a1, a2, .val (.int k), .val (.int w), .val (.int m), a6, a7, a8, a9, a10, a11]) Q := by
  have fin : ∀ z : Int, 0 <= z -> Q (.int z, [a0, a1, a2, .val (.int k), .val (.int w), .val (.int m), a6, a7, a8, a9, a10, a11]) := fun z h => hQ (min2 40 z).toNat (by unfold min2; split <;> lia) z (by unfold min2; split <;> lia)
  simp! only [↓plc]
  refine ⟨fun _ => ⟨fun hk => ⟨mulOk_r (by split <;> decide), fin _ ?_⟩, fun hk => ⟨mulOk_r (by decide), fin _ (by lia)⟩⟩, fun _ => ⟨mulOk_r (by decide), fin _ (by lia)⟩⟩
  split <;> lia
theorem tail_ok (h : Pot ds) (k : Int) (w m n : Nat) (hw : w < 2) (hm : m <= 26) (hn : n <= 40) (br : ∀ i, i < m -> Bd (8 * 10 ^ 58) (r i)) (ez : min2 40 z = (n : Int)) (a0 a1 a8 a9 a10 a11 : Sl) : Ok (tail7 [a0, a1, .own ds, .val (.int k), .val (.int w), .val (.int m), .val (.lst (wI m r)), .val (.int z), a8, a9, a10, a11]) fun p => ∃ ρ, p = (.next, a0 :: ρ) /\ ρ.length = 11 := by
  simp! only [↓tail7, ez]
  refine (law_row_ok h n (by lia)).mono ?_
  rintro _ ⟨r2, d7, h7, br2, rfl⟩
  simp! only []
  refine (bounds_ok h7 n (by lia) r2).mono ?_
  rintro _ ⟨L, G, d8, h8, bb, rfl⟩
  have sS : Sn (mk m r) := sn_mk (by lia) fun i hi => by have := br i hi; unfold Bd at this; lia
  have sL : Sn (mk n L) := sn_mk (by lia) fun i hi => by have := br2 i hi; have := bb i hi; unfold Bd at *; lia
  have sG : Sn (mk n G) := sn_mk (by lia) fun i hi => by have := br2 i hi; have := bb i hi; unfold Bd at *; lia
  rw [lD_mk, lD_mk, lD_mk]
  simp! only []
  refine (take_ok h8 (m := 8) (by lia) (by lia)).mono ?_
  rintro _ ⟨t, d9, ht, h9, rfl⟩
  simp! only []
  refine ⟨fun t3 => ?_, fun _ => turn_ok w hw k sS.sm sL.sm sG.sm sS.sm sL.sm sG.sm t _ _ _ _ _⟩
  have : t = 0 \/ t = 1 \/ t = 2 := by lia
  rcases this with rfl | rfl | rfl
  . simp! only [Int.natCast_zero]
    refine (bent_ok h9 sS.1 sS.2).mono ?_
    rintro _ ⟨o, d10, h10, so, rfl⟩
    simp! only []
    exact turn_ok w hw k (A := o) so sL.sm sG.sm sS.sm sL.sm sG.sm 0 _ _ _ _ _
  . simp! only [Int.natCast_one]
    refine (bent_ok h9 sL.1 sL.2).mono ?_
    rintro _ ⟨o, d10, h10, so, rfl⟩
    simp! only []
    exact turn_ok w hw k (B := o) sS.sm so sG.sm sS.sm sL.sm sG.sm 1 _ _ _ _ _
  . simp! only [show ((2 : Nat) : Int) = 2 by rfl]
    refine (bent_ok h9 sG.1 sG.2).mono ?_
    rintro _ ⟨o, d10, h10, so, rfl⟩
    simp! only []
    exact turn_ok w hw k (C := o) sS.sm sL.sm so sS.sm sL.sm sG.sm 2 _ _ _ _ _
theorem cell_ok (ns : List Int) (i : Nat) (hi : i < 64) (a2 a3 a4 a5 a6 a7 a8 a9 a10 a11 : Sl) : Ok (lb_law_3 [.val (.scr ns), .val (.int i), a2, a3, a4, a5, a6, a7, a8, a9, a10, a11]) fun p => ∃ ρ, p = (.next, .val (.scr ns) :: ρ) /\ ρ.length = 11 := by
  simp! only [lb_eq]
  refine (pot_ok ns i hi).mono ?_
  rintro _ ⟨d0, h0, rfl⟩
  simp! only []
  refine (take_ok h0 (m := 4) (by lia) (by lia)).mono ?_
  rintro _ ⟨t1, d1, ht1, h1, rfl⟩
  simp! only []
  refine (take_ok h1 (m := 8) (by lia) (by lia)).mono ?_
  rintro _ ⟨t2, d2, ht2, h2, rfl⟩
  simp! only []
  refine (take_ok h2 (m := 9) (by lia) (by lia)).mono ?_
  rintro _ ⟨t3, d3, ht3, h3, rfl⟩
  have hk : ∃ (q : Nat) (k : Int), max2 0 ((t3 : Int) - 5) = (q : Int) /\ [D.int (2 + (t1 : Int)), D.int t2, D.int (-100000000000000000000000000000000000000000000000000000000000), D.int 100000000000000000000000000000000000000000000000000000000000][q]? = some (.int k) := by
    refine ⟨(max2 0 ((t3 : Int) - 5)).toNat, ?_⟩
    have b : 0 <= max2 0 ((t3 : Int) - 5) /\ max2 0 ((t3 : Int) - 5) < 4 := by unfold max2; split <;> lia
    have : (max2 0 ((t3 : Int) - 5)).toNat = 0 \/ (max2 0 ((t3 : Int) - 5)).toNat = 1 \/ (max2 0 ((t3 : Int) - 5)).toNat = 2 \/ (max2 0 ((t3 : Int) - 5)).toNat = 3 := by lia
    rcases this with h | h | h | h <;> rw [h]
    . exact ⟨_, by lia, rfl⟩
    . exact ⟨_, by lia, rfl⟩
    . exact ⟨_, by lia, rfl⟩
    . exact ⟨_, by lia, rfl⟩
  obtain ⟨q, k, eq, ek⟩ := hk
  simp! only [eq, ek]
  refine (take_ok h3 (m := 2) (by lia) (by lia)).mono ?_
  rintro _ ⟨w, d4, hw, h4, rfl⟩
  simp! only []
  refine (take_ok h4 (m := 25) (by lia) (by lia)).mono ?_
  rintro _ ⟨m, d5, hm, h5, rfl⟩
  simp! only [show (1 : Int) + (m : Int) = ((1 + m : Nat) : Int) by lia]
  refine (law_row_ok h5 (1 + m) (by lia)).mono ?_
  rintro _ ⟨r, d6, h6, br, rfl⟩
  simp! only []
  refine plc_ok k w (1 + m) (by lia) _ _ _ _ _ _ _ _ _ fun n hn z ez => ?_
  simp! only []
  exact tail_ok h6 k w (1 + m) n (by lia) (by lia) hn br ez _ _ _ _ _ _
theorem math (ns : List Int) (hl : ns.length <= 63) : F_law [.scr ns] = some (.val (.bl true)) := by
  have : Ok (F_law [.scr ns]) fun r => r = .val (.bl true) := by
    have hm : ∃ m : Nat, m <= 12 /\ max2 1 (min2 (ns.length : Int) 12) = (m : Int) := by
      unfold max2 min2
      exact ⟨(if (if (12 : Int) < (ns.length : Int) then 12 else (ns.length : Int)) > 1 then (if (12 : Int) < (ns.length : Int) then 12 else (ns.length : Int)) else 1).toNat, by split <;> split <;> lia, by split <;> split <;> lia⟩
    obtain ⟨m, hm12, em⟩ := hm
    have open11 : ∀ ρ : R, ρ.length = 11 -> ∃ b1 b2 b3 b4 b5 b6 b7 b8 b9 b10 b11, ρ = [b1, b2, b3, b4, b5, b6, b7, b8, b9, b10, b11] := fun ρ h => by
      match ρ, h with
      | [b1, b2, b3, b4, b5, b6, b7, b8, b9, b10, b11], _ => exact ⟨b1, b2, b3, b4, b5, b6, b7, b8, b9, b10, b11, rfl⟩
    simp! only [↓F_law, ↓m_law]
    refine apart_ok.mono ?_
    rintro _ rfl
    simp! only [↓rs_law_4, ↓lp_law_3, em]
    refine ⟨smallI_of (by lia) (by lia), ok_forW (fun i ρ => ∃ ρ', ρ = .val (.scr ns) :: ρ' /\ ρ'.length = 11) ⟨_, rfl, rfl⟩ ?_ ?_⟩
    . rintro i _ hi ⟨ρ', rfl, hl'⟩
      obtain ⟨b1, b2, b3, b4, b5, b6, b7, b8, b9, b10, b11, rfl⟩ := open11 ρ' hl'
      simp! only []
      refine (cell_ok ns i (by lia) _ _ _ _ _ _ _ _ _ _).mono ?_
      rintro _ ⟨ρ, rfl, hr⟩
      exact ⟨ρ, rfl, hr⟩
    . rintro _ ⟨ρ', rfl, hl'⟩
      simp! only []
  obtain ⟨_, e, rfl⟩ := this
  exact e
end Prf
def PySem.W.Fast.tw9660059502915318706 : Nat := 0
def PySem.W.Fast.tw2904996899743416796 : Nat := 0
def PySem.W.Fast.tw15972535097072424800 : Nat := 0
def PySem.W.Fast.tw15920278443361653857 : Nat := 0
def PySem.W.Fast.tw7447331022341332963 : Nat := 0
def PySem.W.Fast.tw12047909131584249091 : Nat := 0
def PySem.W.Fast.tw8086310171699833752 : Nat := 0
def PySem.W.Fast.tw2285781449175411024 : Nat := 0
def PySem.W.Fast.tw15931994810026704267 : Nat := 0
def PySem.W.Fast.tw6183720981352046197 : Nat := 0
def PySem.W.Fast.tw15280449566738719269 : Nat := 0
def PySem.W.Fast.tw5947730292403633598 : Nat := 0
def PySem.W.Fast.tw5169363781807666555 : Nat := 0
def PySem.W.Fast.tw17581112327047191570 : Nat := 0
def PySem.W.Fast.tw6818593399111670692 : Nat := 0
def PySem.W.Fast.tw12199411451901693723 : Nat := 0
def PySem.W.Fast.tw9746624602468239433 : Nat := 0
def PySem.W.Fast.tw3493706670874517480 : Nat := 0
def PySem.W.Fast.tw14716191432110159966 : Nat := 0
def PySem.W.Fast.tw12825597864077305073 : Nat := 0
def PySem.W.Fast.tw9598618042407519289 : Nat := 0
def PySem.W.Fast.tw14175439793355039371 : Nat := 0
def PySem.W.Fast.tw10005120264264577116 : Nat := 0
def PySem.W.Fast.tw10491507337536355814 : Nat := 0
def PySem.W.Fast.tw12138468016370303859 : Nat := 0
def PySem.W.Fast.tw4929239059236438701 : Nat := 0
def PySem.W.Fast.tw381249551772445208 : Nat := 0
def PySem.W.Fast.tw18032270245578554196 : Nat := 0
def PySem.W.Fast.tw9309090018862408275 : Nat := 0
def PySem.W.Fast.tw3864827481660257646 : Nat := 0
def PySem.W.Fast.tw10330150289963294386 : Nat := 0
def PySem.W.Fast.tw4801826848032934557 : Nat := 0
def PySem.W.Fast.tw3053962974162720531 : Nat := 0
def PySem.W.Fast.tw4579216352610535942 : Nat := 0
def PySem.W.Fast.tw17008381342810255397 : Nat := 0
def PySem.W.Fast.tw5451402755736795738 : Nat := 0
def PySem.W.Fast.tw9219163274573815482 : Nat := 0
def PySem.W.Fast.tw1350323581096913387 : Nat := 0
def PySem.W.Fast.tw1535914079662335600 : Nat := 0
def PySem.W.Fast.tw3221432942010025029 : Nat := 0
def PySem.W.Fast.tw9995645796706017389 : Nat := 0
def PySem.W.Fast.tw14160348669868643952 : Nat := 0
def PySem.W.Fast.tw8843632103629955602 : Nat := 0
def PySem.W.Fast.tw13884182335345035403 : Nat := 0
def PySem.W.Fast.tw820881929161881667 : Nat := 0
def PySem.W.Fast.tw12506400814449761052 : Nat := 0
def PySem.W.Fast.tw4782254092189065708 : Nat := 0
def PySem.W.Fast.tw4777763997365811032 : Nat := 0
def PySem.W.Fast.tw16391745294943181178 : Nat := 0
def PySem.W.Fast.tw609106566643168120 : Nat := 0
def PySem.W.Fast.tw5871169182552891529 : Nat := 0
def PySem.W.Fast.tw15699320653677522891 : Nat := 0
def PySem.W.Fast.tw18400176230548010369 : Nat := 0
def PySem.W.Fast.tw8188976642434905367 : Nat := 0
def PySem.W.Fast.tw15420138631528176081 : Nat := 0
def PySem.W.Fast.tw16447233533434896410 : Nat := 0
def PySem.W.Fast.tw4689215040562212378 : Nat := 0
def PySem.W.Fast.tw4173009482868152241 : Nat := 0
def PySem.W.Fast.tw4201949495994717208 : Nat := 0
def PySem.W.Fast.tw740758657459273745 : Nat := 0
def PySem.W.Fast.tw1141408897759900375 : Nat := 0
def PySem.W.Fast.tw4817905621956237034 : Nat := 0
def PySem.W.Fast.tw5182657162565426073 : Nat := 0
def PySem.W.Fast.tw12420402687536929606 : Nat := 0
def PySem.W.Fast.tw9683551750687194554 : Nat := 0
def PySem.W.Fast.tw2133324446994122578 : Nat := 0
def PySem.W.Fast.tw18340515637092036445 : Nat := 0
def PySem.W.Fast.tw2017312996697629925 : Nat := 0
def PySem.W.Fast.tw11321615806076420701 : Nat := 0
def PySem.W.Fast.tw13809760423900879209 : Nat := 0
def PySem.W.Fast.tw8425671036475262825 : Nat := 0
def PySem.W.Fast.tw2151459570507952583 : Nat := 0
def PySem.W.Fast.tw8927387608872855634 : Nat := 0
def PySem.W.Fast.tw13334422315315947799 : Nat := 0
def PySem.W.Fast.tw15679525352913869105 : Nat := 0
def PySem.W.Fast.tw15790526166072731607 : Nat := 0
def PySem.W.Fast.tw12814676807202263686 : Nat := 0
def PySem.W.Fast.tw15015967067822357943 : Nat := 0
def PySem.W.Fast.tw6181282643792333069 : Nat := 0
def PySem.W.Fast.tw10247833129940109432 : Nat := 0
def PySem.W.Fast.tw1701715346543237385 : Nat := 0
def PySem.W.Fast.tw8226072772099555881 : Nat := 0
def PySem.W.Fast.tw17246148269881749621 : Nat := 0
def PySem.W.Fast.tw12434846277456678589 : Nat := 0
def PySem.W.Fast.tw15885657767843173716 : Nat := 0
def PySem.W.Fast.tw1428911087820875198 : Nat := 0
def PySem.W.Fast.tw1100521517842192339 : Nat := 0
def PySem.W.Fast.tw4088425902109744755 : Nat := 0
def PySem.W.Fast.tw10745226362246139176 : Nat := 0
def PySem.W.Fast.tw9250834638830991412 : Nat := 0
def PySem.W.Fast.tw16886033737813703270 : Nat := 0
def PySem.W.Fast.tw13987088443815203529 : Nat := 0
def PySem.W.Fast.tw17352611871130311773 : Nat := 0
def PySem.W.Fast.tw3909535321386752288 : Nat := 0
def PySem.W.Fast.tw9381945169893332630 : Nat := 0
def PySem.W.Fast.tw12208917668128437041 : Nat := 0
def PySem.W.Fast.tw6392078659644640982 : Nat := 0
def PySem.W.Fast.tw7773438393141248618 : Nat := 0
def PySem.W.Fast.tw16704432287007064084 : Nat := 0
def PySem.W.Fast.tw6147573251096024938 : Nat := 0
def PySem.W.Fast.tw13726416102840141551 : Nat := 0
def PySem.W.Fast.tw2221532625335058329 : Nat := 0
def PySem.W.Fast.tw14006182392827458456 : Nat := 0
def PySem.W.Fast.tw7859624325666218086 : Nat := 0
def PySem.W.Fast.tw8403813381087228493 : Nat := 0
def PySem.W.Fast.tw12394066594169915790 : Nat := 0
def PySem.W.Fast.tw945392733390786994 : Nat := 0
def PySem.W.Fast.tw15701960546007396098 : Nat := 0
def PySem.W.Fast.tw7131538553398546811 : Nat := 0
def PySem.W.Fast.tw13815684524276780588 : Nat := 0
def PySem.W.Fast.tw15919267960267448978 : Nat := 0
def PySem.W.Fast.tw13968848276443672410 : Nat := 0
def PySem.W.Fast.tw18109547319427283530 : Nat := 0
def PySem.W.Fast.tw925127493376155584 : Nat := 0
def PySem.W.Fast.tw1077109218890287032 : Nat := 0
def PySem.W.Fast.tw15498402007784785478 : Nat := 0
def PySem.W.Fast.tw333467106312209879 : Nat := 0
def PySem.W.Fast.tw12337814620152330580 : Nat := 0
def PySem.W.Fast.tw2612546863991461974 : Nat := 0
def PySem.W.Fast.tw5398581201631353823 : Nat := 0
def PySem.W.Fast.tw962571029440623741 : Nat := 0
def PySem.W.Fast.tw4290493269696433509 : Nat := 0
def PySem.W.Fast.tw1800207479234025569 : Nat := 0
def PySem.W.Fast.tw4903490667347429665 : Nat := 0
def PySem.W.Fast.tw5960698807955508557 : Nat := 0
def PySem.W.Fast.tw10237491137690631629 : Nat := 0
def PySem.W.Fast.tw4842551295342106905 : Nat := 0
def PySem.W.Fast.tw927844022887470828 : Nat := 0
def PySem.W.Fast.tw4094931099085074059 : Nat := 0
def PySem.W.Fast.tw15826549313839156661 : Nat := 0
def PySem.W.Fast.tw17789536455604634499 : Nat := 0
def PySem.W.Fast.tw1898797665055623606 : Nat := 0
def PySem.W.Fast.tw17403116424637820510 : Nat := 0
def PySem.W.Fast.tw10042470568159818007 : Nat := 0
def PySem.W.Fast.tw9200963792853890492 : Nat := 0
def PySem.W.Fast.tw12003779492340757323 : Nat := 0
def PySem.W.Fast.tw736272054622760563 : Nat := 0
def PySem.W.Fast.tw7337166853503953464 : Nat := 0
def PySem.W.Fast.tw11361259974112530906 : Nat := 0
def PySem.W.Fast.tw18009653539723458594 : Nat := 0
def PySem.W.Fast.tw14379890375450116262 : Nat := 0
def PySem.W.Fast.tw4228218041372503593 : Nat := 0
def PySem.W.Fast.tw16674011398436789859 : Nat := 0
def PySem.W.Fast.tw2933784510527289751 : Nat := 0
def PySem.W.Fast.tw15469317625698641083 : Nat := 0
def PySem.W.Fast.tw1106767346833036415 : Nat := 0
def PySem.W.Fast.tw1617843664084929565 : Nat := 0
def PySem.W.Fast.tw10537959624632612491 : Nat := 0
def PySem.W.Fast.tw13857048367447517405 : Nat := 0
def PySem.W.Fast.tw10292471581683799572 : Nat := 0
def PySem.W.Fast.tw525837264337977466 : Nat := 0
def PySem.W.Fast.tw4390887935130594712 : Nat := 0
def PySem.W.Fast.tw8529374203218421693 : Nat := 0
def PySem.W.Fast.tw9459908116568119076 : Nat := 0
def PySem.W.Fast.tw1751002238736188100 : Nat := 0
def PySem.W.Fast.tw4325510411281544290 : Nat := 0
def PySem.W.Fast.tw11151420420078190332 : Nat := 0
open PyProof.Rows PySem PySem.W
set_option maxRecDepth 100000 in
set_option maxHeartbeats 0 in
theorem PySem.Challenge.cw_tellsum_k02_lines_and_rings_made_holds : PySem.Challenge.rw_tellsum_k02_lines_and_rings_made.Holds := by
  w_on; o_law; k_head; (case hw => w_witness2)
  k_fill
  refine Prf.walk (l := PySem.Challenge.rw_tellsum_k02_lines_and_rings_made) rfl rfl Prf.math (fun w h Y => PySem.W.kIn_of Y) ?F
  case F =>
    intro w mg fa h KX G hmg
    refine' Prf.all_mk KX G hmg ?h1 ?h2 ?h3 ?h4 ?h5 ?h6 ?h7 ?h8 ?h9 ?h10 ?h11 ?h12 ?h13 ?h14 ?h15 ?h16 ?h17 ?h18 ?h19 ?h20 ?h21 ?z0 ?z1 ?z2 ?z3 ?z4 ?z5 ?z6 ?z7 ?z8 ?z9 ?z10 ?z11 ?z12 ?y0 ?n_BadTelling ?n_NoFit ?n_NoNumber ?n_NoPlace ?n_NotTwos ?n_NoPast ?n_NoText ?n_NoRow ?n_Unlike ?n_SumError ?hsp ?htk ?lk_BadTelling ?in_BadTelling ?ln_BadTelling ?on_BadTelling ?lk_NoFit ?in_NoFit ?ln_NoFit ?on_NoFit ?lk_NoNumber ?in_NoNumber ?ln_NoNumber ?on_NoNumber ?lk_NoPlace ?in_NoPlace ?ln_NoPlace ?on_NoPlace ?lk_NotTwos ?in_NotTwos ?ln_NotTwos ?on_NotTwos ?lk_NoPast ?in_NoPast ?ln_NoPast ?on_NoPast ?lk_NoText ?in_NoText ?ln_NoText ?on_NoText ?lk_NoRow ?in_NoRow ?ln_NoRow ?on_NoRow ?lk_Unlike ?in_Unlike ?ln_Unlike ?on_Unlike ?lk_SumError ?in_SumError ?ln_SumError ?on_SumError ?et_BadTelling ?et_NoFit ?et_NoNumber ?et_NoPlace ?et_NotTwos ?et_NoPast ?et_NoText ?et_NoRow ?et_Unlike ?et_SumError ?hb_SumError ?eb_BadTelling ?ega_BadTelling ?egt_BadTelling ?ef_BadTelling ?eo_BadTelling ?q_BadTelling_BadTelling ?q_BadTelling_SumError ?q_BadTelling_NoFit ?q_BadTelling_NoNumber ?q_BadTelling_NoPast ?q_BadTelling_NoPlace ?q_BadTelling_NoRow ?q_BadTelling_NoText ?q_BadTelling_NotTwos ?q_BadTelling_Unlike ?q_BadTelling_ValueError ?eb_NoFit ?ega_NoFit ?egt_NoFit ?ef_NoFit ?eo_NoFit ?q_NoFit_NoFit ?q_NoFit_SumError ?q_NoFit_BadTelling ?q_NoFit_NoNumber ?q_NoFit_NoPast ?q_NoFit_NoPlace ?q_NoFit_NoRow ?q_NoFit_NoText ?q_NoFit_NotTwos ?q_NoFit_Unlike ?q_NoFit_ValueError ?eb_NoNumber ?ega_NoNumber ?egt_NoNumber ?ef_NoNumber ?eo_NoNumber ?q_NoNumber_NoNumber ?q_NoNumber_SumError ?q_NoNumber_BadTelling ?q_NoNumber_NoFit ?q_NoNumber_NoPast ?q_NoNumber_NoPlace ?q_NoNumber_NoRow ?q_NoNumber_NoText ?q_NoNumber_NotTwos ?q_NoNumber_Unlike ?q_NoNumber_ValueError ?eb_NoPlace ?ega_NoPlace ?egt_NoPlace ?ef_NoPlace ?eo_NoPlace ?q_NoPlace_NoPlace ?q_NoPlace_SumError ?q_NoPlace_BadTelling ?q_NoPlace_NoFit ?q_NoPlace_NoNumber ?q_NoPlace_NoPast ?q_NoPlace_NoRow ?q_NoPlace_NoText ?q_NoPlace_NotTwos ?q_NoPlace_Unlike ?q_NoPlace_ValueError ?eb_NotTwos ?ega_NotTwos ?egt_NotTwos ?ef_NotTwos ?eo_NotTwos ?q_NotTwos_NotTwos ?q_NotTwos_SumError ?q_NotTwos_BadTelling ?q_NotTwos_NoFit ?q_NotTwos_NoNumber ?q_NotTwos_NoPast ?q_NotTwos_NoPlace ?q_NotTwos_NoRow ?q_NotTwos_NoText ?q_NotTwos_Unlike ?q_NotTwos_ValueError ?eb_NoPast ?ega_NoPast ?egt_NoPast ?ef_NoPast ?eo_NoPast ?q_NoPast_NoPast ?q_NoPast_SumError ?q_NoPast_BadTelling ?q_NoPast_NoFit ?q_NoPast_NoNumber ?q_NoPast_NoPlace ?q_NoPast_NoRow ?q_NoPast_NoText ?q_NoPast_NotTwos ?q_NoPast_Unlike ?q_NoPast_ValueError ?eb_NoText ?ega_NoText ?egt_NoText ?ef_NoText ?eo_NoText ?q_NoText_NoText ?q_NoText_SumError ?q_NoText_BadTelling ?q_NoText_NoFit ?q_NoText_NoNumber ?q_NoText_NoPast ?q_NoText_NoPlace ?q_NoText_NoRow ?q_NoText_NotTwos ?q_NoText_Unlike ?q_NoText_ValueError ?eb_NoRow ?ega_NoRow ?egt_NoRow ?ef_NoRow ?eo_NoRow ?q_NoRow_NoRow ?q_NoRow_SumError ?q_NoRow_BadTelling ?q_NoRow_NoFit ?q_NoRow_NoNumber ?q_NoRow_NoPast ?q_NoRow_NoPlace ?q_NoRow_NoText ?q_NoRow_NotTwos ?q_NoRow_Unlike ?q_NoRow_ValueError ?eb_Unlike ?ega_Unlike ?egt_Unlike ?ef_Unlike ?eo_Unlike ?q_Unlike_Unlike ?q_Unlike_SumError ?q_Unlike_BadTelling ?q_Unlike_NoFit ?q_Unlike_NoNumber ?q_Unlike_NoPast ?q_Unlike_NoPlace ?q_Unlike_NoRow ?q_Unlike_NoText ?q_Unlike_NotTwos ?q_Unlike_ValueError ?eb_SumError ?ega_SumError ?egt_SumError ?ef_SumError ?eo_SumError ?q_SumError_SumError ?q_SumError_BadTelling ?q_SumError_NoFit ?q_SumError_NoNumber ?q_SumError_NoPast ?q_SumError_NoPlace ?q_SumError_NoRow ?q_SumError_NoText ?q_SumError_NotTwos ?q_SumError_Unlike ?q_SumError_ValueError
    (case h1 | h2 | h3 | h4 | h5 | h6 | h7 | h8 | h9 | h10 | h11 | h12 | h13 | h14 | h15 | h16 | h17 | h18 | h19 | h20 | h21 =>
      refine' M.FnAt.mk ?a ?l ?c ?k
      (case a => k_is)
      (case l => k_is)
      (case c => k_is)
      (case k => k_is))
    (case z0 | z1 | z2 | z3 | z4 | z5 | z6 | z7 | z8 | z9 | z10 | z11 | z12 | y0 | n_BadTelling | n_NoFit | n_NoNumber | n_NoPlace | n_NotTwos | n_NoPast | n_NoText | n_NoRow | n_Unlike | n_SumError | hsp | htk | lk_BadTelling | in_BadTelling | ln_BadTelling | lk_NoFit | in_NoFit | ln_NoFit | lk_NoNumber | in_NoNumber | ln_NoNumber | lk_NoPlace | in_NoPlace | ln_NoPlace | lk_NotTwos | in_NotTwos | ln_NotTwos | lk_NoPast | in_NoPast | ln_NoPast | lk_NoText | in_NoText | ln_NoText | lk_NoRow | in_NoRow | ln_NoRow | lk_Unlike | in_Unlike | ln_Unlike | lk_SumError | in_SumError | ln_SumError | et_BadTelling | et_NoFit | et_NoNumber | et_NoPlace | et_NotTwos | et_NoPast | et_NoText | et_NoRow | et_Unlike | et_SumError | hb_SumError | eb_BadTelling | ega_BadTelling | egt_BadTelling | ef_BadTelling | eo_BadTelling | q_BadTelling_BadTelling | q_BadTelling_SumError | q_BadTelling_NoFit | q_BadTelling_NoNumber | q_BadTelling_NoPast | q_BadTelling_NoPlace | q_BadTelling_NoRow | q_BadTelling_NoText | q_BadTelling_NotTwos | q_BadTelling_Unlike | q_BadTelling_ValueError | eb_NoFit | ega_NoFit | egt_NoFit | ef_NoFit | eo_NoFit | q_NoFit_NoFit | q_NoFit_SumError | q_NoFit_BadTelling | q_NoFit_NoNumber | q_NoFit_NoPast | q_NoFit_NoPlace | q_NoFit_NoRow | q_NoFit_NoText | q_NoFit_NotTwos | q_NoFit_Unlike | q_NoFit_ValueError | eb_NoNumber | ega_NoNumber | egt_NoNumber | ef_NoNumber | eo_NoNumber | q_NoNumber_NoNumber | q_NoNumber_SumError | q_NoNumber_BadTelling | q_NoNumber_NoFit | q_NoNumber_NoPast | q_NoNumber_NoPlace | q_NoNumber_NoRow | q_NoNumber_NoText | q_NoNumber_NotTwos | q_NoNumber_Unlike | q_NoNumber_ValueError | eb_NoPlace | ega_NoPlace | egt_NoPlace | ef_NoPlace | eo_NoPlace | q_NoPlace_NoPlace | q_NoPlace_SumError | q_NoPlace_BadTelling | q_NoPlace_NoFit | q_NoPlace_NoNumber | q_NoPlace_NoPast | q_NoPlace_NoRow | q_NoPlace_NoText | q_NoPlace_NotTwos | q_NoPlace_Unlike | q_NoPlace_ValueError | eb_NotTwos | ega_NotTwos | egt_NotTwos | ef_NotTwos | eo_NotTwos | q_NotTwos_NotTwos | q_NotTwos_SumError | q_NotTwos_BadTelling | q_NotTwos_NoFit | q_NotTwos_NoNumber | q_NotTwos_NoPast | q_NotTwos_NoPlace | q_NotTwos_NoRow | q_NotTwos_NoText | q_NotTwos_Unlike | q_NotTwos_ValueError | eb_NoPast | ega_NoPast | egt_NoPast | ef_NoPast | eo_NoPast | q_NoPast_NoPast | q_NoPast_SumError | q_NoPast_BadTelling | q_NoPast_NoFit | q_NoPast_NoNumber | q_NoPast_NoPlace | q_NoPast_NoRow | q_NoPast_NoText | q_NoPast_NotTwos | q_NoPast_Unlike | q_NoPast_ValueError | eb_NoText | ega_NoText | egt_NoText | ef_NoText | eo_NoText | q_NoText_NoText | q_NoText_SumError | q_NoText_BadTelling | q_NoText_NoFit | q_NoText_NoNumber | q_NoText_NoPast | q_NoText_NoPlace | q_NoText_NoRow | q_NoText_NotTwos | q_NoText_Unlike | q_NoText_ValueError | eb_NoRow | ega_NoRow | egt_NoRow | ef_NoRow | eo_NoRow | q_NoRow_NoRow | q_NoRow_SumError | q_NoRow_BadTelling | q_NoRow_NoFit | q_NoRow_NoNumber | q_NoRow_NoPast | q_NoRow_NoPlace | q_NoRow_NoText | q_NoRow_NotTwos | q_NoRow_Unlike | q_NoRow_ValueError | eb_Unlike | ega_Unlike | egt_Unlike | ef_Unlike | eo_Unlike | q_Unlike_Unlike | q_Unlike_SumError | q_Unlike_BadTelling | q_Unlike_NoFit | q_Unlike_NoNumber | q_Unlike_NoPast | q_Unlike_NoPlace | q_Unlike_NoRow | q_Unlike_NoText | q_Unlike_NotTwos | q_Unlike_ValueError | eb_SumError | ega_SumError | egt_SumError | ef_SumError | eo_SumError | q_SumError_SumError | q_SumError_BadTelling | q_SumError_NoFit | q_SumError_NoNumber | q_SumError_NoPast | q_SumError_NoPlace | q_SumError_NoRow | q_SumError_NoText | q_SumError_NotTwos | q_SumError_Unlike | q_SumError_ValueError => k_is)
    (case on_BadTelling | on_NoFit | on_NoNumber | on_NoPlace | on_NotTwos | on_NoPast | on_NoText | on_NoRow | on_Unlike | on_SumError => rfl)
end
