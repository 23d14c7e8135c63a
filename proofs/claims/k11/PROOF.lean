import PyProof.Rows.All
import Wide.All
import OpenK.AllK
import Wide.FinOn
import Lean
import PyProof.EqAt
import PyProof.EqKinds
import PyProof.TupleCall
import PyProof.Rows.Range3
import PyProof.ZipIter
import PyProof.Draws
import PyProof.EnumMake
import PyProof.Rows.FactsTup
import PyProof.LayNew
import PyProof.Rows.SeqMore2
import PyProof.Rows.RuleIs
import PySem.Challenge.RW_tellsum_k11_lines_judged
set_option Elab.async false
set_option linter.all false
set_option maxRecDepth 100000
namespace L2
open PySem PySem.Spec PyProof.Rows
noncomputable abbrev Key := Sum Int Str
noncomputable def keyIs : Key → Value → Bool
 | .inl k, v => Value.isInt k v
 | .inr x, v => Value.isStrOf x v
noncomputable def keyH (w : World) : Key → Int
 | .inl k => hashInt k
 | .inr x => hashStr w x
theorem zco : ∀ {k : Key} {v : Value}, keyIs k v = true → (∃ i t, k = Sum.inl i ∧ v = Value.int i t) ∨ (∃ x t, k = Sum.inr x ∧ v = Value.str x t)
 | .inl i, v, h => by
  obtain ⟨t, e⟩ := Value.isInt_shape (k := i) (v := v) h
  exact .inl ⟨i, t, rfl, e⟩
 | .inr x, v, h => by
  obtain ⟨t, e⟩ := Value.isStrOf_shape (x := x) (v := v) h
  exact .inr ⟨x, t, rfl, e⟩
theorem key_ll (a b : Int) : decide ((Sum.inl a : Key) = Sum.inl b) = (a == b) := by
 by_cases e : a = b
 ·subst e; simp
 ·have h : ¬ (Sum.inl a : Key) = Sum.inl b := fun q => e (Sum.inl.inj q)
  rw [decide_eq_false h]
  exact (beq_eq_false_iff_ne.mpr e).symm
theorem key_rr (a b : Str) : decide ((Sum.inr a : Key) = Sum.inr b) = decide (a = b) := by
 by_cases e : a = b
 ·subst e; simp
 ·have h : ¬ (Sum.inr a : Key) = Sum.inr b := fun q => e (Sum.inr.inj q)
  rw [decide_eq_false h, decide_eq_false e]
theorem key_lr (a : Int) (b : Str) : decide ((Sum.inl a : Key) = Sum.inr b) = false := decide_eq_false (fun q => nomatch q)
theorem key_rl (a : Str) (b : Int) : decide ((Sum.inr a : Key) = Sum.inl b) = false := decide_eq_false (fun q => nomatch q)
noncomputable def zka (prog : Program) (w : World) : PySem.KeyKind prog w Key where
 is := keyIs
 hash := keyH w
 inj := fun v a b ha hb => by
  rcases zco ha with ⟨i, t, rfl, rfl⟩ | ⟨x, t, rfl, rfl⟩
  ·rcases zco hb with ⟨j, u, rfl, e⟩ | ⟨y, u, rfl, e⟩
   ·injection e with e1 _; rw [e1]
   ·exact nomatch e
  ·rcases zco hb with ⟨j, u, rfl, e⟩ | ⟨y, u, rfl, e⟩
   ·exact nomatch e
   ·injection e with e1 _; rw [e1]
 byValue := fun k v h => by
  rcases zco h with ⟨i, t, rfl, rfl⟩ | ⟨x, t, rfl, rfl⟩ <;> rfl
 pyHash := fun hv h => by
  rcases zco hv with ⟨i, t, rfl, rfl⟩ | ⟨x, t, rfl, rfl⟩
  ·exact wpAny_pyHash_int h
  ·exact wpAny_pyHash_str h
 eqBool := fun hu hv h => by
  rcases zco hu with ⟨i, t, rfl, rfl⟩ | ⟨x, t, rfl, rfl⟩
  ·rcases zco hv with ⟨j, u, rfl, rfl⟩ | ⟨y, u, rfl, rfl⟩
   ·rw [key_ll] at h; exact wpAny_eqBool_int h
   ·rw [key_lr] at h; exact SeqAt.EqAt.int_str i t y u _ _ _ _ h
  ·rcases zco hv with ⟨j, u, rfl, rfl⟩ | ⟨y, u, rfl, rfl⟩
   ·rw [key_rl] at h; exact SeqAt.EqAt.str_int x t j u _ _ _ _ h
   ·rw [key_rr] at h; exact wpAny_eqBool_str h
 «strs» := fun k x t v h => by
  rcases zco h with ⟨i, u, rfl, e⟩ | ⟨y, u, rfl, e⟩
  ·exact nomatch e
  ·injection e with e1 _
   subst e1
   cases v <;> rfl
end L2
namespace L2
open PySem PySem.Spec PyProof.Rows
inductive V where
 | non | bl (b : Bool) | int (i : Int) | str (x : Str) | byt (b : Array UInt8) | flt (b : UInt64) | ref (a : Addr) | ty (n : String)
 deriving DecidableEq
noncomputable def RelV : V → Value → Prop
 | .non, u => u = Value.none
 | .bl b, u => u = Value.bool b
 | .int i, u => ∃ t, u = Value.int i t
 | .str x, u => ∃ t, u = Value.str x t
 | .byt b, u => ∃ t, u = Value.bytes b t
 | .flt b, u => ∃ t, u = Value.float b t
 | .ref a, u => u = Value.ref a
 | .ty n, u => u = Value.type n
noncomputable abbrev Vals : List V → List Value → Prop := Paired RelV
theorem Vals.length {xs : List V} {us : List Value} (r : Vals xs us) : xs.length = us.length := Paired.length r
theorem Vals.get : ∀ {xs : List V} {us : List Value} {i : Nat} {x : V}, Vals xs us → xs[i]? = some x → ∃ u, us[i]? = some u ∧ RelV x u
 | _, _, _, _, .nil, e => by simp at e
 | _, _, 0, _, .cons r _, e => by simp at e; subst e; exact ⟨_, rfl, r⟩
 | _, _, i + 1, x, .cons _ t, e => by
  obtain ⟨u, h1, h2⟩ := Vals.get (i := i) (x := x) t (by simpa using e)
  exact ⟨u, by simpa using h1, h2⟩
theorem Vals.set {x : V} {u : Value} (r : RelV x u) : ∀ {xs : List V} {us : List Value} (i : Nat), Vals xs us → Vals (xs.set i x) (us.set i u)
 | _, _, _, .nil => .nil
 | _, _, 0, .cons _ t => .cons r t
 | _, _, i + 1, .cons q t => .cons q (Vals.set r i t)
theorem Vals.append : ∀ {xs ys : List V} {us ws : List Value}, Vals xs us → Vals ys ws → Vals (xs ++ ys) (us ++ ws)
 | _, _, _, _, .nil, s => s
 | _, _, _, _, .cons r t, s => .cons r (Vals.append t s)
theorem Vals.take : ∀ {xs : List V} {us : List Value} (n : Nat), Vals xs us → Vals (xs.take n) (us.take n)
 | _, _, 0, _ => .nil
 | _, _, _ + 1, .nil => .nil
 | _, _, n + 1, .cons r t => .cons r (Vals.take n t)
theorem Vals.drop : ∀ {xs : List V} {us : List Value} (n : Nat), Vals xs us → Vals (xs.drop n) (us.drop n)
 | _, _, 0, r => r
 | _, _, _ + 1, .nil => .nil
 | _, _, n + 1, .cons _ t => Vals.drop n t
noncomputable def RelO : Option V → Option Value → Prop
 | some v, some u => RelV v u
 | none, none => True
 | _, _ => False
noncomputable def KV {κ : Type} : List (κ × V) → List (κ × Value) → Prop := Paired fun (p : κ × V) (q : κ × Value) => p.1 = q.1 ∧ RelV p.2 q.2
noncomputable def kV : Key → V
 | .inl i => .int i
 | .inr x => .str x
inductive HO where
 /-- a list -/
 | lst (xs : List V)
 /-- a tuple (never changes) -/
 | tup (xs : List V)
 /-- a dict whose keys are ints and texts; one whose keys are tuples of ints and texts (the empty one is both) -/
 | dK (kvs : List (Key × V)) | dT (kvs : List (List Key × V))
 /-- a set of ints: its members, its size -/
 | set (S : Int → Bool) (n : Nat)
 /-- an instance of the class at C, its dict at dx, its attributes -/
 | ins (C dx : Addr) (fs : List (Str × V))
 /-- the dict of the instance at x -/
 | own (x : Addr)
 /-- the dict of an exception -/
 | xd (fs : List (Str × V))
 /-- a bound method, f of x -/
 | met (f x : Addr)
 /-- a range object lo, lo + 1, .. below hi -/
 | rng (lo hi : Int)
 /-- a thing that is known to the object (the script; a dict while a loop walks it): read, never written while it is so -/
 | frz (o : Obj) (u : HO)
 /-- a code object's table -/
 | tbl (ps : Array Value)
 /-- any other thing, by what is true of its one object (a def of one's own: SetO a S n := HO.ext fun h => ..) -/
 | ext (φ : Heap → Prop)
noncomputable abbrev Hp := Addr → Option HO
noncomputable def upd (H : Hp) (a : Addr) (o : HO) : Hp := fun b => if b = a then some o else H b
theorem za4 {H : Hp} {a : Addr} {o : HO} : upd H a o a = some o := by unfold upd; rw [if_pos rfl]
theorem zaU {H : Hp} {a b : Addr} {o : HO} (h : b ≠ a) : upd H a o b = H b := by unfold upd; rw [if_neg h]
theorem za1 {H : Hp} {a b : Addr} {o : HO} (h : H a = some o) (h' : H b = none) : a ≠ b := by
 intro e; subst e; rw [h] at h'; cases h'
section
variable (P : Program) (w : World)
noncomputable def ObjOk (H : Hp) (h : Heap) (a : Addr) : HO → Prop
 | .lst xs => xs.length ≤ sizeLine ∧ ∃ (its : List Value) (n : Nat), Vals xs its ∧ h.get? a = some { cls := .type "list", data := .seq its.toArray n }
 | .tup xs => xs.length ≤ sizeLine ∧ ∃ its : List Value, Vals xs its ∧ IsTup h a its.toArray
 | .dK kvs => kvs.length ≤ sizeLine ∧ (a == sysModules) = false ∧ ∃ vs, KV kvs vs ∧ h.DictOf (zka P w) a vs
 | .dT kvs => kvs.length ≤ sizeLine ∧ (a == sysModules) = false ∧ ∃ xs : List (List Key × Addr × Value),
   Paired (fun (p : List Key × V) (q : List Key × Addr × Value) => p.1 = q.1 ∧ H q.2.1 = some (.tup (p.1.map kV)) ∧ RelV p.2 q.2.2) kvs xs ∧
   ∃ o es ep, h.get? a = some o ∧ o.ExactDict ∧ o.data = .dict es ep ∧ es.toList = xs.map (entryOfKey (tupleKind (zka P w))) ∧ (xs.map (·.1)).Nodup
 | .set S n => h.SetOf (intKind P w) a S n
 | .ins C dx fs => H dx = some (.own a) ∧ fs.length ≤ 1000 ∧ dx ≠ a ∧ h.get? a = some (W.instObj C dx) ∧
   ∃ mA, h.Ns1 dx mA ∧ (∀ f, RelO (fs.lookup f) (mA f)) ∧ PySem.Within mA (fs.map (·.1))
 | .own _ => ∃ o, h.get? a = some o
 | .xd fs => ∃ mA, h.Ns1 a mA ∧ ∀ f, RelO (fs.lookup f) (mA f)
 | .rng lo hi => ∃ t u v, h.get? a = some { cls := .type "range", data := .fields #[.int lo t, .int hi u, .int 1 v] }
 | .frz o u => h.get? a = some o ∧ ObjOk H h a u
 | .tbl ps => h.get? a = some { cls := .none, data := .fields ps }
 | .met f x => h.get? a = some (W.methodObj (.ref f) (.ref x))
 | .ext φ => φ h ∧ (∃ o, h.get? a = some o) ∧ ∀ h1 h2 : Heap, φ h1 → (∀ o, h1.get? a = some o → h2.get? a = some o) → φ h2
noncomputable def HOk (H : Hp) (h : Heap) : Prop := ∀ a o, H a = some o → ObjOk P w H h a o
end
section
variable {P : Program} {w : World} {H H' : Hp} {h h' : Heap} {a : Addr} {o : HO}
theorem ObjOk.lt (x : ObjOk P w H h a o) : a < h.objs.size := by
 cases o with
 | lst xs => obtain ⟨_, _, _, _, e⟩ := x; exact Heap.lt_size e
 | tup xs => obtain ⟨_, _, _, p⟩ := x; exact p.lt
 | dK kvs => obtain ⟨_, _, _, _, o, _, _, e, _⟩ := x; exact Heap.lt_size e
 | dT kvs => obtain ⟨_, _, _, _, o, _, _, e, _⟩ := x; exact Heap.lt_size e
 | set S n => obtain ⟨o, _, _, _, e, _⟩ := x; exact Heap.lt_size e
 | ins C dx fs => obtain ⟨_, _, _, e, _⟩ := x; exact Heap.lt_size e
 | own y => obtain ⟨_, e⟩ := x; exact Heap.lt_size e
 | xd fs => obtain ⟨_, ⟨_, _, _, e, _⟩, _⟩ := x; exact Heap.lt_size e
 | rng lo hi => obtain ⟨_, _, _, e⟩ := x; exact Heap.lt_size e
 | frz ob u => obtain ⟨e, _⟩ := x; exact Heap.lt_size e
 | tbl ps => exact Heap.lt_size (show h.get? a = some _ from x)
 | met f y => exact Heap.lt_size (show h.get? a = some _ from x)
 | ext φ => obtain ⟨_, ⟨_, e⟩, _⟩ := x; exact Heap.lt_size e
theorem Paired.mapP {α β : Type} {F G : α → β → Prop} : ∀ {l₁ : List α} {l₂ : List β}, Paired F l₁ l₂ → (∀ a b, F a b → G a b) → Paired G l₁ l₂
 | _, _, .nil, _ => .nil
 | _, _, .cons r t, f => .cons (f _ _ r) (Paired.mapP t f)
theorem ObjOk.stay (x : ObjOk P w H h a o) (k : ∀ b u, (b = a ∨ H b = some (.own a)) → h.get? b = some u → h'.get? b = some u)
  (ho : ∀ b, H b = some (.own a) → H' b = some (.own a)) (ht : ∀ b xs, H b = some (.tup xs) → H' b = some (.tup xs)) : ObjOk P w H' h' a o := by
 induction o with
 | lst xs => obtain ⟨z, its, n, r, e⟩ := x; exact ⟨z, its, n, r, k _ _ (.inl rfl) e⟩
 | tup xs => obtain ⟨z, its, r, ob, e, c⟩ := x; exact ⟨z, its, r, ob, k _ _ (.inl rfl) e, c⟩
 | dK kvs => obtain ⟨z, y, vs, r, ob, es, ep, e, c⟩ := x; exact ⟨z, y, vs, r, ob, es, ep, k _ _ (.inl rfl) e, c⟩
 | dT kvs =>
  obtain ⟨z, y, xs, r, ob, es, ep, e, c⟩ := x
  exact ⟨z, y, xs, Paired.mapP r fun p q z => ⟨z.1, ht _ _ z.2.1, z.2.2⟩, ob, es, ep, k _ _ (.inl rfl) e, c⟩
 | set S n => obtain ⟨ob, es, ep, t, e, c⟩ := x; exact ⟨ob, es, ep, t, k _ _ (.inl rfl) e, c⟩
 | ins C dx fs =>
  obtain ⟨d, z, ne, e, mA, ⟨od, es, ep, e2, c⟩, r⟩ := x
  exact ⟨ho _ d, z, ne, k _ _ (.inl rfl) e, mA, ⟨od, es, ep, k _ _ (.inr d) e2, c⟩, r⟩
 | own y => obtain ⟨ob, e⟩ := x; exact ⟨ob, k _ _ (.inl rfl) e⟩
 | xd fs => obtain ⟨mA, ⟨od, es, ep, e, c⟩, r⟩ := x; exact ⟨mA, ⟨od, es, ep, k _ _ (.inl rfl) e, c⟩, r⟩
 | rng lo hi => obtain ⟨t, u, v, e⟩ := x; exact ⟨t, u, v, k _ _ (.inl rfl) e⟩
 | frz ob u ih => obtain ⟨e, q⟩ := x; exact ⟨k _ _ (.inl rfl) e, ih q⟩
 | tbl ps =>
  have e : h.get? a = some { cls := .none, data := .fields ps } := x
  show h'.get? a = some { cls := .none, data := .fields ps }
  exact k a _ (.inl rfl) e
 | met f y =>
  have e : h.get? a = some (W.methodObj (.ref f) (.ref y)) := x
  show h'.get? a = some (W.methodObj (.ref f) (.ref y))
  exact k a _ (.inl rfl) e
 | ext φ => obtain ⟨p, ⟨o, e⟩, st⟩ := x; exact ⟨st _ _ p fun o q => k _ _ (.inl rfl) q, ⟨o, k _ _ (.inl rfl) e⟩, st⟩
theorem HOk.lt (x : HOk P w H h) (e : H a = some o) : a < h.objs.size := (x a o e).lt
theorem HOk.fresh (x : HOk P w H h) (e : h.objs.size ≤ a) : H a = none := by
 cases q : H a with
 | none => rfl
 | some u => exact absurd (Nat.lt_of_lt_of_le (x.lt q) e) (Nat.lt_irrefl _)
theorem HOk.kept (x : HOk P w H h) (k : ∀ b u, h.get? b = some u → h'.get? b = some u) : HOk P w H h' := fun a o e =>
 (x a o e).stay (fun b u _ q => k b u q) (fun _ q => q) fun _ _ q => q
theorem HOk.laid (x : HOk P w H h) (k : ∀ b u, h.get? b = some u → h'.get? b = some u) (hp : h.objs.size ≤ a) (new : ObjOk P w (upd H a o) h' a o) : HOk P w (upd H a o) h' := fun b u e => by
 have hn := x.fresh hp
 by_cases hb : b = a
 ·subst hb; rw [za4] at e; cases e; exact new
 ·rw [zaU hb] at e
  exact (x b u e).stay (fun c v _ q => k c v q) (fun c q => by rw [zaU (za1 q hn)]; exact q) fun c xs q => by rw [zaU (za1 q hn)]; exact q
end
noncomputable def Rd (H : Hp) (a : Addr) (u : HO) : Prop := H a = some u ∨ ∃ o, H a = some (.frz o u)
theorem Rd.ok {P : Program} {w : World} {H : Hp} {h : Heap} {a : Addr} {u : HO} (r : Rd H a u) (x : HOk P w H h) : ObjOk P w H h a u := by
 rcases r with r | ⟨o, r⟩
 ·exact x a u r
 ·obtain ⟨_, q⟩ := x a _ r
  exact q
noncomputable def Mut : Option HO → Prop
 | some (.lst _) => True
 | some (.dK _) => True
 | some (.dT _) => True
 | some (.set _ _) => True
 | some (.ins _ _ _) => True
 | some (.ext _) => True
 | _ => False
section
variable {P : Program} {w : World} {H : Hp} {h h' : Heap} {x e : Addr} {o' : HO}
theorem HOk.write (ok : HOk P w H h) (mu : Mut (H x)) (he : e = x ∨ H e = some (.own x)) (k : ∀ b u, b ≠ e → h.get? b = some u → h'.get? b = some u) (heo : ∃ u, h'.get? e = some u)
  (new : ObjOk P w (upd H x o') h' x o') : HOk P w (upd H x o') h' := fun b u q => by
 have nown : ∀ c y, H c = some (.own y) → c ≠ x := fun c y r z => by subst z; rw [r] at mu; exact mu
 have ntup : ∀ c xs, H c = some (.tup xs) → c ≠ x := fun c xs r z => by subst z; rw [r] at mu; exact mu
 by_cases hb : b = x
 ·subst hb; rw [za4] at q; cases q; exact new
 ·rw [zaU hb] at q
  by_cases hbe : b = e
  ·have q' : H b = some (.own x) := by
    rcases he with z | z
    ·exact absurd (hbe.trans z) hb
    ·rw [hbe]; exact z
   rw [q] at q'; cases q'
   obtain ⟨v, hv⟩ := heo
   exact ⟨v, by rw [hbe]; exact hv⟩
  ·refine (ok b u q).stay (fun c v hc r => k c v ?_ r) (fun c r => by rw [zaU (nown c b r)]; exact r) fun c xs r => by rw [zaU (ntup c xs r)]; exact r
   rcases hc with rfl | hc
   ·exact hbe
   ·rintro rfl
    rcases he with z | z
    ·exact nown c b hc z
    ·rw [hc] at z; cases z; exact hb rfl
end
structure Un (fs ex : List Addr) (H H' : Hp) (h h' : Heap) : Prop where
 keep : ∀ b o, h.get? b = some o → H b = none → b ∉ fs → b ∉ ex → h'.get? b = some o
 slot : ∀ b o, h.get? b = some o → H b = none → b ∈ fs → b ∉ ex → ∃ sl, h'.get? b = some { o with slots := sl }
 free : ∀ b o, h.get? b = some o → H b = none → b ∉ ex → H' b = none
 there : ∀ b o, h.get? b = some o → b ∉ ex → ∃ o', h'.get? b = some o'
 tups : ∀ b xs, H b = some (.tup xs) → H' b = some (.tup xs)
 frzs : ∀ b o u, H b = some (.frz o u) → H' b = some (.frz o u)
 tbls : ∀ b ps, H b = some (.tbl ps) → ∃ more, H' b = some (.tbl (ps ++ more))
section
variable {fs fs' ex ex' : List Addr} {H H1 H2 : Hp} {h h1 h2 h' : Heap} {a x e : Addr} {o : HO}
theorem Un.any (u : Un fs ex H H1 h h1) {b : Addr} {ob : Obj} (q : h.get? b = some ob) (n : H b = none) (hx : b ∉ ex) : ∃ sl, h1.get? b = some { ob with slots := sl } := by
 by_cases hb : b ∈ fs
 ·exact u.slot b ob q n hb hx
 ·exact ⟨ob.slots, u.keep b ob q n hb hx⟩
theorem Un.kept (k : ∀ b u, h.get? b = some u → h'.get? b = some u) : Un fs ex H H h h' :=
 ⟨fun b ob q _ _ _ => k b ob q, fun b ob q _ _ _ => ⟨ob.slots, k b ob q⟩, fun _ _ _ n _ => n, fun b ob q _ => ⟨ob, k b ob q⟩, fun _ _ q => q, fun _ _ _ q => q, fun _ ps q => ⟨#[], by rw [q]; simp⟩⟩
theorem Un.refl : Un fs ex H H h h := Un.kept fun _ _ q => q
theorem Un.laid (k : ∀ b u, h.get? b = some u → h'.get? b = some u) (hp : h.objs.size ≤ a) (hn : H a = none) : Un fs ex H (upd H a o) h h' where
 keep := fun b u q _ _ _ => k b u q
 slot := fun b u q _ _ _ => ⟨u.slots, k b u q⟩
 free := fun b u q n _ => by rw [zaU (Nat.ne_of_lt (Nat.lt_of_lt_of_le (Heap.lt_size q) hp))]; exact n
 there := fun b u q _ => ⟨u, k b u q⟩
 tups := fun b xs q => by rw [zaU (za1 q hn)]; exact q
 frzs := fun b u xs q => by rw [zaU (za1 q hn)]; exact q
 tbls := fun b ps q => ⟨#[], by rw [zaU (za1 q hn), q]; simp⟩
theorem Un.write (mu : Mut (H x)) (he : e = x ∨ H e = some (.own x)) (k : ∀ b u, b ≠ e → h.get? b = some u → h'.get? b = some u) (heo : ∃ u, h'.get? e = some u) : Un fs ex H (upd H x o) h h' := by
 have hx : ∀ b, H b = none → b ≠ x := fun b n z => by subst z; rw [n] at mu; exact mu
 have hb : ∀ b, H b = none → b ≠ e := fun b n z => by
  subst z
  rcases he with r | r
  ·exact hx b n r
  ·rw [n] at r; cases r
 have hm : ∀ b u, H b = some u → ¬ Mut (some u) → b ≠ x := fun b u q nm z => by subst z; rw [q] at mu; exact nm mu
 refine ⟨fun b u q n _ _ => k b u (hb b n) q, fun b u q n _ _ => ⟨u.slots, k b u (hb b n) q⟩, fun b u q n _ => by rw [zaU (hx b n)]; exact n, fun b u q _ => ?_,
  fun b xs q => by rw [zaU (hm b _ q fun z => z)]; exact q, fun b u xs q => by rw [zaU (hm b _ q fun z => z)]; exact q, fun b ps q => ⟨#[], by rw [zaU (hm b _ q fun z => z), q]; simp⟩⟩
 by_cases hbe : b = e
 ·subst hbe; exact heo
 ·exact ⟨u, k b u hbe q⟩
end
noncomputable def trk (h : Heap) (H : Hp) : List Addr := (List.range h.objs.size).filter fun a => (H a).isSome
noncomputable def hidT (h : Heap) (H : Hp) : Heap := W.hideAll h (trk h H)
theorem zlR (h : Heap) (H : Hp) : (hidT h H).objs.size = h.objs.size := W.hideAll_size _ _
theorem hidT_get {h : Heap} {H : Hp} {b : Addr} {o : Obj} (e : h.get? b = some o) (n : H b = none) : (hidT h H).get? b = some o :=
 W.hideAll_get _ e fun hm => by
  have q : (H b).isSome = true := (List.mem_filter.mp hm).2
  rw [n] at q; simp at q
theorem of_hidT {h : Heap} {H : Hp} {b : Addr} {o : Obj} (e : (hidT h H).get? b = some o) : h.get? b = some o ∧ H b = none := by
 have e' : h.get? b = some o := W.of_hideAll (trk h H) e
 refine ⟨e', ?_⟩
 cases q : H b with
 | none => rfl
 | some x =>
  have hm : b ∈ trk h H := List.mem_filter.mpr ⟨List.mem_range.mpr (Heap.lt_size e'), by simp [q]⟩
  have z : (hidT h H).get? b = none := W.hideAll_none (trk h H) hm
  rw [z] at e; cases e
noncomputable def allNews (g h : Heap) (L : Addr) : List (Addr × Obj) := (List.range h.objs.size).filterMap fun a => if a = L ∨ (g.get? a).isSome = true then none else (h.get? a).map fun o => (a, o)
noncomputable def rest (g h : Heap) (L d : Addr) : List (Addr × Obj) := (allNews g h L).filter fun p => decide (p.1 ≠ d)
end L2
namespace L2
open PySem PySem.Spec PyProof.Rows
structure Mod (K : W.Frag) (mg : Str → Option Value) (base : Heap) : Prop where
 kin : K.In base
 glob : base.Ns mainGlobals mg
 blt : ∃ mb, base.Ns builtinsNs mb ∧ ∀ x : Str, x ≠ "__name__" → mb x = bootBuiltins x
 nolimit : base.NoLimit
structure Cx where
 prog : Program
 w : World
 K : W.Frag
 mg : Str → Option Value
 base : Heap
 A : Around
 N : List Str
 s₀ : Shared
 H₀ : Hp
 env : Env
 outer : List Env
 stack : List Env
 ex : List Addr
 fn : Str → Bool
 calm : Bool
 pn : List (Addr × Obj)
 xe : Value → Shared → Prop
noncomputable def frs (l : List Env) : List Addr := l.filterMap (·.frame)
noncomputable abbrev Cx.fs (X : Cx) : List Addr := frs X.outer
noncomputable def Vis (sc : Scope) (x : Str) : Prop := sc.names.lookup x = some .local ∨ sc.names.lookup x = some .cell ∨ sc.names.lookup x = some .free
noncomputable def Loc (sc : Scope) (x : Str) : Prop := sc.names.lookup x = some .local ∨ sc.names.lookup x = some .cell
noncomputable def Look (env : Env) (h : Heap) (m : Str → Option Value) (x : Str) (u : Value) : Prop :=
 (env.kindOf x = some .local ∧ m x = some u) ∨ ((env.kindOf x = some .cell ∨ env.kindOf x = some .free) ∧ ∃ c, env.cells.lookup x = some c ∧ h.IsCell c (some u))
structure Cx.Ok (X : Cx) : Prop where
 mod : Mod X.K X.mg X.base
 kind : X.env.scope.kind = .function
 glob : X.env.globals = mainGlobals
 blt : X.env.builtins = builtinsNs
 above : X.s₀.heap.objs.size ≤ X.env.locals
 inj : ∀ x y c, X.env.cells.lookup x = some c → X.env.cells.lookup y = some c → x = y
 has : ∀ x, (X.env.kindOf x = some .cell ∨ X.env.kindOf x = some .free) → ∃ c, X.env.cells.lookup x = some c
 cab : ∀ x c, X.fn x = true → X.env.cells.lookup x = some c → X.s₀.heap.objs.size ≤ c
 hd : X.calm = true → X.A.handled = none
 frames : X.A.frames = some X.stack
 stk : X.stack = X.outer ∨ (X.stack = X.env :: X.outer ∧ X.env.frame = some X.env.locals)
 exf : ∀ b ∈ X.ex, b ≠ X.env.locals ∧ ∀ x c, X.env.cells.lookup x = some c → c ≠ b
 bs : ∀ b o, X.base.get? b = some o → X.s₀.heap.get? b = some o ∧ X.H₀ b = none
 bsz : X.base.objs.size ≤ X.s₀.heap.objs.size
 noex : ∀ b o, X.base.get? b = some o → b ∉ X.ex
 exfs : ∀ b ∈ X.ex, b ∉ X.fs
 funs : X.s₀.heap.FunFrames X.base X.outer
 frf : ∀ b ∈ X.fs, X.H₀ b = none
structure Inv (X : Cx) (pins : List (Addr × Obj)) (σ : List (Option V)) (H : Hp) (s : Shared) : Prop where
 ok : X.Ok
 os : s.os = X.s₀.os
 bare : AllBare s.gens
 base : Un X.fs X.ex X.H₀ H X.s₀.heap s.heap
 loc : ∃ m, s.heap.Ns X.env.locals m ∧ ∀ (i : Nat) (x : Str) (v : V), X.N[i]? = some x → σ[i]? = some (some v) → Vis X.env.scope x → ∃ u, RelV v u ∧ Look X.env s.heap m x u
 cell : ∀ x c, X.env.cells.lookup x = some c → ∃ v, s.heap.IsCell c v
 free : H X.env.locals = none
 freeC : ∀ x c, X.env.cells.lookup x = some c → H c = none
 pin : ∀ p ∈ X.pn ++ pins, s.heap.get? p.1 = some p.2 ∧ H p.1 = none ∧ p.1 ≠ X.env.locals ∧ p.1 ∉ X.fs ∧ ∀ v, p.2.data ≠ .cell v
 hok : HOk X.prog X.w H s.heap
 len : σ.length = X.N.length
section
variable {X : Cx} {pins : List (Addr × Obj)} {σ : List (Option V)} {H H' : Hp} {s : Shared} {h' : Heap}
theorem Cx.Ok.nofr (ok : X.Ok) {b : Addr} {o : Obj} (e : X.base.get? b = some o) : b ∉ X.fs := fun hb => by
 have := (ok.funs.mem hb).1
 rw [e] at this; cases this
theorem Inv.bs (I : Inv X pins σ H s) : ∀ b o, X.base.get? b = some o → s.heap.get? b = some o ∧ H b = none := fun b o e =>
 ⟨I.base.keep b o (I.ok.bs b o e).1 (I.ok.bs b o e).2 (I.ok.nofr e) (I.ok.noex b o e), I.base.free b o (I.ok.bs b o e).1 (I.ok.bs b o e).2 (I.ok.noex b o e)⟩
theorem Inv.bk (I : Inv X pins σ H s) : ∀ b o, X.base.get? b = some o → s.heap.get? b = some o := fun b o e => (I.bs b o e).1
theorem Inv.mod (I : Inv X pins σ H s) : Mod X.K X.mg X.base := I.ok.mod
theorem Inv.kIn (I : Inv X pins σ H s) : X.K.In s.heap := I.ok.mod.kin.keeps I.bk
theorem Inv.lt (I : Inv X pins σ H s) : X.env.locals < s.heap.objs.size := let ⟨_, hn, _⟩ := I.loc; hn.lt
theorem Inv.sz (I : Inv X pins σ H s) : X.s₀.heap.objs.size ≤ s.heap.objs.size := Nat.le_trans I.ok.above (Nat.le_of_lt I.lt)
theorem Inv.nofs (I : Inv X pins σ H s) {a : Addr} (h : s.heap.objs.size ≤ a) : a ∉ X.fs := fun hb => by
 obtain ⟨_, o, ho, _⟩ := I.ok.funs.mem hb
 exact absurd (Nat.lt_of_lt_of_le (Heap.lt_size ho) (Nat.le_trans I.sz h)) (Nat.lt_irrefl _)
theorem Inv.cne (I : Inv X pins σ H s) : ∀ x c, X.env.cells.lookup x = some c → c ≠ X.env.locals := fun x c e z => by
 obtain ⟨v, o, ho, hd⟩ := I.cell x c e
 obtain ⟨m, ⟨o', es, ep, ho', hd', _⟩, _⟩ := I.loc
 rw [z, ho'] at ho; cases ho; rw [hd'] at hd; cases hd
theorem Inv.funs (I : Inv X pins σ H s) : s.heap.FunFrames X.base X.outer := by
 have all : ∀ (l : List Env), (∀ b ∈ frs l, b ∈ X.fs) → X.s₀.heap.FunFrames X.base l → s.heap.FunFrames X.base l := by
  intro l
  induction l with
  | nil => intro _ _; trivial
  | cons env r ih =>
   intro hs hl
   obtain ⟨hk, ⟨L, o, hf, hn, ho, hd⟩, hr⟩ := hl
   have hL : L ∈ X.fs := hs L (by unfold frs; rw [List.filterMap_cons, hf]; exact List.mem_cons_self)
   obtain ⟨sl, e⟩ := I.base.slot L o ho (I.ok.frf L hL) hL fun z => I.ok.exfs L z hL
   exact ⟨hk, ⟨L, _, hf, hn, e, hd⟩, ih (fun b hb => hs b (by unfold frs; rw [List.filterMap_cons, hf]; exact List.mem_cons_of_mem _ hb)) hr⟩
 exact all X.outer (fun _ hb => hb) I.ok.funs
theorem Inv.stack (I : Inv X pins σ H s) : s.heap.FunFrames X.base X.stack := by
 rcases I.ok.stk with e | ⟨e, hf⟩
 ·rw [e]; exact I.funs
 ·rw [e]
  obtain ⟨m, hn, _⟩ := I.loc
  refine .cons (by rw [I.ok.kind]; decide) hf hn ?_ I.funs
  exact Heap.get?_none_of_le (Nat.le_trans I.ok.bsz I.ok.above)
theorem Inv.stkSub (I : Inv X pins σ H s) : ∀ b ∈ frs X.stack, b ∈ X.env.locals :: X.fs := fun b hb => by
 rcases I.ok.stk with e | ⟨e, hf⟩
 ·rw [e] at hb; exact List.mem_cons_of_mem _ hb
 ·rw [e] at hb
  unfold frs at hb
  rw [List.filterMap_cons, hf] at hb
  exact hb
theorem Inv.stkFree (I : Inv X pins σ H s) : ∀ b ∈ frs X.stack, H b = none := fun b hb => by
 rcases List.mem_cons.mp (I.stkSub b hb) with e | hb
 ·rw [e]; exact I.free
 ·obtain ⟨_, o, ho, _⟩ := I.ok.funs.mem hb
  exact I.base.free b o ho (I.ok.frf b hb) fun z => I.ok.exfs b z hb
theorem Inv.step {g' : Array GenState} {t' : Nat} {d' : Drawn} {ch : List Addr} (I : Inv X pins σ H s)
  (hch : ∀ b ∈ ch, (b ∈ X.ex ∨ X.s₀.heap.objs.size ≤ b) ∧ b ≠ X.env.locals ∧ (∀ x c, X.env.cells.lookup x = some c → c ≠ b) ∧ ∀ p ∈ X.pn ++ pins, p.1 ≠ b)
  (keep : ∀ b o, b ≠ X.env.locals → b ∉ X.fs → b ∉ ch → s.heap.get? b = some o → H b = none → h'.get? b = some o)
  (slot : ∀ b o, b ≠ X.env.locals → b ∈ X.fs → b ∉ ch → s.heap.get? b = some o → H b = none → ∃ sl, h'.get? b = some { o with slots := sl }) (free : ∀ b o, b ∉ ch → s.heap.get? b = some o → H b = none → H' b = none)
  (there : ∀ b o, b ∉ ch → s.heap.get? b = some o → ∃ o', h'.get? b = some o')
  (tups : ∀ b xs, H b = some (.tup xs) → H' b = some (.tup xs)) (frzs : ∀ b o u, H b = some (.frz o u) → H' b = some (.frz o u)) (tbls : ∀ b ps, H b = some (.tbl ps) → ∃ more, H' b = some (.tbl (ps ++ more)))
  (ns : ∀ m, s.heap.Ns X.env.locals m → h'.Ns X.env.locals m) (hok : HOk X.prog X.w H' h') (hg : AllBare g') :
  Inv X pins σ H' { s with heap := h', gens := g', drawn := d', toks := t' } := by
 have neL : ∀ b o, X.s₀.heap.get? b = some o → b ≠ X.env.locals := fun b o e => Nat.ne_of_lt (Nat.lt_of_lt_of_le (Heap.lt_size e) I.ok.above)
 have neC : ∀ b o, X.s₀.heap.get? b = some o → b ∉ X.ex → b ∉ ch := fun b o e hx hb => by
  rcases (hch b hb).1 with z | z
  ·exact hx z
  ·exact absurd (Nat.lt_of_lt_of_le (Heap.lt_size e) z) (Nat.lt_irrefl _)
 have cellK : ∀ x c, X.env.cells.lookup x = some c → ∀ v, s.heap.IsCell c v → h'.IsCell c v := fun x c e v ⟨o, ho, hd⟩ => by
  have nch : c ∉ ch := fun z => (hch c z).2.2.1 x c e rfl
  by_cases hc : c ∈ X.fs
  ·obtain ⟨sl, q⟩ := slot c o (I.cne x c e) hc nch ho (I.freeC x c e)
   exact ⟨_, q, hd⟩
  ·exact ⟨o, keep c o (I.cne x c e) hc nch ho (I.freeC x c e), hd⟩
 refine ⟨I.ok, I.os, hg, ⟨fun b o e n hb hx => ?_, fun b o e n hb hx => ?_, fun b o e n hx => ?_, fun b o e hx => ?_, fun b xs e => tups b xs (I.base.tups b xs e), fun b o xs e => frzs b o xs (I.base.frzs b o xs e), fun b ps e => ?_⟩, ?_, fun x c e => ?_, ?_, fun x c e => ?_, fun p hp => ?_, hok, I.len⟩
 ·exact keep b o (neL b o e) hb (neC b o e hx) (I.base.keep b o e n hb hx) (I.base.free b o e n hx)
 ·obtain ⟨sl, e1⟩ := I.base.slot b o e n hb hx
  obtain ⟨sl', e2⟩ := slot b _ (neL b o e) hb (neC b o e hx) e1 (I.base.free b o e n hx)
  exact ⟨sl', e2⟩
 ·obtain ⟨o', e1⟩ := I.base.there b o e hx
  exact free b o' (neC b o e hx) e1 (I.base.free b o e n hx)
 ·obtain ⟨o', e1⟩ := I.base.there b o e hx
  exact there b o' (neC b o e hx) e1
 ·obtain ⟨m1, e1⟩ := I.base.tbls b ps e
  obtain ⟨m2, e2⟩ := tbls b _ e1
  exact ⟨m1 ++ m2, by rw [e2, Array.append_assoc]⟩
 ·obtain ⟨m, hn, hl⟩ := I.loc
  refine ⟨m, ns m hn, fun i x v e1 e2 e3 => ?_⟩
  obtain ⟨u, r, l⟩ := hl i x v e1 e2 e3
  refine ⟨u, r, ?_⟩
  rcases l with l | ⟨k, c, e, z⟩
  ·exact .inl l
  ·exact .inr ⟨k, c, e, cellK x c e _ z⟩
 ·obtain ⟨v, z⟩ := I.cell x c e
  exact ⟨v, cellK x c e v z⟩
 ·obtain ⟨m, ⟨o, _, _, ho, _⟩, _⟩ := I.loc
  exact free _ o (fun z => (hch _ z).2.1 rfl) ho I.free
 ·obtain ⟨v, o, ho, hd⟩ := I.cell x c e
  exact free c o (fun z => (hch c z).2.2.1 x c e rfl) ho (I.freeC x c e)
 ·obtain ⟨e, n, ne, nf, d⟩ := I.pin p hp
  have nch : p.1 ∉ ch := fun z => (hch p.1 z).2.2.2 p hp rfl
  exact ⟨keep p.1 p.2 ne nf nch e n, free p.1 p.2 nch e n, ne, nf, d⟩
theorem Inv.un {t' : Nat} (I : Inv X pins σ H s) (u : Un X.fs [] H H' s.heap h') (hok : HOk X.prog X.w H' h') : Inv X pins σ H' { s with heap := h', toks := t' } := by
  obtain ⟨m, ⟨o, es, ep, ho, r⟩, _⟩ := id I.loc
  obtain ⟨sl, hL⟩ := u.any ho I.free (by simp)
  exact I.step (g' := s.gens) (d' := s.drawn) (ch := []) (fun _ z => nomatch z) (fun b o _ hb _ e n => u.keep b o e n hb (by simp)) (fun b o _ hb _ e n => u.slot b o e n hb (by simp)) (fun b o _ e n => u.free b o e n (by simp)) (fun b o _ e => u.there b o e (by simp)) u.tups u.frzs u.tbls (fun m' hm => by
    obtain ⟨o', es', ep', ho', r'⟩ := hm
    rw [ho] at ho'; cases ho'
    exact ⟨_, es', ep', hL, r'⟩) hok I.bare
theorem Inv.call {g' : Array GenState} {t' : Nat} {d' : Drawn} {ch : List Addr} (I : Inv X pins σ H s) (u : Un (frs X.stack) ch H H' s.heap h') (hok : HOk X.prog X.w H' h') (hg : AllBare g')
  (hch : ∀ b ∈ ch, (b ∈ X.ex ∨ X.s₀.heap.objs.size ≤ b) ∧ b ≠ X.env.locals ∧ (∀ x c, X.env.cells.lookup x = some c → c ≠ b) ∧ ∀ p ∈ X.pn ++ pins, p.1 ≠ b) :
  Inv X pins σ H' { s with heap := h', gens := g', drawn := d', toks := t' } := by
 obtain ⟨m, ⟨o, es, ep, ho, r⟩, _⟩ := id I.loc
 obtain ⟨sl, hL⟩ := u.any ho I.free fun z => (hch _ z).2.1 rfl
 exact I.step (ch := ch) hch (fun b o hL hb hc e n => u.keep b o e n (fun z => (List.mem_cons.mp (I.stkSub b z)).elim hL hb) hc) (fun b o _ _ hc e n => u.any e n hc) (fun b o hc e n => u.free b o e n hc) (fun b o hc e => u.there b o e hc) u.tups u.frzs u.tbls (fun m' hm => by
  obtain ⟨o', es', ep', ho', r'⟩ := hm
  rw [ho] at ho'; cases ho'
  exact ⟨_, es', ep', hL, r'⟩) hok hg
theorem Inv.turned {t' : Nat} {it : Addr} (I : Inv X pins σ H s) (k : ∀ b o, b ≠ it → s.heap.get? b = some o → h'.get? b = some o) (hn : H it = none) (hL : it ≠ X.env.locals)
  (h1 : it ∈ X.ex ∨ X.s₀.heap.objs.size ≤ it) (h2 : ∀ x c, X.env.cells.lookup x = some c → c ≠ it) (h3 : ∀ p ∈ X.pn ++ pins, p.1 ≠ it) : Inv X pins σ H { s with heap := h', toks := t' } := by
 have nit : ∀ b u, H b = some u → b ≠ it := fun b u e z => by rw [z, hn] at e; cases e
 refine I.step (g' := s.gens) (d' := s.drawn) (ch := [it]) (fun b hb => ?_) (fun b o _ _ hc e _ => k b o (fun z => hc (by simp [z])) e) (fun b o _ _ hc e _ => ⟨o.slots, k b o (fun z => hc (by simp [z])) e⟩) (fun _ _ _ _ n => n)
  (fun b o hc e => ⟨o, k b o (fun z => hc (by simp [z])) e⟩) (fun _ _ e => e) (fun _ _ _ e => e) (fun b ps e => ⟨#[], by rw [e]; simp⟩) (fun m hm => ?_) (fun b u e => ?_) I.bare
 ·have e : b = it := by simpa using hb
  subst e
  exact ⟨h1, hL, h2, h3⟩
 ·obtain ⟨o, es, ep, ho, r⟩ := hm
  exact ⟨o, es, ep, k _ o (Ne.symm hL) ho, r⟩
 ·refine (I.hok b u e).stay (fun c v hc q => k c v ?_ q) (fun _ q => q) fun _ _ q => q
  rcases hc with z | z
  ·rw [z]; exact nit b u e
  ·exact nit c _ z
theorem Inv.tok (I : Inv X pins σ H s) (t : Nat) : Inv X pins σ H { s with toks := t } := I.un (h' := s.heap) (t' := t) Un.refl I.hok
theorem Inv.kept {t' : Nat} (I : Inv X pins σ H s) (k : ∀ b u, s.heap.get? b = some u → h'.get? b = some u) : Inv X pins σ H { s with heap := h', toks := t' } := I.un (Un.kept k) (I.hok.kept k)
theorem Inv.laid {a : Addr} {o : HO} {t' : Nat} (I : Inv X pins σ H s) (k : ∀ b u, s.heap.get? b = some u → h'.get? b = some u) (hp : s.heap.objs.size ≤ a) (new : ObjOk X.prog X.w (upd H a o) h' a o) :
  Inv X pins σ (upd H a o) { s with heap := h', toks := t' } := I.un (Un.laid k hp (I.hok.fresh hp)) (I.hok.laid k hp new)
theorem Inv.write {x e : Addr} {o : HO} {t' : Nat} (I : Inv X pins σ H s) (mu : Mut (H x)) (he : e = x ∨ H e = some (.own x)) (k : ∀ b u, b ≠ e → s.heap.get? b = some u → h'.get? b = some u) (heo : ∃ u, h'.get? e = some u)
  (new : ObjOk X.prog X.w (upd H x o) h' x o) : Inv X pins σ (upd H x o) { s with heap := h', toks := t' } := I.un (Un.write mu he k heo) (I.hok.write mu he k heo new)
theorem Inv.pins_of {pins' : List (Addr × Obj)} (I : Inv X pins σ H s) (h : ∀ p ∈ pins', s.heap.get? p.1 = some p.2 ∧ H p.1 = none ∧ p.1 ≠ X.env.locals ∧ p.1 ∉ X.fs ∧ ∀ v, p.2.data ≠ .cell v) : Inv X pins' σ H s :=
 ⟨I.ok, I.os, I.bare, I.base, I.loc, I.cell, I.free, I.freeC, fun p hp => (List.mem_append.mp hp).elim (fun z => I.pin p (List.mem_append_left _ z)) (h p), I.hok, I.len⟩
theorem zlc {N : List Str} (hN : N.Nodup) {i j : Nat} {x : Str} (a : N[i]? = some x) (b : N[j]? = some x) : i = j := by
 obtain ⟨h1, e1⟩ := List.getElem?_eq_some_iff.mp a
 obtain ⟨h2, e2⟩ := List.getElem?_eq_some_iff.mp b
 exact (List.getElem_inj hN).mp (e1.trans e2.symm)
theorem zmc {M : Model} {A : Around} {E : Value → Shared → Prop} {i : Nat} {x : Str} {v : V} {u : Value} {Q : Unit → Shared → Prop} (I : Inv X pins σ H s) (hN : X.N.Nodup) (hi : X.N[i]? = some x) (hx : Loc X.env.scope x) (r : RelV v u)
    (h : ∀ s', Inv X pins (σ.set i (some v)) H s' → (∃ a, Heap.SameBut a s.heap s'.heap ∧ (a = X.env.locals ∨ X.env.cells.lookup x = some a)) → Q () s') (hf : X.fn x = true ∨ X.env.scope.names.lookup x = some .local := by first | exact .inl rfl | exact .inr rfl | assumption) : wpAny M A (storeName X.env x u) Q E s := by
  obtain ⟨m, hn, hl⟩ := id I.loc
  have hcls : (X.env.scope.kind == .class || (X.env.scope.kind == .module && X.env.locals != X.env.globals)) = false := by rw [I.ok.kind]; rfl
  have hiσ : i < σ.length := by rw [I.len]; exact (List.getElem?_eq_some_iff.mp hi).1
  have cne := I.cne
  have tracked : ∀ {a : Addr} {h' : Heap}, (∃ o, s.heap.get? a = some o ∧ H a = none) → Heap.SameBut a s.heap h' → HOk X.prog X.w H h' := fun {a h'} ha hs b ob e => by
    obtain ⟨_, _, hfree⟩ := ha
    refine (I.hok b ob e).stay (fun c w' hc q => (hs.2 c ?_).trans q) (fun _ q => q) fun _ _ q => q
    rintro rfl
    rcases hc with rfl | hc
    · rw [hfree] at e; cases e
    · rw [hfree] at hc; cases hc
  rcases hx with hk | hk
  · refine wpAny_storeName_local hk hn (fun h' hn' hs => ?_) hcls
    obtain ⟨oL, _, _, hoL, _⟩ := id hn
    refine h _ ⟨I.ok, I.os, I.bare, ⟨fun b o e n hb hx => ?_, fun b o e n hb hx => ?_, I.base.free, fun b o e hx => ?_, I.base.tups, I.base.frzs, I.base.tbls⟩, ⟨_, hn', fun j y v' e1 e2 e3 => ?_⟩, fun y c e => ?_, I.free, I.freeC, fun p hp => ?_, tracked ⟨oL, hoL, I.free⟩ hs, by simpa using I.len⟩ ⟨_, hs, .inl rfl⟩
    · exact (hs.2 b (Nat.ne_of_lt (Nat.lt_of_lt_of_le (Heap.lt_size e) I.ok.above))).trans (I.base.keep b o e n hb hx)
    · obtain ⟨sl, e1⟩ := I.base.slot b o e n hb hx
      exact ⟨sl, (hs.2 b (Nat.ne_of_lt (Nat.lt_of_lt_of_le (Heap.lt_size e) I.ok.above))).trans e1⟩
    · obtain ⟨o', e1⟩ := I.base.there b o e hx
      exact ⟨o', (hs.2 b (Nat.ne_of_lt (Nat.lt_of_lt_of_le (Heap.lt_size e) I.ok.above))).trans e1⟩
    · by_cases hj : j = i
      · subst hj
        rw [hi] at e1; cases e1
        rw [List.getElem?_set_self hiσ] at e2
        cases e2
        exact ⟨u, r, .inl ⟨hk, by simp⟩⟩
      · rw [List.getElem?_set_ne (Ne.symm hj)] at e2
        obtain ⟨u', r', q⟩ := hl j y v' e1 e2 e3
        refine ⟨u', r', ?_⟩
        rcases q with ⟨k, e⟩ | ⟨k, c, e, z⟩
        · refine .inl ⟨k, ?_⟩
          have : y ≠ x := fun e => hj (zlc hN e1 (e ▸ hi))
          simp [this, e]
        · exact .inr ⟨k, c, e, z.sameBut hs (cne y c e)⟩
    · obtain ⟨w', z⟩ := I.cell y c e
      exact ⟨w', z.sameBut hs (cne y c e)⟩
    · obtain ⟨e, n, ne, nf, d⟩ := I.pin p hp
      exact ⟨(hs.2 p.1 ne).trans e, n, ne, nf, d⟩
  · have hfn : X.fn x = true := by
      rcases hf with z | z
      · exact z
      · rw [z] at hk; cases hk
    obtain ⟨c, hc⟩ := I.ok.has x (.inl hk)
    obtain ⟨w', z⟩ := I.cell x c hc
    refine wpAny_storeName_cell I.ok.kind hk hc z (fun h' hc' hs => ?_)
    obtain ⟨oc, hoc, hocd⟩ := id z
    refine h { s with heap := h' } ⟨I.ok, I.os, I.bare, ⟨fun b o e n hb hx => ?_, fun b o e n hb hx => ?_, I.base.free, fun b o e hx => ?_, I.base.tups, I.base.frzs, I.base.tbls⟩, ⟨m, hn.sameBut hs (Ne.symm (cne x c hc)), fun j y v' e1 e2 e3 => ?_⟩, fun y c' e => ?_, I.free, I.freeC, fun p hp => ?_, tracked ⟨oc, hoc, I.freeC x c hc⟩ hs, by simpa using I.len⟩ ⟨c, hs, .inr hc⟩
    · exact (hs.2 b (Nat.ne_of_lt (Nat.lt_of_lt_of_le (Heap.lt_size e) (I.ok.cab x c hfn hc)))).trans (I.base.keep b o e n hb hx)
    · obtain ⟨sl, e1⟩ := I.base.slot b o e n hb hx
      exact ⟨sl, (hs.2 b (Nat.ne_of_lt (Nat.lt_of_lt_of_le (Heap.lt_size e) (I.ok.cab x c hfn hc)))).trans e1⟩
    · obtain ⟨o', e1⟩ := I.base.there b o e hx
      exact ⟨o', (hs.2 b (Nat.ne_of_lt (Nat.lt_of_lt_of_le (Heap.lt_size e) (I.ok.cab x c hfn hc)))).trans e1⟩
    · by_cases hj : j = i
      · subst hj
        rw [hi] at e1; cases e1
        rw [List.getElem?_set_self hiσ] at e2
        cases e2
        exact ⟨u, r, .inr ⟨.inl hk, c, hc, hc'⟩⟩
      · rw [List.getElem?_set_ne (Ne.symm hj)] at e2
        obtain ⟨u', r', q⟩ := hl j y v' e1 e2 e3
        refine ⟨u', r', ?_⟩
        rcases q with q | ⟨k, c', e, z'⟩
        · exact .inl q
        · refine .inr ⟨k, c', e, z'.sameBut hs ?_⟩
          rintro rfl
          exact hj (zlc hN e1 (I.ok.inj _ _ _ e hc ▸ hi))
    · by_cases hcc : c' = c
      · subst hcc; exact ⟨_, hc'⟩
      · obtain ⟨w2, z2⟩ := I.cell y c' e
        exact ⟨w2, z2.sameBut hs hcc⟩
    · obtain ⟨e, n, ne, nf, d⟩ := I.pin p hp
      refine ⟨(hs.2 p.1 ?_).trans e, n, ne, nf, d⟩
      intro q
      rw [q, hoc] at e
      have q' : oc = p.2 := Option.some.inj e
      exact d w' (by rw [← q']; exact hocd)
theorem zkE {M : Model} {A : Around} {E : Value → Shared → Prop} {i : Nat} {x : Str} {v : V} {u : Value} {Q : Unit → Shared → Prop} (I : Inv X pins σ H s) (hN : X.N.Nodup) (hi : X.N[i]? = some x) (hx : Loc X.env.scope x) (r : RelV v u)
  (h : ∀ s', Inv X pins (σ.set i (some v)) H s' → Q () s') (hf : X.fn x = true ∨ X.env.scope.names.lookup x = some .local := by first | exact .inl rfl | exact .inr rfl | assumption) : wpAny M A (storeName X.env x u) Q E s :=
 zmc I hN hi hx r (fun s' I' _ => h s' I') hf
end
noncomputable abbrev XK := Value → Option Addr → Hp → Prop
noncomputable abbrev St := List (Option V)
noncomputable abbrev VK := V → Hp → Prop
noncomputable abbrev TE := St → Hp → VK → Prop
noncomputable abbrev TT := St → Hp → (Bool → Hp → Prop) → Prop
noncomputable abbrev TA := St → Hp → (List V → Hp → Prop) → Prop
structure Ends where
 nx : St → Hp → Prop
 rt : VK
 bk : St → Hp → Prop := fun _ _ => False
 ct : St → Hp → Prop := fun _ _ => False
noncomputable abbrev TS := Ends → St → Hp → Prop
noncomputable def EP (X : Cx) (pins : List (Addr × Obj)) (σ : St) (Q : VK) (u : Value) (s' : Shared) : Prop := ∃ v H', Inv X pins σ H' s' ∧ RelV v u ∧ Q v H'
noncomputable def TP (X : Cx) (pins : List (Addr × Obj)) (σ : St) (Q : Bool → Hp → Prop) (b : Bool) (s' : Shared) : Prop := ∃ H', Inv X pins σ H' s' ∧ Q b H'
noncomputable def AP (X : Cx) (pins : List (Addr × Obj)) (σ : St) (Q : List V → Hp → Prop) (us : List Value) (s' : Shared) : Prop := ∃ vs H', Inv X pins σ H' s' ∧ Vals vs us ∧ Q vs H'
noncomputable def SP (X : Cx) (pins : List (Addr × Obj)) (D : Ends) (f : Flow) (s' : Shared) : Prop :=
 match f with
 | .next => ∃ σ' H', Inv X pins σ' H' s' ∧ D.nx σ' H'
 | .brk => ∃ σ' H', Inv X pins σ' H' s' ∧ D.bk σ' H'
 | .cont => ∃ σ' H', Inv X pins σ' H' s' ∧ D.ct σ' H'
 | .ret u => ∃ v σ' H', Inv X pins σ' H' s' ∧ RelV v u ∧ D.rt v H'
noncomputable def PE (X : Cx) (e : Expr) (t : TE) : Prop :=
 ∀ (pins : List (Addr × Obj)) (s : Shared) (σ : St) (H : Hp) (Q : VK), Inv X pins σ H s → t σ H Q → wpAny (model X.prog X.w) X.A (eval e X.env) (EP X pins σ Q) X.xe s
noncomputable def PT (X : Cx) (e : Expr) (t : TT) : Prop :=
 ∀ (pins : List (Addr × Obj)) (s : Shared) (σ : St) (H : Hp) (Q : Bool → Hp → Prop), Inv X pins σ H s → t σ H Q → wpAny (model X.prog X.w) X.A (isTrue e X.env (eval e X.env)) (TP X pins σ Q) X.xe s
noncomputable def PW (X : Cx) (e : Expr) (t : TT) : Prop :=
 ∀ (whole : Sem Value) (pins : List (Addr × Obj)) (s : Shared) (σ : St) (H : Hp) (Q : Bool → Hp → Prop), Inv X pins σ H s → t σ H Q → wpAny (model X.prog X.w) X.A (isTrue e X.env whole) (TP X pins σ Q) X.xe s
theorem PW.pt {X : Cx} {e : Expr} {t : TT} (h : PW X e t) : PT X e t := h _
noncomputable def PA (X : Cx) (es : List Expr) (t : TA) : Prop :=
 ∀ (pos : Pos) (pins : List (Addr × Obj)) (s : Shared) (σ : St) (H : Hp) (Q : List V → Hp → Prop), Inv X pins σ H s → t σ H Q → wpAny (model X.prog X.w) X.A (spliced (backTo pos (starEach es X.env))) (AP X pins σ Q) X.xe s
noncomputable def PS (X : Cx) (st : Stmt) (t : TS) : Prop :=
 ∀ (pins : List (Addr × Obj)) (s : Shared) (σ : St) (H : Hp) (D : Ends), Inv X pins σ H s → t D σ H → wpAny (model X.prog X.w) X.A (exec st X.env) (SP X pins D) X.xe s
noncomputable def PSs (X : Cx) (st : List Stmt) (t : TS) : Prop :=
 ∀ (pins : List (Addr × Obj)) (s : Shared) (σ : St) (H : Hp) (D : Ends), Inv X pins σ H s → t D σ H → wpAny (model X.prog X.w) X.A (execs st X.env) (SP X pins D) X.xe s
theorem thn {α : Type} {t : Sem α} {Q Q' : α → Shared → Prop} {M : Model} {A : Around} {E : Value → Shared → Prop} {s : Shared} (h : wpAny M A t Q E s) (hQ : ∀ a s, Q a s → Q' a s) : wpAny M A t Q' E s := wpAny_mono h hQ fun _ _ x => x
end L2
namespace L2
open PySem PySem.Spec PyProof.Rows
section
variable {X : Cx}
theorem bin {a b : Expr} {ta tb : TE} (ha : PE X a ta) (hb : PE X b tb) {pins : List (Addr × Obj)} {s : Shared} {σ : St} {H : Hp} {R : V → V → Hp → Prop} (I : Inv X pins σ H s) (h : ta σ H fun x H1 => tb σ H1 fun y H2 => R x y H2)
  {α : Type} {Q : α → Shared → Prop} {f : Value → Value → Sem α}
  (hf : ∀ v u s2 x y H2, Inv X pins σ H2 s2 → RelV x v → RelV y u → R x y H2 → wpAny (model X.prog X.w) X.A (f v u) Q X.xe s2) :
  wpAny (model X.prog X.w) X.A (eval a X.env) (fun v s₁ => wpAny (model X.prog X.w) X.A (eval b X.env) (fun u s₂ => wpAny (model X.prog X.w) X.A (f v u) Q X.xe s₂) X.xe s₁) X.xe s := by
 refine thn (ha pins s σ H _ I h) fun v s1 ⟨x, H1, I1, r1, q1⟩ => ?_
 refine thn (hb pins s1 σ H1 _ I1 q1) fun u s2 ⟨y, H2, I2, r2, q2⟩ => ?_
 exact hf v u s2 x y H2 I2 r1 r2 q2
noncomputable def tVar (i : Nat) : TE := fun σ H Q => ∃ v, σ[i]? = some (some v) ∧ Q v H
noncomputable def tC (v : V) : TE := fun _ H Q => Q v H
theorem zf5 {i : Nat} {x : Str} {pos : Pos} (hN : X.N[i]? = some x) (hv : Vis X.env.scope x) (hd : (x == ("__debug__" : Str)) = false := by decide) (hcd : (x == ("__classdict__" : Str)) = false := by decide) : PE X (.Name x pos) (tVar i) := by
 intro pins s σ H Q I h
 obtain ⟨v, e, h⟩ := h
 obtain ⟨m, hn, hl⟩ := I.loc
 obtain ⟨u, r, l⟩ := hl i x v hN e hv
 have fin : EP X pins σ Q u s := ⟨v, H, I, r, h⟩
 rcases l with ⟨hk, hm⟩ | ⟨hk, c, hc, hcell⟩
 ·exact wpAny_Name (wpAny_loadName_local I.ok.kind hk hn hm fin) hd
 ·rcases hk with hk | hk
  ·exact wpAny_Name (wpAny_loadName_cell I.ok.kind hk hc hcell fin) hd
  ·exact wpAny_Name (wpAny_loadName_free I.ok.kind hk hc hcell fin hcd) hd
theorem pe_int {i j pos} : PE X (.Constant (.int i) j pos) (tC (.int i)) := fun _ _ _ H _ I h => wpAny_Constant_int ⟨.int i, H, I.tok _, ⟨_, rfl⟩, h⟩
theorem pe_bl {b j pos} : PE X (.Constant (.bool b) j pos) (tC (.bl b)) := fun _ _ _ H _ I h => Constant_bool ⟨.bl b, H, I, rfl, h⟩
theorem pe_str {x j pos} : PE X (.Constant (.str x) j pos) (tC (.str x)) := fun _ _ _ H _ I h => Calls.Constant_str ⟨.str x, H, I.tok _, ⟨_, rfl⟩, h⟩
noncomputable def Gl (X : Cx) (x : Str) : Prop := X.env.kindOf x = some .globalImplicit
theorem ld_glob {E : Value → Shared → Prop} {pins : List (Addr × Obj)} {s : Shared} {σ : St} {H : Hp} {x : Str} {u : Value} {pos : Pos} {Q : Value → Shared → Prop} (I : Inv X pins σ H s) (hg : Gl X x) (hm : X.mg x = some u) (h : Q u s)
  (hd : (x == ("__debug__" : Str)) = false := by decide) : wpAny (model X.prog X.w) X.A (eval (.Name x pos) X.env) Q E s :=
 Calls.Name_function_global I.ok.kind hg (Calls.loadGlobal_global (by rw [I.ok.glob]; exact I.mod.glob.keeps I.bk) hm h) hd
theorem zgc {E : Value → Shared → Prop} {pins : List (Addr × Obj)} {s : Shared} {σ : St} {H : Hp} {x : Str} {u : Value} {pos : Pos} {Q : Value → Shared → Prop} (I : Inv X pins σ H s) (hg : Gl X x) (hm : X.mg x = none) (hv : bootBuiltins x = some u) (h : Q u s)
  (hn : x ≠ "__name__" := by decide) (hd : (x == ("__debug__" : Str)) = false := by decide) : wpAny (model X.prog X.w) X.A (eval (.Name x pos) X.env) Q E s := by
 obtain ⟨mb, h1, h2⟩ := I.mod.blt
 exact Calls.Name_function_global I.ok.kind hg (Calls.loadGlobal_builtin (by rw [I.ok.glob]; exact I.mod.glob.keeps I.bk) hm (by rw [I.ok.blt]; exact h1.keeps I.bk) ((h2 x hn).trans hv) h) hd
theorem pe_bltn {x : Str} {v : V} {u : Value} {pos : Pos} (hg : Gl X x) (hm : X.mg x = none) (hv : bootBuiltins x = some u) (r : RelV v u) (hn : x ≠ "__name__" := by decide) (hd : (x == ("__debug__" : Str)) = false := by decide) : PE X (.Name x pos) (tC v) :=
 fun _ _ _ H _ I h => zgc I hg hm hv ⟨v, H, I, r, h⟩ hn hd
variable {a b : Expr} {ta tb : TE} {pos : Pos}
variable {tA tB' : TT} {rest : List Expr}
noncomputable def tAnd (t u : TT) : TT := fun σ H Q => t σ H fun c H1 => if c = true then u σ H1 Q else Q false H1
noncomputable def tOr (t u : TT) : TT := fun σ H Q => t σ H fun c H1 => if c = true then Q true H1 else u σ H1 Q
noncomputable def tNot (t : TT) : TT := fun σ H Q => t σ H fun c H1 => Q (!c) H1
theorem pw_and1 (ha : PT X a tA) : PW X (.BoolOp .And [a] pos) tA := by
 intro wh pins s σ H Q I h
 refine isTrue_and (thn (ha pins s σ H Q I h) fun c s1 e => ?_)
 cases c with
 | true => exact isTrue_and_nil e
 | false => exact e
theorem pw_or1 (ha : PT X a tA) : PW X (.BoolOp .Or [a] pos) tA := by
 intro wh pins s σ H Q I h
 refine isTrue_or (thn (ha pins s σ H Q I h) fun c s1 e => ?_)
 cases c with
 | false => exact isTrue_or_nil e
 | true => exact e
theorem pw_and (ha : PT X a tA) (hb : PW X (.BoolOp .And (b :: rest) pos) tB') : PW X (.BoolOp .And (a :: b :: rest) pos) (tAnd tA tB') := by
 intro wh pins s σ H Q I h
 refine isTrue_and (thn (ha pins s σ H _ I h) fun c s1 ⟨H1, I1, q1⟩ => ?_)
 cases c with
 | true => exact hb wh pins s1 σ H1 Q I1 q1
 | false => exact ⟨H1, I1, q1⟩
theorem pw_or (ha : PT X a tA) (hb : PW X (.BoolOp .Or (b :: rest) pos) tB') : PW X (.BoolOp .Or (a :: b :: rest) pos) (tOr tA tB') := by
 intro wh pins s σ H Q I h
 refine isTrue_or (thn (ha pins s σ H _ I h) fun c s1 ⟨H1, I1, q1⟩ => ?_)
 cases c with
 | true => exact ⟨H1, I1, q1⟩
 | false => exact hb wh pins s1 σ H1 Q I1 q1
theorem pt_not (ha : PT X a tA) : PT X (.UnaryOp .Not a pos) (tNot tA) := by
 intro pins s σ H Q I h
 exact isTrue_not (ha pins s σ H (fun c H1 => Q (!c) H1) I h)
noncomputable def tAndV (ta tb : TE) : TE := fun σ H Q => ta σ H fun x H1 => ∃ c, x = .bl c ∧ if c = true then tb σ H1 Q else Q (.bl false) H1
noncomputable def tNotV (ta : TE) : TE := fun σ H Q => ta σ H fun x H1 => ∃ c, x = .bl c ∧ Q (.bl (!c)) H1
theorem pe_one {op} {t : TE} (h : PE X a t) : PE X (.BoolOp op [a] pos) t := fun pins s σ H Q I hw => BoolOp_one (h pins s σ H Q I hw)
theorem pe_and (ha : PE X a ta) (hb : PE X (.BoolOp .And (b :: rest) pos) tb) : PE X (.BoolOp .And (a :: b :: rest) pos) (tAndV ta tb) := by
 intro pins s σ H Q I h
 refine BoolOp_and (thn (ha pins s σ H _ I h) fun v s1 ⟨x, H1, I1, r1, q1⟩ => ?_)
 obtain ⟨c, rfl, q1⟩ := q1
 cases r1
 refine wpAny_truthy_bool ?_
 cases c with
 | true => exact hb pins s1 σ H1 Q I1 q1
 | false => exact ⟨.bl false, H1, I1, rfl, q1⟩
theorem pe_not (ha : PE X a ta) : PE X (.UnaryOp .Not a pos) (tNotV ta) := by
 intro pins s σ H Q I h
 refine UnaryOp_ (thn (ha pins s σ H _ I h) fun v s1 ⟨x, H1, I1, r1, q1⟩ => ?_)
 obtain ⟨c, rfl, q1⟩ := q1
 cases r1
 exact not_of (wpAny_truthy_bool ⟨.bl (!c), H1, I1, rfl, q1⟩)
end
end L2
namespace L2
open PySem PySem.Spec PyProof.Rows
noncomputable def SqL (K : W.Frag) (H : Hp) (a : Addr) (xs : List V) : Prop :=
 Rd H a (.lst xs) ∨
  ∃ (o : Obj) (its : Array Value) (n : Nat), K.lookup a = some o ∧ o.cls = .type "list" ∧ o.dict = none ∧ o.data = .seq its n ∧ its.size ≤ sizeLine ∧ Vals xs its.toList
noncomputable def SqT (K : W.Frag) (H : Hp) (a : Addr) (xs : List V) : Prop :=
 Rd H a (.tup xs) ∨
  ∃ (o : Obj) (its : Array Value) (n : Nat), K.lookup a = some o ∧ o.cls = .type "tuple" ∧ o.data = .seq its n ∧ its.size ≤ sizeLine ∧ Vals xs its.toList
noncomputable def absV : Value → Option V
 | .none => some .non
 | .bool b => some (.bl b)
 | .int i _ => some (.int i)
 | .str x _ => some (.str x)
 | .bytes b _ => some (.byt b)
 | .float b _ => some (.flt b)
 | .ref a => some (.ref a)
 | .type n => some (.ty n)
 | _ => none
theorem RelV.abs {x : V} {u : Value} (r : RelV x u) : absV u = some x := by
 cases x with
 | non => cases r; rfl
 | bl _ => cases r; rfl
 | int _ => obtain ⟨t, rfl⟩ := r; rfl
 | str _ => obtain ⟨t, rfl⟩ := r; rfl
 | byt _ => obtain ⟨t, rfl⟩ := r; rfl
 | flt _ => obtain ⟨t, rfl⟩ := r; rfl
 | ref _ => cases r; rfl
 | ty _ => cases r; rfl
theorem RelV.inj {x y : V} {u : Value} (r : RelV x u) (q : RelV y u) : x = y := Option.some.inj (r.abs.symm.trans q.abs)
theorem Vals.inj : ∀ {xs ys : List V} {us : List Value}, Vals xs us → Vals ys us → xs = ys
 | _, _, _, .nil, .nil => rfl
 | _, _, _, .cons r t, .cons r' t' => by rw [r.inj r', Vals.inj t t']
section
variable {X : Cx} {pins : List (Addr × Obj)} {σ : St} {H : Hp} {s : Shared} {a : Addr} {xs ys : List V}
theorem SqL.of {K : W.Frag} (h : H a = some (.lst xs)) : SqL K H a xs := .inl (.inl h)
theorem SqT.of {K : W.Frag} (h : H a = some (.tup xs)) : SqT K H a xs := .inl (.inl h)
theorem Inv.list (I : Inv X pins σ H s) (h : SqL X.K H a xs) : ∃ its : List Value, Vals xs its ∧ PlainL s.heap a its.toArray ∧ xs.length ≤ sizeLine := by
 rcases h with h | ⟨o, its, n, hk, hc, hd, hs, hz, r⟩
 ·obtain ⟨z, its, n, r, e⟩ := h.ok I.hok
  exact ⟨its, r, ⟨_, n, e, rfl, rfl, rfl⟩, z⟩
 ·refine ⟨its.toList, r, ⟨o, n, I.kIn a o hk, hc, hd, by simpa using hs⟩, ?_⟩
  have e := r.length
  simp only [Array.length_toList] at e
  omega
theorem Inv.tuple (I : Inv X pins σ H s) (h : SqT X.K H a xs) : ∃ its : List Value, Vals xs its ∧ IsTup s.heap a its.toArray ∧ xs.length ≤ sizeLine := by
 rcases h with h | ⟨o, its, n, hk, hc, hs, hz, r⟩
 ·obtain ⟨z, its, r, p⟩ := h.ok I.hok
  exact ⟨its, r, p, z⟩
 ·refine ⟨its.toList, r, ⟨o, I.kIn a o hk, hc, n, by simpa using hs⟩, ?_⟩
  have e := r.length
  simp only [Array.length_toList] at e
  omega
theorem Inv.list_inj (I : Inv X pins σ H s) (h : SqL X.K H a xs) (h' : SqL X.K H a ys) : xs = ys := by
 obtain ⟨its, r, ⟨o, n, e, _, _, d⟩, _⟩ := I.list h
 obtain ⟨its', r', ⟨o', n', e', _, _, d'⟩, _⟩ := I.list h'
 rw [e] at e'; cases e'
 rw [d] at d'
 injection d' with d1 _
 have : its = its' := by simpa using congrArg Array.toList d1
 subst this
 exact r.inj r'
theorem Inv.tuple_inj (I : Inv X pins σ H s) (h : SqT X.K H a xs) (h' : SqT X.K H a ys) : xs = ys := by
 obtain ⟨its, r, ⟨o, e, _, n, d⟩, _⟩ := I.tuple h
 obtain ⟨its', r', ⟨o', e', _, n', d'⟩, _⟩ := I.tuple h'
 rw [e] at e'; cases e'
 rw [d] at d'
 injection d' with d1 _
 have : its = its' := by simpa using congrArg Array.toList d1
 subst this
 exact r.inj r'
end
noncomputable abbrev Cx.wish (X : Cx) (E : Value → Shared → Prop) : Cx := { X with xe := E }
noncomputable abbrev Cx.nox (X : Cx) : Cx := X.wish fun _ _ => False
theorem Cx.Ok.wish {X : Cx} (ok : X.Ok) (E : Value → Shared → Prop) : (X.wish E).Ok :=
 ⟨ok.mod, ok.kind, ok.glob, ok.blt, ok.above, ok.inj, ok.has, ok.cab, ok.hd, ok.frames, ok.stk, ok.exf, ok.bs, ok.bsz, ok.noex, ok.exfs, ok.funs, ok.frf⟩
theorem Cx.Ok.unwish {X : Cx} {E : Value → Shared → Prop} (ok : (X.wish E).Ok) : X.Ok :=
 ⟨ok.mod, ok.kind, ok.glob, ok.blt, ok.above, ok.inj, ok.has, ok.cab, ok.hd, ok.frames, ok.stk, ok.exf, ok.bs, ok.bsz, ok.noex, ok.exfs, ok.funs, ok.frf⟩
section
variable {X : Cx} {pins : List (Addr × Obj)} {σ : St} {H : Hp} {s : Shared} {E : Value → Shared → Prop}
theorem Inv.wish (I : Inv X pins σ H s) (E : Value → Shared → Prop) : Inv (X.wish E) pins σ H s := ⟨I.ok.wish E, I.os, I.bare, I.base, I.loc, I.cell, I.free, I.freeC, I.pin, I.hok, I.len⟩
theorem Inv.unwish (I : Inv (X.wish E) pins σ H s) : Inv X pins σ H s := ⟨I.ok.unwish, I.os, I.bare, I.base, I.loc, I.cell, I.free, I.freeC, I.pin, I.hok, I.len⟩
theorem SP.unwish {D : Ends} {f : Flow} {s' : Shared} (h : SP (X.wish E) pins D f s') : SP X pins D f s' := by
 cases f with
 | next => obtain ⟨σ', H', I, q⟩ := h; exact ⟨σ', H', I.unwish, q⟩
 | brk => obtain ⟨σ', H', I, q⟩ := h; exact ⟨σ', H', I.unwish, q⟩
 | cont => obtain ⟨σ', H', I, q⟩ := h; exact ⟨σ', H', I.unwish, q⟩
 | ret u => obtain ⟨v, σ', H', I, r, q⟩ := h; exact ⟨v, σ', H', I.unwish, r, q⟩
theorem PSs.nox {st : List Stmt} {t : TS} (h : PSs X.nox st t) : PSs X st t := fun pins s σ H D I hw =>
 wpAny_mono (h pins s σ H D (I.wish _) hw) (fun _ _ q => q.unwish) fun _ _ z => False.elim z
end
section
variable {X : Cx} {st : Stmt} {rest : List Stmt} {t u : TS} {e : Expr} {te : TE} {pos : Pos}
noncomputable def tNext : TS := fun D σ H => D.nx σ H
noncomputable def tSeq (t u : TS) : TS := fun D σ H => t { D with nx := u D } σ H
theorem pss_nil : PSs X [] tNext := fun _ _ σ H _ I h => wpAny_execs_nil ⟨σ, H, I, h⟩
theorem pss_cons (h1 : PS X st t) (h2 : PSs X rest u) : PSs X (st :: rest) (tSeq t u) := by
 intro pins s σ H D I h
 refine wpAny_execs_cons (thn (h1 pins s σ H { D with nx := u D } I h) fun f s1 q => ?_)
 cases f with
 | next =>
  obtain ⟨σ', H', I', q⟩ := q
  exact h2 pins s1 σ' H' D I' q
 | ret v => exact q
 | brk => exact q
 | cont => exact q
theorem pss_one (h1 : PS X st t) : PSs X [st] t := by
 intro pins s σ H D I h
 refine wpAny_execs_cons (thn (h1 pins s σ H D I h) fun f s1 q => ?_)
 cases f with
 | next => exact wpAny_execs_nil q
 | ret v => exact q
 | brk => exact q
 | cont => exact q
theorem Inv.quiet {pins : List (Addr × Obj)} {σ : St} {H : Hp} {s : Shared} (I : Inv X pins σ H s) : interactive X.env = false := by simp [interactive, I.ok.kind]
noncomputable def tDrop (te : TE) : TS := fun D σ H => te σ H fun _ H1 => D.nx σ H1
theorem ps_expr (he : PE X e te) (hs : swapsWith e none pos.line X.env = pure false := by rfl) : PS X (.Expr e pos) (tDrop te) := by
 intro pins s σ H D I h
 exact wpAny_Expr_any (thn (he pins s σ H _ I h) fun v s1 ⟨x, H1, I1, r1, q1⟩ => ⟨σ, H1, I1, q1⟩) I.quiet hs
noncomputable def tRet (te : TE) : TS := fun D σ H => te σ H D.rt
theorem zmz (he : PE X e te) : PS X (.Return (some e) pos) (tRet te) := by
 intro pins s σ H D I h
 exact wpAny_Return_some (thn (he pins s σ H _ I h) fun v s1 ⟨x, H1, I1, r1, q1⟩ => ⟨x, σ, H1, I1, r1, q1⟩)
noncomputable def tIfS (c : TT) (t u : TS) : TS := fun D σ H => c σ H fun b H1 => if b = true then t D σ H1 else u D σ H1
theorem ps_if {c : Expr} {a b : List Stmt} {tc : TT} (hc : PT X c tc) (ha : PSs X a t) (hb : PSs X b u) : PS X (.If c a b pos) (tIfS tc t u) := by
 intro pins s σ H D I h
 refine wpAny_If (thn (hc pins s σ H _ I h) fun d s1 ⟨H1, I1, q1⟩ => ?_)
 cases d with
 | true => exact ha pins s1 σ H1 D I1 q1
 | false => exact hb pins s1 σ H1 D I1 q1
end
noncomputable abbrev TG := V → St → Hp → (St → Hp → Prop) → Prop
noncomputable abbrev TGs := List V → St → Hp → (St → Hp → Prop) → Prop
noncomputable def PG (X : Cx) (target : Expr) (t : TG) : Prop :=
 ∀ (pins : List (Addr × Obj)) (s : Shared) (σ : St) (H : Hp) (v : V) (u : Value) (Q : St → Hp → Prop), Inv X pins σ H s → RelV v u → t v σ H Q →
  wpAny (model X.prog X.w) X.A (assign target X.env u) (fun _ s' => ∃ σ' H', Inv X pins σ' H' s' ∧ Q σ' H') X.xe s
noncomputable def PGs (X : Cx) (ts : List Expr) (t : TGs) : Prop :=
 ∀ (pins : List (Addr × Obj)) (s : Shared) (σ : St) (H : Hp) (vs : List V) (us : List Value) (Q : St → Hp → Prop), Inv X pins σ H s → Vals vs us → t vs σ H Q →
  wpAny (model X.prog X.w) X.A (assignInOrder ((assignEach ts X.env).map (·.2)) us) (fun _ s' => ∃ σ' H', Inv X pins σ' H' s' ∧ Q σ' H') X.xe s
noncomputable abbrev TSet := V → V → V → Hp → (Hp → Prop) → Prop
noncomputable def PSet (X : Cx) (t : TSet) : Prop :=
 ∀ (pins : List (Addr × Obj)) (s : Shared) (σ : St) (H : Hp) (o i v : V) (ov iv u : Value) (Q : Hp → Prop), Inv X pins σ H s → RelV o ov → RelV i iv → RelV v u → t o i v H Q →
  wpAny (model X.prog X.w) X.A (setItem ov iv u) (fun _ s' => ∃ H', Inv X pins σ H' s' ∧ Q H') X.xe s
section
variable {X : Cx} {pos : Pos}
noncomputable def gName (i : Nat) : TG := fun v σ H Q => Q (σ.set i (some v)) H
theorem zmt {i : Nat} {x : Str} (hN : X.N.Nodup) (hi : X.N[i]? = some x) (hx : Loc X.env.scope x) (hf : X.fn x = true ∨ X.env.scope.names.lookup x = some .local := by first | exact .inl rfl | exact .inr rfl | assumption) : PG X (.Name x pos) (gName i) := by
  intro pins s σ H v u Q I r h
  exact wpAny_assign_Name (zkE I hN hi hx r (fun s' I' => ⟨_, H, I', h⟩) hf)
noncomputable def gNil : TGs := fun vs σ H Q => vs = [] ∧ Q σ H
noncomputable def gCons (t : TG) (u : TGs) : TGs := fun vs σ H Q => ∃ v r, vs = v :: r ∧ t v σ H fun σ' H' => u r σ' H' Q
theorem pgs_nil : PGs X [] gNil := by
 intro pins s σ H vs us Q I r h
 obtain ⟨e, h⟩ := h
 subst e
 cases r
 exact assignInOrder_nil ⟨σ, H, I, h⟩
theorem pgs_cons {e : Expr} {es : List Expr} {t : TG} {u : TGs} (h1 : PG X e t) (h2 : PGs X es u)
  (hs : (assignEach (e :: es) X.env).map (·.2) = assign e X.env :: (assignEach es X.env).map (·.2) := by rfl) : PGs X (e :: es) (gCons t u) := by
 intro pins s σ H vs us Q I r h
 obtain ⟨v, vr, e1, h⟩ := h
 subst e1
 cases r with
 | cons r rr =>
  rw [hs]
  refine assignInOrder_cons (thn (h1 pins s σ H _ _ _ I r h) fun _ s1 ⟨σ1, H1, I1, q1⟩ => ?_)
  exact h2 pins s1 σ1 H1 _ _ Q I1 rr q1
noncomputable def gTup (K : W.Frag) (n : Nat) (t : TGs) : TG := fun v σ H Q => ∃ a xs, v = .ref a ∧ SqT K H a xs ∧ xs.length = n ∧ t xs σ H Q
theorem pg_tup {es : List Expr} {k : Nat} {t : TGs} {n : Nat} (hc : X.calm = true) (h : PGs X es t)
  (hn : (assignEach es X.env).length = n := by rfl) (hst : (assignEach es X.env).findIdx? (·.1) = none := by rfl) : PG X (.Tuple es k pos) (gTup X.K n t) := by
 intro pins s σ H v u Q I r hw
 obtain ⟨a, xs, e1, hq, hl, hw⟩ := hw
 subst e1
 cases r
 obtain ⟨its, rv, ht, hz⟩ := I.tuple hq
 refine assign_Tuple_tuple (I.ok.hd hc) ht (by simp [hn, ← hl, rv.length]) hst fun h' hx => ?_
 have I1 : Inv X pins σ H { s with heap := h' } := I.kept (t' := s.toks) fun b o e => hx b o (Nat.ne_of_lt (Heap.lt_size e)) e
 exact h pins _ σ H xs _ Q I1 (by simpa using rv) hw
noncomputable def gSub (to ti : TE) (t : TSet) : TG := fun v σ H Q => to σ H fun o H1 => ti σ H1 fun i H2 => t o i v H2 fun H3 => Q σ H3
theorem pg_sub {o i : Expr} {to ti : TE} {t : TSet} (ho : PE X o to) (hi : PE X i ti) (hs : PSet X t)
    (ha : ∀ v, assign (.Subscript o i pos) X.env v = (do
      let ov ← holding [v] (eval o X.env)
      let iv ← holding [v, ov] (eval i X.env)
      standAt pos
      holding [v, ov, iv] (setItem ov iv v)
      release [v, ov, iv] []) := by intro _; rfl) : PG X (.Subscript o i pos) (gSub to ti t) := by
  intro pins s σ H v u Q I r h
  rw [ha]
  refine wpAny_bind (wpAny_holding (thn (ho pins s σ H _ I h) fun ov s1 ⟨x, H1, I1, r1, q1⟩ => ?_))
  refine wpAny_bind (wpAny_holding (thn (hi pins s1 σ H1 _ I1 q1) fun iv s2 ⟨y, H2, I2, r2, q2⟩ => ?_))
  refine wpAny_bind (wpAny_standAt (wpAny_bind (wpAny_holding (thn (hs pins s2 σ H2 x y v ov iv u _ I2 r1 r2 r q2) fun _ s3 ⟨H3, I3, q3⟩ => ?_))))
  exact wpAny_release ⟨σ, H3, I3, q3⟩
noncomputable def tAsg (te : TE) (g : TG) : TS := fun D σ H => te σ H fun x H1 => g x σ H1 D.nx
theorem ps_asg {tg e : Expr} {te : TE} {g : TG} (he : PE X e te) (hg : PG X tg g) (hs : swapsWithSole [tg] e pos.line X.env = pure false := by rfl) (hw : swappedStores [tg] e X.env = pure none := by rfl)
  (h1 : (assignEach [tg] X.env).map (·.2) = [assign tg X.env] := by rfl) : PS X (.Assign [tg] e pos) (tAsg te g) := by
 intro pins s σ H D I h
 refine wpAny_Assign_stores (thn (he pins s σ H _ I h) fun v s1 ⟨x, H1, I1, r1, q1⟩ => ?_) hs hw
 rw [h1]
 exact thn (hg pins s1 σ H1 x v _ I1 r1 q1) fun _ s2 q => q
theorem ps_set {i : Nat} {x : Str} {e : Expr} {te : TE} {pos' : Pos} (hN : X.N.Nodup) (hi : X.N[i]? = some x) (hx : Loc X.env.scope x) (he : PE X e te) (hs : swapsWith e (some (.Name x pos')) pos.line X.env = pure false := by rfl) (hf : X.fn x = true ∨ X.env.scope.names.lookup x = some .local := by first | exact .inl rfl | exact .inr rfl | assumption) :
  PS X (.Assign [.Name x pos'] e pos) (tAsg te (gName i)) := by
 intro pins s σ H D I h
 refine wpAny_Assign_Name (thn (he pins s σ H _ I h) fun v s1 ⟨y, H1, I1, r1, q1⟩ => ?_) hs
 exact zkE I1 hN hi hx r1 (fun s2 I2 => ⟨_, H1, I2, q1⟩) hf
end
section
variable {X : Cx} {pos : Pos}
end
structure It where
 go : Nat → Hp → Prop
 yld : Nat → Hp → V → Hp → Prop
 stop : Nat → Hp → Prop
noncomputable def FpOk (X : Cx) (pins : List (Addr × Obj)) (H : Hp) (b : Addr) : Prop :=
 H b = none ∧ b ≠ X.env.locals ∧ b ∉ X.fs ∧ (b ∈ X.ex ∨ X.s₀.heap.objs.size ≤ b) ∧ (∀ x c, X.env.cells.lookup x = some c → c ≠ b) ∧ ∀ p ∈ X.pn ++ pins, p.1 ≠ b
theorem Inv.fpOk {X : Cx} {pins : List (Addr × Obj)} {σ : St} {H H' : Hp} {s : Shared} {b : Addr} (I : Inv X pins σ H s) (hb : s.heap.objs.size ≤ b) (hn : H' b = none) : FpOk X pins H' b := by
 refine ⟨hn, Nat.ne_of_gt (Nat.lt_of_lt_of_le I.lt hb), I.nofs hb, .inr (Nat.le_trans I.sz hb), fun x c e z => ?_, fun p hp z => ?_⟩
 ·obtain ⟨v, q⟩ := I.cell x c e
  exact absurd (Nat.lt_of_lt_of_le q.lt (by rw [z]; exact hb)) (Nat.lt_irrefl _)
 ·exact absurd (Nat.lt_of_lt_of_le (Heap.lt_size (I.pin p hp).1) (by rw [z]; exact hb)) (Nat.lt_irrefl _)
structure Turn (P : Program) (w : World) (K : W.Frag) (tg : Expr) (J : It) (fp : List Addr) (it : Addr) (tn : Nat → Heap → Prop) : Prop where
 mem : it ∈ fp
 obj : ∀ i h, tn i h → ∀ b ∈ fp, ∃ o, h.get? b = some o ∧ ∀ v, o.data ≠ .cell v
 keep : ∀ i h h', tn i h → (∀ b ∈ fp, ∀ o, h.get? b = some o → h'.get? b = some o) → tn i h'
 item : ∀ (X : Cx), X.prog = P → X.w = w → X.K = K → X.calm = true → ∀ (i : Nat) (pins : List (Addr × Obj)) (s : Shared) (σ : St) (H : Hp) (E : Value → Shared → Prop), Inv X pins σ H s → (∀ b ∈ fp, FpOk X pins H b) → tn i s.heap → J.go i H →
  wpAny (model P w) X.A (pyNext (.ref it)) (fun r s1 => ∃ u, r = some u ∧
   wpAny (model P w) X.A (letOwnedTupleGo tg (.ref it) u) (fun _ s2 => ∃ x H', Inv X pins σ H' s2 ∧ RelV x u ∧ J.yld i H x H' ∧ tn (i + 1) s2.heap ∧ ∀ b ∈ fp, H' b = none) E s1) E s
 done : ∀ (X : Cx), X.prog = P → X.w = w → X.K = K → X.calm = true → ∀ (i : Nat) (pins : List (Addr × Obj)) (s : Shared) (σ : St) (H : Hp) (E : Value → Shared → Prop), Inv X pins σ H s → (∀ b ∈ fp, FpOk X pins H b) → tn i s.heap → J.stop i H →
  wpAny (model P w) X.A (pyNext (.ref it)) (fun r s1 => r = none ∧ Inv X pins σ H s1) E s
 self : ∀ (A : Around) (i : Nat) (s : Shared) (Q : Value → Shared → Prop) (E : Value → Shared → Prop), tn i s.heap → Q (.ref it) s → wpAny (model P w) A (pyIter (.ref it)) Q E s
noncomputable abbrev TI := St → Hp → (It → Hp → Prop) → Prop
noncomputable def PIE (X : Cx) (pins : List (Addr × Obj)) (σ : St) (tg : Expr) (R : It → Hp → Prop) (itv : Value) (s2 : Shared) : Prop :=
 ∃ (it : Addr) (fp : List Addr) (tn : Nat → Heap → Prop) (J : It) (H' : Hp), itv = .ref it ∧ Inv X pins σ H' s2 ∧ Turn X.prog X.w X.K tg J fp it tn ∧ tn 0 s2.heap ∧ (∀ b ∈ fp, FpOk X pins H' b) ∧ R J H'
noncomputable def PI (X : Cx) (tg iter : Expr) (wi : TI) : Prop :=
 ∀ (pins : List (Addr × Obj)) (s : Shared) (σ : St) (H : Hp) (R : It → Hp → Prop), Inv X pins σ H s → wi σ H R →
  wpAny (model X.prog X.w) X.A (eval iter X.env) (fun v s1 => wpAny (model X.prog X.w) X.A (pyIter v) (PIE X pins σ tg R) X.xe s1) X.xe s
theorem go_of {M : Model} {A : Around} {E : Value → Shared → Prop} {s : Shared} {tg : Expr} {it : Addr} {u : Value} {o : Obj} {n : String} {vs : Array Value} {Q : Unit → Shared → Prop} (ho : s.heap.get? it = some o) (hc : o.cls = .type n) (hd : o.data = .fields vs)
    (hn : ["enumerate", "zip", "dict_itemiterator", "dict_reverseitemiterator", "odict_iterator", "itertools.zip_longest", "itertools.pairwise"].contains n = false) (hQ : Q () s) : wpAny M A (letOwnedTupleGo tg (.ref it) u) Q E s := by
  unfold letOwnedTupleGo
  cases tg <;> first
    | exact wpAny_pure hQ
    | (cases u <;> first
        | exact wpAny_pure hQ
        | (refine wpAny_bind (wpAny_load ho ?_)
           rw [hc, hd]
           show wpAny M A (if (["enumerate", "zip", "dict_itemiterator", "dict_reverseitemiterator", "odict_iterator", "itertools.zip_longest", "itertools.pairwise"].contains n && vs[0]? == some (rawInt _)) = true then _ else _) Q E s
           rw [if_neg (by intro h; rw [hn, Bool.false_and] at h; cases h)]
           exact wpAny_pure hQ))
noncomputable def Itl (K : W.Frag) (a : Addr) : It :=
 ⟨fun i H => ∃ xs x, SqL K H a xs ∧ xs[i]? = some x, fun i H x H' => H' = H ∧ ∀ xs, SqL K H a xs → xs[i]? = some x, fun i H => ∃ xs, SqL K H a xs ∧ xs.length ≤ i⟩
noncomputable def Itt (K : W.Frag) (a : Addr) : It :=
 ⟨fun i H => ∃ xs x, SqT K H a xs ∧ xs[i]? = some x, fun i H x H' => H' = H ∧ ∀ xs, SqT K H a xs → xs[i]? = some x, fun i H => ∃ xs, SqT K H a xs ∧ xs.length ≤ i⟩
noncomputable def Itr (lo : Int) (n : Nat) : It := ⟨fun i _ => i < n, fun i H x H' => H' = H ∧ x = .int (lo + i), fun i _ => n ≤ i⟩
theorem zlK {P : Program} {w : World} {K : W.Frag} {tg : Expr} (a it : Addr) : Turn P w K tg (Itl K a) [it] it (fun i h => h.IsListIter it a i) where
 mem := by simp
 obj := fun i h st b hb => by
  have e : b = it := by simpa using hb
  subst e
  obtain ⟨o, e, c, d⟩ := st
  exact ⟨o, e, fun v z => by rw [d] at z; cases z⟩
 keep := fun i h h' st k => st.at fun o e => k it (by simp) o e
 item := by
  intro X hP hw hK hc i pins s σ H E I hf st hg
  subst hP hw hK
  obtain ⟨xs, x, hq, hx⟩ := hg
  obtain ⟨its, rv, p, hz⟩ := I.list hq
  obtain ⟨u, hu, ru⟩ := rv.get hx
  obtain ⟨f0, f1, f2, f3, f4, f5⟩ := hf it (by simp)
  refine wpAny_pyNext_list_item st p.isList (x := u) (by simpa using hu) fun h' st' sb => ?_
  have I1 : Inv X pins σ H { s with heap := h' } := I.turned (t' := s.toks) (fun b o hb e => (sb.2 b hb).trans e) f0 f1 f3 f4 f5
  obtain ⟨o, e, c, d⟩ := id st'
  exact ⟨u, rfl, go_of (s := { s with heap := h' }) e c d (by decide) ⟨x, H, I1, ru, ⟨rfl, fun ys hy => by rw [I.list_inj hy hq]; exact hx⟩, st', fun b hb => (hf b hb).1⟩⟩
 done := by
  intro X hP hw hK hc i pins s σ H E I hf st hg
  subst hP hw hK
  obtain ⟨xs, hq, hx⟩ := hg
  obtain ⟨its, rv, p, hz⟩ := I.list hq
  obtain ⟨f0, f1, f2, f3, f4, f5⟩ := hf it (by simp)
  have hl := rv.length
  exact wpAny_pyNext_list_end (I.ok.hd hc) st p.isList (by simp; omega) fun h' eb => ⟨rfl, I.turned (t' := s.toks) (fun b o hb e => eb b o hb e) f0 f1 f3 f4 f5⟩
 self := fun _ _ _ _ _ st h => wpAny_pyIter_listiter st h
theorem zlw {P : Program} {w : World} {K : W.Frag} {tg : Expr} (a it : Addr) : Turn P w K tg (Itt K a) [it] it (fun i h => h.IsTupleIter it a i) where
 mem := by simp
 obj := fun i h st b hb => by
  have e : b = it := by simpa using hb
  subst e
  obtain ⟨o, e, c, d⟩ := st
  exact ⟨o, e, fun v z => by rw [d] at z; cases z⟩
 keep := fun i h h' st k => st.at fun o e => k it (by simp) o e
 item := by
  intro X hP hw hK hc i pins s σ H E I hf st hg
  subst hP hw hK
  obtain ⟨xs, x, hq, hx⟩ := hg
  obtain ⟨its, rv, p, hz⟩ := I.tuple hq
  obtain ⟨u, hu, ru⟩ := rv.get hx
  obtain ⟨f0, f1, f2, f3, f4, f5⟩ := hf it (by simp)
  refine wpAny_pyNext_tuple_item st (show s.heap.IsTuple a its.toArray from p) (x := u) (by simpa using hu) fun h' st' sb => ?_
  have I1 : Inv X pins σ H { s with heap := h' } := I.turned (t' := s.toks) (fun b o hb e => (sb.2 b hb).trans e) f0 f1 f3 f4 f5
  obtain ⟨o, e, c, d⟩ := id st'
  exact ⟨u, rfl, go_of (s := { s with heap := h' }) e c d (by decide) ⟨x, H, I1, ru, ⟨rfl, fun ys hy => by rw [I.tuple_inj hy hq]; exact hx⟩, st', fun b hb => (hf b hb).1⟩⟩
 done := by
  intro X hP hw hK hc i pins s σ H E I hf st hg
  subst hP hw hK
  obtain ⟨xs, hq, hx⟩ := hg
  obtain ⟨its, rv, p, hz⟩ := I.tuple hq
  obtain ⟨f0, f1, f2, f3, f4, f5⟩ := hf it (by simp)
  have hl := rv.length
  exact wpAny_pyNext_tuple_end (I.ok.hd hc) st (show s.heap.IsTuple a its.toArray from p) (by simp; omega) fun h' eb => ⟨rfl, I.turned (t' := s.toks) (fun b o hb e => eb b o hb e) f0 f1 f3 f4 f5⟩
 self := fun _ _ _ _ _ st h => wpAny_pyIter_tupleiter st h
theorem zlg {P : Program} {w : World} {K : W.Frag} {tg : Expr} (it : Addr) (lo : Int) (n : Nat) : Turn P w K tg (Itr lo n) [it] it (fun i h => IsRangeIter h it (lo + (i : Nat) * 1) ((n : Int) - (i : Nat)) 1) where
 mem := by simp
 obj := fun i h st b hb => by
  have e : b = it := by simpa using hb
  subst e
  exact ⟨_, st, fun v z => by
   have z' : Data.fields _ = Data.cell v := z
   cases z'⟩
 keep := fun i h h' st k => k it (by simp) _ st
 item := by
  intro X hP hw hK hc i pins s σ H E I hf st hg
  subst hP hw hK
  obtain ⟨f0, f1, f2, f3, f4, f5⟩ := hf it (by simp)
  have W := Walks.range (prog := X.prog) (w := X.w) (I.ok.hd hc) it lo 1 n
  refine W.item i s _ _ hg st fun v h' tk hv st' kk => ?_
  obtain ⟨t, rfl⟩ := hv
  have I1 : Inv X pins σ H { s with heap := h', toks := tk } := I.turned (fun b o hb e => kk b o (by simpa using hb) e) f0 f1 f3 f4 f5
  refine ⟨_, rfl, go_of (s := { s with heap := h', toks := tk }) (n := "range_iterator") st' rfl rfl (by decide) ⟨.int (lo + i), H, I1, ⟨t, ?_⟩, ⟨rfl, rfl⟩, st', fun b hb => (hf b hb).1⟩⟩
  rw [Int.mul_one]
 done := by
  intro X hP hw hK hc i pins s σ H E I hf st hg
  subst hP hw hK
  obtain ⟨f0, f1, f2, f3, f4, f5⟩ := hf it (by simp)
  exact wpAny_pyNext_range_end (I.ok.hd hc) st (by have : n ≤ i := hg; omega) fun h' eb => ⟨rfl, I.turned (t' := s.toks) (fun b o hb e => eb b o hb e) f0 f1 f3 f4 f5⟩
 self := fun _ _ _ _ _ st h => wpAny_pyIter_rangeiter st h
end L2
namespace L2
open PySem PySem.Spec PyProof.Rows
section
variable {X : Cx} {tg : Expr}
theorem zk6 {pins : List (Addr × Obj)} {σ : St} {H : Hp} {s : Shared} {R : It → Hp → Prop} {E : Value → Shared → Prop} {lo hi : Int} {t u v : Tok} {tk : Nat} (I : Inv X pins σ H s) (h1 : -(2 ^ 62) ≤ lo) (h2 : lo < 2 ^ 62) (h3 : -(2 ^ 62) ≤ hi) (h4 : hi < 2 ^ 62)
  (q : R (Itr lo (hi - lo).toNat) H) : wpAny (model X.prog X.w) X.A (pyIter (.ref s.heap.objs.size)) (PIE X pins σ tg R) E { s with heap := s.heap.push { cls := .type "range", data := .fields #[.int lo t, .int hi u, .int 1 v] }, toks := tk } := by
 refine wpAny_pyIter_range (IsRange.new ..) (small_one h1 h2 h3 h4) ?_
 have I1 : Inv X pins σ H { s with heap := s.heap.push { cls := .type "range", data := .fields #[.int lo t, .int hi u, .int 1 v] }, toks := tk } := I.kept fun b o e => Heap.get?_push_of_some _ e
 refine ⟨(s.heap.push { cls := .type "range", data := .fields #[.int lo t, .int hi u, .int 1 v] }).objs.size, [(s.heap.push { cls := .type "range", data := .fields #[.int lo t, .int hi u, .int 1 v] }).objs.size], _, _, H, rfl,
  I1.kept (t' := tk) fun b o e => Heap.get?_push_of_some _ e, zlg _ lo (hi - lo).toNat, ?_, fun b hb => ?_, q⟩
 ·have e1 : lo + ((0 : Nat) : Int) * 1 = lo := by simp
  have e2 : (((hi - lo).toNat : Nat) : Int) - ((0 : Nat) : Int) = Builtin.Range.rangeSize lo hi 1 := by rw [rangeSize_one]; split <;> omega
  show IsRangeIter _ _ (lo + ((0 : Nat) : Int) * 1) ((((hi - lo).toNat : Nat) : Int) - ((0 : Nat) : Int)) 1
  rw [e1, e2]
  exact Heap.get?_push_size _ rfl
 ·have e : b = (s.heap.push { cls := .type "range", data := .fields #[.int lo t, .int hi u, .int 1 v] }).objs.size := by simpa using hb
  subst e
  exact I1.fpOk (Nat.le_refl _) (I1.hok.fresh (Nat.le_refl _))
noncomputable def iRng1 (ta : TA) : TI := fun σ H R => ta σ H fun vs H1 => ∃ j : Int, vs = [.int j] ∧ -(2 ^ 62) ≤ j ∧ j < 2 ^ 62 ∧ R (Itr 0 j.toNat) H1
noncomputable def iRng2 (ta : TA) : TI := fun σ H R => ta σ H fun vs H1 => ∃ i j : Int, vs = [.int i, .int j] ∧ (-(2 ^ 62) ≤ i ∧ i < 2 ^ 62 ∧ -(2 ^ 62) ≤ j ∧ j < 2 ^ 62) ∧ R (Itr i (j - i).toNat) H1
theorem zmB {a : Expr} {ta : TA} {p pos : Pos} (hg : Gl X "range") (hm : X.mg "range" = none) (ha : PA X [a] ta) (hs : starEach [a] X.env = [(false, eval a X.env)] := by rfl) : PI X tg (.Call (.Name "range" p) [a] [] pos) (iRng1 ta) := by
 intro pins s σ H R I h
 refine Call_ (zgc I hg hm boot_range (PyProof.Rows.callWith_type1 (thn (ha pos pins s σ H _ I h) fun us s1 ⟨vs, H1, I1, r1, q1⟩ => ?_) hs rfl))
 obtain ⟨j, e, q1, q2, q⟩ := q1
 subst e
 cases r1 with
 | cons r rr =>
  cases rr
  obtain ⟨t, rfl⟩ := r
  exact call_range_1 (zk6 I1 (by omega) (by omega) q1 q2 (by simpa using q))
theorem zmJ {a b : Expr} {ta : TA} {p pos : Pos} (hg : Gl X "range") (hm : X.mg "range" = none) (ha : PA X [a, b] ta) (hs : starEach [a, b] X.env = [(false, eval a X.env), (false, eval b X.env)] := by rfl) (hs2 : starEach [b] X.env = [(false, eval b X.env)] := by rfl) :
  PI X tg (.Call (.Name "range" p) [a, b] [] pos) (iRng2 ta) := by
 intro pins s σ H R I h
 refine Call_ (zgc I hg hm boot_range (PyProof.Rows.callWith_type1 (thn (ha pos pins s σ H _ I h) fun us s1 ⟨vs, H1, I1, r1, q1⟩ => ?_) (by rw [hs, hs2]) (by rw [hs2]; rfl)))
 obtain ⟨i, j, e, ⟨q1, q2, q3, q4⟩, q⟩ := q1
 subst e
 cases r1 with
 | cons r rr =>
  cases rr with
  | cons r' rr =>
   cases rr
   obtain ⟨t, rfl⟩ := r
   obtain ⟨t', rfl⟩ := r'
   exact call_range_2 (zk6 I1 q1 q2 q3 q4 q)
noncomputable def tFor (wi : TI) (g : TG) (tb : TS) : TS := fun D σ H => wi σ H fun J H1 => ∃ W : Nat → Nat → St → Hp → Prop, (∃ m, W 0 m σ H1) ∧ ∀ i m σ H, W i m σ H →
 (J.stop i H ∧ D.nx σ H) ∨ (J.go i H ∧ ∃ N : St → Hp → Prop, (∀ σ' H', N σ' H' → ∃ m', m' < m ∧ W (i + 1) m' σ' H') ∧ ∀ x H', J.yld i H x H' → g x σ H' fun σ2 H2 => tb { D with nx := N, ct := N, bk := D.nx } σ2 H2)
noncomputable def zi3 (fp : List Addr) (h : Heap) : List (Addr × Obj) := fp.filterMap fun b => (h.get? b).map fun o => (b, o)
theorem zfQ {fp : List Addr} {h : Heap} {b : Addr} {o : Obj} (hb : b ∈ fp) (e : h.get? b = some o) : (b, o) ∈ zi3 fp h := List.mem_filterMap.mpr ⟨b, hb, by rw [e]; rfl⟩
theorem zl3 {fp : List Addr} {h : Heap} {p : Addr × Obj} (hp : p ∈ zi3 fp h) : p.1 ∈ fp ∧ h.get? p.1 = some p.2 := by
 obtain ⟨b, hb, e⟩ := List.mem_filterMap.mp hp
 cases q : h.get? b with
 | none => rw [q] at e; cases e
 | some o =>
  rw [q] at e
  have e' : (b, o) = p := Option.some.inj e
  subst e'
  exact ⟨hb, q⟩
theorem Inv.pinned {pins : List (Addr × Obj)} {σ : St} {H : Hp} {s : Shared} {fp : List Addr} (I : Inv X pins σ H s) (hf : ∀ b ∈ fp, FpOk X pins H b) (ho : ∀ b ∈ fp, ∃ o, s.heap.get? b = some o ∧ ∀ v, o.data ≠ .cell v) : Inv X (pins ++ zi3 fp s.heap) σ H s :=
 I.pins_of fun p hp => (List.mem_append.mp hp).elim (fun z => I.pin p (List.mem_append_right _ z)) fun z => by
  obtain ⟨hb, e⟩ := zl3 z
  obtain ⟨f0, f1, f2, _⟩ := hf p.1 hb
  obtain ⟨o, e', d⟩ := ho p.1 hb
  rw [e] at e'; cases e'
  exact ⟨e, f0, f1, f2, d⟩
theorem Inv.unpinned {pins pl : List (Addr × Obj)} {σ : St} {H : Hp} {s : Shared} (I : Inv X (pins ++ pl) σ H s) : Inv X pins σ H s := I.pins_of fun p hp => I.pin p (List.mem_append_right _ (List.mem_append_left _ hp))
theorem ps_for {iter : Expr} {body : List Stmt} {wi : TI} {g : TG} {tb : TS} {pos : Pos} (hp : PassesOwn (model X.prog X.w) X.A X.env X.xe) (hc : X.calm = true) (hi : PI X tg iter wi) (hg : PG X tg g) (hb : PSs X body tb)
    (hs : ∀ x, foldedSetIterable iter X.env x = pure x := by intro _; rfl) : PS X (.For tg iter body [] pos) (tFor wi g tb) := by
  intro pins s σ H D I h
  refine wpAny_For (thn (hi pins s σ H _ I h) fun v s1 h1 => thn h1 fun itv s2 h2 => ?_) hs
  obtain ⟨it, fp, tn, J, H2, e, I2, T, st2, f2, W, ⟨m0, w0⟩, turn⟩ := h2
  subst e
  have stat : ∀ {H' : Hp}, (∀ b ∈ fp, H' b = none) → ∀ b ∈ fp, FpOk X pins H' b := fun hn b hb => ⟨hn b hb, (f2 b hb).2⟩
  refine codeAny_forLoop_any (fun n s' => ∃ i σ' H', Inv X pins σ' H' s' ∧ tn i s'.heap ∧ (∀ b ∈ fp, H' b = none) ∧ W i n σ' H') ?_ m0 ⟨0, σ, H2, I2, st2, fun b hb => (f2 b hb).1, w0⟩
  rintro n s3 ⟨i, σ3, H3, I3, st3, fr3, w3⟩
  rcases turn i n σ3 H3 w3 with ⟨stop, qn⟩ | ⟨go, N, hN, step⟩
  · refine wpAny_passesOwn hp (thn (T.done X rfl rfl rfl hc i pins s3 σ3 H3 X.xe I3 (stat fr3) st3 stop) fun r s4 ⟨hr, I4⟩ => ?_)
    subst hr
    exact wpAny_execs_nil ⟨σ3, H3, I4, qn⟩
  · refine wpAny_passesOwn hp (thn (T.item X rfl rfl rfl hc i pins s3 σ3 H3 X.xe I3 (stat fr3) st3 go) fun r s4 ⟨u, hr, h4⟩ => ?_)
    subst hr
    refine wpAny_passesOwn hp (thn h4 fun _ s5 ⟨x, H5, I5, r5, y5, st5, fr5⟩ => ?_)
    have I5' := I5.pinned (stat fr5) (T.obj _ _ st5)
    refine wpAny_passesOwn hp (thn (hg _ s5 σ3 H5 x u _ I5' r5 (step x H5 y5)) fun _ s6 ⟨σ6, H6, I6, q6⟩ => ?_)
    refine wpAny_passesOwn hp (thn (hb _ s6 σ6 H6 _ I6 q6) fun f s7 q7 => ?_)
    have again : ∀ {σ7 : St} {H7 : Hp}, Inv X (pins ++ zi3 fp s5.heap) σ7 H7 s7 → N σ7 H7 → ∃ m, m < n ∧ ∃ i σ' H', Inv X pins σ' H' s7 ∧ tn i s7.heap ∧ (∀ b ∈ fp, H' b = none) ∧ W i m σ' H' := fun {σ7 H7} I7 n7 => by
      obtain ⟨m', hm, w7⟩ := hN σ7 H7 n7
      refine ⟨m', hm, i + 1, σ7, H7, I7.unpinned, T.keep _ _ _ st5 fun b hb o e => (I7.pin (b, o) (List.mem_append_right _ (List.mem_append_right _ (zfQ hb e)))).1, fun b hb => ?_, w7⟩
      obtain ⟨o, e, d⟩ := T.obj _ _ st5 b hb
      exact (I7.pin (b, o) (List.mem_append_right _ (List.mem_append_right _ (zfQ hb e)))).2.1
    cases f with
    | next => obtain ⟨σ7, H7, I7, n7⟩ := q7; exact again I7 n7
    | cont => obtain ⟨σ7, H7, I7, n7⟩ := q7; exact again I7 n7
    | brk => obtain ⟨σ7, H7, I7, q7⟩ := q7; exact ⟨σ7, H7, I7.unpinned, q7⟩
    | ret v => obtain ⟨x7, σ7, H7, I7, r7, q7⟩ := q7; exact ⟨x7, σ7, H7, I7.unpinned, r7, q7⟩
end
end L2
namespace L2
open PySem PySem.Spec PyProof.Rows
noncomputable abbrev R2 := V → V → Hp → VK → Prop
noncomputable def OpR (X : Cx) (f : Value → Value → Sem Value) (r : R2) : Prop :=
 ∀ (pins : List (Addr × Obj)) (s : Shared) (σ : St) (H : Hp) (x y : V) (v u : Value) (Q : VK), Inv X pins σ H s → RelV x v → RelV y u → r x y H Q →
  wpAny (model X.prog X.w) X.A (f v u) (EP X pins σ Q) X.xe s
noncomputable def UnR (X : Cx) (f : Value → Sem Value) (r : V → Hp → VK → Prop) : Prop :=
 ∀ (pins : List (Addr × Obj)) (s : Shared) (σ : St) (H : Hp) (x : V) (v : Value) (Q : VK), Inv X pins σ H s → RelV x v → r x H Q →
  wpAny (model X.prog X.w) X.A (f v) (EP X pins σ Q) X.xe s
noncomputable def zfe (X : Cx) (f : Value) (r : List V → Hp → VK → Prop) : Prop :=
 ∀ (pins : List (Addr × Obj)) (s : Shared) (σ : St) (H : Hp) (xs : List V) (us : List Value) (Q : VK), Inv X pins σ H s → Vals xs us → r xs H Q →
  wpAny (model X.prog X.w) X.A (call f us) (EP X pins σ Q) X.xe s
noncomputable def TruR (X : Cx) (r : V → Hp → (Bool → Hp → Prop) → Prop) : Prop :=
 ∀ (pins : List (Addr × Obj)) (s : Shared) (σ : St) (H : Hp) (x : V) (v : Value) (Q : Bool → Hp → Prop), Inv X pins σ H s → RelV x v → r x H Q →
  wpAny (model X.prog X.w) X.A (truthy v) (TP X pins σ Q) X.xe s
noncomputable def tOp (r : R2) (ta tb : TE) : TE := fun σ H Q => ta σ H fun x H1 => tb σ H1 fun y H2 => r x y H2 Q
noncomputable def tUn (r : V → Hp → VK → Prop) (ta : TE) : TE := fun σ H Q => ta σ H fun x H1 => r x H1 Q
noncomputable def rI (C : Int → Int → Prop) (g : Int → Int → V) : R2 := fun x y H Q => ∃ i j, x = .int i ∧ y = .int j ∧ C i j ∧ Q (g i j) H
noncomputable def rI0 (g : Int → Int → V) : R2 := fun x y H Q => ∃ i j, x = .int i ∧ y = .int j ∧ Q (g i j) H
noncomputable def rU (g : Int → V) : V → Hp → VK → Prop := fun x H Q => ∃ i, x = .int i ∧ Q (g i) H
section
variable {X : Cx} {a b c : Expr} {ta tb tc : TE} {pos : Pos}
theorem binT (ha : PE X a ta) (hb : PE X b tb) {pins : List (Addr × Obj)} {s : Shared} {σ : St} {H : Hp} {R : V → V → Hp → Prop} (I : Inv X pins σ H s)
  (h : ta σ H fun x H1 => tb σ H1 fun y H2 => R x y H2) {Q : Value → Shared → Prop} {f : Value → Value → Sem Value}
  (hf : ∀ v u s2 x y H2, Inv X pins σ H2 s2 → RelV x v → RelV y u → R x y H2 → wpAny (model X.prog X.w) X.A (f v u) Q X.xe s2) :
  wpAny (model X.prog X.w) X.A (eval a X.env) (fun v s₁ => wpAny (model X.prog X.w) X.A (eval b X.env) (fun u s₂ => wpAny (model X.prog X.w) X.A (f v u) Q X.xe s₂) X.xe s₁) X.xe s := by
 refine thn (ha pins s σ H _ I h) fun v s1 ⟨x, H1, I1, r1, q1⟩ => ?_
 refine thn (hb pins s1 σ H1 _ I1 q1) fun u s2 ⟨y, H2, I2, r2, q2⟩ => ?_
 exact hf v u s2 x y H2 I2 r1 r2 q2
theorem pe_op {op : Operator} {r : R2} (ho : OpR X (binaryOp op) r) (ha : PE X a ta) (hb : PE X b tb) : PE X (.BinOp a op b pos) (tOp r ta tb) := by
 intro pins s σ H Q I h
 exact wpAny_BinOp (binT ha hb I h fun v u s2 x y H2 I2 rx ry q => ho pins s2 σ H2 x y v u Q I2 rx ry q)
theorem pe_un {op : UnaryOp} {r : V → Hp → VK → Prop} (ho : UnR X (unaryOp op) r) (ha : PE X a ta) : PE X (.UnaryOp op a pos) (tUn r ta) := by
 intro pins s σ H Q I h
 exact UnaryOp_ (thn (ha pins s σ H _ I h) fun v s1 ⟨x, H1, I1, r1, q1⟩ => ho pins s1 σ H1 x v Q I1 r1 q1)
theorem opI {f : Value → Value → Sem Value} {C : Int → Int → Prop} {g : Int → Int → Int}
  (rule : ∀ (i j : Int) (t u : Tok) (s : Shared) (Q : Value → Shared → Prop) (E : Value → Shared → Prop), C i j → Q (.int (g i j) s.toks) { s with toks := s.toks + 1 } → wpAny (model X.prog X.w) X.A (f (.int i t) (.int j u)) Q E s) :
  OpR X f (rI C fun i j => .int (g i j)) := by
 intro pins s σ H x y v u Q I rx ry h
 obtain ⟨i, j, rfl, rfl, hc, q⟩ := h
 obtain ⟨t, rfl⟩ := rx
 obtain ⟨t', rfl⟩ := ry
 exact rule i j t t' s _ _ hc ⟨.int (g i j), H, I.tok _, ⟨_, rfl⟩, q⟩
theorem opI0 {f : Value → Value → Sem Value} {g : Int → Int → Int}
  (rule : ∀ (i j : Int) (t u : Tok) (s : Shared) (Q : Value → Shared → Prop) (E : Value → Shared → Prop), Q (.int (g i j) s.toks) { s with toks := s.toks + 1 } → wpAny (model X.prog X.w) X.A (f (.int i t) (.int j u)) Q E s) :
  OpR X f (rI0 fun i j => .int (g i j)) := by
 intro pins s σ H x y v u Q I rx ry h
 obtain ⟨i, j, rfl, rfl, q⟩ := h
 obtain ⟨t, rfl⟩ := rx
 obtain ⟨t', rfl⟩ := ry
 exact rule i j t t' s _ _ ⟨.int (g i j), H, I.tok _, ⟨_, rfl⟩, q⟩
theorem opB0 {f : Value → Value → Sem Value} {g : Int → Int → Bool}
  (rule : ∀ (i j : Int) (t u : Tok) (s : Shared) (Q : Value → Shared → Prop) (E : Value → Shared → Prop), Q (.bool (g i j)) s → wpAny (model X.prog X.w) X.A (f (.int i t) (.int j u)) Q E s) :
  OpR X f (rI0 fun i j => .bl (g i j)) := by
 intro pins s σ H x y v u Q I rx ry h
 obtain ⟨i, j, rfl, rfl, q⟩ := h
 obtain ⟨t, rfl⟩ := rx
 obtain ⟨t', rfl⟩ := ry
 exact rule i j t t' s _ _ ⟨.bl (g i j), H, I, rfl, q⟩
noncomputable def CPow (i j : Int) : Prop := 0 ≤ j ∧ j ≤ 1000000 ∧ i.natAbs < 2 ^ 64
theorem op_add : OpR X (binaryOp .Add) (rI0 fun i j => .int (i + j)) := opI0 fun _ _ _ _ _ _ _ q => add_int q
theorem op_sub : OpR X (binaryOp .Sub) (rI0 fun i j => .int (i - j)) := opI0 fun _ _ _ _ _ _ _ q => sub_int q
theorem op_mod : OpR X (binaryOp .Mod) (rI (fun _ j => 0 < j) fun i j => .int (i % j)) := opI fun i j _ _ _ _ _ hc q => by
 have h1 : (0 : Int) < j := hc
 exact mod_int' (by omega) (by rw [Int.fmod_eq_emod_of_nonneg i (by omega)]; exact q)
theorem op_pow : OpR X (binaryOp .Pow) (rI CPow fun i j => .int (i ^ j.toNat)) := opI fun _ _ _ _ _ _ _ hc q => pow_int_small hc.1 hc.2.1 hc.2.2 q
theorem unI {f : Value → Sem Value} {g : Int → Int}
  (rule : ∀ (i : Int) (t : Tok) (s : Shared) (Q : Value → Shared → Prop) (E : Value → Shared → Prop), Q (.int (g i) s.toks) { s with toks := s.toks + 1 } → wpAny (model X.prog X.w) X.A (f (.int i t)) Q E s) :
  UnR X f (rU fun i => .int (g i)) := by
 intro pins s σ H x v Q I rx h
 obtain ⟨i, rfl, q⟩ := h
 obtain ⟨t, rfl⟩ := rx
 exact rule i t s _ _ ⟨.int (g i), H, I.tok _, ⟨_, rfl⟩, q⟩
theorem un_neg : UnR X (unaryOp .USub) (rU fun i => .int (-i)) := unI fun _ _ _ _ _ q => neg_int q
end
section
variable {X : Cx} {a b c : Expr} {ta tb tc : TE} {pos : Pos}
theorem zjF : OpR X (compareOp .Lt) (rI0 fun i j => .bl (decide (i < j))) := opB0 fun _ _ _ _ _ _ _ q => lt_int q
theorem zhk : OpR X (compareOp .LtE) (rI0 fun i j => .bl (decide (i ≤ j))) := opB0 fun _ _ _ _ _ _ _ q => le_int q
theorem op_gt : OpR X (compareOp .Gt) (rI0 fun i j => .bl (decide (j < i))) := opB0 fun _ _ _ _ _ _ _ q => gt_int q
theorem OpR.or {f : Value → Value → Sem Value} {r r' : R2} (h : OpR X f r) (h' : OpR X f r') : OpR X f (fun x y H Q => r x y H Q ∨ r' x y H Q) := by
 intro pins s σ H x y v u Q I rx ry q
 rcases q with q | q
 ·exact h pins s σ H x y v u Q I rx ry q
 ·exact h' pins s σ H x y v u Q I rx ry q
theorem zgY (b : Expr) {op : CmpOp} (h : op ≠ .In := by decide) (h2 : op ≠ .NotIn := by decide) : behindInMarks op b = false := by
 have e1 : (op == CmpOp.In) = false := by cases op <;> first | rfl | exact absurd rfl h
 have e2 : (op == CmpOp.NotIn) = false := by cases op <;> first | rfl | exact absurd rfl h2
 cases b <;> simp [behindInMarks, e1, e2]
theorem pe_cmpR {op : CmpOp} {r : R2} (ho : OpR X (compareOp op) r) (ha : PE X a ta) (hb : PE X b tb) (hm : behindInMarks op b = false) : PE X (.Compare a [op] [b] pos) (tOp r ta tb) := by
 intro pins s σ H Q I h
 exact wpAny_Compare1 (binT ha hb I h fun v u s2 x y H2 I2 rx ry q => ho pins s2 σ H2 x y v u Q I2 rx ry q) hm
noncomputable def tTest (t : TE) : TT := fun σ H Q => t σ H fun x H' => ∃ k, x = .bl k ∧ Q k H'
theorem pt_cmpR {op : CmpOp} {r : R2} (ho : OpR X (compareOp op) r) (ha : PE X a ta) (hb : PE X b tb) (hm : behindInMarks op b = false) : PT X (.Compare a [op] [b] pos) (tTest (tOp r ta tb)) := by
 intro pins s σ H Q I h
 refine wpAny_isTrue_Compare1 (thn (ha pins s σ H _ I h) fun v s1 ⟨x, H1, I1, r1, q1⟩ => thn (hb pins s1 σ H1 _ I1 q1) fun u s2 ⟨y, H2, I2, r2, q2⟩ =>
  thn (ho pins s2 σ H2 x y v u _ I2 r1 r2 q2) fun c s3 ⟨z, H3, I3, r3, k, e, q3⟩ => ?_) hm
 subst e
 cases r3
 exact wpAny_truthy_bool ⟨H3, I3, q3⟩
noncomputable def zmX (r r' : R2) (ta tb tc : TE) : TE := fun σ H Q => ta σ H fun x H1 => tb σ H1 fun y H2 => r x y H2 fun z H3 => ∃ k, z = .bl k ∧
 (if k = true then tc σ H3 fun w' H4 => r' y w' H4 Q else Q (.bl false) H3)
theorem pe_chain {op op' : CmpOp} {r r' : R2} (ho : OpR X (compareOp op) r) (ho' : OpR X (compareOp op') r') (ha : PE X a ta) (hb : PE X b tb) (hc : PE X c tc)
  (hm : lastMarks [op, op'] [b, c] = false := by with_unfolding_all rfl) : PE X (.Compare a [op, op'] [b, c] pos) (zmX r r' ta tb tc) := by
 intro pins s σ H Q I h
 refine Compare_chain (thn (ha pins s σ H _ I h) fun v s1 ⟨x, H1, I1, r1, q1⟩ => chain_link (thn (hb pins s1 σ H1 _ I1 q1) fun u s2 ⟨y, H2, I2, r2, q2⟩ =>
  thn (ho pins s2 σ H2 x y v u _ I2 r1 r2 q2) fun d s3 ⟨z, H3, I3, r3, k, e, q3⟩ => ?_)) hm
 subst e
 cases r3
 refine wpAny_truthy_bool ?_
 cases k with
 | false => exact ite_ff ⟨.bl false, H3, I3, rfl, q3⟩
 | true => exact ite_tt (chain_last (thn (hc pins s3 σ H3 _ I3 q3) fun w' s4 ⟨z', H4, I4, r4, q4⟩ => ho' pins s4 σ H4 y z' u w' Q I4 r2 r4 q4))
theorem pt_chain {op op' : CmpOp} {r r' : R2} (ho : OpR X (compareOp op) r) (ho' : OpR X (compareOp op') r') (ha : PE X a ta) (hb : PE X b tb) (hc : PE X c tc)
  (hm : lastMarks [op, op'] [b, c] = false := by with_unfolding_all rfl) : PT X (.Compare a [op, op'] [b, c] pos) (tTest (zmX r r' ta tb tc)) := by
 intro pins s σ H Q I h
 refine isTrue_chain (thn (ha pins s σ H _ I h) fun v s1 ⟨x, H1, I1, r1, q1⟩ => test_link (thn (hb pins s1 σ H1 _ I1 q1) fun u s2 ⟨y, H2, I2, r2, q2⟩ =>
  thn (ho pins s2 σ H2 x y v u _ I2 r1 r2 q2) fun d s3 ⟨z, H3, I3, r3, k, e, q3⟩ => ?_)) hm
 subst e
 cases r3
 refine wpAny_truthy_bool ?_
 cases k with
 | false =>
  obtain ⟨k', e', q'⟩ := q3
  cases e'
  exact ite_ff ⟨H3, I3, q'⟩
 | true =>
  refine ite_tt (test_last (thn (hc pins s3 σ H3 _ I3 q3) fun w' s4 ⟨z', H4, I4, r4, q4⟩ => thn (ho' pins s4 σ H4 y z' u w' _ I4 r2 r4 q4) fun d' s5 ⟨z2, H5, I5, r5, k2, e2, q5⟩ => ?_))
  subst e2
  cases r5
  exact wpAny_truthy_bool ⟨H5, I5, q5⟩
noncomputable def TruV (K : W.Frag) (x : V) (H : Hp) (k : Bool) : Prop :=
 match x with
 | .non => k = false
 | .bl b => k = b
 | .int i => k = (i != 0)
 | .str y => y.length ≤ sizeLine ∧ k = ((y.length : Int) != 0)
 | .byt y => y.size ≤ sizeLine ∧ k = ((y.size : Int) != 0)
 | .ref p => (∃ xs, SqL K H p xs ∧ k = !xs.isEmpty) ∨ (∃ xs, SqT K H p xs ∧ k = !xs.isEmpty) ∨ ∃ kvs, H p = some (.dK kvs) ∧ k = !kvs.isEmpty
 | _ => False
theorem zlp {κ : Type} {kvs : List (κ × V)} {vs : List (κ × Value)} (r : KV kvs vs) : (!vs.isEmpty) = !kvs.isEmpty := by
 cases r <;> rfl
theorem zhH {xs : List V} {its : List Value} (r : Vals xs its) : (!its.toArray.isEmpty) = !xs.isEmpty := by
 cases r <;> simp
theorem zhQ : (sizeLine : Nat) < 2 ^ 63 := by rw [sizeLine_eq]; decide
theorem tru_ok : TruR X (fun x H Q => ∃ k, TruV X.K x H k ∧ Q k H) := by
 intro pins s σ H x v Q I rx h
 obtain ⟨k, e, q⟩ := h
 have hl := zhQ
 have hs : sizeLine = 16777216 := sizeLine_eq
 cases x with
 | non =>
  cases rx
  have e' : k = false := e
  subst e'
  exact truthy_none ⟨H, I, q⟩
 | bl b =>
  cases rx
  have e' : k = b := e
  subst e'
  exact wpAny_truthy_bool ⟨H, I, q⟩
 | int i =>
  obtain ⟨t, rfl⟩ := rx
  have e' : k = (i != 0) := e
  subst e'
  exact PySem.P.truthy_int ⟨H, I, q⟩
 | str y =>
  obtain ⟨t, rfl⟩ := rx
  obtain ⟨hy, e'⟩ : y.length ≤ sizeLine ∧ k = ((y.length : Int) != 0) := e
  subst e'
  exact PySem.P.truthy_str (by omega) ⟨H, I.tok _, q⟩
 | byt y =>
  obtain ⟨t, rfl⟩ := rx
  obtain ⟨hy, e'⟩ : y.size ≤ sizeLine ∧ k = ((y.size : Int) != 0) := e
  subst e'
  exact W.truthy_bytes (by omega) ⟨H, I.tok _, q⟩
 | ref p =>
  cases rx
  have e' : (∃ xs, SqL X.K H p xs ∧ k = !xs.isEmpty) ∨ (∃ xs, SqT X.K H p xs ∧ k = !xs.isEmpty) ∨ ∃ kvs, H p = some (.dK kvs) ∧ k = !kvs.isEmpty := e
  rcases e' with ⟨xs, hx, e'⟩ | ⟨xs, hx, e'⟩ | ⟨kvs, hx, e'⟩
  ·subst e'
   obtain ⟨its, r, pl, hz⟩ := I.list hx
   have hlen := r.length
   exact wpAny_truthy_list pl.isList (by simp only [List.size_toArray]; omega) ⟨H, I.tok _, by rw [zhH r]; exact q⟩
  ·subst e'
   obtain ⟨its, r, pl, hz⟩ := I.tuple hx
   have hlen := r.length
   exact truthy_tuple pl (by simp only [List.size_toArray]; omega) ⟨H, I.tok _, by rw [zhH r]; exact q⟩
  ·subst e'
   obtain ⟨hz, hS, vs, r, m⟩ : kvs.length ≤ sizeLine ∧ (p == sysModules) = false ∧ ∃ vs, KV kvs vs ∧ s.heap.DictOf (zka X.prog X.w) p vs := I.hok p _ hx
   have hlen : kvs.length = vs.length := Paired.length r
   exact wpAny_truthy_dict hS m (by omega) ⟨H, I.tok _, by rw [zlp r]; exact q⟩
 | _ => exact (show False from e).elim
theorem pt_truth (ha : PE X a ta) (he : ∀ whole, isTrue a X.env whole = (do let v ← whole; standAt a.pos; holding [v] (truthy v))) :
  PT X a (fun σ H Q => ta σ H fun x H' => ∃ k, TruV X.K x H' k ∧ Q k H') := by
 intro pins s σ H Q I h
 exact isTrue_plain (thn (ha pins s σ H _ I h) fun v s1 ⟨x, H1, I1, r1, q1⟩ => tru_ok pins s1 σ H1 x v Q I1 r1 q1) (he _)
theorem zlf : OpR X (binaryOp .Add) (fun x y H Q => ∃ i j, x = .str i ∧ y = .str j ∧ i.length + j.length ≤ sizeLine ∧ Q (.str (i ++ j)) H) := by
 intro pins s σ H x y v u Q I rx ry h
 obtain ⟨i, j, rfl, rfl, hz, q⟩ := h
 obtain ⟨t, rfl⟩ := rx
 obtain ⟨t', rfl⟩ := ry
 exact add_str (fun t' tk => ⟨.str (i ++ j), H, I.tok _, ⟨_, rfl⟩, q⟩) hz
theorem zgp {x : V} {us : List Value} (r : Vals [x] us) : ∃ u, us = [u] ∧ RelV x u := by
 cases r with
 | cons r1 r2 => cases r2; exact ⟨_, rfl, r1⟩
theorem vals2 {x y : V} {us : List Value} (r : Vals [x, y] us) : ∃ u w', us = [u, w'] ∧ RelV x u ∧ RelV y w' := by
 cases r with
 | cons r1 r2 =>
  cases r2 with
  | cons r3 r4 => cases r4; exact ⟨_, _, rfl, r1, r3⟩
theorem zmx (hc : X.calm = true) : zfe X (.builtin "max") (fun xs H Q => ∃ i j, xs = [.int i, .int j] ∧ Q (.int (if j > i then j else i)) H) := by
 intro pins s σ H xs us Q I r h
 obtain ⟨i, j, rfl, q⟩ := h
 obtain ⟨u, w', rfl, ⟨t, rfl⟩, ⟨t', rfl⟩⟩ := vals2 r
 refine max_two_ints (I.ok.hd hc) fun h' tk k => ⟨_, H, I.kept k, ?_, q⟩
 by_cases hj : j > i
 ·rw [if_pos hj, if_pos hj]; exact ⟨_, rfl⟩
 ·rw [if_neg hj, if_neg hj]; exact ⟨_, rfl⟩
theorem zm3 (hc : X.calm = true) : zfe X (.builtin "min") (fun xs H Q => ∃ i j, xs = [.int i, .int j] ∧ Q (.int (if j < i then j else i)) H) := by
 intro pins s σ H xs us Q I r h
 obtain ⟨i, j, rfl, q⟩ := h
 obtain ⟨u, w', rfl, ⟨t, rfl⟩, ⟨t', rfl⟩⟩ := vals2 r
 refine min_two_ints (I.ok.hd hc) fun h' tk k => ⟨_, H, I.kept k, ?_, q⟩
 by_cases hj : j < i
 ·rw [if_pos hj, if_pos hj]; exact ⟨_, rfl⟩
 ·rw [if_neg hj, if_neg hj]; exact ⟨_, rfl⟩
theorem zl0 : zfe X (.type "int") (fun xs H Q => (∃ i, xs = [.int i] ∧ Q (.int i) H) ∨ ∃ k, xs = [.bl k] ∧ Q (.int (if k then 1 else 0)) H) := by
 intro pins s σ H xs us Q I r h
 rcases h with ⟨i, rfl, q⟩ | ⟨k, rfl, q⟩
 ·obtain ⟨u, rfl, t, rfl⟩ := zgp r
  exact call_int_int ⟨.int i, H, I, ⟨_, rfl⟩, q⟩
 ·obtain ⟨u, rfl, r1⟩ := zgp r
  cases r1
  exact call_int_bool ⟨.int (if k then 1 else 0), H, I.tok _, ⟨_, rfl⟩, q⟩
end
end L2
namespace L2
open PySem PySem.Spec PyProof.Rows
structure ObjM (h : Heap) (x dx C : Addr) (mA : Str → Option Value) : Prop where
 obj : h.get? x = some (W.instObj C dx)
 ns : h.Ns1 dx mA
 ne : dx ≠ x
theorem zmw {h : Heap} {dx : Addr} {mA : Str → Option Value} (n : h.Ns1 dx mA) : ∃ od, h.get? dx = some od ∧ ∀ name, W.lookIn name od = some (mA name) := by
 obtain ⟨o, es, ep, ho, hd, hk, _, hm⟩ := n
 refine ⟨o, ho, fun name => ?_⟩
 have e := hm name
 unfold nsFind findBy at e
 rw [← Array.find?_toList] at e
 unfold W.lookIn
 rw [hd]
 dsimp only
 split
 ·rename_i y q
  rw [q] at e
  exact congrArg some e
 ·rename_i q
  rw [q] at e
  have a : es.toList.any (·.refKey) = false := by
   rw [List.any_eq_false]
   intro y hy
   obtain ⟨z, t, hkey⟩ := hk y (Array.mem_toList_iff.mp hy)
   simp [DictEntry.refKey, hkey]
  have a' : ¬ es.toList.any (·.refKey) = true := by rw [a]; exact Bool.false_ne_true
  rw [if_neg a']
  exact congrArg some e
theorem ObjM.look {h : Heap} {x dx C : Addr} {mA : Str → Option Value} (I : ObjM h x dx C mA) : ∃ od, W.InstAt h x (W.instObj C dx) C (some od) ∧ ∀ name, W.lookIn name od = some (mA name) :=
 let ⟨od, ho, hl⟩ := zmw I.ns
 ⟨od, ⟨I.obj, rfl, rfl, ho⟩, hl⟩
section
variable {prog : Program} {w : World} {A : Around} {E : Value → Shared → Prop} {s : Shared} {K : W.Frag} {x dx C f : Addr} {mA : Str → Option Value} {name : Str} {v : Value}
end
section
variable {P : Program} {w : World} {H H' : Hp} {h h' : Heap} {a C dx : Addr} {fs fs' : List (Str × V)}
theorem ins_get (hok : HOk P w H h) (e : H a = some (.ins C dx fs)) : ∃ mA, ObjM h a dx C mA ∧ (∀ f, RelO (fs.lookup f) (mA f)) ∧ PySem.Within mA (fs.map (·.1)) ∧ fs.length ≤ 1000 ∧ H dx = some (.own a) := by
 obtain ⟨d, z, ne, ob, mA, n, r, q⟩ := (show ObjOk P w H h a (.ins C dx fs) from hok a _ e)
 exact ⟨mA, ⟨ob, n, ne⟩, r, q, z, d⟩
end
structure Cls (K : W.Frag) (C : Addr) : Prop where
 pg : W.plainGet K C Str.empty = true
 hd : W.hasDictIn K C = true
 po : W.plainOver K C = true
 sa : W.findIn K (.ref C) "__setattr__" = some (some (.builtin "object.__setattr__"))
theorem Cls.get {K : W.Frag} {C : Addr} (c : Cls K C) (f : Str) : W.plainGet K C f = true := c.pg
section
variable {X : Cx} {pins : List (Addr × Obj)} {σ : St} {H : Hp} {s : Shared} {a C dx : Addr} {fs : List (Str × V)} {f : Str} {v : V} {A : Around} {E : Value → Shared → Prop}
end
section
variable {X : Cx} {o e value : Expr} {f : Str} {pos pos' tpos : Pos} {ta tv : TE}
end
section
variable {X : Cx} {pins : List (Addr × Obj)} {σ : St} {H : Hp} {s : Shared} {A : Around} {E : Value → Shared → Prop} {Q : Value → Shared → Prop} {c : Value} {b : Bool}
inductive TyOf (K : W.Frag) (H : Hp) : V → Value → Prop where
 | non : TyOf K H .non (.type "NoneType")
 | bl (x : Bool) : TyOf K H (.bl x) (.type "bool")
 | int (i : Int) : TyOf K H (.int i) (.type "int")
 | str (x : Str) : TyOf K H (.str x) (.type "str")
 | flt (x : UInt64) : TyOf K H (.flt x) (.type "float")
 | lst {a : Addr} {xs : List V} (e : H a = some (.lst xs)) : TyOf K H (.ref a) (.type "list")
 | frz {a : Addr} {o : Obj} {xs : List V} (e : H a = some (.frz o (.lst xs))) : TyOf K H (.ref a) (.type "list")
 | tup {a : Addr} {xs : List V} (e : H a = some (.tup xs)) : TyOf K H (.ref a) (.type "tuple")
 | dK {a : Addr} {kvs : List (Key × V)} (e : H a = some (.dK kvs)) : TyOf K H (.ref a) (.type "dict")
 | dT {a : Addr} {kvs : List (List Key × V)} (e : H a = some (.dT kvs)) : TyOf K H (.ref a) (.type "dict")
 | ins {a C dx : Addr} {fs : List (Str × V)} (e : H a = some (.ins C dx fs)) (cl : Cls K C) (ha : W.findIn K (.ref C) "__class__" = some (some (.builtin "object.__class__")))
   (hn : W.specialIn K (.builtin "object.__class__") "__get__" = some (some (.builtin "getset_descriptor.__get__"))) (htk : W.takesIn K (.builtin "object.__class__") = some true)
   (hm : W.mroIn K C (.type "object") = some true) : TyOf K H (.ref a) (.ref C)
theorem zmo {x : V} {u t : Value} (I : Inv X pins σ H s) (rx : RelV x u) (ty : TyOf X.K H x t) (e : W.kitOne X.K t c = some b) (h : ∀ tk, Q (.bool b) { s with toks := tk }) :
  wpAny (model X.prog X.w) A (call (.builtin "isinstance") [u, c]) Q E s := by
 cases ty with
 | non => cases (show u = Value.none from rx); exact W.kia_one W.kitx_none I.kIn True.intro e (fun z => nomatch z) h
 | bl y => cases (show u = Value.bool y from rx); exact W.kia_one W.kitx_bool I.kIn True.intro e (fun z => nomatch z) h
 | int i => obtain ⟨t, q⟩ := (show ∃ t, u = Value.int i t from rx); cases q; exact W.kia_one W.kitx_int I.kIn True.intro e (fun z => nomatch z) h
 | str y => obtain ⟨t, q⟩ := (show ∃ t, u = Value.str y t from rx); cases q; exact W.kia_one W.kitx_str I.kIn True.intro e (fun z => nomatch z) h
 | flt y => obtain ⟨t, q⟩ := (show ∃ t, u = Value.float y t from rx); cases q; exact W.kia_one W.kitx_float I.kIn True.intro e (fun z => nomatch z) h
 | @lst a xs ea =>
  cases (show u = Value.ref a from rx)
  obtain ⟨_, _, n, _, h1⟩ := (show ObjOk X.prog X.w H s.heap a (.lst xs) from I.hok a _ ea)
  exact W.kia_one W.kitx_list I.kIn ⟨_, h1, rfl⟩ e (fun z => nomatch z) h
 | @frz a ob xs ea =>
  cases (show u = Value.ref a from rx)
  obtain ⟨_, _, _, n, _, h1⟩ := (show ObjOk X.prog X.w H s.heap a (.frz ob (.lst xs)) from I.hok a _ ea)
  exact W.kia_one W.kitx_list I.kIn ⟨_, h1, rfl⟩ e (fun z => nomatch z) h
 | @tup a xs ea =>
  cases (show u = Value.ref a from rx)
  obtain ⟨_, _, _, p⟩ := (show ObjOk X.prog X.w H s.heap a (.tup xs) from I.hok a _ ea)
  obtain ⟨o, h1, h2, _⟩ := p
  exact W.kia_one W.kitx_tuple I.kIn ⟨o, h1, h2⟩ e (fun z => nomatch z) h
 | @dK a kvs ea =>
  cases (show u = Value.ref a from rx)
  obtain ⟨_, _, vs, _, p⟩ := (show ObjOk X.prog X.w H s.heap a (.dK kvs) from I.hok a _ ea)
  obtain ⟨o, es, ep, h1, h2, _⟩ := p
  exact W.kia_one W.kitx_dict I.kIn ⟨o, h1, h2.1⟩ e (fun z => nomatch z) h
 | @dT a kvs ea =>
  cases (show u = Value.ref a from rx)
  obtain ⟨_, _, xs, _, o, es, ep, h1, h2, _⟩ := (show ObjOk X.prog X.w H s.heap a (.dT kvs) from I.hok a _ ea)
  exact W.kia_one W.kitx_dict I.kIn ⟨o, h1, h2.1⟩ e (fun z => nomatch z) h
 | @ins a C dx fs ea cl ha hn htk hm =>
  cases (show u = Value.ref a from rx)
  obtain ⟨mA, O, _⟩ := ins_get I.hok ea
  obtain ⟨od, J, _⟩ := O.look
  exact W.kia_one (W.kitx_own (cl.get _) cl.hd ha hn htk hm) I.kIn J e (fun z => nomatch z) h
end
end L2
namespace L2
open PySem PySem.Spec PyProof.Rows
structure Room (k : Nat) (A : Around) : Prop where
 hd : A.handled = none
 dp : A.depth + 3 * k + 5 < recursionLimit
 un : A.units + 16 * k + 200 < cLine
 gd : A.guards = some []
theorem Room.mono {j k : Nat} {A : Around} (r : Room k A) (h : j ≤ k) : Room j A := ⟨r.hd, by have := r.dp; omega, by have := r.un; omega, r.gd⟩
theorem Room.deeper {k : Nat} {A : Around} (r : Room (k + 1) A) (env : Env) : Room k (A.deeper env) :=
 ⟨r.hd, by have := r.dp; show A.depth + 1 + 3 * k + 5 < _; omega, by have := r.un; show A.units + 3 + 16 * k + 200 < _; omega, r.gd⟩
theorem Room.depth {k : Nat} {A : Around} (r : Room k A) : A.depth < recursionLimit := by have := r.dp; omega
theorem Room.units {k : Nat} {A : Around} (r : Room k A) : A.units + 64 < cLine := by have := r.un; omega
noncomputable def tNil : TA := fun _ H Q => Q [] H
noncomputable def tCons (ta : TE) (tr : TA) : TA := fun σ H Q => ta σ H fun x H1 => tr σ H1 fun xs H2 => Q (x :: xs) H2
section
variable {X : Cx} {e : Expr} {es : List Expr} {te : TE} {t : TA} {pos : Pos}
theorem zhK : PA X [] tNil := fun _ _ _ _ H Q I h => Calls.spliced_nil ⟨[], H, I, .nil, h⟩
theorem zfD (ha : PE X e te) (hr : PA X es t) (hs : starEach (e :: es) X.env = (false, eval e X.env) :: starEach es X.env := by rfl) : PA X (e :: es) (tCons te t) := by
 intro pos pins s σ H Q I h
 rw [hs]
 show wpAny _ _ (spliced ((false, eval e X.env) :: backTo pos (starEach es X.env))) _ _ s
 refine Calls.spliced_cons (thn (ha pins s σ H _ I h) fun u s1 ⟨x, H1, I1, r1, q1⟩ => ?_)
 exact thn (hr pos pins s1 σ H1 _ I1 q1) fun us s2 ⟨xs, H2, I2, r2, q2⟩ => ⟨x :: xs, H2, I2, .cons r1 r2, q2⟩
noncomputable def tTup (t : TA) : TE := fun σ H Q => t σ H fun xs H1 => xs.length ≤ sizeLine ∧ ∀ p, H1 p = none → Q (.ref p) (upd H1 p (.tup xs))
noncomputable def tLst (t : TA) : TE := fun σ H Q => t σ H fun xs H1 => xs.length ≤ sizeLine ∧ ∀ p, H1 p = none → Q (.ref p) (upd H1 p (.lst xs))
theorem pe_tup {x1} (h : PA X es t) : PE X (.Tuple es x1 pos) (tTup t) := by
 intro pins s σ H Q I hq
 refine wpAny_Tuple_spliced (thn (h pos pins s σ H _ I hq) fun us s1 ⟨xs, H1, I1, r, z, q⟩ => ⟨by rw [← r.length]; exact z, ?_⟩)
 have hf : H1 s1.heap.objs.size = none := I1.hok.fresh (Nat.le_refl _)
 refine ⟨.ref s1.heap.objs.size, upd H1 s1.heap.objs.size (.tup xs), I1.laid (t' := s1.toks) (fun b u e => Heap.get?_push_of_some _ e) (Nat.le_refl _) ?_, rfl, q _ hf⟩
 exact ⟨z, us, r, ⟨_, Heap.get?_push_size _ rfl, rfl, _, rfl⟩⟩
theorem pe_lst (h : PA X es t) : PE X (.List es pos) (tLst t) := by
 intro pins s σ H Q I hq
 refine wpAny_List_spliced (thn (h pos pins s σ H _ I hq) fun us s1 ⟨xs, H1, I1, r, z, q⟩ => ⟨by rw [← r.length]; exact z, ?_⟩)
 have hf : H1 s1.heap.objs.size = none := I1.hok.fresh (Nat.le_refl _)
 refine ⟨.ref s1.heap.objs.size, upd H1 s1.heap.objs.size (.lst xs), I1.laid (t' := s1.toks) (fun b u e => Heap.get?_push_of_some _ e) (Nat.le_refl _) ?_, rfl, q _ hf⟩
 exact ⟨z, us, 0, r, Heap.get?_push_size _ rfl⟩
end
noncomputable abbrev Sp := List V → Hp → VK → XK → Prop
noncomputable abbrev CXT := List Env → Hp → Shared → XK → Value → Shared → Prop
structure Env0 (P : Program) (w : World) (K : W.Frag) (mg : Str → Option Value) (base : Heap) (A : Around) (outer : List Env) (s : Shared) (H : Hp) : Prop where
 frames : A.frames = some outer
 mod : Mod K mg base
 bs : ∀ b o, base.get? b = some o → s.heap.get? b = some o ∧ H b = none
 bsz : base.objs.size ≤ s.heap.objs.size
 funs : s.heap.FunFrames base outer
 frf : ∀ b ∈ frs outer, H b = none
 hok : HOk P w H s.heap
 bare : AllBare s.gens
noncomputable def CE (outer : List Env) (P : Program) (w : World) (H : Hp) (s : Shared) (Q : VK) (u : Value) (s' : Shared) : Prop :=
 ∃ v H', s'.os = s.os ∧ AllBare s'.gens ∧ Un (frs outer) [] H H' s.heap s'.heap ∧ HOk P w H' s'.heap ∧ RelV v u ∧ Q v H'
noncomputable def CR (CX : CXT) (outer : List Env) (P : Program) (w : World) (H : Hp) (s : Shared) (Q : VK) (E : XK) (r : Result) (s' : Shared) : Prop :=
 match r with
 | .ok (.ret u) => CE outer P w H s Q u s'
 | .ok _ => False
 | .error e => CX outer H s E e s'
structure FnOk (P : Program) (w : World) (K : W.Frag) (mg : Str → Option Value) (base : Heap) (CX : CXT) (k : Nat) (f : Addr) (fd : FuncData) (ps : List Str) (sp : Sp) : Prop where
 len : ∀ vs H Q E, sp vs H Q E → vs.length = ps.length
 run : ∀ (A : Around) (outer : List Env) (s : Shared) (H : Hp) (args : Args) (us : List Value) (vs : List V) (Q : VK) (E : XK), Room k A → Env0 P w K mg base A outer s H → BindsTo s fd args (ps.zip us) → Vals vs us → sp vs H Q E →
  codeAny (model P w) A (.call (.ref f) args) (CR CX outer P w H s Q E) s
section
variable {X : Cx} {pins : List (Addr × Obj)} {σ : St} {H : Hp} {s s' : Shared}
theorem Inv.env0 (I : Inv X pins σ H s) : Env0 X.prog X.w X.K X.mg X.base X.A X.stack s H :=
 ⟨I.ok.frames, I.ok.mod, I.bs, Nat.le_trans I.ok.bsz I.sz, I.stack, I.stkFree, I.hok, I.bare⟩
theorem Inv.after {Q : VK} {u : Value} (I : Inv X pins σ H s) (h : CE X.stack X.prog X.w H s Q u s') : EP X pins σ Q u s' := by
 obtain ⟨v, H', os, bare, un, hok, r, q⟩ := h
 obtain ⟨hh, g, d, t, os'⟩ := s'
 obtain rfl : os' = s.os := os
 exact ⟨v, H', I.call (h' := hh) (g' := g) (d' := d) (t' := t) (ch := []) un hok bare (fun b z => absurd z (by simp)), r, q⟩
end
noncomputable def tCall (sp : Sp) (dvs : List V) (E : XK) (t : TA) : TE := fun σ H Q => t σ H fun vs H1 => sp (vs ++ dvs) H1 Q E
noncomputable def Binds (K : W.Frag) (fd : FuncData) (ps : List Str) (ds : List Value) : Prop :=
 ∀ (s : Shared) (us : List Value), K.In s.heap → (us ++ ds).length = ps.length → BindsTo s fd ⟨us, []⟩ (ps.zip (us ++ ds))
theorem Binds.all {K : W.Frag} {fd : FuncData} {ps : List Str} (h : ∀ us : List Value, us.length = ps.length → bindArgs fd ⟨us, []⟩ = pure (ps.zip us)) : Binds K fd ps [] := fun s us _ hl => by
 rw [List.append_nil] at hl ⊢
 exact .of_eq (h us hl)
noncomputable def zmM (CX : CXT) (X : Cx) (E : XK) : Prop := ∀ (pins : List (Addr × Obj)) (σ : St) (H : Hp) (s : Shared) (e : Value) (s' : Shared), Inv X pins σ H s → CX X.stack H s E e s' → X.xe e s'
section
variable {X : Cx} {CX : CXT} {k : Nat} {f C : Addr} {fd : FuncData} {ps : List Str} {sp : Sp} {dvs : List V} {ds : List Value} {E : XK} {x m : Str} {p pos apos : Pos} {e o : Expr} {es : List Expr} {ta : TE} {t : TA}
theorem run_fn {pins : List (Addr × Obj)} {σ : St} {H : Hp} {s : Shared} {Q : VK} {us : List Value} {vs : List V} (F : FnOk X.prog X.w X.K X.mg X.base CX k f fd ps sp) (hr : Room k X.A) (hb : Binds X.K fd ps ds) (hd : Vals dvs ds) (hx : zmM CX X E)
  (I : Inv X pins σ H s) (r : Vals vs us) (h : sp (vs ++ dvs) H Q E) : wpAny (model X.prog X.w) X.A (call (.ref f) us) (EP X pins σ Q) X.xe s := by
 have r2 : Vals (vs ++ dvs) (us ++ ds) := r.append hd
 have hl : (us ++ ds).length = ps.length := by rw [← r2.length]; exact F.len _ _ _ _ h
 refine wpAny_call (codeAny_mono (F.run X.A X.stack s H ⟨us, []⟩ (us ++ ds) (vs ++ dvs) Q E hr I.env0 (hb s us I.kIn hl) r2 h) fun r s' hq => ?_)
 cases r with
 | error e => exact hx pins σ H s e s' I hq
 | ok fl =>
  cases fl with
  | ret u => exact I.after hq
  | next => exact False.elim hq
  | brk => exact False.elim hq
  | cont => exact False.elim hq
theorem zkb (F : FnOk X.prog X.w X.K X.mg X.base CX k f fd ps sp) (hr : Room k X.A) (hg : Gl X x) (hm : X.mg x = some (.ref f)) (hk : W.keepIn X.K (.ref f) = true) (hb : Binds X.K fd ps ds) (hd : Vals dvs ds) (hx : zmM CX X E)
  (ha : PA X (e :: es) t) (hdb : (x == ("__debug__" : Str)) = false := by decide) (he : starEach (e :: es) X.env = (false, eval e X.env) :: starEach es X.env := by rfl) (hpl : (backTo pos (starEach es X.env)).any (·.1) = false := by rfl) :
  PE X (.Call (.Name x p) (e :: es) [] pos) (tCall sp dvs E t) := by
 intro pins s σ H Q I h
 refine wpAny_Call_Name_kw (ld_glob I hg hm ?_ hdb)
 refine W.callWith_K (h₀ := X.base) I.ok.mod.kin hk (thn (ha pos pins s σ H _ I h) fun us s1 ⟨vs, H1, I1, r, q⟩ => ⟨I1.kIn, ?_⟩) he hpl
 exact run_fn F hr hb hd hx I1 r q
end
section
variable {X : Cx} {CX : CXT} {k : Nat} {f C : Addr} {fd : FuncData} {ps ks : List Str} {sp : Sp} {E : XK} {x m : Str} {p pos apos kpos : Pos} {e o : Expr} {es : List Expr} {kws : List Keyword} {te ta : TE} {t tk : TA} {nm : Option Str}
variable {g : List Value → List Value → List Value} {gV : List V → List V → List V}
end
structure FnScope (N P : List Str) (sc : Scope) : Prop where
 kind : sc.kind = .function
 co : sc.isCoroutine = false
 gen : sc.isGenerator = false
 nd : N.Nodup
 pre : N.take P.length = P
 par : ∀ x ∈ P, sc.names.lookup x = some .local ∨ sc.names.lookup x = some .cell
 nofree : ∀ y ∈ sc.names, y.2 ≠ .free
theorem zjI {kindOf : Str → Option NameKind} {x : Str} : ∀ {binds : List (Str × Value)} {m : Str → Option Value}, (∀ v, (x, v) ∉ binds) → bindL kindOf binds m x = m x
 | [], _, _ => rfl
 | (n, v) :: r, m, h => by
  unfold bindL
  rw [zjI fun w hw => h w (List.mem_cons_of_mem _ hw)]
  split
  ·have : x ≠ n := by rintro rfl; exact h v List.mem_cons_self
   simp [this]
  ·rfl
theorem zjd {kindOf : Str → Option NameKind} {x : Str} : ∀ {binds : List (Str × Value)} {m : Str → Option Value}, (∀ v, (x, v) ∉ binds) → bindC kindOf binds m x = m x
 | [], _, _ => rfl
 | (n, v) :: r, m, h => by
  unfold bindC
  rw [zjd fun w hw => h w (List.mem_cons_of_mem _ hw)]
  split
  ·rfl
  ·have : x ≠ n := by rintro rfl; exact h v List.mem_cons_self
   simp [this]
theorem zjs {kindOf : Str → Option NameKind} {x : Str} {v : Value} : ∀ {P : List Str} {vs : List Value} {i : Nat} {m : Str → Option Value}, P.Nodup → P[i]? = some x → vs[i]? = some v → kindOf x = some .local →
  bindL kindOf (P.zip vs) m x = some v
 | [], _, _, _, _, h, _, _ => by simp at h
 | _ :: _, [], _, _, _, _, h, _ => by simp at h
 | p :: P, w :: vs, 0, m, nd, h1, h2, hk => by
  simp at h1 h2; subst h1; subst h2
  show bindL kindOf ((p, w) :: P.zip vs) m p = _
  unfold bindL
  rw [zjI fun v hv => (List.nodup_cons.mp nd).1 (List.of_mem_zip hv).1, if_pos hk]
  simp
 | p :: P, w :: vs, i + 1, m, nd, h1, h2, hk => by
  show bindL kindOf ((p, w) :: P.zip vs) m x = _
  unfold bindL
  exact zjs (i := i) (List.nodup_cons.mp nd).2 (by simpa using h1) (by simpa using h2) hk
theorem zjP {kindOf : Str → Option NameKind} {x : Str} {v : Value} : ∀ {P : List Str} {vs : List Value} {i : Nat} {m : Str → Option Value}, P.Nodup → P[i]? = some x → vs[i]? = some v → kindOf x ≠ some .local →
  bindC kindOf (P.zip vs) m x = some v
 | [], _, _, _, _, h, _, _ => by simp at h
 | _ :: _, [], _, _, _, _, h, _ => by simp at h
 | p :: P, w :: vs, 0, m, nd, h1, h2, hk => by
  simp at h1 h2; subst h1; subst h2
  show bindC kindOf ((p, w) :: P.zip vs) m p = _
  unfold bindC
  rw [zjd fun v hv => (List.nodup_cons.mp nd).1 (List.of_mem_zip hv).1, if_neg hk]
  simp
 | p :: P, w :: vs, i + 1, m, nd, h1, h2, hk => by
  show bindC kindOf ((p, w) :: P.zip vs) m x = _
  unfold bindC
  exact zjP (i := i) (List.nodup_cons.mp nd).2 (by simpa using h1) (by simpa using h2) hk
noncomputable def start (N : List Str) (vs : List V) : St := vs.map some ++ List.replicate (N.length - vs.length) none
noncomputable def cxOf (CX : CXT) (P : Program) (w : World) (K : W.Frag) (mg : Str → Option Value) (base : Heap) (N : List Str) (qual : Str) (scope : Scope) (f : Addr) (cd : Value) (A : Around) (outer : List Env) (s : Shared) (H : Hp) (E : XK) : Cx where
 prog := P
 w := w
 K := K
 mg := mg
 base := base
 A := A.deeper (envOfC qual scope s.heap.objs.size f cd)
 N := N
 s₀ := s
 H₀ := H
 env := envOfC qual scope s.heap.objs.size f cd
 outer := outer
 stack := envOfC qual scope s.heap.objs.size f cd :: outer
 ex := []
 calm := true
 fn := fun _ => true
 pn := []
 xe := fun e s' => wpAny (model P w) (A.deeper (envOfC qual scope s.heap.objs.size f cd)) (leaving (envOfC qual scope s.heap.objs.size f cd) e) (fun _ s'' => CX outer H s E e s'') (fun e' s'' => CX outer H s E e' s'') s'
theorem zld {sc : Scope} {n : Nat} {x : Str} (h : sc.names.lookup x = some .cell) : ∃ c, (cellsFrom n sc.names []).lookup x = some c := by
 have q := W.cellsFrom_some sc.names n [] (.inl h)
 exact Option.isSome_iff_exists.mp q
theorem zmg {CX : CXT} {P : Program} {w : World} {K : W.Frag} {mg : Str → Option Value} {base : Heap} {N ps : List Str} {qual : Str} {scope : Scope} {f : Addr} {cd : Value} {A : Around} {outer : List Env} {s s1 : Shared} {H : Hp} {E : XK} {us : List Value} {vs : List V}
  (S : FnScope N ps scope) (hd : A.handled = none) (e0 : Env0 P w K mg base A outer s H) (hl : vs.length = ps.length) (r : Vals vs us)
  (x : InCallC s s.heap.objs.size (bindL (envOfC qual scope s.heap.objs.size f cd).kindOf (ps.zip us) fun _ => none) (cellsFrom (s.heap.objs.size + 1) scope.names []) (bindC (envOfC qual scope s.heap.objs.size f cd).kindOf (ps.zip us) fun _ => none) s1) :
  Inv (cxOf CX P w K mg base N qual scope f cd A outer s H E) [] (start N vs) H s1 := by
 have hpl : ps.length ≤ N.length := by have := congrArg List.length S.pre; rw [List.length_take] at this; omega
 obtain ⟨h1, tk, rfl, hk⟩ := x.done
 have noA : ∀ b : Addr, b ∉ (cxOf CX P w K mg base N qual scope f cd A outer s H E).ex := fun b z => absurd (show b ∈ ([] : List Addr) from z) (by simp)
 refine ⟨⟨e0.mod, S.kind, rfl, rfl, Nat.le_refl _, fun y z c h1 h2 => ?_, fun y hy => ?_, fun y c _ h => ?_, fun _ => hd, Around.frames_deeper e0.frames, .inr ⟨rfl, rfl⟩, fun b z => absurd z (noA b), e0.bs, e0.bsz, fun b _ _ => noA b, fun b z => absurd z (noA b), e0.funs, e0.frf⟩,
  rfl, e0.bare, Un.kept hk, ⟨_, x.toInCall.ns, fun i y v h1 h2 h3 => ?_⟩, fun y c h => ⟨_, x.cell y c h⟩, e0.hok.fresh (Nat.le_refl _), fun y c h => ?_, fun p hp => absurd (show p ∈ ([] : List (Addr × Obj)) from hp) (by simp), e0.hok.kept hk, ?_⟩
 ·exact name_of_addr x.apart (PySem.mem_of_lookup h1) (PySem.mem_of_lookup h2)
 ·have hy : scope.names.lookup y = some .cell ∨ scope.names.lookup y = some .free := hy
  rcases hy with hy | hy
  ·exact zld hy
  ·exact absurd rfl (S.nofree _ (PySem.mem_of_lookup hy))
 ·exact Nat.le_of_lt (x.above y c (PySem.mem_of_lookup h))
 ·have hi : i < vs.length := by
   unfold start at h2
   by_cases hi : i < vs.length
   ·exact hi
   ·rw [List.getElem?_append_right (by simpa using hi)] at h2
    rw [List.getElem?_replicate] at h2
    split at h2 <;> cases h2
  have ha : vs[i]? = some v := by
   unfold start at h2
   rw [List.getElem?_append_left (by simpa using hi), List.getElem?_map] at h2
   cases e : vs[i]? with
   | none => rw [e] at h2; cases h2
   | some a => rw [e] at h2; cases h2; rfl
  obtain ⟨u, hu, rv⟩ := r.get ha
  have hp : ps[i]? = some y := by
   rw [← S.pre, List.getElem?_take_of_lt (by omega)]; exact h1
  have ndP : ps.Nodup := by rw [← S.pre]; exact S.nd.sublist (List.take_sublist _ _)
  refine ⟨u, rv, ?_⟩
  rcases S.par y (List.mem_of_getElem? hp) with k | k
  ·exact .inl ⟨k, zjs ndP hp hu k⟩
  ·obtain ⟨c, e⟩ := zld (n := s.heap.objs.size + 1) k
   refine .inr ⟨.inl k, c, e, ?_⟩
   have q := x.cell y c e
   rw [zjP ndP hp hu (by show scope.names.lookup y ≠ _; rw [k]; decide)] at q
   exact q
 ·exact e0.hok.fresh (Nat.le_of_lt (x.above y c (PySem.mem_of_lookup h)))
 ·unfold start
  show _ = N.length
  rw [List.length_append, List.length_map, List.length_replicate]
  omega
theorem fn_of {CX : CXT} {P : Program} {w : World} {K : W.Frag} {mg : Str → Option Value} {base : Heap} {k : Nat} {f : Addr} {name qual : Str} {params : Arguments} {body : List Stmt} {scope : Scope} {dV kV doc pm cdv ct oc : Value} {an od : Option Addr}
  {osl : Array (Option Value)} {N ps : List Str} {sp : Sp} (lk : K.lookup f = some ⟨oc, od, .func (W.fnOf name qual params body scope dV kV doc pm an cdv ct), osl⟩) (hcd : W.codeIn K cdv qual = true) (S : FnScope N ps scope)
  (len : ∀ vs H Q E, sp vs H Q E → vs.length = ps.length)
  (hbody : ∀ (A : Around) (outer : List Env) (s : Shared) (H : Hp) (vs : List V) (Q : VK) (E : XK), Room k (A.deeper (envOfC qual scope s.heap.objs.size f cdv)) → sp vs H Q E →
   ∃ t, PSs (cxOf CX P w K mg base N qual scope f cdv A outer s H E) body t ∧ t { nx := fun _ H' => Q .non H', rt := Q } (start N vs) H) :
  FnOk P w K mg base CX (k + 1) f (W.fnOf name qual params body scope dV kV doc pm an cdv ct) ps sp := by
 refine ⟨len, fun A outer s H args us vs Q E hr e0 hb r hsp => ?_⟩
 have hl := len _ _ _ _ hsp
 have KX : K.In s.heap := e0.mod.kin.keeps fun b o e => (e0.bs b o e).1
 have lim : s.heap.NoLimit := e0.mod.nolimit.keeps fun b o e => (e0.bs b o e).1
 have hkind : ∀ y ∈ ps.zip us, scope.names.lookup y.1 = some .local ∨ (scope.names.lookup y.1 = some .cell ∧ ((cellsFrom (s.heap.objs.size + 1) scope.names []).lookup y.1).isSome = true) := fun ⟨n, v⟩ hy => by
  rcases S.par n (List.of_mem_zip hy).1 with q | q
  ·exact .inl q
  ·exact .inr ⟨q, W.cellsFrom_some _ _ _ (.inl q)⟩
 refine codeAny_call_function hr.depth (KX _ _ lk) rfl S.co S.gen rfl (W.codeRec_of KX hcd) (hb _ _ _ _ ?_)
 refine wpAny_newFunctionEnv_cells S.kind hkind fun env he s1 x => ?_
 subst he
 refine ⟨lim.keeps x.toInCall.keep, codeAny_func ?_⟩
 obtain ⟨t, ht, hq⟩ := hbody A outer s H vs Q E (hr.deeper _) hsp
 have I : Inv (cxOf CX P w K mg base N qual scope f cdv A outer s H E) [] (start N vs) H s1 := zmg S hr.hd e0 hl r x
 refine wpAny_mono (ht [] s1 (start N vs) H _ I hq) (fun fl s' hs => ?_) fun e s' hs => hs
 have fin : ∀ {σ' : St} {H' : Hp} {v : V} {u : Value}, Inv (cxOf CX P w K mg base N qual scope f cdv A outer s H E) [] σ' H' s' → RelV v u → Q v H' → CE outer P w H s Q u s' :=
  fun {σ' H' v u} J rv q => ⟨v, H', J.os, J.bare, J.base, J.hok, rv, q⟩
 cases fl with
 | ret u =>
  obtain ⟨v, σ', H', J, rv, q⟩ := hs
  exact fin J rv q
 | next =>
  obtain ⟨σ', H', J, q⟩ := hs
  exact fin (v := V.non) (u := Value.none) J rfl q
 | brk =>
  obtain ⟨_, _, _, q⟩ := hs
  exact False.elim q
 | cont =>
  obtain ⟨_, _, _, q⟩ := hs
  exact False.elim q
end L2
namespace L2
open PySem PySem.Spec PyProof.Rows
section
variable {X : Cx} {x : Str} {p pos : Pos} {e : Expr} {es : List Expr} {t : TA} {id T : String} {r : List V → Hp → VK → Prop}
noncomputable def tCB (r : List V → Hp → VK → Prop) (t : TA) : TE := fun σ H Q => t σ H fun vs H1 => r vs H1 Q
theorem zit (hc : zfe X (.builtin id) r) (hg : Gl X x) (hm : X.mg x = none) (hv : bootBuiltins x = some (.builtin id)) (ha : PA X (e :: es) t) (hn : x ≠ "__name__" := by decide) (hdb : (x == ("__debug__" : Str)) = false := by decide)
  (he : starEach (e :: es) X.env = (false, eval e X.env) :: starEach es X.env := by rfl) (hpl : (backTo pos (starEach es X.env)).any (·.1) = false := by rfl) : PE X (.Call (.Name x p) (e :: es) [] pos) (tCB r t) := by
 intro pins s σ H Q I h
 refine wpAny_Call_Name_kw (zgc I hg hm hv ?_ hn hdb)
 exact PyProof.Rows.callWith_builtin1 (thn (ha pos pins s σ H _ I h) fun us s1 ⟨vs, H1, I1, r1, q1⟩ => hc pins s1 σ H1 vs us Q I1 r1 q1) he hpl
theorem zfo (hc : zfe X (.type T) r) (hg : Gl X x) (hm : X.mg x = none) (hv : bootBuiltins x = some (.type T)) (ha : PA X (e :: es) t) (hn : x ≠ "__name__" := by decide) (hdb : (x == ("__debug__" : Str)) = false := by decide)
  (he : starEach (e :: es) X.env = (false, eval e X.env) :: starEach es X.env := by rfl) (hpl : (backTo pos (starEach es X.env)).any (·.1) = false := by rfl) : PE X (.Call (.Name x p) (e :: es) [] pos) (tCB r t) := by
 intro pins s σ H Q I h
 refine wpAny_Call_Name_kw (zgc I hg hm hv ?_ hn hdb)
 exact PyProof.Rows.callWith_type1 (thn (ha pos pins s σ H _ I h) fun us s1 ⟨vs, H1, I1, r1, q1⟩ => hc pins s1 σ H1 vs us Q I1 r1 q1) he hpl
end
end L2
namespace HT
open PySem PyProof.Rows
section
open PySem.SeqAt
open PySem.AutoSeq1 (wpAny_loadPart')
open PySem.MeetsSeq PySem.MeetsSeq2 PySem.MeetsSeq3
end
section
variable {prog : Program} {w : World} {A : Around} {E : Value → Shared → Prop} {s : Shared}
theorem cat_tup {t b : Addr} {vs ws : List Value} {Q : Value → Shared → Prop} (ht : IsTup s.heap t vs.toArray) (hb : IsTup s.heap b ws.toArray) (hv : vs ≠ [])
  (h1 : ws = [] → Q (.ref t) s) (h2 : ws ≠ [] → Q (.ref s.heap.objs.size) { s with heap := s.heap.push { cls := .type "tuple", data := .seq (vs ++ ws).toArray } })
  (hsz : vs.length + ws.length ≤ sizeLine) : wpAny (model prog w) A (binaryOp .Add (.ref t) (.ref b)) Q E s := by
 obtain ⟨⟨cls, dd, data, sl⟩, ho, hc, n, hd⟩ := id ht
 obtain ⟨⟨cls2, dd2, data2, sl2⟩, ho2, hc2, n2, hd2⟩ := id hb
 simp only at hc hd hc2 hd2
 subst hc hd hc2 hd2
 have e : vs.toArray ++ ws.toArray = (vs ++ ws).toArray := by simp
 by_cases hw : ws = []
 ·exact concat_meets ⟨_, ho, rfl⟩ ⟨_, ho2, rfl⟩ noFill_tuple_add seq_tuple_add PySem.F.slot_tuple_add PySem.F.entry_tuple_add (PySem.F.args_tuple_add_2 _ _)
   (tuple_addW1 t b vs.toArray ws.toArray n n2 dd dd2 sl sl2 (by simpa using hv) (by simp [hw])) ⟨ho, ho2, h1 hw⟩
 ·refine concat_meets ⟨_, ho, rfl⟩ ⟨_, ho2, rfl⟩ noFill_tuple_add seq_tuple_add PySem.F.slot_tuple_add PySem.F.entry_tuple_add (PySem.F.args_tuple_add_2 _ _)
   (tuple_addW2 t b vs.toArray ws.toArray n n2 dd dd2 sl sl2 (by simpa using hv) (by simpa using hw) (by rw [List.size_toArray, List.size_toArray]; exact hsz)) ⟨ho, ho2, ?_⟩
  rw [e]
  exact h2 hw
noncomputable def sIx (n d : Nat) : Option Int → Nat
 | none => d
 | some v => if v < 0 then (v + (n : Int)).toNat else min v.toNat n
theorem zii (n d : Nat) : sIx n d none = d := rfl
theorem zid (n d k : Nat) : sIx n d (some (k : Int)) = min k n := by
 show (if (k : Int) < 0 then ((k : Int) + (n : Int)).toNat else min (k : Int).toNat n) = min k n
 rw [if_neg (by omega), Int.toNat_natCast]
theorem sIx_le (n d : Nat) (hd : d ≤ n) (o : Option Int) : sIx n d o ≤ n := by
 cases o with
 | none => exact hd
 | some v =>
  show (if v < 0 then (v + (n : Int)).toNat else min v.toNat n) ≤ n
  by_cases hv : v < 0
  ·rw [if_pos hv]; omega
  ·rw [if_neg hv]; exact Nat.min_le_right _ _
theorem zl6 (v : Int) (n d : Nat) : (if v < 0 then max (v + (n : Int)) 0 else min v (n : Int)) = ((sIx n d (some v) : Nat) : Int) := by
 show (if v < 0 then max (v + (n : Int)) 0 else min v (n : Int)) = (((if v < 0 then (v + (n : Int)).toNat else min v.toNat n) : Nat) : Int)
 by_cases hv : v < 0
 ·simp only [if_pos hv]; omega
 ·simp only [if_neg hv]; omega
theorem zlm (lo hi : Option Int) (n : Nat) : Builtin.Slice.sliceAdjust lo hi 1 (n : Int) = (((sIx n 0 lo : Nat) : Int), ((sIx n n hi : Nat) : Int)) := by
 have h1 : ¬ ((1 : Int) < 0) := by omega
 unfold Builtin.Slice.sliceAdjust
 simp only [h1, if_false]
 refine Prod.ext ?_ ?_
 ·cases lo with
  | none => rfl
  | some v => exact zl6 v n 0
 ·cases hi with
  | none => rfl
  | some v => exact zl6 v n n
theorem zli (i j : Nat) : Builtin.Slice.slicePlaces (i : Int) (j : Int) 1 = j - i := by
 unfold Builtin.Slice.slicePlaces
 have h1 : (1 : Int) > 0 := by omega
 simp only [h1, if_true, Int.ediv_one]
 split <;> omega
theorem zhO {v : Value} {o : Option Int} {Q : Option Int → Shared → Prop} (p : IsPart v o) (h : Q o s) : wpAny (model prog w) A (Builtin.Slice.slicePartIndex v) Q E s := by
 cases p with
 | none => exact slicePart_none h
 | int i t => exact slicePart_int h
theorem zfx {sl : Addr} {vl vu : Value} {lo hi : Option Int} {n : Nat} {Q : Int × Int × Nat → Shared → Prop} (hs : s.heap.IsSliceOf sl vl vu .none) (pl : IsPart vl lo) (pu : IsPart vu hi)
  (h : Q (((sIx n 0 lo : Nat) : Int), 1, sIx n n hi - sIx n 0 lo) s) : wpAny (model prog w) A (Builtin.Slice.sliceApplied (.ref sl) (pure (n : Int))) Q E s := by
 obtain ⟨os, hos, hcs, hds⟩ := id hs
 unfold Builtin.Slice.sliceApplied Builtin.Slice.sliceFields
 refine wpAny_bind (wpAny_bind (wpAny_field hos hds (x := vl) rfl (wpAny_bind (wpAny_field hos hds (x := vu) rfl (wpAny_bind (wpAny_field hos hds (x := .none) rfl (wpAny_pure ?_)))))))
 refine wpAny_bind (slicePart_none ?_)
 show wpAny _ _ (if ((1 : Int) == 0) = true then _ else _) _ _ s
 rw [if_neg (by decide)]
 refine wpAny_bind (zhO pl (wpAny_bind (zhO pu (wpAny_bind (wpAny_pure ?_)))))
 show wpAny _ _ (match Builtin.Slice.sliceAdjust lo hi 1 (n : Int) with | (lo, hi) => pure (lo, (1 : Int), Builtin.Slice.slicePlaces lo hi 1)) _ _ s
 rw [zlm lo hi n]
 show wpAny _ _ (pure (((sIx n 0 lo : Nat) : Int), (1 : Int), Builtin.Slice.slicePlaces ((sIx n 0 lo : Nat) : Int) ((sIx n n hi : Nat) : Int) 1)) _ _ s
 rw [zli]
 exact wpAny_pure h
theorem pick_gen (xs : Array Value) (i k : Nat) : ((List.range k).filterMap fun (m : Nat) => xs[((i : Int) + (m : Int) * 1).toNat]?).toArray = ((xs.toList.drop i).take k).toArray := by
 have e : (fun (m : Nat) => xs[((i : Int) + (m : Int) * 1).toNat]?) = fun m => xs[i + m]? := by
  funext m
  have : ((i : Int) + (m : Int) * 1).toNat = i + m := by omega
  rw [this]
 rw [e]
 have := pick_run xs i k
 rw [List.filterMap_map] at this
 have e2 : ((fun x => xs[x]?) ∘ fun x => i + x) = fun m => xs[i + m]? := rfl
 rw [e2] at this
 rw [this]
theorem zgv {t sl : Addr} {items : Array Value} {vl vu : Value} {lo hi : Option Int} {Q : Value → Shared → Prop} (ht : IsTup s.heap t items) (hs : s.heap.IsSliceOf sl vl vu .none) (pl : IsPart vl lo) (pu : IsPart vu hi)
  (hw : ¬ (sIx items.size 0 lo = 0 ∧ sIx items.size items.size hi = items.size))
  (h : Q (.ref s.heap.objs.size) { s with heap := s.heap.push { cls := .type "tuple", data := .seq ((items.toList.drop (sIx items.size 0 lo)).take (sIx items.size items.size hi - sIx items.size 0 lo)).toArray } })
  (hsz : items.size ≤ sizeLine) : wpAny (model prog w) A (getItem (.ref t) (.ref sl)) Q E s := by
 have htake : sizeOk (.seq ((items.toList.drop (sIx items.size 0 lo)).take (sIx items.size items.size hi - sIx items.size 0 lo)).toArray) := by
  show ((items.toList.drop (sIx items.size 0 lo)).take (sIx items.size items.size hi - sIx items.size 0 lo)).toArray.size ≤ sizeLine
  rw [List.size_toArray, List.length_take, List.length_drop, Array.length_toList]
  omega
 have hj : sIx items.size items.size hi ≤ items.size := sIx_le _ _ (Nat.le_refl _) hi
 obtain ⟨os, hos, hcs, hds⟩ := id hs
 have hTs : s.TypeIs (.ref sl) "slice" := ⟨os, hos, hcs⟩
 unfold getItem
 try with_reducible refine wpAny_holding ?_
 first | refine wpAny_bind (wpAny_pure ?_) | skip
 refine wpAny_bind (wpAny_sequenceKey ht.typeIs (by decide) ?_)
 refine wpAny_bind (wpAny_callSpecial?_slot (name := Str.ofString "__getitem__") ht.typeIs PyProof.Rows.slot_tuple_getitem
  (wpAny_call_entry PyProof.Rows.slot_tuple_getitem ht.typeIs entry_tuple_getitem ?_ (args_tuple_getitem _ _)))
 show wpAny _ _ (Builtin.Tuple.tupleItemsOf (.ref t) >>= _) _ _ s
 refine wpAny_bind (tupleItemsOf_ ht ?_)
 refine wpAny_bind (wpAny_typeOf hTs ?_)
 rw [if_pos (by decide)]
 refine wpAny_bind (zfx hs pl pu ?_)
 have hno : ¬ ((((sIx items.size 0 lo : Nat) : Int) == 0 && (1 : Int) == 1 && (sIx items.size items.size hi - sIx items.size 0 lo) == items.size) = true) := by
  intro q
  rw [Bool.and_eq_true, Bool.and_eq_true] at q
  have q1 : ((sIx items.size 0 lo : Nat) : Int) = 0 := eq_of_beq q.1.1
  have q2 : sIx items.size items.size hi - sIx items.size 0 lo = items.size := eq_of_beq q.2
  exact hw ⟨by omega, by omega⟩
 show wpAny _ _ (if (((sIx items.size 0 lo : Nat) : Int) == 0 && (1 : Int) == 1 && (sIx items.size items.size hi - sIx items.size 0 lo) == items.size) = true then _ else _) _ _ s
 rw [if_neg hno, pick_gen]
 first
  | exact wpAny_bind (m := Builtin.Tuple.tupleExact _) (wpAny_newObj_type (wpAny_pure ⟨_, rfl, wpAny_pure h⟩) htake)
  | exact wpAny_bind (m := Builtin.Tuple.tupleExact _) (wpAny_newObj_type (wpAny_bind (wpAny_pure (wpAny_pure ⟨_, rfl, wpAny_pure h⟩))) htake)
  | exact wpAny_bind (wpAny_bind (m := Builtin.Tuple.tupleExact _) (wpAny_newObj_type (wpAny_pure (wpAny_pure ⟨_, rfl, wpAny_pure h⟩)) htake))
  | exact wpAny_bind (wpAny_bind (m := Builtin.Tuple.tupleExact _) (wpAny_newObj_type (wpAny_pure ⟨_, rfl, wpAny_pure h⟩) htake))
end
end HT
namespace L2
open PySem PySem.Spec PyProof.Rows
noncomputable abbrev TO := St → Hp → (Option Int → Hp → Prop) → Prop
noncomputable def PO (X : Cx) (e : Option Expr) (t : TO) : Prop :=
 ∀ (pins : List (Addr × Obj)) (s : Shared) (σ : St) (H : Hp) (Q : Option Int → Hp → Prop), Inv X pins σ H s → t σ H Q →
  wpAny (model X.prog X.w) X.A (evalPart e X.env) (fun u s' => ∃ o H', Inv X pins σ H' s' ∧ IsPart u o ∧ Q o H') X.xe s
noncomputable def tNoPart : TO := fun _ H Q => Q none H
noncomputable def tPart (t : TE) : TO := fun σ H Q => t σ H fun x H1 => ∃ i, x = .int i ∧ Q (some i) H1
section
variable {X : Cx} {e : Expr} {te : TE} {lo hi : Option Expr} {tl th : TO} {pos p2 : Pos}
theorem po_none : PO X none tNoPart := by
 intro pins s σ H Q I h
 rw [evalPart_none]
 exact wpAny_pure ⟨none, H, I, .none, h⟩
theorem po_some (h : PE X e te) : PO X (some e) (tPart te) := by
 intro pins s σ H Q I hw
 rw [evalPart_some]
 refine thn (h pins s σ H _ I hw) fun u s1 ⟨x, H1, I1, r1, q1⟩ => ?_
 obtain ⟨i, rfl, q⟩ := q1
 obtain ⟨t, rfl⟩ := r1
 exact ⟨some i, H1, I1, .int i t, q⟩
noncomputable def SlR (X : Cx) (r : V → Option Int → Option Int → Hp → VK → Prop) : Prop :=
 ∀ (pins : List (Addr × Obj)) (s : Shared) (σ : St) (H : Hp) (x : V) (v vl vu : Value) (lo hi : Option Int) (sl : Addr) (Q : VK), Inv X pins σ H s → RelV x v → s.heap.IsSliceOf sl vl vu .none → IsPart vl lo → IsPart vu hi → r x lo hi H Q →
  ∃ T id, typeLookup (.type T) "__getitem__" = pure (some (.builtin id)) ∧ s.TypeIs v T ∧ wpAny (model X.prog X.w) X.A (getItem v (.ref sl)) (EP X pins σ Q) X.xe s
theorem SlR.or {r r' : V → Option Int → Option Int → Hp → VK → Prop} (h : SlR X r) (h' : SlR X r') : SlR X (fun x lo hi H Q => r x lo hi H Q ∨ r' x lo hi H Q) := by
 intro pins s σ H x v vl vu lo hi sl Q I rx hs pl pu q
 rcases q with q | q
 ·exact h pins s σ H x v vl vu lo hi sl Q I rx hs pl pu q
 ·exact h' pins s σ H x v vl vu lo hi sl Q I rx hs pl pu q
noncomputable def tSl (r : V → Option Int → Option Int → Hp → VK → Prop) (te : TE) (tl th : TO) : TE := fun σ H Q => te σ H fun x H1 => tl σ H1 fun l H2 => th σ H2 fun u H3 => r x l u H3 Q
theorem zkL {r : V → Option Int → Option Int → Hp → VK → Prop} (hr : SlR X r) (he : PE X e te) (hl : PO X lo tl) (hu : PO X hi th) : PE X (.Subscript e (.Slice lo hi none p2) pos) (tSl r te tl th) := by
 intro pins s σ H Q I h
 refine Subscript_ (thn (he pins s σ H _ I h) fun v s1 ⟨x, H1, I1, r1, q1⟩ => ?_)
 refine wpAny_Slice (thn (hl pins s1 σ H1 _ I1 q1) fun vl s2 ⟨l, H2, I2, pl, q2⟩ => thn (hu pins s2 σ H2 _ I2 q2) fun vu s3 ⟨u, H3, I3, pu, q3⟩ => ?_)
 rw [evalPart_none]
 refine wpAny_pure ?_
 have I4 : Inv X pins σ H3 { s3 with heap := s3.heap.push { cls := .type "slice", data := .fields #[vl, vu, .none] } } := I3.kept (t' := s3.toks) fun b ob q => Heap.get?_push_of_some _ q
 obtain ⟨T, id, hT, ht, hg⟩ := hr pins { s3 with heap := s3.heap.push { cls := .type "slice", data := .fields #[vl, vu, .none] } } σ H3 x v vl vu l u s3.heap.objs.size Q I4 r1 (Heap.IsSliceOf.new ..) pl pu q3
 show wpAny (model X.prog X.w) X.A (subscriptTail e (.Slice lo hi none p2) v (.ref s3.heap.objs.size)) (EP X pins σ Q) X.xe { s3 with heap := s3.heap.push { cls := .type "slice", data := .fields #[vl, vu, .none] } }
 exact tail_any (ops := [.ref s3.heap.objs.size, v]) ht hT hg (by with_unfolding_all rfl)
noncomputable def cutV (xs : List V) (lo hi : Option Int) : List V := (xs.drop (HT.sIx xs.length 0 lo)).take (HT.sIx xs.length xs.length hi - HT.sIx xs.length 0 lo)
theorem zg1 (xs : List V) (lo hi : Option Int) : (cutV xs lo hi).length ≤ xs.length := by
 unfold cutV
 rw [List.length_take, List.length_drop]
 omega
noncomputable def rSlT (K : W.Frag) : V → Option Int → Option Int → Hp → VK → Prop := fun x lo hi H Q => ∃ a xs, x = .ref a ∧ SqT K H a xs ∧
 ¬ (HT.sIx xs.length 0 lo = 0 ∧ HT.sIx xs.length xs.length hi = xs.length) ∧ ∀ p, H p = none → Q (.ref p) (upd H p (.tup (cutV xs lo hi)))
theorem sl_tup : SlR X (rSlT X.K) := by
 intro pins s σ H x v vl vu lo hi sl Q I rx hs pl pu h
 obtain ⟨a, xs, rfl, hx, hw, q⟩ := h
 cases rx
 obtain ⟨its, r, ht, hz⟩ := I.tuple hx
 have hlen : its.toArray.size = xs.length := by rw [List.size_toArray]; exact r.length.symm
 refine ⟨"tuple", _, PyProof.Rows.slot_tuple_getitem.lookup, ht.typeIs, ?_⟩
 refine HT.zgv ht hs pl pu (by rw [hlen]; exact hw) ?_ (by rw [hlen]; exact hz)
 rw [hlen]
 refine ⟨.ref s.heap.objs.size, _, I.laid (t' := s.toks) (o := .tup (cutV xs lo hi)) (fun b ob q => Heap.get?_push_of_some _ q) (Nat.le_refl _) ?_, rfl, q _ (I.hok.fresh (Nat.le_refl _))⟩
 exact ⟨Nat.le_trans (zg1 xs lo hi) hz, _, (r.drop (HT.sIx xs.length 0 lo)).take (HT.sIx xs.length xs.length hi - HT.sIx xs.length 0 lo), IsTup.new _ _⟩
noncomputable def rCatT (K : W.Frag) : R2 := fun x y H Q => ∃ a b xs ys, x = .ref a ∧ y = .ref b ∧ SqT K H a xs ∧ SqT K H b ys ∧ xs ≠ [] ∧ xs.length + ys.length ≤ sizeLine ∧
 (ys = [] → Q (.ref a) H) ∧ (ys ≠ [] → ∀ p, H p = none → Q (.ref p) (upd H p (.tup (xs ++ ys))))
theorem Vals.nil_iff {xs : List V} {us : List Value} (r : Vals xs us) : us = [] ↔ xs = [] := by
 cases r with
 | nil => simp
 | cons _ _ => simp
theorem op_catT : OpR X (binaryOp .Add) (rCatT X.K) := by
 intro pins s σ H x y v u Q I rx ry h
 obtain ⟨a, b, xs, ys, rfl, rfl, ha, hb, hx, hz, q1, q2⟩ := h
 cases rx
 cases ry
 obtain ⟨its, r1, p1, _⟩ := I.tuple ha
 obtain ⟨its2, r2, p2, _⟩ := I.tuple hb
 refine HT.cat_tup p1 p2 (fun z => hx (r1.nil_iff.mp z)) (fun z => ⟨.ref a, H, I, rfl, q1 (r2.nil_iff.mp z)⟩) (fun z => ?_) (by rw [← r1.length, ← r2.length]; exact hz)
 refine ⟨.ref s.heap.objs.size, _, I.laid (t' := s.toks) (o := .tup (xs ++ ys)) (fun b ob q => Heap.get?_push_of_some _ q) (Nat.le_refl _) ?_, rfl, q2 (fun w => z (r2.nil_iff.mpr w)) _ (I.hok.fresh (Nat.le_refl _))⟩
 exact ⟨by rw [List.length_append]; exact hz, _, r1.append r2, IsTup.new _ _⟩
end
end L2
namespace L2
open PySem PySem.Spec PyProof.Rows
noncomputable def ixN (n : Nat) (i : Int) : Option Nat := if 0 ≤ i then (if i < n then some i.toNat else none) else if -(n : Int) ≤ i then some (i + n).toNat else none
noncomputable def atI {α : Type} (xs : List α) (i : Int) : Option α := (ixN xs.length i).bind fun j => xs[j]?
theorem zmp {n : Nat} {i : Int} {j : Nat} (h : ixN n i = some j) : seqIndex? i n = some j ∧ j < n ∧ -(n : Int) ≤ i ∧ i < n := by
 unfold ixN at h
 by_cases h0 : 0 ≤ i
 ·rw [if_pos h0] at h
  by_cases h1 : i < n
  ·rw [if_pos h1] at h
   have e : i.toNat = j := Option.some.inj h
   exact ⟨by rw [seqIndex_of h0 h1, e], by omega, by omega, h1⟩
  ·rw [if_neg h1] at h; cases h
 ·rw [if_neg h0] at h
  by_cases h1 : -(n : Int) ≤ i
  ·rw [if_pos h1] at h
   have e : (i + n).toNat = j := Option.some.inj h
   exact ⟨by rw [seqIndex_neg (by omega) h1, e], by omega, h1, by omega⟩
  ·rw [if_neg h1] at h; cases h
theorem zj8 {α : Type} {xs : List α} {i : Int} {v : α} (h : atI xs i = some v) : ∃ j, seqIndex? i xs.length = some j ∧ xs[j]? = some v ∧ j < xs.length ∧ -(xs.length : Int) ≤ i ∧ i < xs.length := by
 unfold atI at h
 cases e : ixN xs.length i with
 | none => rw [e] at h; cases h
 | some j =>
  rw [e] at h
  obtain ⟨h1, h2, h3, h4⟩ := zmp e
  exact ⟨j, h1, h, h2, h3, h4⟩
theorem zis {α : Type} (xs : List α) (v : α) : atI (xs ++ [v]) (-1) = some v := by
 have hl : (xs ++ [v]).length = xs.length + 1 := by simp
 have e : ixN (xs ++ [v]).length (-1) = some xs.length := by
  unfold ixN
  rw [hl, if_neg (by decide), if_pos (by omega)]
  congr 1
  omega
 unfold atI
 rw [e]
 show (xs ++ [v])[xs.length]? = some v
 simp
noncomputable def zir (b : Expr) : Prop := ∀ o i, subscripted b false o i = operate [o, i] (getItem o i)
noncomputable def IxR (X : Cx) (r : R2) : Prop :=
 ∀ (value slice : Expr) (pins : List (Addr × Obj)) (s : Shared) (σ : St) (H : Hp) (x y : V) (v u : Value) (Q : VK), Inv X pins σ H s → RelV x v → RelV y u → r x y H Q →
  subscripted slice false v u = operate [v, u] (getItem v u) → wpAny (model X.prog X.w) X.A (subscriptTail value slice v u) (EP X pins σ Q) X.xe s
noncomputable def MtR (X : Cx) (id : String) (r : V → List V → Hp → VK → Prop) : Prop :=
 ∀ (pins : List (Addr × Obj)) (s : Shared) (σ : St) (H : Hp) (x : V) (xs : List V) (v : Value) (us : List Value) (Q : VK), Inv X pins σ H s → RelV x v → Vals xs us → r x xs H Q →
  wpAny (model X.prog X.w) X.A (call (.builtin id) (v :: us)) (EP X pins σ Q) X.xe s
section
variable {X : Cx} {a b : Expr} {ta tb : TE} {pos : Pos}
theorem IxR.or {r r' : R2} (h : IxR X r) (h' : IxR X r') : IxR X (fun x y H Q => r x y H Q ∨ r' x y H Q) := by
 intro value slice pins s σ H x y v u Q I rx ry q hs
 rcases q with q | q
 ·exact h value slice pins s σ H x y v u Q I rx ry q hs
 ·exact h' value slice pins s σ H x y v u Q I rx ry q hs
theorem pe_ix {r : R2} (hr : IxR X r) (ha : PE X a ta) (hb : PE X b tb) (hs : zir b) : PE X (.Subscript a b pos) (tOp r ta tb) := by
 intro pins s σ H Q I h
 exact Subscript_ (binT ha hb I h fun v u s2 x y H2 I2 rx ry q => hr a b pins s2 σ H2 x y v u Q I2 rx ry q (hs _ _))
noncomputable def rIxL (K : W.Frag) : R2 := fun x y H Q => ∃ p xs i v, x = .ref p ∧ y = .int i ∧ SqL K H p xs ∧ atI xs i = some v ∧ Q v H
noncomputable def rIxT (K : W.Frag) : R2 := fun x y H Q => ∃ p xs i v, x = .ref p ∧ y = .int i ∧ SqT K H p xs ∧ atI xs i = some v ∧ Q v H
noncomputable def rIxS : R2 := fun x y H Q => ∃ z i c, x = .str z ∧ y = .int i ∧ z.length ≤ sizeLine ∧ atI z.cps.toList i = some c ∧ Q (.str ⟨#[c]⟩) H
theorem ix_list : IxR X (rIxL X.K) := by
 intro value slice pins s σ H x y v u Q I rx ry h hs
 obtain ⟨p, xs, i, z, rfl, rfl, hq, he, q⟩ := h
 cases rx
 obtain ⟨t, rfl⟩ := ry
 obtain ⟨its, r, pl, hz⟩ := I.list hq
 obtain ⟨j, h1, h2, h3, h4, h5⟩ := zj8 he
 obtain ⟨w, ew, rw'⟩ := r.get h2
 have hl := r.length
 have hn := zhQ
 have fin : EP X pins σ Q w s := ⟨z, H, I, rw', q⟩
 by_cases h0 : 0 ≤ i
 ·have hj : i.toNat = j := by
   rw [seqIndex_of h0 h5] at h1
   exact Option.some.inj h1
  exact item_listR pl.isList h0 (by omega) (by rw [hj]; simpa using ew) fin hs
 ·have hj : (i + (its.toArray.size : Int)).toNat = j := by
   rw [seqIndex_neg (by omega) h4] at h1
   rw [List.size_toArray, ← hl]
   exact Option.some.inj h1
  exact subscriptTail_builtinR (x := w) pl.isList.typeIs slot_list_getitem.lookup
   (wpAny_getItem_list_neg (Q := fun r s' => r = w ∧ EP X pins σ Q r s') pl.isList (by omega) (by rw [List.size_toArray] <;> omega) (by omega) (by rw [hj]; simpa using ew) ⟨rfl, fin⟩) hs
theorem ix_tup : IxR X (rIxT X.K) := by
 intro value slice pins s σ H x y v u Q I rx ry h hs
 obtain ⟨p, xs, i, z, rfl, rfl, hq, he, q⟩ := h
 cases rx
 obtain ⟨t, rfl⟩ := ry
 obtain ⟨its, r, pl, hz⟩ := I.tuple hq
 obtain ⟨j, h1, h2, h3, h4, h5⟩ := zj8 he
 obtain ⟨w, ew, rw'⟩ := r.get h2
 have hl := r.length
 have hn := zhQ
 have fin : EP X pins σ Q w s := ⟨z, H, I, rw', q⟩
 exact subscriptTail_builtinR (x := w) pl.typeIs slot_tuple_getitem.lookup
  (getItem_tuple (j := j) (Q := fun r s' => r = w ∧ EP X pins σ Q r s') pl (by omega) (by omega) (by rw [List.size_toArray, ← hl]; exact h1) (by simpa using ew) ⟨rfl, fin⟩) hs
theorem ix_str : IxR X rIxS := by
 intro value slice pins s σ H x y v u Q I rx ry h hs
 obtain ⟨z, i, c, rfl, rfl, hz, he, q⟩ := h
 obtain ⟨t, rfl⟩ := rx
 obtain ⟨t', rfl⟩ := ry
 obtain ⟨j, h1, h2, h3, h4, h5⟩ := zj8 he
 have hl : z.cps.toList.length = z.length := by simp [Str.length]
 rw [hl] at h1 h4 h5
 have hn := zhQ
 exact tail_any (typeIs_str s z t) slot_str_getitem.lookup (getItem_str (c := c) (by
  have e1 : decide (i < -(2 ^ 63 : Int)) = false := decide_eq_false (by omega)
  have e2 : decide (i ≥ 2 ^ 63) = false := decide_eq_false (by omega)
  rw [e1, e2, Bool.or_false]) (by rw [h1]; simpa using h2) ⟨.str ⟨#[c]⟩, H, I.tok _, ⟨_, rfl⟩, q⟩) hs
noncomputable def rIx (K : W.Frag) : R2 := fun x y H Q => rIxL K x y H Q ∨ rIxT K x y H Q ∨ rIxS x y H Q
theorem ix_seq : IxR X (rIx X.K) := ix_list.or (ix_tup.or ix_str)
theorem zlr (its : List Value) (n j : Nat) (u : Value) : Obj.mapSeq (·.setIfInBounds j u) { cls := .type "list", data := .seq its.toArray n } = { cls := .type "list", data := .seq (its.set j u).toArray n } := by
 simp [Obj.mapSeq]
theorem Inv.lst {pins : List (Addr × Obj)} {σ : St} {H : Hp} {s : Shared} {p : Addr} {xs : List V} (I : Inv X pins σ H s) (h : H p = some (.lst xs)) :
  ∃ (its : List Value) (n : Nat), Vals xs its ∧ s.heap.get? p = some { cls := .type "list", data := .seq its.toArray n } ∧ xs.length ≤ sizeLine := by
 obtain ⟨z, its, n, r, e⟩ := I.hok p _ h
 exact ⟨its, n, r, e, z⟩
theorem Inv.lstUpd {pins : List (Addr × Obj)} {σ : St} {H : Hp} {s : Shared} {p : Addr} {xs ys : List V} {its its' : List Value} {n n' : Nat} {f : Obj → Obj} (I : Inv X pins σ H s) (h : H p = some (.lst xs))
  (ho : s.heap.get? p = some { cls := .type "list", data := .seq its.toArray n }) (hf : f { cls := .type "list", data := .seq its.toArray n } = { cls := .type "list", data := .seq its'.toArray n' }) (r : Vals ys its') (hz : ys.length ≤ sizeLine) (t : Nat) :
  Inv X pins σ (upd H p (.lst ys)) { s with heap := s.heap.update p f, toks := t } := by
 have e : (s.heap.update p f).get? p = some { cls := .type "list", data := .seq its'.toArray n' } := by
  rw [Heap.get?_update_self f ho (by rw [hf] <;> rfl), hf]
 refine I.write (x := p) (e := p) (by rw [h]; trivial) (.inl rfl) (fun b u hb q => (Heap.get?_update_other _ _ (Ne.symm hb)).trans q) ⟨_, e⟩ ?_
 exact ⟨hz, its', n', r, e⟩
noncomputable def rSetL : V → V → V → Hp → (Hp → Prop) → Prop := fun o i v H Q => ∃ p xs k j, o = .ref p ∧ i = .int k ∧ H p = some (.lst xs) ∧ ixN xs.length k = some j ∧ Q (upd H p (.lst (xs.set j v)))
theorem zlb : PSet X rSetL := by
 intro pins s σ H o i v ov iv u Q I ro ri rv h
 obtain ⟨p, xs, k, j, rfl, rfl, hp, hj, q⟩ := h
 cases ro
 obtain ⟨t, rfl⟩ := ri
 obtain ⟨its, n, r, ho, hz⟩ := I.lst hp
 obtain ⟨h1, h2, h3, h4⟩ := zmp hj
 have hl := r.length
 have hn := zhQ
 have I' : Inv X pins σ (upd H p (.lst (xs.set j v))) { s with heap := s.heap.update p (Obj.mapSeq (·.setIfInBounds j u)) } :=
  I.lstUpd hp ho (zlr its n j u) (r.set rv j) (by rw [List.length_set]; exact hz) s.toks
 by_cases h0 : 0 ≤ k
 ·have hk : k.toNat = j := by
   rw [seqIndex_of h0 h4] at h1
   exact Option.some.inj h1
  exact W.ki_setAt ho h0 (by omega) (by rw [List.size_toArray, ← hl]; exact h4) (by rw [hk]; exact ⟨_, I', q⟩)
 ·have hk : (k + (its.toArray.size : Int)).toNat = j := by
   rw [seqIndex_neg (by omega) h3] at h1
   rw [List.size_toArray, ← hl]
   exact Option.some.inj h1
  exact W.ki_setBack ho (by omega) (by rw [List.size_toArray, ← hl]; exact h3) (by omega) (by rw [hk]; exact ⟨_, I', q⟩)
theorem ziQ (lo hi : Option Int) (n : Nat) : (sliceBounds lo hi none n).1 = ((HT.sIx n 0 lo : Nat) : Int) ∧ (sliceBounds lo hi none n).2.1 = ((HT.sIx n n hi : Nat) : Int) ∧ (sliceBounds lo hi none n).2.2 = 1 := by
 refine ⟨?_, ?_, rfl⟩
 ·cases lo with
  | none => simp [sliceBounds, HT.sIx]
  | some i =>
   simp only [sliceBounds, HT.sIx, Option.getD_none, show (1 : Int) > 0 by decide, if_true]
   by_cases h : i < 0
   ·simp only [h, if_true] <;> omega
   ·simp only [h, if_false] <;> omega
 ·cases hi with
  | none => simp [sliceBounds, HT.sIx]
  | some i =>
   simp only [sliceBounds, HT.sIx, Option.getD_none, show (1 : Int) > 0 by decide, if_true]
   by_cases h : i < 0
   ·simp only [h, if_true] <;> omega
   ·simp only [h, if_false] <;> omega
theorem zin (its : List Value) (lo hi : Option Int) : slicePick its.toArray lo hi none = ((its.drop (HT.sIx its.length 0 lo)).take (HT.sIx its.length its.length hi - HT.sIx its.length 0 lo)).toArray := by
 obtain ⟨h1, h2, h3⟩ := ziQ lo hi its.toArray.size
 unfold slicePick
 rw [h1, h2, h3]
 simp only [sliceRange_one, pick_run, List.size_toArray] <;> rfl
noncomputable def rSlL (K : W.Frag) : V → Option Int → Option Int → Hp → VK → Prop := fun x lo hi H Q => ∃ a xs, x = .ref a ∧ SqL K H a xs ∧ ∀ p, H p = none → Q (.ref p) (upd H p (.lst (cutV xs lo hi)))
theorem sl_list : SlR X (rSlL X.K) := by
 intro pins s σ H x v vl vu lo hi sl Q I rx hs pl pu h
 obtain ⟨a, xs, rfl, hx, q⟩ := h
 cases rx
 obtain ⟨its, r, ht, hz⟩ := I.list hx
 have hlen := r.length
 refine ⟨"list", _, slot_list_getitem.lookup, ht.isList.typeIs, ?_⟩
 refine wpAny_getItem_list_slice ht.isList hs pl pu .none (by simp) ?_ (by rw [List.size_toArray] <;> omega)
 rw [zin, ← hlen]
 refine ⟨.ref s.heap.objs.size, _, I.laid (t' := s.toks) (o := .lst (cutV xs lo hi)) (fun b ob q => Heap.get?_push_of_some _ q) (Nat.le_refl _) ?_, rfl, q _ (I.hok.fresh (Nat.le_refl _))⟩
 exact ⟨Nat.le_trans (zg1 xs lo hi) hz, _, 0, (r.drop (HT.sIx xs.length 0 lo)).take (HT.sIx xs.length xs.length hi - HT.sIx xs.length 0 lo), Heap.get?_push_size _ rfl⟩
theorem zgC : zfe X (.builtin "len") (fun xs H Q => ∃ p ys, xs = [.ref p] ∧ (SqL X.K H p ys ∨ SqT X.K H p ys) ∧ Q (.int ys.length) H) := by
 intro pins s σ H xs us Q I r h
 obtain ⟨p, ys, rfl, hq, q⟩ := h
 obtain ⟨u, rfl, rx⟩ := zgp r
 cases rx
 have hn := zhQ
 rcases hq with hq | hq
 ·obtain ⟨its, r', pl, hz⟩ := I.list hq
  have hlen := r'.length
  exact Calls.call_len_list pl.isList (by simp only [List.size_toArray] <;> omega) ⟨.int ys.length, H, I.tok _, ⟨s.toks + 1, by rw [List.size_toArray, hlen]⟩, q⟩
 ·obtain ⟨its, r', pl, hz⟩ := I.tuple hq
  have hlen := r'.length
  exact len_tuple pl (by simp only [List.size_toArray] <;> omega) ⟨.int ys.length, H, I.tok _, ⟨s.toks + 1, by rw [List.size_toArray, hlen]⟩, q⟩
theorem zjE : zfe X (.type "list") (fun xs H Q => ∃ p ys, xs = [.ref p] ∧ (SqL X.K H p ys ∨ SqT X.K H p ys) ∧ ∀ l, H l = none → Q (.ref l) (upd H l (.lst ys))) := by
 intro pins s σ H xs us Q I r h
 obtain ⟨p, ys, rfl, hq, q⟩ := h
 obtain ⟨u, rfl, rx⟩ := zgp r
 cases rx
 have fin : ∀ (its : List Value), Vals ys its → ys.length ≤ sizeLine → ∀ (h' : Heap) (c' : Nat), (∀ b o', s.heap.get? b = some o' → h'.get? b = some o') →
   h'.get? s.heap.objs.size = some { cls := .type "list", dict := none, data := .seq its.toArray c', slots := #[] } → EP X pins σ Q (.ref s.heap.objs.size) { s with heap := h' } := fun its r' hz h' c' kp e =>
  ⟨.ref s.heap.objs.size, _, I.laid (t' := s.toks) kp (Nat.le_refl _) (show ObjOk X.prog X.w _ h' _ (.lst ys) from ⟨hz, its, c', r', e⟩), rfl, q _ (I.hok.fresh (Nat.le_refl _))⟩
 rcases hq with hq | hq
 ·obtain ⟨its, r', pl, hz⟩ := I.list hq
  have hlen := r'.length
  obtain ⟨o, ho, hc, n, hd⟩ := pl.isList
  exact call_list_seq p (.inl rfl) ho hc hd (fun h' c' kp e => fin its r' hz h' c' kp e) (by simp only [List.size_toArray] <;> omega)
 ·obtain ⟨its, r', pl, hz⟩ := I.tuple hq
  have hlen := r'.length
  obtain ⟨o, ho, hc, n, hd⟩ := pl
  exact call_list_seq p (.inr rfl) ho hc hd (fun h' c' kp e => fin its r' hz h' c' kp e) (by simp only [List.size_toArray] <;> omega)
theorem ziF : zfe X (.type "tuple") (fun xs H Q => ∃ p ys, xs = [.ref p] ∧ ((SqL X.K H p ys ∧ ∀ l, H l = none → Q (.ref l) (upd H l (.tup ys))) ∨ (SqT X.K H p ys ∧ Q (.ref p) H))) := by
 intro pins s σ H xs us Q I r h
 obtain ⟨p, ys, rfl, h⟩ := h
 obtain ⟨u, rfl, rx⟩ := zgp r
 cases rx
 rcases h with ⟨hq, q⟩ | ⟨hq, q⟩
 ·obtain ⟨its, r', pl, hz⟩ := I.list hq
  have hlen := r'.length
  refine call_tuple_list pl.isList (fun h' kp => ?_) (by simp only [List.size_toArray] <;> omega)
  have I1 : Inv X pins σ H { s with heap := h' } := I.kept (t' := s.toks) kp
  have I2 : Inv X pins σ (upd H h'.objs.size (.tup ys)) { s with heap := h'.push { cls := .type "tuple", data := .seq its.toArray } } :=
   I1.laid (t' := s.toks) (fun b o e => Heap.get?_push_of_some _ e) (Nat.le_refl _) (show ObjOk X.prog X.w _ _ _ (.tup ys) from ⟨hz, its, r', IsTup.new _ _⟩)
  exact ⟨.ref h'.objs.size, _, I2, rfl, q _ (I1.hok.fresh (Nat.le_refl _))⟩
 ·obtain ⟨its, r', pl, hz⟩ := I.tuple hq
  exact call_tuple_same pl ⟨.ref p, H, I, rfl, q⟩
noncomputable def tyV (K : W.Frag) (T : String) (x : V) (H : Hp) : Prop := match x with
 | .str _ => T = "str"
 | .int _ => T = "int"
 | .ref p => (T = "list" ∧ ∃ xs, SqL K H p xs) ∨ (T = "tuple" ∧ ∃ o, K.lookup p = some o ∧ o.cls = .type "tuple" ∧ o.dict = none) ∨
   (T = "dict" ∧ ((∃ kvs, H p = some (.dK kvs)) ∨ ∃ kvs, H p = some (.dT kvs))) ∨ (T = "set" ∧ ∃ S n, H p = some (.set S n))
 | _ => False
theorem tyV_is {pins : List (Addr × Obj)} {σ : St} {H : Hp} {s : Shared} {T : String} {x : V} {v : Value} (I : Inv X pins σ H s) (r : RelV x v) (ty : tyV X.K T x H) :
  s.TypeIs v T ∧ ∀ a, v = .ref a → ∃ ob, s.heap.get? a = some ob ∧ ob.dict = none := by
 cases x with
 | str z =>
  obtain ⟨t, rfl⟩ := r
  cases (show T = "str" from ty)
  exact ⟨typeIs_str s z t, fun _ e => nomatch e⟩
 | int i =>
  obtain ⟨t, rfl⟩ := r
  cases (show T = "int" from ty)
  exact ⟨typeIs_int s i t, fun _ e => nomatch e⟩
 | ref p =>
  cases r
  rcases ty with ⟨rfl, xs, hq⟩ | ⟨rfl, o, hk, hc, hd⟩ | ⟨rfl, hk⟩ | ⟨rfl, S, n, hk⟩
  ·obtain ⟨its, _, pl, _⟩ := I.list hq
   refine ⟨pl.isList.typeIs, fun a e => ?_⟩
   cases e
   obtain ⟨o, n, e, c, hd, _⟩ := pl
   exact ⟨o, e, hd⟩
  ·refine ⟨⟨o, I.kIn p o hk, hc⟩, fun a e => ?_⟩
   cases e
   exact ⟨o, I.kIn _ o hk, hd⟩
  ·have z : ∃ o, s.heap.get? p = some o ∧ o.ExactDict := by
    rcases hk with ⟨kvs, hk⟩ | ⟨kvs, hk⟩
    ·obtain ⟨_, _, _, _, o, _, _, e, ex, _⟩ := I.hok p _ hk
     exact ⟨o, e, ex⟩
    ·obtain ⟨_, _, _, _, o, _, _, e, ex, _⟩ := I.hok p _ hk
     exact ⟨o, e, ex⟩
   obtain ⟨o, e, ex⟩ := z
   refine ⟨⟨o, e, ex.1⟩, fun a e2 => ?_⟩
   cases e2
   exact ⟨o, e, ex.2.1⟩
  ·obtain ⟨o, _, _, _, e, ex, _⟩ := I.hok p _ hk
   refine ⟨⟨o, e, ex.1⟩, fun a e2 => ?_⟩
   cases e2
   exact ⟨o, e, ex.2.1⟩
 | _ => exact False.elim ty
noncomputable def tBM (K : W.Frag) (T : String) (r : V → List V → Hp → VK → Prop) (to : TE) (t : TA) : TE := fun σ H Q => to σ H fun x H1 => tyV K T x H1 ∧ t σ H1 fun xs H2 => r x xs H2 Q
variable {o e : Expr} {es : List Expr} {to : TE} {t : TA} {name : Str} {apos cpos : Pos} {T id : String} {r : V → List V → Hp → VK → Prop}
theorem pe_bm (pa : PlainAttrs T) (slot : Slot T name id) (hty : typeOf (.builtin id) = pure (.type "method_descriptor")) (hm : MtR X id r) (ho : PE X o to) (ha : PA X (e :: es) t)
  (hbase : attributeBase o name X.env (eval o X.env) = eval o X.env := by rfl)
  (hfew : ((backTo cpos (starEach (e :: es) X.env)).all (fun x => !x.1) && (backToKw cpos (keywordEach [] X.env)).all (fun x => x.1.isSome)
   && decide ((e :: es).length + ([] : List Keyword).length + (if ([] : List Keyword).isEmpty then 0 else 1) < 30)) = true := by rfl)
  (hline : (apos.endLine == cpos.line) = true := by rfl) (hs : starEach (e :: es) X.env = (false, eval e X.env) :: starEach es X.env := by rfl) (hplain : (backTo cpos (starEach es X.env)).any (·.1) = false := by rfl) :
  PE X (.Call (.Attribute o name apos) (e :: es) [] cpos) (tBM X.K T r to t) := by
 intro pins s σ H Q I h
 refine wpAny_Call_method_late hbase hfew hline rfl (thn (ho pins s σ H _ I h) fun v s1 ⟨x, H1, I1, r1, ty, q1⟩ => ?_)
 obtain ⟨h1, h2⟩ := tyV_is I1 r1 ty
 refine ⟨T, id, pa, slot, hty, h1, h2, ?_⟩
 have hA := ha cpos pins s1 σ H1 _ I1 q1
 rw [hs] at hA ⊢
 refine Calls.callWith_builtin (by show (false || (backTo cpos (starEach es X.env)).any (·.1)) = false; rw [hplain] <;> rfl) (Calls.evalArgs_plain ?_)
 exact thn hA fun us s2 ⟨vs, H2, I2, r2, q2⟩ => hm pins s2 σ H2 x vs v us Q I2 r1 r2 q2
end
end L2
namespace L2
open PySem PySem.Spec PyProof.Rows
noncomputable def MtM (X : Cx) (id : String) (r : V → List V → Hp → VK → Prop) : Prop :=
 ∀ (pins : List (Addr × Obj)) (s : Shared) (σ : St) (H : Hp) (x : V) (xs : List V) (v : Value) (us : List Value) (Q : VK), Inv X pins σ H s → RelV x v → Vals xs us → r x xs H Q →
  wpAny (model X.prog X.w) X.A (call (.builtin id) (v :: us)) (EP X pins σ Q) X.xe s
theorem Vals.one : ∀ {x : V} {us : List Value}, Vals [x] us → ∃ u, us = [u] ∧ RelV x u
 | _, _, .cons r .nil => ⟨_, rfl, r⟩
theorem Vals.rep {xs : List V} {us : List Value} (h : Vals xs us) : ∀ k : Nat, Vals (List.replicate k xs).flatten (List.replicate k us).flatten
 | 0 => .nil
 | k + 1 => by
  rw [List.replicate_succ, List.replicate_succ, List.flatten_cons, List.flatten_cons]
  exact Vals.append h (Vals.rep h k)
theorem ziR (its : List Value) : ∀ (k : Nat) (acc : List Value),
  List.foldl (fun x1 x2 => x1 ++ x2) acc.toArray (List.replicate k its.toArray) = (acc ++ (List.replicate k its).flatten).toArray
 | 0, acc => by simp
 | k + 1, acc => by
  have e : acc.toArray ++ its.toArray = (acc ++ its).toArray := by simp
  have e2 : (acc ++ its) ++ (List.replicate k its).flatten = acc ++ (List.replicate (k + 1) its).flatten := by
   rw [List.replicate_succ, List.flatten_cons, List.append_assoc]
  rw [← e2, ← ziR its k (acc ++ its), ← e, List.replicate_succ, List.foldl_cons]
section
variable {X : Cx} {pins : List (Addr × Obj)} {σ : St} {H : Hp} {s : Shared} {l b : Addr} {xs ys zs : List V}
theorem Inv.lset {its its' : List Value} {n : Nat} {f : Array Value → Array Value} {t' : Nat} (I : Inv X pins σ H s) (hH : H l = some (.lst xs))
  (e : s.heap.get? l = some { cls := .type "list", data := .seq its.toArray n }) (hf : f its.toArray = its'.toArray) (hv : Vals ys its') (hz : ys.length ≤ sizeLine) :
  Inv X pins σ (upd H l (.lst ys)) { s with heap := s.heap.update l (Obj.mapSeq f), toks := t' } := by
 have q := PySem.IsL.update e f
 rw [hf] at q
 refine I.write (x := l) (e := l) (by rw [hH]; exact trivial) (.inl rfl) (fun b' u hb hu => (Heap.get?_update_other s.heap (Obj.mapSeq f) (Ne.symm hb)).trans hu) ⟨_, q⟩ ?_
 exact ⟨hz, its', _, hv, q⟩
theorem Inv.lnew {its : List Value} {t' : Nat} (I : Inv X pins σ H s) (hv : Vals ys its) (hz : ys.length ≤ sizeLine) :
  Inv X pins σ (upd H s.heap.objs.size (.lst ys)) { s with heap := s.heap.push { cls := .type "list", data := .seq its.toArray }, toks := t' } :=
 I.laid (fun _ _ q => Heap.get?_push_of_some _ q) (Nat.le_refl _) ⟨hz, its, 0, hv, Heap.get?_push_size _ rfl⟩
theorem Inv.fresh (I : Inv X pins σ H s) : H s.heap.objs.size = none := I.hok.fresh (Nat.le_refl _)
theorem Inv.lstM (I : Inv X pins σ H s) (hH : H l = some (.lst xs)) : xs.length ≤ sizeLine ∧ ∃ (its : List Value) (n : Nat), Vals xs its ∧ xs.length = its.length ∧ s.heap.get? l = some { cls := .type "list", data := .seq its.toArray n } := by
 obtain ⟨z, its, n, r, e⟩ := I.hok l _ hH
 exact ⟨z, its, n, r, r.length, e⟩
theorem zkA {n : Nat} (h : n ≤ sizeLine) : Builtin.List.listTooLong n = false := by
 unfold Builtin.List.listTooLong
 exact decide_eq_false (by omega)
end
section
variable {X : Cx}
noncomputable def rAppend : V → List V → Hp → VK → Prop := fun x vs H Q => ∃ l xs y, x = .ref l ∧ vs = [y] ∧ H l = some (.lst xs) ∧ xs.length < sizeLine ∧ Q .non (upd H l (.lst (xs ++ [y])))
theorem ziX : MtM X "list.append" rAppend := by
 intro pins s σ H x vs v us Q I rx rv h
 obtain ⟨l, xs, y, rfl, rfl, hH, hz, q⟩ := h
 cases rx
 obtain ⟨u, rfl, ru⟩ := rv.one
 obtain ⟨z, its, n, r, hl, e⟩ := I.lstM hH
 refine call_meets F.slot_list_append ⟨_, e, rfl⟩ F.entry_list_append (F.args_list_append_2 _ _) (PySem.list_append l its.toArray n u (by rw [List.size_toArray]; omega)) ⟨e, ?_⟩
 refine ⟨.non, _, I.lset (its' := its ++ [u]) hH e (by simp) (r.append (.cons ru .nil)) ?_, rfl, q⟩
 rw [List.length_append, List.length_singleton]
 omega
noncomputable def rExtend : V → List V → Hp → VK → Prop := fun x vs H Q => ∃ l b xs zs, x = .ref l ∧ vs = [.ref b] ∧ H l = some (.lst xs) ∧ H b = some (.lst zs) ∧ xs.length + zs.length ≤ sizeLine ∧ Q .non (upd H l (.lst (xs ++ zs)))
theorem mt_extend : MtM X "list.extend" rExtend := by
 intro pins s σ H x vs v us Q I rx rv h
 obtain ⟨l, b, xs, zs, rfl, rfl, hH, hB, hz, q⟩ := h
 cases rx
 obtain ⟨u, rfl, ru⟩ := rv.one
 cases ru
 obtain ⟨z, its, n, r, hl, e⟩ := I.lstM hH
 obtain ⟨z2, its2, n2, r2, hl2, e2⟩ := I.lstM hB
 have hsz : its.toArray.size + its2.toArray.size ≤ sizeLine := by rw [List.size_toArray, List.size_toArray]; omega
 have hlong : ¬ (!its.toArray.isEmpty && Builtin.List.listTooLong (its.toArray.size + its2.toArray.size)) = true := by
  rw [zkA hsz, Bool.and_false]
  exact Bool.false_ne_true
 refine call_meets F.slot_list_extend ⟨_, e, rfl⟩ F.entry_list_extend (F.args_list_extend_2 _ _)
  (AutoSeq1.list_extend_list_list_0 l its.toArray n b its2.toArray n2 hlong (by rw [List.size_toArray]; omega) (by omega)) ⟨e, e2, ?_⟩
 refine ⟨.non, _, I.lset (its' := its ++ its2) hH e (by simp) (r.append r2) ?_, rfl, q⟩
 rw [List.length_append]
 omega
noncomputable def rCat : R2 := fun x y H Q => ∃ l b xs zs, x = .ref l ∧ y = .ref b ∧ H l = some (.lst xs) ∧ H b = some (.lst zs) ∧ xs.length + zs.length ≤ sizeLine ∧ ∀ p, H p = none → Q (.ref p) (upd H p (.lst (xs ++ zs)))
theorem op_cat : OpR X (binaryOp .Add) rCat := by
 intro pins s σ H x y v u Q I rx ry h
 obtain ⟨l, b, xs, zs, rfl, rfl, hH, hB, hz, q⟩ := h
 cases rx
 cases ry
 obtain ⟨z, its, n, r, hl, e⟩ := I.lstM hH
 obtain ⟨z2, its2, n2, r2, hl2, e2⟩ := I.lstM hB
 refine PySem.P.add_list e e2 ?_ (by rw [List.size_toArray, List.size_toArray]; omega)
 have ea : its.toArray ++ its2.toArray = (its ++ its2).toArray := by simp
 rw [ea]
 exact ⟨.ref _, _, I.lnew (t' := s.toks) (r.append r2) (by rw [List.length_append]; omega), rfl, q _ I.fresh⟩
noncomputable def rRep : R2 := fun x y H Q => ∃ l k xs, x = .ref l ∧ y = .int k ∧ H l = some (.lst xs) ∧ -(2 ^ 63) ≤ k ∧ k < 2 ^ 63 ∧ xs.length * k.toNat ≤ sizeLine ∧
 ∀ p, H p = none → Q (.ref p) (upd H p (.lst (List.replicate k.toNat xs).flatten))
theorem len_rep {α : Type} (xs : List α) (k : Nat) : (List.replicate k xs).flatten.length = k * xs.length := by
 induction k with
 | zero => simp
 | succ k ih => rw [List.replicate_succ, List.flatten_cons, List.length_append, ih, Nat.succ_mul, Nat.add_comm]
theorem op_rep : OpR X (binaryOp .Mult) rRep := by
 intro pins s σ H x y v u Q I rx ry h
 obtain ⟨l, k, xs, rfl, rfl, hH, h1, h2, hz, q⟩ := h
 cases rx
 obtain ⟨t, rfl⟩ := ry
 obtain ⟨z, its, n, r, hl, e⟩ := I.lstM hH
 have hlen : its.toArray.size * k.toNat ≤ sizeLine := by rw [List.size_toArray, ← hl]; exact hz
 have hcap : ¬ its.toArray.size * k.toNat > (2 ^ 63 - 1) / 8 := by
  have : (sizeLine : Nat) ≤ (2 ^ 63 - 1) / 8 := by decide
  omega
 have hfit : ¬ (!Builtin.List.listFitsIndex k) = true := by
  rw [fitsIndex_both h1 h2]
  exact Bool.false_ne_true
 have hlong : ¬ Builtin.List.listTooLong (its.toArray.size * k.toNat) = true := by
  rw [zkA hlen]
  exact Bool.false_ne_true
 have hnew : List.foldl (fun x1 x2 => x1 ++ x2) #[] (List.replicate (if its.toArray.isEmpty = true then 0 else k.toNat) its.toArray) = (List.replicate k.toNat its).flatten.toArray := by
  have f0 : ∀ m : Nat, List.foldl (fun x1 x2 => x1 ++ x2) #[] (List.replicate m its.toArray) = (List.replicate m its).flatten.toArray := fun m => by
   have := ziR its m []
   rw [List.nil_append] at this
   exact this
  rw [f0]
  cases its with
  | nil => simp
  | cons a r' => rw [if_neg (by simp)]
 refine wpAny_binaryOp_repeat_ref (T := "list") (U := "int") (by decide) ⟨_, e, rfl⟩ (fun s' => typeIs_int s' k t) noFill_list_mul F.fills_int_mul F.slot_int_rmul repeat_list F.slot_int_index.lookup
  (call_meets F.slot_int_rmul (typeIs_int s k t) F.entry_int_rmul (F.args_int_rmul_2 _ _) (int___rmul___int_list k t l its.toArray n)
   ⟨e, rfl, ⟨_, e, rfl⟩, call_meets F.slot_list_mul ⟨_, e, rfl⟩ F.entry_list_mul (F.args_list_mul_2 _ _) (AutoListH.list___mul___list_int_3 l its.toArray n k t hfit hcap hlong) ⟨e, ?_⟩⟩)
 rw [hnew]
 exact ⟨.ref _, _, I.lnew (t' := s.toks) (r.rep k.toNat) (by rw [len_rep, Nat.mul_comm]; exact hz), rfl, q _ I.fresh⟩
end
section
variable {prog : Program} {w : World} {A : Around} {E : Value → Shared → Prop} {s : Shared}
end
section
variable {X : Cx}
end
end L2
namespace Att
open PySem PySem.W PySem.Calls PyProof.Rows
theorem zgS {P : Params} {h : Heap} : ∀ (ns : List Int) (vs : List Value), WellAll P h vs (ns.map WData.int) → IntsAre vs ns := by
 intro ns
 induction ns with
 | nil =>
  intro vs w
  rw [List.map_nil] at w
  cases w
  exact .nil
 | cons n ns ih =>
  intro vs w
  rw [List.map_cons] at w
  cases w with
  | cons a b =>
   cases a
   exact .cons _ _ (ih _ b)
theorem zlZ {l : OpenLaw} {n : Nat} (hn : l.most = some n) {P : Params} {h : Heap} {args : List WData} {vals : List Value}
  (hpre : l.row.toRowW.claim.pre args = true) (hwl : WellAll P h vals args) :
  ∃ a vs ns, vals = [Value.ref a] ∧ args = [WData.list (ns.map WData.int)] ∧ h.get? a = some { cls := .type "list", data := .seq vs.toArray } ∧ IntsAre vs ns ∧ ns.length ≤ n := by
 have hsh : WShape.hasAll [] args [.list .int] = true := (pre_splitW hpre).1
 have hc : l.pre.holds [] { args := args } = true := (pre_splitW hpre).2
 obtain ⟨d, r, rfl, h1, h2⟩ := hasAllW_cons hsh
 obtain rfl := hasAllW_nil h2
 obtain ⟨xs, rfl, h3⟩ := hasW_list h1
 obtain ⟨ns, rfl⟩ := items_int h3
 have hlen : ns.length ≤ n := by
  unfold OpenLaw.pre at hc
  have h4 : (WTm.not (.lt (.lit (.int (n : Int))) (.len (.arg 0)))).holds [] { args := [.list (ns.map .int)] } = true := by
   have h4 := (holds_andW hc).1
   rw [hn] at h4
   exact h4
  have h5 := condW_of h4 (w_not (w_lt w_lit (w_len_list (w_arg rfl))))
  rw [List.length_map] at h5
  refine Nat.le_of_not_lt fun q => ?_
  have q' : (n : Int) < ((ns.length : Nat) : Int) := by omega
  first
   | (rw [decide_eq_true q'] at h5; exact absurd h5 (by decide))
   | (simp at h5; omega)
 cases hwl with
 | cons w1 w2 =>
  cases w2
  cases w1 with
  | list ho hall => exact ⟨_, _, ns, rfl, rfl, ho, zgS ns _ hall, hlen⟩
theorem zlO (l : OpenLaw) (args : List WData) : l.row.toRowW.claim.post args (.bool true) args = true :=
 postW_of (r := l.row.toRowW) (X := (true == true))
  (show WShape.has [] (.bool true) .bool = true by first | rfl | decide | simp [WShape.has, WShape.arms, WShape.armsAll])
  (show (WTm.eq .res (.lit (.bool true))).value [] { args := args, res := some (.bool true), after := args } = some (.bool (true == true)) from w_eq_bool (w_res rfl) w_lit) rfl
theorem attach_call {l : OpenLaw} {n : Nat} {q : Program} {loose : List Str} {XP : (Str → Option Value) → Heap → Prop} {YP : World → Heap → Prop} {d : DefRec}
  (hn : l.most = some n) (hdf : d.params.defaults = [])
  (call : ∀ (w : World) (s₀ s₁ : Shared) (mg mb : Str → Option Value) (fa : Addr) (o : Obj) (pm cd doc : Value) (a : Addr) (vs : List Value) (ns : List Int),
   Ground q loose [] XP w s₀ mg mb s₁.heap → YP w s₁.heap →
   s₁.heap.get? fa = some o → o.data = .func (docDef d.name d.params d.body d.scope pm cd doc) → s₁.heap.CodeRec cd d.name → mg d.name = some (.ref fa) →
   s₁.heap.get? a = some { cls := .type "list", data := .seq vs.toArray } → IntsAre vs ns → ns.length ≤ n → s₁.gens = #[] →
   codeAny (model l.prog w) callerA (.call (.ref fa) ⟨[.ref a], []⟩) (fun r s' => r = .ok (.ret (.bool true)) ∧ OldK s₁.heap s'.heap ∧ s'.os = s₁.os ∧ AllBare s'.gens) s₁) :
  WalkO q loose XP YP l.row.toRowW d [] (fun f vs => PySem.call f vs) := by
 intro w s₀ s₁ mg mb G Y fa o pm cd doc dV kV ho hd hcd hD hmg hg args vals as hpre hlay hrd hwl hlo
 obtain rfl : dV = .none := Dflts.none hD hdf
 obtain rfl : kV = .none := Dflts.noKw hD
 obtain ⟨a, vs, ns, rfl, rfl, hobj, hints, hlen⟩ := zlZ hn hpre hwl
 refine enter_call (codeAny_mono (call w s₀ s₁ mg mb fa o pm cd doc a vs ns G Y ho (fd_plain hd) hcd hmg hobj hints hlen hg) fun r s' hq => ?_)
 obtain ⟨rfl, h2, h3, h4⟩ := hq
 exact ⟨.inl ⟨.bool true, .bool true, [], rfl, fun _ => rfl, .bool true, zlO l _, fun _ => ⟨List.Pairwise.nil, fun _ hm => (nomatch hm)⟩⟩, h2, h3, h4⟩
section
variable {prog : Program} {w : World} {A : Around} {E : Value → Shared → Prop} {s : Shared} {K : Frag}
end
end Att
namespace L2
open PySem PySem.Spec PyProof.Rows
theorem zjm : ∀ {vs : List Value} {ns : List Int}, IntsAre vs ns → Vals (ns.map V.int) vs
 | _, _, .nil => .nil
 | _, _, .cons n t h => .cons ⟨t, rfl⟩ (zjm h)
noncomputable def Only (H : Hp) : Prop := ∀ b, H b = none ∨ ∃ o xs, H b = some (.frz o (.lst xs))
theorem law_call {P : Program} {w : World} {K : W.Frag} {mg mb : Str → Option Value} {CX : CXT} {k : Nat} {fa a : Addr} {fd : FuncData} {x : Str} {sp : Sp} {s₁ : Shared} {vs : List Value} {ns : List Int}
  (KX : K.In s₁.heap) (hns : s₁.heap.Ns mainGlobals mg) (hb : s₁.heap.Ns builtinsNs mb) (hbb : ∀ x : Str, x ≠ "__name__" → mb x = bootBuiltins x) (hlim : s₁.heap.NoLimit) (hg : s₁.gens = #[])
  (ha : s₁.heap.get? a = some { cls := .type "list", data := .seq vs.toArray }) (hi : IntsAre vs ns) (hl : ns.length ≤ sizeLine) (hr : Room k callerA)
  (F : ∀ base : Heap, K.In base → base.Ns mainGlobals mg → FnOk P w K mg base CX k fa fd [x] sp) (hbind : ∀ (s : Shared) (u : Value), BindsTo s fd ⟨[u], []⟩ [(x, u)])
  (hsp : ∀ H : Hp, Only H → SqL K H a (ns.map V.int) → sp [.ref a] H (fun v _ => v = .bl true) fun _ _ _ => False)
  (hCX : ∀ H e s', CX [] H s₁ (fun _ _ _ => False) e s' → False) :
  codeAny (model P w) callerA (.call (.ref fa) ⟨[.ref a], []⟩) (fun r s' => r = .ok (.ret (.bool true)) ∧ OldK s₁.heap s'.heap ∧ s'.os = s₁.os ∧ AllBare s'.gens) s₁ := by
 have rv := zjm hi
 have lenV := hi.length
 have core : ∀ H : Hp, Only H → SqL K H a (ns.map V.int) → HOk P w H s₁.heap → (∀ b, H b ≠ none → b = a) → (H a ≠ none → K.lookup a = none) →
   codeAny (model P w) callerA (.call (.ref fa) ⟨[.ref a], []⟩) (fun r s' => r = .ok (.ret (.bool true)) ∧ OldK s₁.heap s'.heap ∧ s'.os = s₁.os ∧ AllBare s'.gens) s₁ := by
  intro H hO hS hok hA hK
  have base_of : ∀ {b : Addr} {o : Obj}, s₁.heap.get? b = some o → H b = none → (hidT s₁.heap H).get? b = some o := fun e n => hidT_get e n
  have noA : ∀ {b : Addr} {o : Obj} {es : Array DictEntry} {ep : Nat}, s₁.heap.get? b = some o → o.data = .dict es ep → H b = none := fun {b o es ep} e d => by
   cases q : H b with
   | none => rfl
   | some u =>
    have e' : b = a := hA b (by rw [q]; simp)
    subst e'
    rw [ha] at e; cases e
    have d' : Data.seq vs.toArray _ = Data.dict es ep := d
    cases d'
  have nsK : ∀ {b : Addr} {m : Str → Option Value}, s₁.heap.Ns b m → (hidT s₁.heap H).Ns b m := fun {b m} ⟨o, es, ep, e, d, r⟩ => ⟨o, es, ep, base_of e (noA e d), d, r⟩
  have hKb : K.In (hidT s₁.heap H) := fun b o e => base_of (KX b o e) (by
   cases q : H b with
   | none => rfl
   | some u =>
    have e' : b = a := hA b (by rw [q]; simp)
    subst e'
    rw [hK (by rw [q]; simp)] at e; cases e)
  have hM : Mod K mg (hidT s₁.heap H) := ⟨hKb, nsK hns, ⟨mb, nsK hb, hbb⟩, let ⟨mc, h1, h2⟩ := hlim; ⟨mc, nsK h1, h2⟩⟩
  have e0 : Env0 P w K mg (hidT s₁.heap H) callerA [] s₁ H := ⟨rfl, hM, fun b o e => of_hidT e, Nat.le_of_eq (zlR _ _), trivial, fun b hb => absurd (show b ∈ ([] : List Addr) from hb) (by simp), hok, .of_eq hg⟩
  refine codeAny_mono ((F _ hKb (nsK hns)).run callerA [] s₁ H ⟨[.ref a], []⟩ [.ref a] [.ref a] _ _ hr e0 (hbind s₁ (.ref a)) (.cons rfl .nil) (hsp H hO hS)) fun r s' h => ?_
  cases r with
  | error e => exact (hCX H e s' h).elim
  | ok fl =>
   cases fl with
   | next => exact False.elim h
   | brk => exact False.elim h
   | cont => exact False.elim h
   | ret u =>
    obtain ⟨v, H', os, bare, un, hok', r', q⟩ := h
    have q' : v = .bl true := q
    subst q'
    obtain rfl : u = Value.bool true := r'
    refine ⟨rfl, OldK.of_keep fun b o e => ?_, os, bare⟩
    cases q : H b with
    | none => exact un.keep b o e q (by intro z; exact absurd (show b ∈ ([] : List Addr) from z) (by simp)) (by simp)
    | some u =>
     rcases hO b with z | ⟨ob, xs, z⟩
     ·rw [q] at z; cases z
     ·have z2 := un.frzs b ob _ z
      obtain ⟨e1, _⟩ := hok b _ z
      obtain ⟨e2, _⟩ := hok' b _ z2
      rw [e] at e1; cases e1
      exact e2
 cases hk : K.lookup a with
 | some o =>
  have e := KX a o hk
  rw [ha] at e
  cases e
  refine core (fun _ => none) (fun _ => .inl rfl) (.inr ⟨_, vs.toArray, _, hk, rfl, rfl, rfl, by rw [List.size_toArray, lenV]; exact hl, by simpa using rv⟩) (fun b u z => by have z' : (none : Option HO) = some u := z; cases z') (fun b z => absurd rfl z) fun z => absurd rfl z
 | none =>
  refine core (fun b => if b = a then some (.frz { cls := .type "list", data := .seq vs.toArray } (.lst (ns.map V.int))) else none) (fun b => ?_) (.inl (.inr ⟨{ cls := .type "list", data := .seq vs.toArray }, if_pos rfl⟩)) (fun b u z => ?_) (fun b z => ?_) fun _ => hk
  ·by_cases hb : b = a
   ·exact .inr ⟨_, _, if_pos hb⟩
   ·exact .inl (if_neg hb)
  ·by_cases hb : b = a
   ·have z' := (if_pos hb).symm.trans z
    cases z'
    subst hb
    exact ⟨ha, by rw [List.length_map]; exact hl, vs, _, rv, ha⟩
   ·have z' := (if_neg hb).symm.trans z
    cases z'
  ·by_cases hb : b = a
   ·exact hb
   ·exact absurd (if_neg hb) z
end L2
namespace L2
open PySem PySem.Spec PyProof.Rows
theorem walk_of {l : W.OpenLaw} {n k : Nat} {q : Program} {loose : List Str} {XP : (Str → Option Value) → Heap → Prop} {YP : World → Heap → Prop} {d : DefRec} {K : Params → W.Frag} {CX : World → CXT} {sp : World → Sp} {x : Str}
  (hn : l.most = some n) (hn2 : n ≤ sizeLine) (hdf : d.params.defaults = []) (hr : Room k callerA)
  (hY : ∀ (w : World) (h : Heap), YP w h → (K w.params).In h)
  (F : ∀ (w : World) (mg : Str → Option Value) (fa : Addr) (h : Heap), (K w.params).In h → h.Ns mainGlobals mg → mg d.name = some (.ref fa) →
   ∃ fd : FuncData, (∀ (s : Shared) (u : Value), BindsTo s fd ⟨[u], []⟩ [(x, u)]) ∧
    ∀ base : Heap, (K w.params).In base → base.Ns mainGlobals mg → FnOk l.prog w (K w.params) mg base (CX w) k fa fd [x] (sp w))
  (hsp : ∀ (w : World) (H : Hp) (a : Addr) (ns : List Int), ns.length ≤ n → Only H → SqL (K w.params) H a (ns.map V.int) → sp w [.ref a] H (fun v _ => v = .bl true) fun _ _ _ => False)
  (hCX : ∀ (w : World) (H : Hp) (s : Shared) (e : Value) (s' : Shared), CX w [] H s (fun _ _ _ => False) e s' → False) :
  W.WalkO q loose XP YP l.row.toRowW d [] (fun f vs => PySem.call f vs) := by
 refine Att.attach_call hn hdf fun w s₀ s₁ mg mb fa o pm cd doc a vs ns G Y ho hd hcd hmg hobj hints hlen hg => ?_
 have KX := hY w _ Y
 obtain ⟨fd, hb, hF⟩ := F w mg fa _ KX G.T.g hmg
 exact law_call KX G.T.g G.T.b G.T.builtins G.T.nolimit hg hobj hints (Nat.le_trans hlen hn2) hr hF hb (fun H hO hS => hsp w H a ns hlen hO hS) fun H e s' => hCX w H s₁ e s'
end L2
namespace L2
open PySem PySem.Spec PyProof.Rows
noncomputable def zaB (s : Stmt) : Arguments := match s with
 | .FunctionDef _ a _ _ _ _ _ _ _ _ => a
 | _ => { posonlyargs := [], args := [], vararg := none, kwonlyargs := [], kw_defaults := [], kwarg := none, defaults := [] }
noncomputable def zao (s : Stmt) : List Stmt := match s with
 | .FunctionDef _ _ b _ _ _ _ _ _ _ => b
 | _ => []
noncomputable def zad (s : Stmt) : Scope := match s with
 | .FunctionDef _ _ _ _ _ _ sc _ _ _ => sc
 | _ => { kind := .function, names := [], isGenerator := false, isCoroutine := false }
noncomputable abbrev CX0 : CXT := fun _ _ _ _ _ _ => False
noncomputable abbrev E0 : XK := fun _ _ _ => False
theorem pass0 {X : Cx} : zmM CX0 X E0 := fun _ _ _ _ _ _ _ h => h.elim
structure Fun (K : W.Frag) (x qual : Str) (st : Stmt) (f : Addr) (fd : FuncData) : Prop where
 ex : ∃ (oc : Value) (od : Option Addr) (kV doc pm : Value) (an : Option Addr) (cdv ct : Value) (osl : Array (Option Value)),
  fd = W.fnOf x qual (zaB st) (zao st) (zad st) .none kV doc pm an cdv ct ∧ K.lookup f = some ⟨oc, od, .func fd, osl⟩ ∧ W.codeIn K cdv qual = true
 kp : W.keepIn K (.ref f) = true
section
variable {P : Program} {w : World} {K : W.Frag} {mg : Str → Option Value} {base : Heap}
theorem Fun.ok {x qual : Str} {st : Stmt} {f : Addr} {fd : FuncData} {N ps : List Str} {k : Nat} {sp : Sp} (F : Fun K x qual st f fd) (S : FnScope N ps (zad st)) (len : ∀ vs H Q E, sp vs H Q E → vs.length = ps.length)
  (hbody : ∀ (cdv : Value) (A : Around) (outer : List Env) (s : Shared) (H : Hp) (vs : List V) (Q : VK) (E : XK), Room k (A.deeper (envOfC qual (zad st) s.heap.objs.size f cdv)) → sp vs H Q E →
   ∃ t, PSs (cxOf CX0 P w K mg base N qual (zad st) f cdv A outer s H E).nox (zao st) t ∧ t { nx := fun _ H' => Q .non H', rt := Q } (start N vs) H) : FnOk P w K mg base CX0 (k + 1) f fd ps sp := by
 obtain ⟨oc, od, kV, doc, pm, an, cdv, ct, osl, rfl, lk, hcd⟩ := F.ex
 refine fn_of lk hcd S len fun A outer s H vs Q E hr hsp => ?_
 obtain ⟨t, h, q⟩ := hbody cdv A outer s H vs Q E hr hsp
 exact ⟨t, h.nox, q⟩
theorem Fun.binds {x qual : Str} {st : Stmt} {f : Addr} {fd : FuncData} {ps : List Str} (F : Fun K x qual st f fd)
  (h : ∀ (kV doc pm : Value) (an : Option Addr) (cdv ct : Value) (us : List Value), us.length = ps.length → bindArgs (W.fnOf x qual (zaB st) (zao st) (zad st) .none kV doc pm an cdv ct) ⟨us, []⟩ = pure (ps.zip us)) : Binds K fd ps [] := by
 obtain ⟨oc, od, kV, doc, pm, an, cdv, ct, osl, rfl, lk, hcd⟩ := F.ex
 exact .all (h kV doc pm an cdv ct)
theorem zbm {x qual : Str} {st : Stmt} {f : Addr} {oc : Value} {od an : Option Addr} {osl : Array (Option Value)} {kV doc pm cdv ct : Value} (l : K.lookup f = some ⟨oc, od, .func (W.fnOf x qual (zaB st) (zao st) (zad st) .none kV doc pm an cdv ct), osl⟩)
  (c : W.codeIn K cdv qual = true) (k : W.keepIn K (.ref f) = true) : Fun K x qual st f (W.fnOf x qual (zaB st) (zao st) (zad st) .none kV doc pm an cdv ct) := ⟨⟨oc, od, kV, doc, pm, an, cdv, ct, osl, rfl, l, c⟩, k⟩
end
section
variable {X : Cx}
end
noncomputable def Same (H H' : Hp) : Prop := ∀ b o, H b = some o → H' b = some o
theorem Same.seq {K : W.Frag} {H H' : Hp} {a : Addr} {xs : List V} (e : Same H H') (h : SqL K H a xs) : SqL K H' a xs := by
 rcases h with (h | ⟨o, h⟩) | h
 ·exact .inl (.inl (e _ _ h))
 ·exact .inl (.inr ⟨o, e _ _ h⟩)
 ·exact .inr h
end L2
namespace M
open PySem L2
inductive D where
 | non | bl (b : Bool) | int (i : Int) | str (x : Str) | lst (ds : List D) | tup (ds : List D) | scr (ns : List Int) | exc (c : Str)
noncomputable def ExcIs (a C : Addr) (h : Heap) : Prop := ∃ o, h.get? a = some o ∧ o.cls = .ref C
mutual
noncomputable def RepD (K : W.Frag) (G : Hp) (v : V) : D → Prop
 | .non => v = .non
 | .bl b => v = .bl b
 | .int i => v = .int i
 | .str x => v = .str x
 | .lst ds => ∃ a xs, v = .ref a ∧ G a = some (.lst xs) ∧ RepL K G xs ds
 | .tup ds => ∃ a xs, v = .ref a ∧ G a = some (.tup xs) ∧ RepL K G xs ds
 | .scr ns => ∃ a, v = .ref a ∧ SqL K G a (ns.map V.int)
 | .exc c => ∃ a C, v = .ref a ∧ W.nsIn K mainGlobals c = some (some (.ref C)) ∧ G a = some (.ext (ExcIs a C))
noncomputable def RepL (K : W.Frag) (G : Hp) (xs : List V) : List D → Prop
 | [] => xs = []
 | d :: ds => ∃ x ys, xs = x :: ys ∧ RepD K G x d ∧ RepL K G ys ds
end
noncomputable def Fz (G H : Hp) : Prop := ∀ a o, G a = some o → H a = some o
theorem Fz.refl (G : Hp) : Fz G G := fun _ _ h => h
theorem Fz.trans {A B C : Hp} (h : Fz A B) (k : Fz B C) : Fz A C := fun a o e => k a o (h a o e)
theorem Fz.free {G H : Hp} (h : Fz G H) {p : Addr} (e : H p = none) : G p = none := by
 cases q : G p with
 | none => rfl
 | some o => rw [h p o q] at e; cases e
theorem Fz.new {G : Hp} {p : Addr} (e : G p = none) (o : HO) : Fz G (upd G p o) := fun a u q => by
 rw [zaU (za1 q e)]; exact q
theorem Fz.upd2 {G H : Hp} (h : Fz G H) (p : Addr) (o : HO) : Fz (upd G p o) (upd H p o) := fun a u q => by
 by_cases e : a = p
 ·subst e; rw [za4] at q ⊢; exact q
 ·rw [zaU e] at q ⊢; exact h a u q
theorem Fz.right {G H : Hp} (h : Fz G H) {p : Addr} (e : G p = none) (o : HO) : Fz G (upd H p o) := fun a u q => by
 rw [zaU (za1 q e)]; exact h a u q
theorem Fz.sql {K : W.Frag} {G H : Hp} (h : Fz G H) {a : Addr} {xs : List V} (q : SqL K G a xs) : SqL K H a xs := Same.seq (H := G) (H' := H) h q
mutual
theorem RepD.mono {K : W.Frag} {G G' : Hp} (h : Fz G G') : ∀ {v : V} {d : D}, RepD K G v d → RepD K G' v d
 | _, .non, e => e
 | _, .bl _, e => e
 | _, .int _, e => e
 | _, .str _, e => e
 | _, .lst _, ⟨a, xs, e, q, r⟩ => ⟨a, xs, e, h a _ q, RepL.mono h r⟩
 | _, .tup _, ⟨a, xs, e, q, r⟩ => ⟨a, xs, e, h a _ q, RepL.mono h r⟩
 | _, .scr _, ⟨a, e, q⟩ => ⟨a, e, h.sql q⟩
 | _, .exc _, ⟨a, C, e, n, q⟩ => ⟨a, C, e, n, h a _ q⟩
theorem RepL.mono {K : W.Frag} {G G' : Hp} (h : Fz G G') : ∀ {xs : List V} {ds : List D}, RepL K G xs ds → RepL K G' xs ds
 | _, [], e => e
 | _, _ :: _, ⟨x, ys, e, q, r⟩ => ⟨x, ys, e, RepD.mono h q, RepL.mono h r⟩
end
section
variable {K : W.Frag} {G : Hp}
theorem RepL.nil : RepL K G [] [] := rfl
theorem RepL.cons {x : V} {xs : List V} {d : D} {ds : List D} (h : RepD K G x d) (t : RepL K G xs ds) : RepL K G (x :: xs) (d :: ds) := ⟨x, xs, rfl, h, t⟩
theorem RepL.length : ∀ {xs : List V} {ds : List D}, RepL K G xs ds → xs.length = ds.length
 | _, [], e => by cases e; rfl
 | _, _ :: _, ⟨x, ys, e, _, r⟩ => by subst e; rw [List.length_cons, List.length_cons, RepL.length r]
theorem RepL.get : ∀ {xs : List V} {ds : List D} {i : Nat} {d : D}, RepL K G xs ds → ds[i]? = some d → ∃ x, xs[i]? = some x ∧ RepD K G x d
 | _, [], _, _, _, h => by simp at h
 | _, _ :: _, 0, _, ⟨x, ys, e, q, r⟩, h => by subst e; simp at h; subst h; exact ⟨x, rfl, q⟩
 | _, _ :: _, i + 1, _, ⟨x, ys, e, q, r⟩, h => by
  subst e
  obtain ⟨y, h1, h2⟩ := RepL.get (i := i) r (by simpa using h)
  exact ⟨y, by simpa using h1, h2⟩
theorem RepL.append : ∀ {xs ys : List V} {ds es : List D}, RepL K G xs ds → RepL K G ys es → RepL K G (xs ++ ys) (ds ++ es)
 | _, _, [], _, e, r => by cases e; exact r
 | _, _, _ :: _, _, ⟨x, zs, e, q, r⟩, s => by subst e; exact ⟨x, zs ++ _, rfl, q, RepL.append r s⟩
theorem RepL.snoc {xs : List V} {ds : List D} {x : V} {d : D} (h : RepL K G xs ds) (q : RepD K G x d) : RepL K G (xs ++ [x]) (ds ++ [d]) := h.append (.cons q .nil)
theorem RepL.take : ∀ {xs : List V} {ds : List D} (n : Nat), RepL K G xs ds → RepL K G (xs.take n) (ds.take n)
 | _, _, 0, _ => by simp; exact .nil
 | _, [], n + 1, e => by cases e; exact .nil
 | _, _ :: _, n + 1, ⟨x, zs, e, q, r⟩ => by subst e; exact ⟨x, zs.take n, rfl, q, RepL.take n r⟩
theorem RepL.drop : ∀ {xs : List V} {ds : List D} (n : Nat), RepL K G xs ds → RepL K G (xs.drop n) (ds.drop n)
 | _, _, 0, r => by simpa using r
 | _, [], n + 1, e => by cases e; exact .nil
 | _, _ :: _, n + 1, ⟨x, zs, e, q, r⟩ => by subst e; exact RepL.drop n r
theorem RepL.set : ∀ {xs : List V} {ds : List D} (i : Nat) {x : V} {d : D}, RepL K G xs ds → RepD K G x d → RepL K G (xs.set i x) (ds.set i d)
 | _, [], _, _, _, e, _ => by cases e; exact .nil
 | _, _ :: _, 0, _, _, ⟨x, zs, e, q, r⟩, h => by subst e; exact ⟨_, zs, rfl, h, r⟩
 | _, _ :: _, i + 1, _, _, ⟨x, zs, e, q, r⟩, h => by subst e; exact ⟨x, _, rfl, q, RepL.set i r h⟩
theorem RepL.rep {xs : List V} {ds : List D} (h : RepL K G xs ds) : ∀ k : Nat, RepL K G (List.replicate k xs).flatten (List.replicate k ds).flatten
 | 0 => .nil
 | k + 1 => by rw [List.replicate_succ, List.replicate_succ, List.flatten_cons, List.flatten_cons]; exact h.append (RepL.rep h k)
theorem RepL.ints : ∀ (ns : List Int), RepL K G (ns.map V.int) (ns.map D.int)
 | [] => .nil
 | n :: ns => ⟨.int n, ns.map V.int, rfl, rfl, RepL.ints ns⟩
theorem RepL.ints_eq : ∀ {ns : List Int} {xs : List V}, RepL K G xs (ns.map D.int) → xs = ns.map V.int
 | [], _, e => e
 | n :: ns, _, ⟨x, ys, e, q, r⟩ => by subst e; cases (show x = V.int n from q); rw [RepL.ints_eq r]; rfl
theorem RepL.at {xs : List V} {ds : List D} {i : Int} {d : D} (h : RepL K G xs ds) (e : atI ds i = some d) : ∃ x, atI xs i = some x ∧ RepD K G x d := by
 unfold atI at e ⊢
 rw [h.length]
 cases q : ixN ds.length i with
 | none => rw [q] at e; cases e
 | some j => rw [q] at e; exact h.get e
end
inductive Sl where
 | emp | val (d : D) | own (ds : List D) | par (ds : List D) | two (ds es : List D)
noncomputable abbrev R := List Sl
noncomputable def Sl.items : Sl → Option (List D)
 | .own ds => some ds
 | .par ds => some ds
 | _ => none
structure Bs where
 G : Hp
 H : Hp
 O : List (Nat × Addr)
noncomputable def SlotOk (K : W.Frag) (B : Bs) (G H : Hp) (i : Nat) (ov : Option (Option V)) : Sl → Prop
 | .emp => True
 | .two _ _ => True
 | .val d => ∃ v, ov = some (some v) ∧ RepD K G v d
 | .own ds => ∃ l xs, ov = some (some (.ref l)) ∧ G l = none ∧ H l = some (.lst xs) ∧ RepL K G xs ds ∧ B.H l = none
 | .par ds => ∃ l xs, ov = some (some (.ref l)) ∧ G l = none ∧ H l = some (.lst xs) ∧ RepL K G xs ds ∧ (i, l) ∈ B.O
noncomputable def Wr (ρ : R) (i : Nat) : Prop := ∃ s ds, ρ[i]? = some s ∧ s.items = some ds
structure SI (K : W.Frag) (B : Bs) (G H : Hp) (σ : St) (ρ : R) : Prop where
 fz : Fz G H
 g0 : Fz B.G G
 new : ∀ b o, G b = some o → B.G b ≠ none ∨ B.H b = none
 keep : ∀ b o, B.H b = some o → (∀ i, (i, b) ∉ B.O) → H b = some o
 there : ∀ b, H b = none → B.H b = none
 len : σ.length = ρ.length
 slot : ∀ i s, ρ[i]? = some s → SlotOk K B G H i σ[i]? s
 dis : ∀ i j, i ≠ j → Wr ρ i → Wr ρ j → σ[i]? ≠ σ[j]?
section
variable {K : W.Frag} {B : Bs} {G G' H H' : Hp} {σ : St} {ρ : R}
theorem SlotOk.mono {i : Nat} {ov : Option (Option V)} {s : Sl} (h : SlotOk K B G H i ov s) (hg : Fz G G') (hw : ∀ l xs, H l = some (.lst xs) → G l = none → s.items ≠ none → ov = some (some (.ref l)) → G' l = none ∧ H' l = some (.lst xs)) : SlotOk K B G' H' i ov s := by
 cases s with
 | emp => trivial
 | two _ _ => trivial
 | val d => obtain ⟨v, e, r⟩ := h; exact ⟨v, e, r.mono hg⟩
 | own ds =>
  obtain ⟨l, xs, e, g, k, r, n⟩ := h
  obtain ⟨h1, h2⟩ := hw l xs k g (by simp [Sl.items]) e
  exact ⟨l, xs, e, h1, h2, r.mono hg, n⟩
 | par ds =>
  obtain ⟨l, xs, e, g, k, r, n⟩ := h
  obtain ⟨h1, h2⟩ := hw l xs k g (by simp [Sl.items]) e
  exact ⟨l, xs, e, h1, h2, r.mono hg, n⟩
theorem SI.allocF (I : SI K B G H σ ρ) {p : Addr} (hp : H p = none) (o : HO) : SI K B (upd G p o) (upd H p o) σ ρ where
 fz := I.fz.upd2 p o
 g0 := I.g0.trans (Fz.new (I.fz.free hp) o)
 new := fun b u e => by
  by_cases q : b = p
  ·subst q; exact .inr (I.there b hp)
  ·rw [zaU q] at e; exact I.new b u e
 keep := fun b u e n => by
  have q := I.keep b u e n
  rw [zaU (za1 q hp)]; exact q
 there := fun b e => by
  by_cases q : b = p
  ·subst q; rw [za4] at e; cases e
  ·rw [zaU q] at e; exact I.there b e
 len := I.len
 slot := fun i s e => (I.slot i s e).mono (Fz.new (I.fz.free hp) o) fun l xs h g _ _ => by
  have q := za1 h hp
  rw [zaU q, zaU q]; exact ⟨g, h⟩
 dis := I.dis
theorem SI.allocO (I : SI K B G H σ ρ) {p : Addr} (hp : H p = none) (o : HO) : SI K B G (upd H p o) σ ρ where
 fz := I.fz.right (I.fz.free hp) o
 g0 := I.g0
 new := I.new
 keep := fun b u e n => by
  have q := I.keep b u e n
  rw [zaU (za1 q hp)]; exact q
 there := fun b e => by
  by_cases q : b = p
  ·subst q; rw [za4] at e; cases e
  ·rw [zaU q] at e; exact I.there b e
 len := I.len
 slot := fun i s e => (I.slot i s e).mono (Fz.refl G) fun l xs h g _ _ => by
  have q := za1 h hp
  rw [zaU q]; exact ⟨g, h⟩
 dis := I.dis
theorem SI.frz (I : SI K B G H σ ρ) {l : Addr} {o : HO} (hl : H l = some o) (hB : B.H l = none) (hn : ∀ i, Wr ρ i → σ[i]? ≠ some (some (.ref l))) (hg : G l = none) : SI K B (upd G l o) H σ ρ where
 fz := fun a u q => by
  by_cases e : a = l
  ·subst e; rw [za4] at q; cases q; exact hl
  ·rw [zaU e] at q; exact I.fz a u q
 g0 := I.g0.trans (Fz.new hg o)
 new := fun b u e => by
  by_cases q : b = l
  ·subst q; exact .inr hB
  ·rw [zaU q] at e; exact I.new b u e
 keep := I.keep
 there := I.there
 len := I.len
 slot := fun i s e => (I.slot i s e).mono (Fz.new hg o) fun a xs h g w ov => by
  refine ⟨?_, h⟩
  rw [zaU (fun z => ?_)]
  ·exact g
  ·subst z
   cases q : s.items with
   | none => exact w q
   | some ds => exact hn i ⟨s, ds, e, q⟩ ov
 dis := I.dis
theorem Wr.set {i j : Nat} {s : Sl} (h : Wr (ρ.set i s) j) : (j = i ∧ s.items ≠ none) ∨ (j ≠ i ∧ Wr ρ j) := by
 obtain ⟨t, ds, e, q⟩ := h
 by_cases z : j = i
 ·subst z
  rw [List.getElem?_set] at e
  simp only [if_true] at e
  split at e
  ·cases e; exact .inl ⟨rfl, by rw [q]; simp⟩
  ·cases e
 ·rw [List.getElem?_set_ne (Ne.symm z)] at e
  exact .inr ⟨z, t, ds, e, q⟩
theorem SI.set (I : SI K B G H σ ρ) {i : Nat} {v : V} {d : D} (h : RepD K G v d) : SI K B G H (σ.set i (some v)) (ρ.set i (.val d)) where
 fz := I.fz
 g0 := I.g0
 new := I.new
 keep := I.keep
 there := I.there
 len := by rw [List.length_set, List.length_set]; exact I.len
 slot := fun j s e => by
  by_cases z : j = i
  ·subst z
   rw [List.getElem?_set] at e ⊢
   simp only [if_true] at e ⊢
   split at e
   ·rename_i hj
    cases e
    rw [if_pos (by rw [I.len]; exact hj)]
    exact ⟨v, rfl, h⟩
   ·cases e
  ·rw [List.getElem?_set_ne (Ne.symm z)] at e ⊢
   exact I.slot j s e
 dis := fun j k hjk hj hk => by
  rcases hj.set with ⟨_, h1⟩ | ⟨h1, w1⟩
  ·exact absurd rfl h1
  rcases hk.set with ⟨_, h2⟩ | ⟨h2, w2⟩
  ·exact absurd rfl h2
  rw [List.getElem?_set_ne (Ne.symm h1), List.getElem?_set_ne (Ne.symm h2)]
  exact I.dis j k hjk w1 w2
theorem SI.setO (I : SI K B G H σ ρ) {i : Nat} {l : Addr} {xs : List V} {ds : List D} (hg : G l = none) (hl : H l = some (.lst xs)) (h : RepL K G xs ds) (hB : B.H l = none) (hn : ∀ j, Wr ρ j → σ[j]? ≠ some (some (.ref l))) :
  SI K B G H (σ.set i (some (.ref l))) (ρ.set i (.own ds)) where
 fz := I.fz
 g0 := I.g0
 new := I.new
 keep := I.keep
 there := I.there
 len := by rw [List.length_set, List.length_set]; exact I.len
 slot := fun j s e => by
  by_cases z : j = i
  ·subst z
   rw [List.getElem?_set] at e ⊢
   simp only [if_true] at e ⊢
   split at e
   ·rename_i hj
    cases e
    rw [if_pos (by rw [I.len]; exact hj)]
    exact ⟨l, xs, rfl, hg, hl, h, hB⟩
   ·cases e
  ·rw [List.getElem?_set_ne (Ne.symm z)] at e ⊢
   exact I.slot j s e
 dis := fun j k hjk hj hk => by
  have there : ∀ m, Wr (ρ.set i (.own ds)) m → m = i → (σ.set i (some (.ref l)))[m]? = some (some (.ref l)) := fun m hm z => by
   subst z
   obtain ⟨t, es, e, _⟩ := hm
   rw [List.getElem?_set] at e ⊢
   simp only [if_true] at e ⊢
   split at e
   ·rename_i q; rw [if_pos (by rw [I.len]; exact q)]
   ·cases e
  rcases hj.set with ⟨h1, _⟩ | ⟨h1, w1⟩
  ·rcases hk.set with ⟨h2, _⟩ | ⟨h2, w2⟩
   ·exact absurd (h1.trans h2.symm) hjk
   ·rw [there j hj h1, List.getElem?_set_ne (Ne.symm h2)]
    exact (hn k w2).symm
  ·rcases hk.set with ⟨h2, _⟩ | ⟨h2, w2⟩
   ·rw [there k hk h2, List.getElem?_set_ne (Ne.symm h1)]
    exact hn j w1
   ·rw [List.getElem?_set_ne (Ne.symm h1), List.getElem?_set_ne (Ne.symm h2)]
    exact I.dis j k hjk w1 w2
theorem SI.wr (I : SI K B G H σ ρ) {i : Nat} {s : Sl} {ds : List D} (e : ρ[i]? = some s) (q : s.items = some ds) : ∃ l xs, σ[i]? = some (some (.ref l)) ∧ G l = none ∧ H l = some (.lst xs) ∧ RepL K G xs ds := by
 have h := I.slot i s e
 cases s with
 | emp => cases q
 | two _ _ => cases q
 | val d => cases q
 | own es => cases q; obtain ⟨l, xs, h1, h2, h3, h4, _⟩ := h; exact ⟨l, xs, h1, h2, h3, h4⟩
 | par es => cases q; obtain ⟨l, xs, h1, h2, h3, h4, _⟩ := h; exact ⟨l, xs, h1, h2, h3, h4⟩
noncomputable def Sl.put (s : Sl) (ds : List D) : Sl := match s with
 | .own _ => .own ds
 | .par _ => .par ds
 | s => s
theorem SI.write (I : SI K B G H σ ρ) {i : Nat} {s : Sl} {ds es : List D} {l : Addr} {ys : List V} (e : ρ[i]? = some s) (q : s.items = some ds) (hl : σ[i]? = some (some (.ref l))) (h : RepL K G ys es) :
  SI K B G (upd H l (.lst ys)) σ (ρ.set i (s.put es)) := by
 obtain ⟨l', xs, e1, e2, e3, e4⟩ := I.wr e q
 rw [hl] at e1; cases e1
 have hi : i < ρ.length := (List.getElem?_eq_some_iff.mp e).1
 have wi : Wr ρ i := ⟨s, ds, e, q⟩
 have ne : ∀ b o, B.H b = some o → (∀ i, (i, b) ∉ B.O) → b ≠ l := fun b o h1 h2 z => by
  subst z
  have h := I.slot i s e
  cases s with
  | emp => cases q
  | two _ _ => cases q
  | val d => cases q
  | own es => obtain ⟨l', xs, k1, k2, k3, k4, k5⟩ := h; rw [hl] at k1; cases k1; rw [h1] at k5; cases k5
  | par es => obtain ⟨l', xs, k1, k2, k3, k4, k5⟩ := h; rw [hl] at k1; cases k1; exact h2 i k5
 refine ⟨I.fz.right e2 _, I.g0, I.new, fun b o h1 h2 => by rw [zaU (ne b o h1 h2)]; exact I.keep b o h1 h2, fun b z => ?_, by rw [List.length_set]; exact I.len, fun j t ej => ?_, fun j k hjk hj hk => ?_⟩
 ·by_cases w : b = l
  ·subst w; rw [za4] at z; cases z
  ·rw [zaU w] at z; exact I.there b z
 ·by_cases z : j = i
  ·subst z
   rw [List.getElem?_set, if_pos rfl, if_pos hi] at ej
   cases ej
   have h' := I.slot j s e
   cases s with
   | emp => cases q
   | two _ _ => cases q
   | val d => cases q
   | own es' => obtain ⟨l', xs', k1, k2, k3, k4, k5⟩ := h'; rw [hl] at k1; cases k1; exact ⟨_, ys, hl, k2, za4, h, k5⟩
   | par es' => obtain ⟨l', xs', k1, k2, k3, k4, k5⟩ := h'; rw [hl] at k1; cases k1; exact ⟨_, ys, hl, k2, za4, h, k5⟩
  ·rw [List.getElem?_set_ne (Ne.symm z)] at ej
   refine (I.slot j t ej).mono (Fz.refl G) fun a zs ha hg hw ov => ⟨hg, ?_⟩
   rw [zaU (fun w => ?_)]
   ·exact ha
   ·subst w
    cases qt : t.items with
    | none => exact hw qt
    | some fs => exact I.dis j i z ⟨t, fs, ej, qt⟩ wi (ov.trans hl.symm)
 ·have conv : ∀ m, Wr (ρ.set i (s.put es)) m → Wr ρ m := fun m hm => by
   rcases hm.set with ⟨z, _⟩ | ⟨_, w⟩
   ·subst z; exact wi
   ·exact w
  exact I.dis j k hjk (conv j hj) (conv k hk)
theorem SI.freeze (I : SI K B G H σ ρ) {i : Nat} {ds : List D} (e : ρ[i]? = some (.own ds)) : ∃ l xs, σ[i]? = some (some (.ref l)) ∧ Fz G (upd G l (.lst xs)) ∧ RepD K (upd G l (.lst xs)) (.ref l) (.lst ds) ∧
  SI K B (upd G l (.lst xs)) H σ (ρ.set i (.val (.lst ds))) := by
 obtain ⟨l, xs, h1, h2, h3, h4, h5⟩ := I.slot i _ e
 have hi : i < ρ.length := (List.getElem?_eq_some_iff.mp e).1
 have fz := Fz.new h2 (.lst xs)
 have rep : RepD K (upd G l (.lst xs)) (.ref l) (.lst ds) := ⟨l, xs, rfl, za4, h4.mono fz⟩
 refine ⟨l, xs, h1, fz, rep, ?_⟩
 have wi : Wr ρ i := ⟨_, ds, e, rfl⟩
 refine ⟨fun a u q => ?_, I.g0.trans fz, fun b u q => ?_, I.keep, I.there, by rw [List.length_set]; exact I.len, fun j t ej => ?_, fun j k hjk hj hk => ?_⟩
 ·by_cases z : a = l
  ·subst z; rw [za4] at q; cases q; exact h3
  ·rw [zaU z] at q; exact I.fz a u q
 ·by_cases z : b = l
  ·subst z; exact .inr h5
  ·rw [zaU z] at q; exact I.new b u q
 ·by_cases z : j = i
  ·subst z
   rw [List.getElem?_set, if_pos rfl, if_pos hi] at ej
   cases ej
   exact ⟨.ref l, h1, rep⟩
  ·rw [List.getElem?_set_ne (Ne.symm z)] at ej
   refine (I.slot j t ej).mono fz fun a zs ha hg hw ov => ⟨?_, ha⟩
   rw [zaU (fun w => ?_)]
   ·exact hg
   ·subst w
    cases qt : t.items with
    | none => exact hw qt
    | some fs => exact I.dis j i z ⟨t, fs, ej, qt⟩ wi (ov.trans h1.symm)
 ·have conv : ∀ m, Wr (ρ.set i (.val (.lst ds))) m → Wr ρ m := fun m hm => by
   rcases hm.set with ⟨z, w⟩ | ⟨_, w⟩
   ·exact absurd rfl w
   ·exact w
  exact I.dis j k hjk (conv j hj) (conv k hk)
end
noncomputable abbrev ME := R → Option (D × R)
noncomputable abbrev MO := R → Option (List D × R)
noncomputable abbrev MT := R → Option (Bool × R)
noncomputable abbrev MA := R → Option (List D × R)
noncomputable def SE (X : Cx) (e : Expr) (m : ME) : Prop :=
 ∃ t, PE X e t ∧ ∀ B G H σ ρ d ρ' (Q : VK), SI X.K B G H σ ρ → m ρ = some (d, ρ') → (∀ G' H' v, SI X.K B G' H' σ ρ' → Fz G G' → RepD X.K G' v d → Q v H') → t σ H Q
noncomputable def SO (X : Cx) (e : Expr) (m : MO) : Prop :=
 ∃ t, PE X e t ∧ ∀ B G H σ ρ ds ρ' (Q : VK), SI X.K B G H σ ρ → m ρ = some (ds, ρ') →
  (∀ G' H' l xs, SI X.K B G' H' σ ρ' → Fz G G' → G' l = none → H' l = some (.lst xs) → RepL X.K G' xs ds → B.H l = none → (∀ i, Wr ρ' i → σ[i]? ≠ some (some (.ref l))) → Q (.ref l) H') → t σ H Q
noncomputable def STt (X : Cx) (e : Expr) (m : MT) : Prop :=
 ∃ t, PT X e t ∧ ∀ B G H σ ρ d ρ' (Q : Bool → Hp → Prop), SI X.K B G H σ ρ → m ρ = some (d, ρ') → (∀ G' H', SI X.K B G' H' σ ρ' → Fz G G' → Q d H') → t σ H Q
noncomputable def SA (X : Cx) (es : List Expr) (m : MA) : Prop :=
 ∃ t, PA X es t ∧ ∀ B G H σ ρ ds ρ' (Q : List V → Hp → Prop), SI X.K B G H σ ρ → m ρ = some (ds, ρ') → (∀ G' H' vs, SI X.K B G' H' σ ρ' → Fz G G' → RepL X.K G' vs ds → Q vs H') → t σ H Q
theorem zkO {K : W.Frag} {B : Bs} {G H : Hp} {σ : St} {ρ : R} {l : Addr} {xs : List V} {ds : List D} (I : SI K B G H σ ρ) (hg : G l = none) (hl : H l = some (.lst xs)) (h : RepL K G xs ds) (hB : B.H l = none) (hn : ∀ i, Wr ρ i → σ[i]? ≠ some (some (.ref l))) :
  SI K B (upd G l (.lst xs)) H σ ρ ∧ Fz G (upd G l (.lst xs)) ∧ RepD K (upd G l (.lst xs)) (.ref l) (.lst ds) :=
 ⟨I.frz hl hB hn hg, Fz.new hg _, ⟨l, xs, rfl, za4, h.mono (Fz.new hg _)⟩⟩
noncomputable def eFz (m : MO) : ME := fun ρ => (m ρ).map fun p => (.lst p.1, p.2)
theorem SO.se {X : Cx} {e : Expr} {m : MO} (h : SO X e m) : SE X e (eFz m) := by
 obtain ⟨t, p, s⟩ := h
 refine ⟨t, p, fun B G H σ ρ d ρ' Q I hm k => ?_⟩
 unfold eFz at hm
 cases q : m ρ with
 | none => rw [q] at hm; cases hm
 | some r =>
  obtain ⟨ds, ρ1⟩ := r
  rw [q] at hm
  cases hm
  refine s B G H σ ρ ds _ Q I q fun G' H' l xs I' fz hg hl hr hB hn => ?_
  obtain ⟨I2, f2, r2⟩ := zkO I' hg hl hr hB hn
  exact k _ _ _ I2 (fz.trans f2) r2
noncomputable def eC (d : D) : ME := fun ρ => some (d, ρ)
noncomputable def eVar (i : Nat) : ME := fun ρ => match ρ[i]? with
 | some (.val d) => some (d, ρ)
 | some (.own ds) => some (.lst ds, ρ.set i (.val (.lst ds)))
 | _ => none
section
variable {X : Cx} {pos : Pos}
theorem zab (i : Nat) {x : Str} (hN : X.N[i]? = some x := by rfl) (hv : Vis X.env.scope x := by first | exact Or.inl rfl | exact Or.inr (Or.inl rfl) | exact Or.inr (Or.inr rfl)) (hd : (x == ("__debug__" : Str)) = false := by decide)
  (hcd : (x == ("__classdict__" : Str)) = false := by decide) : SE X (.Name x pos) (eVar i) := by
 refine ⟨_, zf5 hN hv hd hcd, fun B G H σ ρ d ρ' Q I hm k => ?_⟩
 unfold eVar at hm
 cases e : ρ[i]? with
 | none => rw [e] at hm; cases hm
 | some s =>
  rw [e] at hm
  cases s with
  | emp => cases hm
  | two _ _ => cases hm
  | par ds => cases hm
  | val d' =>
   cases hm
   obtain ⟨v, h1, h2⟩ := I.slot i _ e
   exact ⟨v, h1, k G H v I (Fz.refl G) h2⟩
  | own ds =>
   cases hm
   obtain ⟨l, xs, h1, f, r, I'⟩ := I.freeze e
   exact ⟨.ref l, h1, k _ H _ I' f r⟩
theorem zag {i : Int} {j} : SE X (.Constant (.int i) j pos) (eC (.int i)) := ⟨_, pe_int, fun B G H σ ρ d ρ' Q I hm k => by cases hm; exact k G H _ I (Fz.refl G) rfl⟩
theorem zgH {b : Bool} {j} : SE X (.Constant (.bool b) j pos) (eC (.bl b)) := ⟨_, pe_bl, fun B G H σ ρ d ρ' Q I hm k => by cases hm; exact k G H _ I (Fz.refl G) rfl⟩
theorem zc0 {x : Str} {j} : SE X (.Constant (.str x) j pos) (eC (.str x)) := ⟨_, pe_str, fun B G H σ ρ d ρ' Q I hm k => by cases hm; exact k G H _ I (Fz.refl G) rfl⟩
end
noncomputable def aNil : MA := fun ρ => some ([], ρ)
noncomputable def zaf (m : ME) (r : MA) : MA := fun ρ => (m ρ).bind fun p => (r p.2).map fun q => (p.1 :: q.1, q.2)
section
variable {X : Cx} {e : Expr} {es : List Expr} {m : ME} {r : MA}
theorem zai : SA X [] aNil := ⟨_, zhK, fun B G H σ ρ ds ρ' Q I hm k => by cases hm; exact k G H [] I (Fz.refl G) .nil⟩
theorem zaa (h : SE X e m) (hr : SA X es r) (hs : starEach (e :: es) X.env = (false, eval e X.env) :: starEach es X.env := by rfl) : SA X (e :: es) (zaf m r) := by
 obtain ⟨t, p, s⟩ := h
 obtain ⟨u, q, z⟩ := hr
 refine ⟨_, zfD p q hs, fun B G H σ ρ ds ρ' Q I hm k => ?_⟩
 unfold zaf at hm
 cases e1 : m ρ with
 | none => rw [e1] at hm; cases hm
 | some a =>
  obtain ⟨d, ρ1⟩ := a
  rw [e1] at hm
  cases e2 : r ρ1 with
  | none => simp [e2] at hm
  | some b =>
   obtain ⟨es', ρ2⟩ := b
   simp only [Option.bind_some, e2, Option.map_some, Option.some.injEq, Prod.mk.injEq] at hm
   obtain ⟨rfl, rfl⟩ := hm
   exact s B G H σ ρ d ρ1 _ I e1 fun G1 H1 v I1 f1 r1 => z B G1 H1 σ ρ1 es' ρ2 _ I1 e2 fun G2 H2 vs I2 f2 r2 => k G2 H2 (v :: vs) I2 (f1.trans f2) (.cons (r1.mono f2) r2)
end
noncomputable def V2 (X : Cx) (r : R2) (f : D → D → Option D) : Prop := ∀ B G H σ ρ x y a b d (Q : VK), SI X.K B G H σ ρ → RepD X.K G x a → RepD X.K G y b → f a b = some d → (∀ G' H' v, SI X.K B G' H' σ ρ → Fz G G' → RepD X.K G' v d → Q v H') → r x y H Q
noncomputable def V1 (X : Cx) (r : V → Hp → VK → Prop) (f : D → Option D) : Prop := ∀ B G H σ ρ x a d (Q : VK), SI X.K B G H σ ρ → RepD X.K G x a → f a = some d → (∀ G' H' v, SI X.K B G' H' σ ρ → Fz G G' → RepD X.K G' v d → Q v H') → r x H Q
noncomputable def VC (X : Cx) (r : List V → Hp → VK → Prop) (f : List D → Option D) : Prop := ∀ B G H σ ρ xs ds d (Q : VK), SI X.K B G H σ ρ → RepL X.K G xs ds → f ds = some d → (∀ G' H' v, SI X.K B G' H' σ ρ → Fz G G' → RepD X.K G' v d → Q v H') → r xs H Q
noncomputable def m2 (f : D → D → Option D) (ma mb : ME) : ME := fun ρ => (ma ρ).bind fun p => (mb p.2).bind fun q => (f p.1 q.1).map fun d => (d, q.2)
noncomputable def m1 (f : D → Option D) (ma : ME) : ME := fun ρ => (ma ρ).bind fun p => (f p.1).map fun d => (d, p.2)
noncomputable def mC (f : List D → Option D) (ma : MA) : ME := fun ρ => (ma ρ).bind fun p => (f p.1).map fun d => (d, p.2)
theorem m2_inv {f : D → D → Option D} {ma mb : ME} {ρ ρ' : R} {d : D} (h : m2 f ma mb ρ = some (d, ρ')) : ∃ a ρ1 b, ma ρ = some (a, ρ1) ∧ mb ρ1 = some (b, ρ') ∧ f a b = some d := by
 unfold m2 at h
 cases e1 : ma ρ with
 | none => rw [e1] at h; cases h
 | some p =>
  obtain ⟨a, ρ1⟩ := p
  rw [e1] at h
  cases e2 : mb ρ1 with
  | none => simp [e2] at h
  | some q =>
   obtain ⟨b, ρ2⟩ := q
   simp only [Option.bind_some, e2] at h
   cases e3 : f a b with
   | none => rw [e3] at h; cases h
   | some c => rw [e3] at h; cases h; exact ⟨a, ρ1, b, rfl, e2, e3⟩
theorem m1_inv {f : D → Option D} {ma : ME} {ρ ρ' : R} {d : D} (h : m1 f ma ρ = some (d, ρ')) : ∃ a, ma ρ = some (a, ρ') ∧ f a = some d := by
 unfold m1 at h
 cases e1 : ma ρ with
 | none => rw [e1] at h; cases h
 | some p =>
  obtain ⟨a, ρ1⟩ := p
  rw [e1] at h
  simp only [Option.bind_some] at h
  cases e3 : f a with
  | none => rw [e3] at h; cases h
  | some c => rw [e3] at h; cases h; exact ⟨a, rfl, e3⟩
theorem mC_inv {f : List D → Option D} {ma : MA} {ρ ρ' : R} {d : D} (h : mC f ma ρ = some (d, ρ')) : ∃ a, ma ρ = some (a, ρ') ∧ f a = some d := by
 unfold mC at h
 cases e1 : ma ρ with
 | none => rw [e1] at h; cases h
 | some p =>
  obtain ⟨a, ρ1⟩ := p
  rw [e1] at h
  simp only [Option.bind_some] at h
  cases e3 : f a with
  | none => rw [e3] at h; cases h
  | some c => rw [e3] at h; cases h; exact ⟨a, rfl, e3⟩
section
variable {X : Cx} {a b : Expr} {ma mb : ME} {pos : Pos} {f : D → D → Option D}
theorem zk2 {r : R2} {ta tb : TE} (hv : V2 X r f)
  (sa : ∀ B G H σ ρ d ρ' (Q : VK), SI X.K B G H σ ρ → ma ρ = some (d, ρ') → (∀ G' H' v, SI X.K B G' H' σ ρ' → Fz G G' → RepD X.K G' v d → Q v H') → ta σ H Q)
  (sb : ∀ B G H σ ρ d ρ' (Q : VK), SI X.K B G H σ ρ → mb ρ = some (d, ρ') → (∀ G' H' v, SI X.K B G' H' σ ρ' → Fz G G' → RepD X.K G' v d → Q v H') → tb σ H Q) :
  ∀ B G H σ ρ d ρ' (Q : VK), SI X.K B G H σ ρ → m2 f ma mb ρ = some (d, ρ') → (∀ G' H' v, SI X.K B G' H' σ ρ' → Fz G G' → RepD X.K G' v d → Q v H') → tOp r ta tb σ H Q := by
 intro B G H σ ρ d ρ' Q I hm k
 obtain ⟨x, ρ1, y, e1, e2, e3⟩ := m2_inv hm
 exact sa B G H σ ρ x ρ1 _ I e1 fun G1 H1 v I1 f1 r1 => sb B G1 H1 σ ρ1 y ρ' _ I1 e2 fun G2 H2 u I2 f2 r2 =>
  hv B G2 H2 σ ρ' v u x y d Q I2 (r1.mono f2) r2 e3 fun G3 H3 z I3 f3 r3 => k G3 H3 z I3 (f1.trans (f2.trans f3)) r3
theorem zlq {op : Operator} {r : R2} (ho : OpR X (binaryOp op) r) (hv : V2 X r f) (ha : SE X a ma) (hb : SE X b mb) : SE X (.BinOp a op b pos) (m2 f ma mb) := by
 obtain ⟨ta, pa, sa⟩ := ha
 obtain ⟨tb, pb, sb⟩ := hb
 exact ⟨_, pe_op ho pa pb, zk2 hv sa sb⟩
theorem zm2 {op : CmpOp} {r : R2} (ho : OpR X (compareOp op) r) (hv : V2 X r f) (ha : SE X a ma) (hb : SE X b mb) (hm : behindInMarks op b = false) : SE X (.Compare a [op] [b] pos) (m2 f ma mb) := by
 obtain ⟨ta, pa, sa⟩ := ha
 obtain ⟨tb, pb, sb⟩ := hb
 exact ⟨_, pe_cmpR ho pa pb hm, zk2 hv sa sb⟩
theorem se_un {op : UnaryOp} {r : V → Hp → VK → Prop} {g : D → Option D} (ho : UnR X (unaryOp op) r) (hv : V1 X r g) (ha : SE X a ma) : SE X (.UnaryOp op a pos) (m1 g ma) := by
 obtain ⟨ta, pa, sa⟩ := ha
 refine ⟨_, pe_un ho pa, fun B G H σ ρ d ρ' Q I hm k => ?_⟩
 obtain ⟨x, e1, e2⟩ := m1_inv hm
 exact sa B G H σ ρ x ρ' _ I e1 fun G1 H1 v I1 f1 r1 => hv B G1 H1 σ ρ' v x d Q I1 r1 e2 fun G2 H2 z I2 f2 r2 => k G2 H2 z I2 (f1.trans f2) r2
theorem se_ix {r : R2} (hr : IxR X r) (hv : V2 X r f) (ha : SE X a ma) (hb : SE X b mb) (hs : zir b) : SE X (.Subscript a b pos) (m2 f ma mb) := by
 obtain ⟨ta, pa, sa⟩ := ha
 obtain ⟨tb, pb, sb⟩ := hb
 exact ⟨_, pe_ix hr pa pb hs, zk2 hv sa sb⟩
end
section
variable {X : Cx} {x : Str} {p pos : Pos} {e : Expr} {es : List Expr} {ma : MA} {id T : String} {r : List V → Hp → VK → Prop} {f : List D → Option D}
theorem soundC {t : TA} (hv : VC X r f) (sa : ∀ B G H σ ρ ds ρ' (Q : List V → Hp → Prop), SI X.K B G H σ ρ → ma ρ = some (ds, ρ') → (∀ G' H' vs, SI X.K B G' H' σ ρ' → Fz G G' → RepL X.K G' vs ds → Q vs H') → t σ H Q) :
  ∀ B G H σ ρ d ρ' (Q : VK), SI X.K B G H σ ρ → mC f ma ρ = some (d, ρ') → (∀ G' H' v, SI X.K B G' H' σ ρ' → Fz G G' → RepD X.K G' v d → Q v H') → tCB r t σ H Q := by
 intro B G H σ ρ d ρ' Q I hm k
 obtain ⟨ds, e1, e2⟩ := mC_inv hm
 exact sa B G H σ ρ ds ρ' _ I e1 fun G1 H1 vs I1 f1 r1 => hv B G1 H1 σ ρ' vs ds d Q I1 r1 e2 fun G2 H2 z I2 f2 r2 => k G2 H2 z I2 (f1.trans f2) r2
theorem zeY (hc : zfe X (.builtin id) r) (hv : VC X r f) (hb : bootBuiltins x = some (.builtin id)) (hm : X.mg x = none) (ha : SA X (e :: es) ma) (hg : Gl X x := by rfl) (hn : x ≠ "__name__" := by decide) (hdb : (x == ("__debug__" : Str)) = false := by decide)
  (he : starEach (e :: es) X.env = (false, eval e X.env) :: starEach es X.env := by rfl) (hpl : (backTo pos (starEach es X.env)).any (·.1) = false := by rfl) : SE X (.Call (.Name x p) (e :: es) [] pos) (mC f ma) := by
 obtain ⟨t, pa, sa⟩ := ha
 exact ⟨_, zit hc hg hm hb pa hn hdb he hpl, soundC hv sa⟩
theorem zi4 (hc : zfe X (.type T) r) (hv : VC X r f) (hb : bootBuiltins x = some (.type T)) (hm : X.mg x = none) (ha : SA X (e :: es) ma) (hg : Gl X x := by rfl) (hn : x ≠ "__name__" := by decide) (hdb : (x == ("__debug__" : Str)) = false := by decide)
  (he : starEach (e :: es) X.env = (false, eval e X.env) :: starEach es X.env := by rfl) (hpl : (backTo pos (starEach es X.env)).any (·.1) = false := by rfl) : SE X (.Call (.Name x p) (e :: es) [] pos) (mC f ma) := by
 obtain ⟨t, pa, sa⟩ := ha
 exact ⟨_, zfo hc hg hm hb pa hn hdb he hpl, soundC hv sa⟩
end
end M
set_option Elab.async false
set_option linter.all false
set_option maxRecDepth 100000
namespace M
open PySem PySem.Spec L2
open PyProof.Rows hiding St
section
variable {X : Cx} {K : W.Frag} {B : Bs} {G H : Hp} {σ : St} {ρ : R}
theorem SI.lst (I : SI K B G H σ ρ) {v : V} {ds : List D} (h : RepD K G v (.lst ds)) : ∃ a xs, v = .ref a ∧ H a = some (.lst xs) ∧ RepL K G xs ds := by
 obtain ⟨a, xs, e, q, r⟩ := h
 exact ⟨a, xs, e, I.fz a _ q, r⟩
theorem SI.tup (I : SI K B G H σ ρ) {v : V} {ds : List D} (h : RepD K G v (.tup ds)) : ∃ a xs, v = .ref a ∧ H a = some (.tup xs) ∧ RepL K G xs ds := by
 obtain ⟨a, xs, e, q, r⟩ := h
 exact ⟨a, xs, e, I.fz a _ q, r⟩
theorem SI.newT (I : SI K B G H σ ρ) {p : Addr} (hp : H p = none) {xs : List V} {ds : List D} (h : RepL K G xs ds) : SI K B (upd G p (.tup xs)) (upd H p (.tup xs)) σ ρ ∧ Fz G (upd G p (.tup xs)) ∧ RepD K (upd G p (.tup xs)) (.ref p) (.tup ds) :=
 ⟨I.allocF hp _, Fz.new (I.fz.free hp) _, ⟨p, xs, rfl, za4, h.mono (Fz.new (I.fz.free hp) _)⟩⟩
theorem SI.newL (I : SI K B G H σ ρ) {p : Addr} (hp : H p = none) {xs : List V} {ds : List D} (h : RepL K G xs ds) : SI K B (upd G p (.lst xs)) (upd H p (.lst xs)) σ ρ ∧ Fz G (upd G p (.lst xs)) ∧ RepD K (upd G p (.lst xs)) (.ref p) (.lst ds) :=
 ⟨I.allocF hp _, Fz.new (I.fz.free hp) _, ⟨p, xs, rfl, za4, h.mono (Fz.new (I.fz.free hp) _)⟩⟩
end
noncomputable def dI2 (c : Int → Int → Bool) (g : Int → Int → D) : D → D → Option D
 | .int i, .int j => if c i j then some (g i j) else none
 | _, _ => none
theorem zl4 {X : Cx} {C : Int → Int → Prop} {c : Int → Int → Bool} {g : Int → Int → Int} (hc : ∀ i j, c i j = true → C i j) : V2 X (rI C fun i j => .int (g i j)) (dI2 c fun i j => .int (g i j)) := by
 intro B G H σ ρ x y a b d Q I ra rb hf k
 cases a <;> cases b <;> simp only [dI2] at hf <;> try cases hf
 rename_i i j
 split at hf
 ·rename_i h
  cases hf
  exact ⟨i, j, ra, rb, hc i j h, k G H _ I (Fz.refl G) rfl⟩
 ·cases hf
theorem v2_int0 {X : Cx} {g : Int → Int → Int} : V2 X (rI0 fun i j => .int (g i j)) (dI2 (fun _ _ => true) fun i j => .int (g i j)) := by
 intro B G H σ ρ x y a b d Q I ra rb hf k
 cases a <;> cases b <;> simp only [dI2] at hf <;> try cases hf
 rename_i i j
 exact ⟨i, j, ra, rb, k G H _ I (Fz.refl G) rfl⟩
theorem zdg {X : Cx} {g : Int → Int → Bool} : V2 X (rI0 fun i j => .bl (g i j)) (dI2 (fun _ _ => true) fun i j => .bl (g i j)) := by
 intro B G H σ ρ x y a b d Q I ra rb hf k
 cases a <;> cases b <;> simp only [dI2] at hf <;> try cases hf
 rename_i i j
 exact ⟨i, j, ra, rb, k G H _ I (Fz.refl G) rfl⟩
noncomputable def dSub : D → D → Option D := dI2 (fun _ _ => true) fun i j => .int (i - j)
noncomputable def divOk (j : Int) : Bool := decide (0 < j) && decide (j.natAbs.log2 < 9000)
theorem op_fdivW {X : Cx} : OpR X (binaryOp .FloorDiv) (rI (fun _ j => 0 < j ∧ j.natAbs.log2 < 9000) fun i j => .int (i / j)) := opI fun i j _ _ _ _ _ hc q => by
 have h1 : (0 : Int) < j := hc.1
 exact PyProof.Rows.floordiv_int (by omega) (by rw [Int.fdiv_eq_ediv_of_nonneg i (by omega)]; exact q) (.inl (PyProof.noPylong_of_log2 hc.2))
noncomputable def dDiv : D → D → Option D := dI2 (fun _ j => divOk j) fun i j => .int (i / j)
noncomputable def dMod : D → D → Option D := dI2 (fun _ j => decide (0 < j)) fun i j => .int (i % j)
noncomputable def dPow : D → D → Option D := dI2 (fun i j => decide (0 ≤ j) && decide (j ≤ 1000000) && decide (i.natAbs < 2 ^ 64)) fun i j => .int (i ^ j.toNat)
noncomputable def dShl : D → D → Option D := dI2 (fun i j => decide (0 ≤ j) && decide (j ≤ 1000000) && decide (i.natAbs < 2 ^ 64)) fun i j => .int (i * 2 ^ j.toNat)
noncomputable def dShr : D → D → Option D := dI2 (fun _ j => decide (0 ≤ j)) fun i j => .int (i / 2 ^ j.toNat)
noncomputable def dLt : D → D → Option D := dI2 (fun _ _ => true) fun i j => .bl (decide (i < j))
noncomputable def dLe : D → D → Option D := dI2 (fun _ _ => true) fun i j => .bl (decide (i ≤ j))
noncomputable def dGt : D → D → Option D := dI2 (fun _ _ => true) fun i j => .bl (decide (j < i))
noncomputable def dGe : D → D → Option D := dI2 (fun _ _ => true) fun i j => .bl (decide (j ≤ i))
section
variable {X : Cx} {a b : Expr} {ma mb : ME} {pos : Pos}
theorem zct (ha : SE X a ma) (hb : SE X b mb) : SE X (.BinOp a .Sub b pos) (m2 dSub ma mb) := zlq op_sub v2_int0 ha hb
theorem se_div (ha : SE X a ma) (hb : SE X b mb) : SE X (.BinOp a .FloorDiv b pos) (m2 dDiv ma mb) := zlq op_fdivW (zl4 fun i j h => by simpa [divOk] using h) ha hb
theorem zdy (ha : SE X a ma) (hb : SE X b mb) : SE X (.BinOp a .Mod b pos) (m2 dMod ma mb) := zlq op_mod (zl4 fun i j h => by simpa using h) ha hb
theorem zeX (ha : SE X a ma) (hb : SE X b mb) : SE X (.BinOp a .Pow b pos) (m2 dPow ma mb) := zlq op_pow (zl4 fun i j h => by simp only [Bool.and_eq_true, decide_eq_true_eq] at h; exact ⟨h.1.1, h.1.2, h.2⟩) ha hb
theorem se_lt (ha : SE X a ma) (hb : SE X b mb) : SE X (.Compare a [.Lt] [b] pos) (m2 dLt ma mb) := zm2 zjF zdg ha hb (zgY _)
theorem se_gt (ha : SE X a ma) (hb : SE X b mb) : SE X (.Compare a [.Gt] [b] pos) (m2 dGt ma mb) := zm2 op_gt zdg ha hb (zgY _)
end
noncomputable def dNeg : D → Option D
 | .int i => some (.int (-i))
 | _ => none
theorem zfL {X : Cx} {a : Expr} {ma : ME} {pos : Pos} (ha : SE X a ma) : SE X (.UnaryOp .USub a pos) (m1 dNeg ma) :=
 se_un un_neg (fun B G H σ ρ x a d Q I ra hf k => by
  cases a <;> simp only [dNeg] at hf <;> try cases hf
  exact ⟨_, ra, k G H _ I (Fz.refl G) rfl⟩) ha
noncomputable def zlH (i j : Int) : Bool := (decide (i.natAbs < 2 ^ 64) || decide (j.natAbs < 2 ^ 64)) || (decide (i.natAbs < 2 ^ 4000) && decide (j.natAbs < 2 ^ 4000))
noncomputable def dMul : D → D → Option D
 | .int i, .int j => if zlH i j then some (.int (i * j)) else none
 | .lst ds, .int k => if decide (-1000000 ≤ k) && decide (k ≤ 1000000) && decide (ds.length * k.toNat ≤ 1000000) then some (.lst (List.replicate k.toNat ds).flatten) else none
 | _, _ => none
theorem zhN {k : Int} (h : k.natAbs < 2 ^ 4000) : Builtin.Int.intBits k ≤ 4000 := by
 unfold Builtin.Int.intBits
 split
 ·exact Nat.zero_le _
 ·have : k.natAbs.log2 < 4000 := by
   rcases Nat.eq_zero_or_pos k.natAbs with h0 | hp
   ·rw [h0]; decide
   ·exact (Nat.log2_lt (Nat.ne_of_gt hp)).mpr h
  omega
theorem mulOk_ok {i j : Int} (h : zlH i j = true) : IntMulOk i j := by
 unfold zlH at h
 simp only [Bool.or_eq_true, Bool.and_eq_true, decide_eq_true_eq] at h
 rcases h with (h | h) | ⟨h1, h2⟩
 ·exact .of_left (intBits_le_64 (by omega) (by omega))
 ·exact .of_right (intBits_le_64 (by omega) (by omega))
 ·have b1 := zhN h1
  have b2 := zhN h2
  unfold IntMulOk
  intro z
  simp only [Bool.and_eq_true] at z
  have z2 := z.2
  unfold Builtin.Int.intTooBig at z2
  revert z2
  generalize Builtin.Int.intBits i = p at *
  generalize Builtin.Int.intBits j = q at *
  intro z2
  have z3 := of_decide_eq_true z2
  have hb := bitsLine_eq
  omega
theorem op_mulG {X : Cx} : OpR X (binaryOp .Mult) (rI IntMulOk fun i j => .int (i * j)) := opI fun _ _ _ _ _ _ _ hc q => mul_int q hc
theorem zfU {X : Cx} {a b : Expr} {ma mb : ME} {pos : Pos} (ha : SE X a ma) (hb : SE X b mb) : SE X (.BinOp a .Mult b pos) (m2 dMul ma mb) := by
 refine zlq (op_mulG.or op_rep) (fun B G H σ ρ x y a b d Q I ra rb hf k => ?_) ha hb
 cases a <;> cases b <;> simp only [dMul] at hf <;> try cases hf
 ·rename_i i j
  split at hf
  ·rename_i h
   cases hf
   exact .inl ⟨i, j, ra, rb, mulOk_ok h, k G H _ I (Fz.refl G) rfl⟩
  ·cases hf
 ·rename_i ds j
  split at hf
  ·rename_i h
   cases hf
   simp only [Bool.and_eq_true, decide_eq_true_eq] at h
   obtain ⟨a, xs, rfl, ha, r⟩ := I.lst ra
   have hl := r.length
   refine .inr ⟨a, j, xs, rfl, rb, ha, by omega, by omega, by rw [hl, sizeLine_eq]; omega, fun p hp => ?_⟩
   obtain ⟨I2, f2, r2⟩ := I.newL hp (r.rep j.toNat)
   exact k _ _ _ I2 f2 r2
  ·cases hf
noncomputable def dAdd : D → D → Option D
 | .int i, .int j => some (.int (i + j))
 | .tup a, .tup b => if a.length + b.length ≤ 16777216 then some (.tup (a ++ b)) else none
 | .lst a, .lst b => if a.length + b.length ≤ 16777216 then some (.lst (a ++ b)) else none
 | .str a, .str b => if a.length + b.length ≤ 16777216 then some (.str (a ++ b)) else none
 | _, _ => none
theorem op_catT0 {X : Cx} : OpR X (binaryOp .Add) (fun x y H Q => ∃ a b ys, x = .ref a ∧ y = .ref b ∧ SqT X.K H a [] ∧ SqT X.K H b ys ∧ Q (.ref b) H) := by
 intro pins s σ H x y v u Q I rx ry h
 obtain ⟨a, b, ys, rfl, rfl, ha, hb, q⟩ := h
 cases rx
 cases ry
 obtain ⟨its, r1, p1, _⟩ := I.tuple ha
 obtain ⟨its2, r2, p2, _⟩ := I.tuple hb
 obtain rfl : its = [] := by cases r1; rfl
 obtain ⟨⟨cls, dd, data, sl⟩, ho, hc, n, hd⟩ := id p1
 obtain ⟨⟨cls2, dd2, data2, sl2⟩, ho2, hc2, n2, hd2⟩ := id p2
 simp only at hc hd hc2 hd2
 subst hc hd hc2 hd2
 exact concat_meets ⟨_, ho, rfl⟩ ⟨_, ho2, rfl⟩ noFill_tuple_add seq_tuple_add PySem.F.slot_tuple_add PySem.F.entry_tuple_add (PySem.F.args_tuple_add_2 _ _)
   (tuple_addW0 a b _ _ n n2 dd dd2 sl sl2 (by simp)) ⟨ho, ho2, ⟨.ref b, H, I, rfl, q⟩⟩
theorem zaO {X : Cx} {a b : Expr} {ma mb : ME} {pos : Pos} (ha : SE X a ma) (hb : SE X b mb) : SE X (.BinOp a .Add b pos) (m2 dAdd ma mb) := by
 refine zlq (op_add.or (op_catT.or (op_catT0.or (op_cat.or zlf)))) (fun B G H σ ρ x y a b d Q I ra rb hf k => ?_) ha hb
 cases a <;> cases b <;> simp only [dAdd] at hf <;> try cases hf
 ·exact .inl ⟨_, _, ra, rb, k G H _ I (Fz.refl G) rfl⟩
 ·rename_i i j
  split at hf
  ·rename_i h
   cases hf
   exact .inr (.inr (.inr (.inr ⟨i, j, ra, rb, by rw [sizeLine_eq]; exact h, k G H _ I (Fz.refl G) rfl⟩)))
  ·cases hf
 ·rename_i as bs
  split at hf
  ·rename_i h
   cases hf
   obtain ⟨a, xs, rfl, ha, r⟩ := I.lst ra
   obtain ⟨b, ys, rfl, hb, r2⟩ := I.lst rb
   refine .inr (.inr (.inr (.inl ⟨a, b, xs, ys, rfl, rfl, ha, hb, by rw [r.length, r2.length, sizeLine_eq]; exact h, fun p hp => ?_⟩)))
   obtain ⟨I2, f2, r2⟩ := I.newL hp (r.append r2)
   exact k _ _ _ I2 f2 r2
  ·cases hf
 ·rename_i as bs
  split at hf
  ·rename_i h
   cases hf
   obtain ⟨a, xs, rfl, ha, r⟩ := I.tup ra
   obtain ⟨b, ys, rfl, hb, r2⟩ := I.tup rb
   by_cases z : xs = []
   ·subst z
    have z' : as = [] := List.eq_nil_of_length_eq_zero r.length.symm
    subst z'
    exact .inr (.inr (.inl ⟨a, b, ys, rfl, rfl, SqT.of ha, SqT.of hb, k G H _ I (Fz.refl G) rb⟩))
   ·refine .inr (.inl ⟨a, b, xs, ys, rfl, rfl, SqT.of ha, SqT.of hb, z, by rw [r.length, r2.length, sizeLine_eq]; exact h, fun w => ?_, fun w p hp => ?_⟩)
    ·subst w
     have w' : bs = [] := List.eq_nil_of_length_eq_zero r2.length.symm
     subst w'
     rw [List.append_nil] at k
     exact k G H _ I (Fz.refl G) ra
    ·obtain ⟨I2, f2, r2⟩ := I.newT hp (r.append r2)
     exact k _ _ _ I2 f2 r2
  ·cases hf
mutual
noncomputable def noS : D → Bool
 | .scr _ => false
 | .exc _ => false
 | .lst ds => noSL ds
 | .tup ds => noSL ds
 | _ => true
noncomputable def noSL : List D → Bool
 | [] => true
 | d :: ds => noS d && noSL ds
end
mutual
noncomputable def eqB : D → D → Bool
 | .non, .non => true
 | .bl a, .bl b => a == b
 | .int a, .int b => a == b
 | .str a, .str b => a == b
 | .bl a, .int b => (if a then 1 else 0) == b
 | .int a, .bl b => a == (if b then 1 else 0)
 | .lst a, .lst b => eqBL a b
 | .tup a, .tup b => eqBL a b
 | _, _ => false
noncomputable def eqBL : List D → List D → Bool
 | [], [] => true
 | a :: as, b :: bs => eqB a b && eqBL as bs
 | _, _ => false
end
theorem zgi : ∀ {as bs : List D}, as.length ≠ bs.length → eqBL as bs = false
 | [], [], h => absurd rfl h
 | [], _ :: _, _ => rfl
 | _ :: _, [], _ => rfl
 | a :: as, b :: bs, h => by
  have := zgi (as := as) (bs := bs) (fun e => h (by simp [e]))
  simp [eqBL, this]
mutual
theorem ziL : ∀ d, noS d = true → eqB d d = true
 | .non, _ => rfl
 | .bl b, _ => by simp [eqB]
 | .int b, _ => by simp [eqB]
 | .str b, _ => by simp [eqB]
 | .lst ds, h => by simp only [noS] at h; simp only [eqB]; exact zhd ds h
 | .tup ds, h => by simp only [noS] at h; simp only [eqB]; exact zhd ds h
 | .scr _, h => by simp [noS] at h
 | .exc _, h => by simp [noS] at h
theorem zhd : ∀ ds, noSL ds = true → eqBL ds ds = true
 | [], _ => rfl
 | d :: ds, h => by
  simp only [noSL, Bool.and_eq_true] at h
  simp only [eqBL, Bool.and_eq_true]
  exact ⟨ziL d h.1, zhd ds h.2⟩
end
mutual
noncomputable def depth : D → Nat
 | .lst ds => zfW ds + 1
 | .tup ds => zfW ds + 1
 | _ => 0
noncomputable def zfW : List D → Nat
 | [] => 0
 | d :: ds => max (depth d) (zfW ds)
end
theorem zgt : ∀ {l : List D} {i : Nat} {d : D}, l[i]? = some d → depth d ≤ zfW l
 | [], _, _, h => by simp at h
 | c :: l, 0, d, h => by simp at h; subst h; simp only [zfW]; omega
 | c :: l, i + 1, d, h => by
  have := zgt (l := l) (i := i) (d := d) (by simpa using h)
  simp only [zfW]; omega
theorem zgg : ∀ {l : List D} {i : Nat} {d : D}, l[i]? = some d → noSL l = true → noS d = true
 | [], _, _, h, _ => by simp at h
 | c :: l, 0, d, h, z => by simp at h; subst h; simp only [noSL, Bool.and_eq_true] at z; exact z.1
 | c :: l, i + 1, d, h, z => by simp only [noSL, Bool.and_eq_true] at z; exact zgg (l := l) (i := i) (by simpa using h) z.2
mutual
theorem RepD.inj {K : W.Frag} {G : Hp} : ∀ {a b : D} {x : V}, noS a = true → noS b = true → RepD K G x a → RepD K G x b → a = b
 | .non, b, x, _, nb, ra, rb => by
  cases (show x = V.non from ra)
  cases b <;> simp_all [RepD, noS]
 | .bl c, b, x, _, nb, ra, rb => by
  cases (show x = V.bl c from ra)
  cases b <;> simp_all [RepD, noS]
 | .int c, b, x, _, nb, ra, rb => by
  cases (show x = V.int c from ra)
  cases b <;> simp_all [RepD, noS]
 | .str c, b, x, _, nb, ra, rb => by
  cases (show x = V.str c from ra)
  cases b <;> simp_all [RepD, noS]
 | .lst ds, b, x, na, nb, ra, rb => by
  obtain ⟨p, xs, rfl, q, r⟩ := ra
  cases b with
  | lst es =>
   obtain ⟨p2, ys, e, q2, r2⟩ := rb
   cases e
   rw [q] at q2
   cases q2
   simp only [noS] at na nb
   rw [RepL.inj na nb r r2]
  | tup es =>
   obtain ⟨p2, ys, e, q2, r2⟩ := rb
   cases e
   rw [q] at q2
   cases q2
  | scr _ => simp [noS] at nb
  | exc _ => simp [noS] at nb
  | non => simp [RepD] at rb
  | bl _ => simp [RepD] at rb
  | int _ => simp [RepD] at rb
  | str _ => simp [RepD] at rb
 | .tup ds, b, x, na, nb, ra, rb => by
  obtain ⟨p, xs, rfl, q, r⟩ := ra
  cases b with
  | tup es =>
   obtain ⟨p2, ys, e, q2, r2⟩ := rb
   cases e
   rw [q] at q2
   cases q2
   simp only [noS] at na nb
   rw [RepL.inj na nb r r2]
  | lst es =>
   obtain ⟨p2, ys, e, q2, r2⟩ := rb
   cases e
   rw [q] at q2
   cases q2
  | scr _ => simp [noS] at nb
  | exc _ => simp [noS] at nb
  | non => simp [RepD] at rb
  | bl _ => simp [RepD] at rb
  | int _ => simp [RepD] at rb
  | str _ => simp [RepD] at rb
 | .scr _, _, _, na, _, _, _ => by simp [noS] at na
 | .exc _, _, _, na, _, _, _ => by simp [noS] at na
theorem RepL.inj {K : W.Frag} {G : Hp} : ∀ {as bs : List D} {xs : List V}, noSL as = true → noSL bs = true → RepL K G xs as → RepL K G xs bs → as = bs
 | [], [], _, _, _, _, _ => rfl
 | [], _ :: _, xs, _, _, e, h => by
  obtain ⟨_, _, e2, _⟩ := h
  cases (show xs = [] from e)
  cases e2
 | _ :: _, [], xs, _, _, h, e => by
  obtain ⟨_, _, e2, _⟩ := h
  cases (show xs = [] from e)
  cases e2
 | a :: as, b :: bs, xs, na, nb, h, h2 => by
  obtain ⟨x, ys, e, q, r⟩ := h
  obtain ⟨x2, ys2, e2, q2, r2⟩ := h2
  subst e
  cases e2
  simp only [noSL, Bool.and_eq_true] at na nb
  rw [RepD.inj na.1 nb.1 q q2, RepL.inj na.2 nb.2 r r2]
end
noncomputable def eqJ (ds es : List D) (j : Nat) : Bool := match ds[j]?, es[j]? with
 | some a, some b => eqB a b
 | _, _ => false
theorem zfi : ∀ (as bs : List D), as.length = bs.length → (List.range as.length).all (eqJ as bs) = eqBL as bs
 | [], [], _ => by simp [eqBL]
 | a :: as, b :: bs, h => by
  have ih := zfi as bs (by simpa using h)
  rw [List.length_cons, List.range_succ_eq_map, List.all_cons, List.all_map]
  simp only [eqBL, ← ih]
  congr 1
 | [], _ :: _, h => by simp at h
 | _ :: _, [], h => by simp at h
section
variable {X : Cx} {pins : List (Addr × Obj)} {σ : St} {H G : Hp} {s : Shared}
theorem zhR {xs : List V} {us : List Value} (r : Vals xs us) {ds : List D} (h : RepL X.K G xs ds) {j : Nat} {u : Value} (e : us[j]? = some u) : ∃ x d, ds[j]? = some d ∧ RelV x u ∧ RepD X.K G x d := by
 have hl := r.length
 have hl2 := h.length
 have hj : j < us.length := (List.getElem?_eq_some_iff.mp e).1
 have ej : ds[j]? = some ds[j] := List.getElem?_eq_getElem (by omega)
 obtain ⟨x, q1, q2⟩ := h.get ej
 obtain ⟨u', h1, h2⟩ := r.get q1
 have : u' = u := by rw [h1] at e; exact Option.some.inj e
 subst this
 exact ⟨x, _, ej, h2, q2⟩
theorem eqAt_D (I : Inv X pins σ H s) (fz : Fz G H) : ∀ (n : Nat) (A : Around) (a b : D) (x y : V) (u v : Value), depth a ≤ n → noS a = true → noS b = true → A.units + n + 1 < cLine → RepD X.K G x a → RepD X.K G y b → RelV x u → RelV y v →
  SeqAt.EqAt A s u v (eqB a b) ∧ SeqAt.RcAt A s u v (eqB a b) := by
 intro n
 induction n with
 | zero =>
  intro A a b x y u v hd na nb hu ra rb rx ry
  have hu' : A.units < cLine := by omega
  cases a with
  | non =>
   cases (show x = V.non from ra); cases (show u = Value.none from rx)
   cases b with
   | non => cases (show y = V.non from rb); cases (show v = Value.none from ry); exact ⟨.same _, .none_none⟩
   | bl c => cases (show y = V.bl c from rb); cases (show v = Value.bool c from ry); exact ⟨.none_bool _, .none_bool _⟩
   | int c => cases (show y = V.int c from rb); obtain ⟨t, rfl⟩ := ry; exact ⟨.none_int _ _, .none_int _ _⟩
   | str c => cases (show y = V.str c from rb); obtain ⟨t, rfl⟩ := ry; exact ⟨.none_str _ _, .none_str _ _⟩
   | lst ds =>
    obtain ⟨p, xs, rfl, q, r⟩ := rb
    cases (show v = Value.ref p from ry)
    obtain ⟨its, rv, pl, hz⟩ := I.list (SqL.of (fz _ _ q))
    exact ⟨.none_list pl.isList hu', .none_list pl.isList hu'⟩
   | tup ds =>
    obtain ⟨p, xs, rfl, q, r⟩ := rb
    cases (show v = Value.ref p from ry)
    obtain ⟨its, rv, pl, hz⟩ := I.tuple (SqT.of (fz _ _ q))
    exact ⟨.none_tuple pl hu', .none_tuple pl hu'⟩
   | scr _ => simp [noS] at nb
   | exc _ => simp [noS] at nb
  | bl c0 =>
   cases (show x = V.bl c0 from ra); cases (show u = Value.bool c0 from rx)
   cases b with
   | non => cases (show y = V.non from rb); cases (show v = Value.none from ry); exact ⟨.bool_none _, .bool_none _⟩
   | bl c => cases (show y = V.bl c from rb); cases (show v = Value.bool c from ry); exact ⟨.bool_bool _ _, .bool_bool _ _⟩
   | int c => cases (show y = V.int c from rb); obtain ⟨t, rfl⟩ := ry; exact ⟨.bool_int _ _ _, .bool_int _ _ _⟩
   | str c => cases (show y = V.str c from rb); obtain ⟨t, rfl⟩ := ry; exact ⟨.bool_str _ _ _, .bool_str _ _ _⟩
   | lst ds =>
    obtain ⟨p, xs, rfl, q, r⟩ := rb
    cases (show v = Value.ref p from ry)
    obtain ⟨its, rv, pl, hz⟩ := I.list (SqL.of (fz _ _ q))
    exact ⟨.bool_list _ pl.isList hu', .bool_list _ pl.isList hu'⟩
   | tup ds =>
    obtain ⟨p, xs, rfl, q, r⟩ := rb
    cases (show v = Value.ref p from ry)
    obtain ⟨its, rv, pl, hz⟩ := I.tuple (SqT.of (fz _ _ q))
    exact ⟨.bool_tuple _ pl hu', .bool_tuple _ pl hu'⟩
   | scr _ => simp [noS] at nb
   | exc _ => simp [noS] at nb
  | int c0 =>
   cases (show x = V.int c0 from ra); obtain ⟨t0, rfl⟩ := rx
   cases b with
   | non => cases (show y = V.non from rb); cases (show v = Value.none from ry); exact ⟨.int_none _ _, .int_none _ _⟩
   | bl c => cases (show y = V.bl c from rb); cases (show v = Value.bool c from ry); exact ⟨.int_bool _ _ _, .int_bool _ _ _⟩
   | int c => cases (show y = V.int c from rb); obtain ⟨t, rfl⟩ := ry; exact ⟨.int_int _ _ _ _, .int_int _ _ _ _⟩
   | str c => cases (show y = V.str c from rb); obtain ⟨t, rfl⟩ := ry; exact ⟨.int_str _ _ _ _, .int_str _ _ _ _⟩
   | lst ds =>
    obtain ⟨p, xs, rfl, q, r⟩ := rb
    cases (show v = Value.ref p from ry)
    obtain ⟨its, rv, pl, hz⟩ := I.list (SqL.of (fz _ _ q))
    exact ⟨.int_list _ _ pl.isList hu', .int_list _ _ pl.isList hu'⟩
   | tup ds =>
    obtain ⟨p, xs, rfl, q, r⟩ := rb
    cases (show v = Value.ref p from ry)
    obtain ⟨its, rv, pl, hz⟩ := I.tuple (SqT.of (fz _ _ q))
    exact ⟨.int_tuple _ _ pl hu', .int_tuple _ _ pl hu'⟩
   | scr _ => simp [noS] at nb
   | exc _ => simp [noS] at nb
  | str c0 =>
   cases (show x = V.str c0 from ra); obtain ⟨t0, rfl⟩ := rx
   cases b with
   | non => cases (show y = V.non from rb); cases (show v = Value.none from ry); exact ⟨.str_none _ _, .str_none _ _⟩
   | bl c => cases (show y = V.bl c from rb); cases (show v = Value.bool c from ry); exact ⟨.str_bool _ _ _, .str_bool _ _ _⟩
   | int c => cases (show y = V.int c from rb); obtain ⟨t, rfl⟩ := ry; exact ⟨.str_int _ _ _ _, .str_int _ _ _ _⟩
   | str c => cases (show y = V.str c from rb); obtain ⟨t, rfl⟩ := ry; exact ⟨.str_str _ _ _ _, .str_str _ _ _ _⟩
   | lst ds =>
    obtain ⟨p, xs, rfl, q, r⟩ := rb
    cases (show v = Value.ref p from ry)
    obtain ⟨its, rv, pl, hz⟩ := I.list (SqL.of (fz _ _ q))
    exact ⟨.str_list _ _ pl.isList hu', .str_list _ _ pl.isList hu'⟩
   | tup ds =>
    obtain ⟨p, xs, rfl, q, r⟩ := rb
    cases (show v = Value.ref p from ry)
    obtain ⟨its, rv, pl, hz⟩ := I.tuple (SqT.of (fz _ _ q))
    exact ⟨.str_tuple _ _ pl hu', .str_tuple _ _ pl hu'⟩
   | scr _ => simp [noS] at nb
   | exc _ => simp [noS] at nb
  | lst ds => simp [depth] at hd
  | tup ds => simp [depth] at hd
  | scr _ => simp [noS] at na
  | exc _ => simp [noS] at na
 | succ n ih =>
  intro A a b x y u v hd na nb hu ra rb rx ry
  have hu' : A.units < cLine := by omega
  have items : ∀ (ds es : List D) (xs ys : List V) (its its2 : List Value), zfW ds ≤ n → noSL ds = true → noSL es = true → RepL X.K G xs ds → RepL X.K G ys es → Vals xs its → Vals ys its2 →
    ∀ j (h1 : j < its.toArray.size) (h2 : j < its2.toArray.size), SeqAt.EqAt A.in1 s its.toArray[j] its2.toArray[j] (eqJ ds es j) := by
   intro ds es xs ys its its2 hd nd ne r r2 rv rv2 j h1 h2
   simp only [List.size_toArray] at h1 h2
   obtain ⟨x1, d1, e1, k1, m1⟩ := zhR rv r (j := j) (u := its[j]) (List.getElem?_eq_getElem h1)
   obtain ⟨x2, d2, e2, k2, m2⟩ := zhR rv2 r2 (j := j) (u := its2[j]) (List.getElem?_eq_getElem h2)
   have e : eqJ ds es j = eqB d1 d2 := by unfold eqJ; rw [e1, e2]
   rw [e]
   have := zgt e1
   simpa using (ih A.in1 d1 d2 x1 x2 _ _ (by omega) (zgg e1 nd) (zgg e2 ne) (by show A.units + 1 + n + 1 < cLine; omega) m1 m2 k1 k2).1
  cases a with
  | scr _ => simp [noS] at na
  | exc _ => simp [noS] at na
  | non => exact ih A .non b x y u v (Nat.zero_le _) na nb (by omega) ra rb rx ry
  | bl c => exact ih A (.bl c) b x y u v (Nat.zero_le _) na nb (by omega) ra rb rx ry
  | int c => exact ih A (.int c) b x y u v (Nat.zero_le _) na nb (by omega) ra rb rx ry
  | str c => exact ih A (.str c) b x y u v (Nat.zero_le _) na nb (by omega) ra rb rx ry
  | lst ds =>
   have ra0 := ra
   obtain ⟨p, xs, rfl, q, r⟩ := ra
   cases (show u = Value.ref p from rx)
   obtain ⟨its, rv, pl, hz⟩ := I.list (SqL.of (fz _ _ q))
   cases b with
   | non => cases (show y = V.non from rb); cases (show v = Value.none from ry); exact ⟨.list_none pl.isList hu', .list_none pl.isList hu'⟩
   | bl c => cases (show y = V.bl c from rb); cases (show v = Value.bool c from ry); exact ⟨.list_bool _ pl.isList hu', .list_bool _ pl.isList hu'⟩
   | int c => cases (show y = V.int c from rb); obtain ⟨t, rfl⟩ := ry; exact ⟨.list_int _ _ pl.isList hu', .list_int _ _ pl.isList hu'⟩
   | str c => cases (show y = V.str c from rb); obtain ⟨t, rfl⟩ := ry; exact ⟨.list_str _ _ pl.isList hu', .list_str _ _ pl.isList hu'⟩
   | scr _ => simp [noS] at nb
   | exc _ => simp [noS] at nb
   | tup es =>
    obtain ⟨p2, ys, rfl, q2, r2⟩ := rb
    cases (show v = Value.ref p2 from ry)
    obtain ⟨its2, rv2, pl2, hz2⟩ := I.tuple (SqT.of (fz _ _ q2))
    exact ⟨.list_tuple pl.isList pl2 hu', .list_tuple pl.isList pl2 hu'⟩
   | lst es =>
    have rb0 := rb
    obtain ⟨p2, ys, rfl, q2, r2⟩ := rb
    cases (show v = Value.ref p2 from ry)
    obtain ⟨its2, rv2, pl2, hz2⟩ := I.list (SqL.of (fz _ _ q2))
    simp only [depth] at hd
    have l1 := rv.length; have l2 := r.length; have l3 := rv2.length; have l4 := r2.length
    have rc : SeqAt.RcAt A s (.ref p) (.ref p2) (eqBL ds es) := by
     by_cases hl : ds.length = es.length
     ·have z := SeqAt.RcAt.lists (A := A) (s := s) (e := eqJ ds es) pl.isList pl2.isList (by simp only [List.size_toArray]; omega) hu' (items ds es xs ys its its2 (by omega) (by simpa only [noS] using na) (by simpa only [noS] using nb) r r2 rv rv2)
      rw [List.size_toArray, ← l1, l2, zfi ds es hl] at z
      exact z
     ·rw [zgi hl]
      refine .lists_lengths pl.isList pl2.isList ?_ hu'
      simp only [List.size_toArray, bne_iff_ne, ne_eq]
      omega
    refine ⟨?_, by simp only [eqB]; exact rc⟩
    by_cases hp : p = p2
    ·subst hp
     have e := RepD.inj na nb ra0 rb0
     cases e
     rw [ziL _ na]
     exact .same _
    ·simp only [eqB]
     exact .of_refs hp rc
  | tup ds =>
   have ra0 := ra
   obtain ⟨p, xs, rfl, q, r⟩ := ra
   cases (show u = Value.ref p from rx)
   obtain ⟨its, rv, pl, hz⟩ := I.tuple (SqT.of (fz _ _ q))
   cases b with
   | non => cases (show y = V.non from rb); cases (show v = Value.none from ry); exact ⟨.tuple_none pl hu', .tuple_none pl hu'⟩
   | bl c => cases (show y = V.bl c from rb); cases (show v = Value.bool c from ry); exact ⟨.tuple_bool _ pl hu', .tuple_bool _ pl hu'⟩
   | int c => cases (show y = V.int c from rb); obtain ⟨t, rfl⟩ := ry; exact ⟨.tuple_int _ _ pl hu', .tuple_int _ _ pl hu'⟩
   | str c => cases (show y = V.str c from rb); obtain ⟨t, rfl⟩ := ry; exact ⟨.tuple_str _ _ pl hu', .tuple_str _ _ pl hu'⟩
   | scr _ => simp [noS] at nb
   | exc _ => simp [noS] at nb
   | lst es =>
    obtain ⟨p2, ys, rfl, q2, r2⟩ := rb
    cases (show v = Value.ref p2 from ry)
    obtain ⟨its2, rv2, pl2, hz2⟩ := I.list (SqL.of (fz _ _ q2))
    exact ⟨.tuple_list pl pl2.isList hu', .tuple_list pl pl2.isList hu'⟩
   | tup es =>
    have rb0 := rb
    obtain ⟨p2, ys, rfl, q2, r2⟩ := rb
    cases (show v = Value.ref p2 from ry)
    obtain ⟨its2, rv2, pl2, hz2⟩ := I.tuple (SqT.of (fz _ _ q2))
    simp only [depth] at hd
    have l1 := rv.length; have l2 := r.length; have l3 := rv2.length; have l4 := r2.length
    have rc : SeqAt.RcAt A s (.ref p) (.ref p2) (eqBL ds es) := by
     have z := SeqAt.RcAt.tuples (A := A) (s := s) (e := eqJ ds es) pl pl2 hu' (items ds es xs ys its its2 (by omega) (by simpa only [noS] using na) (by simpa only [noS] using nb) r r2 rv rv2)
     simp only [List.size_toArray] at z
     by_cases hl : ds.length = es.length
     ·have e1 : min its.length its2.length = ds.length := by omega
      have e2 : (its.length == its2.length) = true := by simp; omega
      rw [e1, e2, Bool.and_true, zfi ds es hl] at z
      exact z
     ·have e2 : (its.length == its2.length) = false := by simp; omega
      rw [e2, Bool.and_false] at z
      rw [zgi hl]
      exact z
    refine ⟨?_, by simp only [eqB]; exact rc⟩
    by_cases hp : p = p2
    ·subst hp
     have e := RepD.inj na nb ra0 rb0
     cases e
     rw [ziL _ na]
     exact .same _
    ·simp only [eqB]
     exact .of_refs hp rc
end
noncomputable def dEq (a b : D) : Option D := if noS a && noS b && decide (depth a ≤ 50) then some (.bl (eqB a b)) else none
noncomputable def dNe (a b : D) : Option D := if noS a && noS b && decide (depth a ≤ 50) then some (.bl (!eqB a b)) else none
noncomputable def rEqD (K : W.Frag) (c : Bool → Bool) : R2 := fun x y H Q => ∃ G a b, Fz G H ∧ RepD K G x a ∧ RepD K G y b ∧ noS a = true ∧ noS b = true ∧ depth a ≤ 50 ∧ Q (.bl (c (eqB a b))) H
theorem op_eqD {X : Cx} (hu : X.A.units + 64 < cLine) : OpR X (compareOp .Eq) (rEqD X.K id) := by
 intro pins s σ H x y v u Q I rx ry h
 obtain ⟨G, a, b, fz, ra, rb, na, nb, hd, q⟩ := h
 exact (eqAt_D I fz 50 X.A a b x y v u hd na nb (by omega) ra rb rx ry).2 _ _ _ _ ⟨.bl _, H, I, rfl, q⟩
theorem zie {X : Cx} {a b : Expr} {ma mb : ME} {pos : Pos} (hu : X.A.units + 64 < cLine) (ha : SE X a ma) (hb : SE X b mb) : SE X (.Compare a [.Eq] [b] pos) (m2 dEq ma mb) := by
 refine zm2 (op_eqD hu) (fun B G H σ ρ x y a b d Q I ra rb hf k => ?_) ha hb (zgY _)
 unfold dEq at hf
 split at hf
 ·rename_i h
  simp only [Bool.and_eq_true, decide_eq_true_eq] at h
  cases hf
  exact ⟨G, a, b, I.fz, ra, rb, h.1.1, h.1.2, h.2, k G H _ I (Fz.refl G) rfl⟩
 ·cases hf
end M
set_option Elab.async false
set_option linter.all false
set_option maxRecDepth 100000
namespace M
open PySem PySem.Spec L2
open PyProof.Rows hiding St
section
variable {X : Cx} {pins : List (Addr × Obj)} {σ : St} {H G : Hp} {s : Shared}
theorem neAt_D (I : Inv X pins σ H s) (fz : Fz G H) (A : Around) (a b : D) (x y : V) (u v : Value) (hd : depth a ≤ 50) (na : noS a = true) (nb : noS b = true) (hu : A.units + 64 < cLine) (ra : RepD X.K G x a) (rb : RepD X.K G y b) (rx : RelV x u) (ry : RelV y v) :
  SeqAt.RcNeAt A s u v (!eqB a b) := by
 have hu' : A.units < cLine := by omega
 have items : ∀ (ds es : List D) (xs ys : List V) (its its2 : List Value), zfW ds ≤ 49 → noSL ds = true → noSL es = true → RepL X.K G xs ds → RepL X.K G ys es → Vals xs its → Vals ys its2 →
   ∀ j (h1 : j < its.toArray.size) (h2 : j < its2.toArray.size), SeqAt.EqAt A.in1 s its.toArray[j] its2.toArray[j] (eqJ ds es j) := by
  intro ds es xs ys its its2 hd nd ne r r2 rv rv2 j h1 h2
  simp only [List.size_toArray] at h1 h2
  obtain ⟨x1, d1, e1, k1, m1⟩ := zhR rv r (j := j) (u := its[j]) (List.getElem?_eq_getElem h1)
  obtain ⟨x2, d2, e2, k2, m2⟩ := zhR rv2 r2 (j := j) (u := its2[j]) (List.getElem?_eq_getElem h2)
  have e : eqJ ds es j = eqB d1 d2 := by unfold eqJ; rw [e1, e2]
  rw [e]
  have := zgt e1
  simpa using (eqAt_D I fz 49 A.in1 d1 d2 x1 x2 _ _ (by omega) (zgg e1 nd) (zgg e2 ne) (by show A.units + 1 + 49 + 1 < cLine; omega) m1 m2 k1 k2).1
 cases a with
 | scr _ => simp [noS] at na
 | exc _ => simp [noS] at na
 | non =>
  cases (show x = V.non from ra); cases (show u = Value.none from rx)
  cases b with
  | non => cases (show y = V.non from rb); cases (show v = Value.none from ry); exact .none_none
  | bl c => cases (show y = V.bl c from rb); cases (show v = Value.bool c from ry); exact .none_bool _
  | int c => cases (show y = V.int c from rb); obtain ⟨t, rfl⟩ := ry; exact .none_int _ _
  | str c => cases (show y = V.str c from rb); obtain ⟨t, rfl⟩ := ry; exact .none_str _ _
  | lst ds =>
   obtain ⟨p, xs, rfl, q, r⟩ := rb
   cases (show v = Value.ref p from ry)
   obtain ⟨its, rv, pl, hz⟩ := I.list (SqL.of (fz _ _ q))
   exact .none_list pl.isList hu'
  | tup ds =>
   obtain ⟨p, xs, rfl, q, r⟩ := rb
   cases (show v = Value.ref p from ry)
   obtain ⟨its, rv, pl, hz⟩ := I.tuple (SqT.of (fz _ _ q))
   exact .none_tuple pl hu'
  | scr _ => simp [noS] at nb
  | exc _ => simp [noS] at nb
 | bl c0 =>
  cases (show x = V.bl c0 from ra); cases (show u = Value.bool c0 from rx)
  cases b with
  | non => cases (show y = V.non from rb); cases (show v = Value.none from ry); exact .bool_none _
  | bl c => cases (show y = V.bl c from rb); cases (show v = Value.bool c from ry); exact .bool_bool _ _
  | int c => cases (show y = V.int c from rb); obtain ⟨t, rfl⟩ := ry; exact .bool_int _ _ _
  | str c => cases (show y = V.str c from rb); obtain ⟨t, rfl⟩ := ry; exact .bool_str _ _ _
  | lst ds =>
   obtain ⟨p, xs, rfl, q, r⟩ := rb
   cases (show v = Value.ref p from ry)
   obtain ⟨its, rv, pl, hz⟩ := I.list (SqL.of (fz _ _ q))
   exact .bool_list _ pl.isList hu'
  | tup ds =>
   obtain ⟨p, xs, rfl, q, r⟩ := rb
   cases (show v = Value.ref p from ry)
   obtain ⟨its, rv, pl, hz⟩ := I.tuple (SqT.of (fz _ _ q))
   exact .bool_tuple _ pl hu'
  | scr _ => simp [noS] at nb
  | exc _ => simp [noS] at nb
 | int c0 =>
  cases (show x = V.int c0 from ra); obtain ⟨t0, rfl⟩ := rx
  cases b with
  | non => cases (show y = V.non from rb); cases (show v = Value.none from ry); exact .int_none _ _
  | bl c => cases (show y = V.bl c from rb); cases (show v = Value.bool c from ry); exact .int_bool _ _ _
  | int c => cases (show y = V.int c from rb); obtain ⟨t, rfl⟩ := ry; exact .int_int _ _ _ _
  | str c => cases (show y = V.str c from rb); obtain ⟨t, rfl⟩ := ry; exact .int_str _ _ _ _
  | lst ds =>
   obtain ⟨p, xs, rfl, q, r⟩ := rb
   cases (show v = Value.ref p from ry)
   obtain ⟨its, rv, pl, hz⟩ := I.list (SqL.of (fz _ _ q))
   exact .int_list _ _ pl.isList hu'
  | tup ds =>
   obtain ⟨p, xs, rfl, q, r⟩ := rb
   cases (show v = Value.ref p from ry)
   obtain ⟨its, rv, pl, hz⟩ := I.tuple (SqT.of (fz _ _ q))
   exact .int_tuple _ _ pl hu'
  | scr _ => simp [noS] at nb
  | exc _ => simp [noS] at nb
 | str c0 =>
  cases (show x = V.str c0 from ra); obtain ⟨t0, rfl⟩ := rx
  cases b with
  | non => cases (show y = V.non from rb); cases (show v = Value.none from ry); exact .str_none _ _
  | bl c => cases (show y = V.bl c from rb); cases (show v = Value.bool c from ry); exact .str_bool _ _ _
  | int c => cases (show y = V.int c from rb); obtain ⟨t, rfl⟩ := ry; exact .str_int _ _ _ _
  | str c => cases (show y = V.str c from rb); obtain ⟨t, rfl⟩ := ry; exact .str_str _ _ _ _
  | lst ds =>
   obtain ⟨p, xs, rfl, q, r⟩ := rb
   cases (show v = Value.ref p from ry)
   obtain ⟨its, rv, pl, hz⟩ := I.list (SqL.of (fz _ _ q))
   exact .str_list _ _ pl.isList hu'
  | tup ds =>
   obtain ⟨p, xs, rfl, q, r⟩ := rb
   cases (show v = Value.ref p from ry)
   obtain ⟨its, rv, pl, hz⟩ := I.tuple (SqT.of (fz _ _ q))
   exact .str_tuple _ _ pl hu'
  | scr _ => simp [noS] at nb
  | exc _ => simp [noS] at nb
 | lst ds =>
  obtain ⟨p, xs, rfl, q, r⟩ := ra
  cases (show u = Value.ref p from rx)
  obtain ⟨its, rv, pl, hz⟩ := I.list (SqL.of (fz _ _ q))
  cases b with
  | non => cases (show y = V.non from rb); cases (show v = Value.none from ry); exact .list_none pl.isList hu'
  | bl c => cases (show y = V.bl c from rb); cases (show v = Value.bool c from ry); exact .list_bool _ pl.isList hu'
  | int c => cases (show y = V.int c from rb); obtain ⟨t, rfl⟩ := ry; exact .list_int _ _ pl.isList hu'
  | str c => cases (show y = V.str c from rb); obtain ⟨t, rfl⟩ := ry; exact .list_str _ _ pl.isList hu'
  | scr _ => simp [noS] at nb
  | exc _ => simp [noS] at nb
  | tup es =>
   obtain ⟨p2, ys, rfl, q2, r2⟩ := rb
   cases (show v = Value.ref p2 from ry)
   obtain ⟨its2, rv2, pl2, hz2⟩ := I.tuple (SqT.of (fz _ _ q2))
   exact .list_tuple pl.isList pl2 hu'
  | lst es =>
   obtain ⟨p2, ys, rfl, q2, r2⟩ := rb
   cases (show v = Value.ref p2 from ry)
   obtain ⟨its2, rv2, pl2, hz2⟩ := I.list (SqL.of (fz _ _ q2))
   simp only [depth] at hd
   have l1 := rv.length; have l2 := r.length; have l3 := rv2.length; have l4 := r2.length
   simp only [eqB]
   by_cases hl : ds.length = es.length
   ·have z := SeqAt.RcNeAt.lists (A := A) (s := s) (e := eqJ ds es) pl.isList pl2.isList (by simp only [List.size_toArray]; omega) hu' (items ds es xs ys its its2 (by omega) (by simpa only [noS] using na) (by simpa only [noS] using nb) r r2 rv rv2)
    rw [List.size_toArray, ← l1, l2, zfi ds es hl] at z
    exact z
   ·rw [zgi hl]
    refine .lists_lengths pl.isList pl2.isList ?_ hu'
    simp only [List.size_toArray, bne_iff_ne, ne_eq]
    omega
 | tup ds =>
  obtain ⟨p, xs, rfl, q, r⟩ := ra
  cases (show u = Value.ref p from rx)
  obtain ⟨its, rv, pl, hz⟩ := I.tuple (SqT.of (fz _ _ q))
  cases b with
  | non => cases (show y = V.non from rb); cases (show v = Value.none from ry); exact .tuple_none pl hu'
  | bl c => cases (show y = V.bl c from rb); cases (show v = Value.bool c from ry); exact .tuple_bool _ pl hu'
  | int c => cases (show y = V.int c from rb); obtain ⟨t, rfl⟩ := ry; exact .tuple_int _ _ pl hu'
  | str c => cases (show y = V.str c from rb); obtain ⟨t, rfl⟩ := ry; exact .tuple_str _ _ pl hu'
  | scr _ => simp [noS] at nb
  | exc _ => simp [noS] at nb
  | lst es =>
   obtain ⟨p2, ys, rfl, q2, r2⟩ := rb
   cases (show v = Value.ref p2 from ry)
   obtain ⟨its2, rv2, pl2, hz2⟩ := I.list (SqL.of (fz _ _ q2))
   exact .tuple_list pl pl2.isList hu'
  | tup es =>
   obtain ⟨p2, ys, rfl, q2, r2⟩ := rb
   cases (show v = Value.ref p2 from ry)
   obtain ⟨its2, rv2, pl2, hz2⟩ := I.tuple (SqT.of (fz _ _ q2))
   simp only [depth] at hd
   have l1 := rv.length; have l2 := r.length; have l3 := rv2.length; have l4 := r2.length
   have z := SeqAt.RcNeAt.tuples (A := A) (s := s) (e := eqJ ds es) pl pl2 hu' (items ds es xs ys its its2 (by omega) (by simpa only [noS] using na) (by simpa only [noS] using nb) r r2 rv rv2)
   simp only [List.size_toArray] at z
   simp only [eqB]
   by_cases hl : ds.length = es.length
   ·have e1 : min its.length its2.length = ds.length := by omega
    have e2 : (its.length == its2.length) = true := by simp; omega
    rw [e1, e2, Bool.and_true, zfi ds es hl] at z
    exact z
   ·have e2 : (its.length == its2.length) = false := by simp; omega
    rw [e2, Bool.and_false] at z
    rw [zgi hl]
    exact z
end
theorem op_neD {X : Cx} (hu : X.A.units + 64 < cLine) : OpR X (compareOp .NotEq) (rEqD X.K not) := by
 intro pins s σ H x y v u Q I rx ry h
 obtain ⟨G, a, b, fz, ra, rb, na, nb, hd, q⟩ := h
 exact neAt_D I fz X.A a b x y v u hd na nb hu ra rb rx ry _ _ _ _ ⟨.bl _, H, I, rfl, q⟩
theorem v2_ne {X : Cx} : V2 X (rEqD X.K not) dNe := by
 intro B G H σ ρ x y a b d Q I ra rb hf k
 unfold dNe at hf
 split at hf
 ·rename_i h
  simp only [Bool.and_eq_true, decide_eq_true_eq] at h
  cases hf
  exact ⟨G, a, b, I.fz, ra, rb, h.1.1, h.1.2, h.2, k G H _ I (Fz.refl G) rfl⟩
 ·cases hf
theorem v2_eq {X : Cx} : V2 X (rEqD X.K id) dEq := by
 intro B G H σ ρ x y a b d Q I ra rb hf k
 unfold dEq at hf
 split at hf
 ·rename_i h
  simp only [Bool.and_eq_true, decide_eq_true_eq] at h
  cases hf
  exact ⟨G, a, b, I.fz, ra, rb, h.1.1, h.1.2, h.2, k G H _ I (Fz.refl G) rfl⟩
 ·cases hf
noncomputable def dIx : D → D → Option D
 | .lst ds, .int i => atI ds i
 | .tup ds, .int i => atI ds i
 | .scr ns, .int i => (atI ns i).map .int
 | _, _ => none
theorem atI_map {α β : Type} (f : α → β) {xs : List α} {i : Int} {v : α} (h : atI xs i = some v) : atI (xs.map f) i = some (f v) := by
 unfold atI at h ⊢
 rw [List.length_map]
 cases q : ixN xs.length i with
 | none => rw [q] at h; cases h
 | some j =>
  rw [q] at h
  show (xs.map f)[j]? = _
  rw [List.getElem?_map, show xs[j]? = some v from h]
  rfl
noncomputable def ReadD (K : W.Frag) (G H : Hp) (v : V) : D → Prop
 | .lst ds => ∃ a xs, v = .ref a ∧ H a = some (.lst xs) ∧ RepL K G xs ds
 | d => RepD K G v d
theorem ReadD.of {K : W.Frag} {G H : Hp} {v : V} {d : D} (fz : Fz G H) (h : RepD K G v d) : ReadD K G H v d := by
 cases d with
 | lst ds => obtain ⟨a, xs, e, q, r⟩ := h; exact ⟨a, xs, e, fz a _ q, r⟩
 | _ => exact h
noncomputable def Sl.read : Sl → Option D
 | .emp => none
 | .two _ _ => none
 | .val d => some d
 | .own ds => some (.lst ds)
 | .par ds => some (.lst ds)
noncomputable def hasV (ρ : R) (j : Nat) : Bool := match ρ[j]? with
 | some (.val _) => true
 | some (.own _) => true
 | some (.par _) => true
 | _ => false
theorem SI.has {K : W.Frag} {B : Bs} {G H : Hp} {σ : St} {ρ : R} (I : SI K B G H σ ρ) {j : Nat} (h : hasV ρ j = true) : ∃ v, σ[j]? = some (some v) := by
 unfold hasV at h
 cases e : ρ[j]? with
 | none => rw [e] at h; cases h
 | some s =>
  rw [e] at h
  have q := I.slot j s e
  cases s with
  | emp => cases h
  | two _ _ => cases h
  | val d => obtain ⟨v, e, _⟩ := q; exact ⟨v, e⟩
  | own d => obtain ⟨l, _, e, _⟩ := q; exact ⟨_, e⟩
  | par d => obtain ⟨l, _, e, _⟩ := q; exact ⟨_, e⟩
theorem SI.read {K : W.Frag} {B : Bs} {G H : Hp} {σ : St} {ρ : R} (I : SI K B G H σ ρ) {j : Nat} {s : Sl} {d : D} {v : V} (hv : σ[j]? = some (some v)) (e : ρ[j]? = some s) (q : s.read = some d) : ReadD K G H v d := by
 have h := I.slot j s e
 cases s with
 | emp => cases q
 | two _ _ => cases q
 | val d' =>
  cases q
  obtain ⟨w, e1, r⟩ := h
  rw [hv] at e1; cases e1
  exact .of I.fz r
 | own ds =>
  cases q
  obtain ⟨l, xs, e1, _, h3, h4, _⟩ := h
  rw [hv] at e1; cases e1
  exact ⟨l, xs, rfl, h3, h4⟩
 | par ds =>
  cases q
  obtain ⟨l, xs, e1, _, h3, h4, _⟩ := h
  rw [hv] at e1; cases e1
  exact ⟨l, xs, rfl, h3, h4⟩
theorem zmi {K : W.Frag} {B : Bs} {G H : Hp} {σ : St} {ρ : R} {x y : V} {a b d : D} {Q : VK} (I : SI K B G H σ ρ) (ra : ReadD K G H x a) (rb : RepD K G y b) (hf : dIx a b = some d) (k : ∀ v, RepD K G v d → Q v H) : rIx K x y H Q := by
 cases a <;> cases b <;> simp only [dIx] at hf <;> try cases hf
 ·rename_i ds i
  obtain ⟨p, xs, rfl, hp, r⟩ := ra
  obtain ⟨v, e, q⟩ := r.at hf
  exact .inl ⟨p, xs, i, v, rfl, rb, SqL.of hp, e, k _ q⟩
 ·rename_i ds i
  obtain ⟨p, xs, rfl, hp, r⟩ := I.tup ra
  obtain ⟨v, e, q⟩ := r.at hf
  exact .inr (.inl ⟨p, xs, i, v, rfl, rb, SqT.of hp, e, k _ q⟩)
 ·rename_i ns i
  obtain ⟨p, rfl, hp⟩ := ra
  cases e : atI ns i with
  | none => rw [e] at hf; cases hf
  | some n =>
   rw [e] at hf
   cases hf
   exact .inl ⟨p, _, i, .int n, rfl, rb, I.fz.sql hp, atI_map V.int e, k _ rfl⟩
theorem v2_ix {X : Cx} : V2 X (rIx X.K) dIx := fun B G H σ ρ x y a b d Q I ra rb hf k => zmi I (.of I.fz ra) rb hf fun v q => k G H v I (Fz.refl G) q
theorem zcx {X : Cx} {a b : Expr} {ma mb : ME} {pos : Pos} (ha : SE X a ma) (hb : SE X b mb) (hs : zir b := by exact fun _ _ => rfl) : SE X (.Subscript a b pos) (m2 dIx ma mb) := se_ix ix_seq v2_ix ha hb hs
noncomputable def eIxV (j : Nat) (mi : ME) : ME := fun ρ => if hasV ρ j then (mi ρ).bind fun p => (p.2[j]?.bind Sl.read).bind fun d => (dIx d p.1).map fun e => (e, p.2) else none
theorem zaj {X : Cx} {b : Expr} {mb : ME} {pos pos' : Pos} (j : Nat) {x : Str} (hb : SE X b mb) (hN : X.N[j]? = some x := by rfl) (hv : Vis X.env.scope x := by first | exact Or.inl rfl | exact Or.inr (Or.inl rfl) | exact Or.inr (Or.inr rfl)) (hd : (x == ("__debug__" : Str)) = false := by decide)
    (hcd : (x == ("__classdict__" : Str)) = false := by decide) (hs : zir b := by exact fun _ _ => rfl) : SE X (.Subscript (.Name x pos') b pos) (eIxV j mb) := by
  obtain ⟨tb, pb, sb⟩ := hb
  refine ⟨_, pe_ix ix_seq (zf5 hN hv hd hcd) pb hs, fun B G H σ ρ d ρ' Q I hm k => ?_⟩
  unfold eIxV at hm
  split at hm
  · rename_i hh
    obtain ⟨v, ev⟩ := I.has hh
    cases e1 : mb ρ with
    | none => rw [e1] at hm; cases hm
    | some q =>
      obtain ⟨i, ρ1⟩ := q
      rw [e1] at hm
      simp only [Option.bind_some] at hm
      cases e2 : ρ1[j]? with
      | none => rw [e2] at hm; cases hm
      | some s =>
        rw [e2] at hm
        simp only [Option.bind_some] at hm
        cases e3 : s.read with
        | none => rw [e3] at hm; cases hm
        | some a =>
          rw [e3] at hm
          simp only [Option.bind_some] at hm
          cases e4 : dIx a i with
          | none => rw [e4] at hm; cases hm
          | some c =>
            rw [e4] at hm
            cases hm
            exact ⟨v, ev, sb B G H σ ρ i ρ' _ I e1 fun G1 H1 y I1 f1 r1 => zmi I1 (I1.read ev e2 e3) r1 e4 fun w q => k G1 H1 w I1 f1 q⟩
  · cases hm
noncomputable def dLen : List D → Option D
 | [.lst ds] => some (.int ds.length)
 | [.tup ds] => some (.int ds.length)
 | [.scr ns] => some (.int ns.length)
 | _ => none
theorem zkF {K : W.Frag} {B : Bs} {G H : Hp} {σ : St} {ρ : R} {x : V} {a d : D} {Q : VK} (I : SI K B G H σ ρ) (ra : ReadD K G H x a) (hf : dLen [a] = some d) (k : ∀ v, RepD K G v d → Q v H) :
  ∃ p ys, [x] = [V.ref p] ∧ (SqL K H p ys ∨ SqT K H p ys) ∧ Q (.int ys.length) H := by
 cases a <;> simp only [dLen] at hf <;> try cases hf
 ·obtain ⟨p, xs, rfl, hp, r⟩ := ra
  exact ⟨p, xs, rfl, .inl (SqL.of hp), by rw [r.length]; exact k _ rfl⟩
 ·obtain ⟨p, xs, rfl, hp, r⟩ := I.tup ra
  exact ⟨p, xs, rfl, .inr (SqT.of hp), by rw [r.length]; exact k _ rfl⟩
 ·obtain ⟨p, rfl, hp⟩ := ra
  exact ⟨p, _, rfl, .inl (I.fz.sql hp), by rw [List.length_map]; exact k _ rfl⟩
theorem RepL.one {K : W.Frag} {G : Hp} {xs : List V} {d : D} (h : RepL K G xs [d]) : ∃ x, xs = [x] ∧ RepD K G x d := by
 obtain ⟨x, ys, e, q, r⟩ := h
 cases (show ys = [] from r)
 exact ⟨x, e, q⟩
theorem RepL.two {K : W.Frag} {G : Hp} {xs : List V} {a b : D} (h : RepL K G xs [a, b]) : ∃ x y, xs = [x, y] ∧ RepD K G x a ∧ RepD K G y b := by
 obtain ⟨x, ys, e, q, r⟩ := h
 obtain ⟨y, e2, q2⟩ := r.one
 subst e2
 exact ⟨x, y, e, q, q2⟩
theorem dLen_one {ds : List D} {d : D} (h : dLen ds = some d) : ∃ a, ds = [a] := by
 match ds, h with
 | [a], _ => exact ⟨a, rfl⟩
 | [], h => cases h
 | _ :: _ :: _, h => simp [dLen] at h
theorem vc_len {X : Cx} : VC X (fun xs H Q => ∃ p ys, xs = [.ref p] ∧ (SqL X.K H p ys ∨ SqT X.K H p ys) ∧ Q (.int ys.length) H) dLen := by
 intro B G H σ ρ xs ds d Q I r hf k
 obtain ⟨a, rfl⟩ := dLen_one hf
 obtain ⟨x, rfl, ra⟩ := r.one
 exact zkF I (.of I.fz ra) hf fun v q => k G H v I (Fz.refl G) q
theorem zmZ {X : Cx} {e : Expr} {ma : MA} {p pos : Pos} (ml : X.mg "len" = none) (ha : SA X [e] ma) (hg : Gl X "len" := by rfl) (he : starEach [e] X.env = (false, eval e X.env) :: starEach [] X.env := by rfl) : SE X (.Call (.Name "len" p) [e] [] pos) (mC dLen ma) :=
 zeY zgC vc_len PySem.boot_len ml ha hg (by decide) (by decide) he rfl
noncomputable def zcN (j : Nat) : ME := fun ρ => (ρ[j]?.bind Sl.read).bind fun d => (dLen [d]).map fun e => (e, ρ)
theorem za2 {X : Cx} {p pos pos' : Pos} (j : Nat) {x : Str} (ml : X.mg "len" = none) (hN : X.N[j]? = some x := by rfl) (hv : Vis X.env.scope x := by first | exact Or.inl rfl | exact Or.inr (Or.inl rfl) | exact Or.inr (Or.inr rfl)) (hd : (x == ("__debug__" : Str)) = false := by decide)
  (hcd : (x == ("__classdict__" : Str)) = false := by decide) (hg : Gl X "len" := by rfl) (he : starEach [.Name x pos'] X.env = (false, eval (.Name x pos') X.env) :: starEach [] X.env := by rfl) : SE X (.Call (.Name "len" p) [.Name x pos'] [] pos) (zcN j) := by
 refine ⟨_, zit zgC hg ml PySem.boot_len (zfD (zf5 hN hv hd hcd) zhK he) (by decide) (by decide) he rfl, fun B G H σ ρ d ρ' Q I hm k => ?_⟩
 unfold zcN at hm
 cases e2 : ρ[j]? with
 | none => rw [e2] at hm; cases hm
 | some s =>
  rw [e2] at hm
  simp only [Option.bind_some] at hm
  cases e3 : s.read with
  | none => rw [e3] at hm; cases hm
  | some a =>
   rw [e3] at hm
   simp only [Option.bind_some] at hm
   cases e4 : dLen [a] with
   | none => rw [e4] at hm; cases hm
   | some c =>
    rw [e4] at hm
    cases hm
    have hh : hasV ρ j = true := by
     unfold hasV
     rw [e2]
     cases s <;> first | rfl | cases e3
    obtain ⟨v, ev⟩ := I.has hh
    exact ⟨v, ev, zkF I (I.read ev e2 e3) e4 fun w q => k G H w I (Fz.refl G) q⟩
noncomputable def zcJ : List D → Option D
 | [.lst ds] => some (.tup ds)
 | [.tup ds] => some (.tup ds)
 | [.scr ns] => some (.tup (ns.map .int))
 | _ => none
theorem vc_tuple {X : Cx} : VC X (fun xs H Q => ∃ p ys, xs = [.ref p] ∧ ((SqL X.K H p ys ∧ ∀ l, H l = none → Q (.ref l) (upd H l (.tup ys))) ∨ (SqT X.K H p ys ∧ Q (.ref p) H))) zcJ := by
 intro B G H σ ρ xs ds d Q I r hf k
 match ds, hf with
 | [a], hf =>
  obtain ⟨x, rfl, ra⟩ := r.one
  cases a <;> simp only [zcJ] at hf <;> try cases hf
  ·obtain ⟨p, ys, rfl, hp, q⟩ := I.lst ra
   refine ⟨p, ys, rfl, .inl ⟨SqL.of hp, fun l hl => ?_⟩⟩
   obtain ⟨I2, f2, r2⟩ := I.newT hl q
   exact k _ _ _ I2 f2 r2
  ·obtain ⟨p, ys, e, hp, q⟩ := I.tup ra
   subst e
   exact ⟨p, ys, rfl, .inr ⟨SqT.of hp, k G H _ I (Fz.refl G) ra⟩⟩
  ·obtain ⟨p, rfl, hp⟩ := ra
   refine ⟨p, _, rfl, .inl ⟨I.fz.sql hp, fun l hl => ?_⟩⟩
   obtain ⟨I2, f2, r2⟩ := I.newT hl (RepL.ints _)
   exact k _ _ _ I2 f2 r2
 | [], hf => cases hf
 | _ :: _ :: _, hf => simp [zcJ] at hf
theorem zcw {X : Cx} {e : Expr} {ma : MA} {p pos : Pos} (ml : X.mg "tuple" = none) (ha : SA X [e] ma) (hg : Gl X "tuple" := by rfl) (he : starEach [e] X.env = (false, eval e X.env) :: starEach [] X.env := by rfl) (hb : bootBuiltins "tuple" = some (.type "tuple") := by decide +kernel) :
  SE X (.Call (.Name "tuple" p) [e] [] pos) (mC zcJ ma) :=
 zi4 ziF vc_tuple hb ml ha hg (by decide) (by decide) he rfl
noncomputable def za7 : List D → Option (List D)
 | [.lst ds] => some ds
 | [.tup ds] => some ds
 | [.scr ns] => some (ns.map .int)
 | _ => none
noncomputable def oC (f : List D → Option (List D)) (ma : MA) : MO := fun ρ => (ma ρ).bind fun p => (f p.1).map fun d => (d, p.2)
theorem oC_inv {f : List D → Option (List D)} {ma : MA} {ρ ρ' : R} {d : List D} (h : oC f ma ρ = some (d, ρ')) : ∃ a, ma ρ = some (a, ρ') ∧ f a = some d := by
 unfold oC at h
 cases e1 : ma ρ with
 | none => rw [e1] at h; cases h
 | some p =>
  obtain ⟨a, ρ1⟩ := p
  rw [e1] at h
  simp only [Option.bind_some] at h
  cases e3 : f a with
  | none => rw [e3] at h; cases h
  | some c => rw [e3] at h; cases h; exact ⟨a, rfl, e3⟩
theorem SI.newO {K : W.Frag} {B : Bs} {G H : Hp} {σ : St} {ρ : R} (I : SI K B G H σ ρ) {p : Addr} (hp : H p = none) (xs : List V) : SI K B G (upd H p (.lst xs)) σ ρ ∧ G p = none ∧ (upd H p (.lst xs)) p = some (.lst xs) ∧ B.H p = none ∧ ∀ i, Wr ρ i → σ[i]? ≠ some (some (.ref p)) := by
 refine ⟨I.allocO hp _, I.fz.free hp, za4, I.there p hp, fun i w z => ?_⟩
 obtain ⟨s, ds, e, q⟩ := w
 obtain ⟨l, ys, h1, _, h3, _⟩ := I.wr e q
 rw [z] at h1
 cases h1
 rw [hp] at h3
 cases h3
theorem zg9 {X : Cx} {e : Expr} {ma : MA} {p pos : Pos} (ml : X.mg "list" = none) (ha : SA X [e] ma) (hg : Gl X "list" := by rfl) (he : starEach [e] X.env = (false, eval e X.env) :: starEach [] X.env := by rfl) (hb : bootBuiltins "list" = some (.type "list") := by decide +kernel) :
  SO X (.Call (.Name "list" p) [e] [] pos) (oC za7 ma) := by
 obtain ⟨t, pa, sa⟩ := ha
 refine ⟨_, zfo zjE hg ml hb pa (by decide) (by decide) he rfl, fun B G H σ ρ ds ρ' Q I hm k => ?_⟩
 obtain ⟨as, e1, e2⟩ := oC_inv hm
 refine sa B G H σ ρ as ρ' _ I e1 fun G1 H1 vs I1 f1 r1 => ?_
 match as, e2 with
 | [a], e2 =>
  obtain ⟨x, rfl, ra⟩ := r1.one
  have fin : ∀ (q : Addr) (ys : List V) (sq : SqL X.K H1 q ys ∨ SqT X.K H1 q ys), x = .ref q → RepL X.K G1 ys ds → ∃ p ys, [x] = [V.ref p] ∧ (SqL X.K H1 p ys ∨ SqT X.K H1 p ys) ∧ ∀ l, H1 l = none → Q (.ref l) (upd H1 l (.lst ys)) := fun q ys sq ex r => by
   refine ⟨q, ys, by rw [ex], sq, fun l hl => ?_⟩
   obtain ⟨I2, g2, h2, b2, n2⟩ := I1.newO hl ys
   exact k G1 _ l ys I2 f1 g2 h2 r b2 n2
  cases a <;> simp only [za7] at e2 <;> try cases e2
  ·obtain ⟨p, ys, ex, hp, q⟩ := I1.lst ra
   exact fin p ys (.inl (SqL.of hp)) ex q
  ·obtain ⟨p, ys, ex, hp, q⟩ := I1.tup ra
   exact fin p ys (.inr (SqT.of hp)) ex q
  ·obtain ⟨p, ex, hp⟩ := ra
   exact fin p _ (.inl (I1.fz.sql hp)) ex (RepL.ints _)
 | [], e2 => cases e2
 | _ :: _ :: _, e2 => simp [za7] at e2
section
variable {X : Cx} {es : List Expr} {ma : MA} {pos : Pos}
noncomputable def eTup (ma : MA) : ME := fun ρ => (ma ρ).bind fun p => if p.1.length ≤ 16777216 then some (.tup p.1, p.2) else none
theorem zbD {x1} (h : SA X es ma) : SE X (.Tuple es x1 pos) (eTup ma) := by
 obtain ⟨t, pa, sa⟩ := h
 refine ⟨_, pe_tup pa, fun B G H σ ρ d ρ' Q I hm k => ?_⟩
 unfold eTup at hm
 cases e1 : ma ρ with
 | none => rw [e1] at hm; cases hm
 | some q =>
  obtain ⟨ds, ρ1⟩ := q
  rw [e1] at hm
  simp only [Option.bind_some] at hm
  split at hm
  ·rename_i hl
   cases hm
   refine sa B G H σ ρ ds ρ' _ I e1 fun G1 H1 vs I1 f1 r1 => ⟨by rw [r1.length, sizeLine_eq]; exact hl, fun p hp => ?_⟩
   obtain ⟨I2, f2, r2⟩ := I1.newT hp r1
   exact k _ _ _ I2 (f1.trans f2) r2
  ·cases hm
noncomputable def oLst (ma : MA) : MO := fun ρ => (ma ρ).bind fun p => if p.1.length ≤ 16777216 then some (p.1, p.2) else none
theorem zeE (h : SA X es ma) : SO X (.List es pos) (oLst ma) := by
 obtain ⟨t, pa, sa⟩ := h
 refine ⟨_, pe_lst pa, fun B G H σ ρ d ρ' Q I hm k => ?_⟩
 unfold oLst at hm
 cases e1 : ma ρ with
 | none => rw [e1] at hm; cases hm
 | some q =>
  obtain ⟨ds, ρ1⟩ := q
  rw [e1] at hm
  simp only [Option.bind_some] at hm
  split at hm
  ·rename_i hl
   cases hm
   refine sa B G H σ ρ _ ρ' _ I e1 fun G1 H1 vs I1 f1 r1 => ⟨by rw [r1.length, sizeLine_eq]; exact hl, fun p hp => ?_⟩
   obtain ⟨I2, g2, h2, b2, n2⟩ := I1.newO hp vs
   exact k G1 _ p vs I2 f1 g2 h2 r1 b2 n2
  ·cases hm
end
end M
set_option Elab.async false
set_option linter.all false
set_option maxRecDepth 100000
namespace M
open PySem PySem.Spec L2
open PyProof.Rows hiding St
theorem zal {α β : Type} {o : Option α} {f : α → Option β} {b : β} (h : o.bind f = some b) : ∃ a, o = some a ∧ f a = some b := by
 cases o with
 | none => cases h
 | some a => exact ⟨a, rfl, h⟩
theorem za8 {α β : Type} {o : Option α} {f : α → β} {b : β} (h : o.map f = some b) : ∃ a, o = some a ∧ f a = b := by
 cases o with
 | none => cases h
 | some a => cases h; exact ⟨a, rfl, rfl⟩
noncomputable def dTru : D → Option Bool
 | .bl b => some b
 | .int i => some (i != 0)
 | .non => some false
 | .lst ds => some (!ds.isEmpty)
 | .tup ds => some (!ds.isEmpty)
 | _ => none
noncomputable def tTru (ma : ME) : MT := fun ρ => (ma ρ).bind fun p => (dTru p.1).map fun b => (b, p.2)
section
variable {X : Cx} {a b c : Expr} {ma mb mc : ME} {pos : Pos}
theorem zmA {xs : List V} {ds : List D} {K : W.Frag} {G : Hp} (h : RepL K G xs ds) : (!xs.isEmpty) = !ds.isEmpty := by
 have := h.length
 cases xs <;> cases ds <;> simp_all
theorem zf7 (ha : SE X a ma) (he : ∀ whole, isTrue a X.env whole = (do let v ← whole; standAt a.pos; holding [v] (truthy v)) := by exact fun _ => rfl) : STt X a (tTru ma) := by
  obtain ⟨ta, pa, sa⟩ := ha
  refine ⟨_, pt_truth pa he, fun B G H σ ρ d ρ' Q I hm k => ?_⟩
  obtain ⟨⟨x, ρ1⟩, e1, e2⟩ := zal hm
  obtain ⟨t, e3, e4⟩ := za8 e2
  obtain ⟨rfl, rfl⟩ := Prod.mk.inj e4
  refine sa B G H σ ρ x ρ1 _ I e1 fun G1 H1 v I1 f1 r1 => ⟨t, ?_, k G1 H1 I1 f1⟩
  cases x <;> simp only [dTru] at e3 <;> try cases e3
  · cases r1; exact rfl
  · cases r1; exact rfl
  · cases r1; exact rfl
  · obtain ⟨p, xs, rfl, hp, r⟩ := I1.lst r1
    exact .inl ⟨xs, SqL.of hp, (zmA r).symm⟩
  · obtain ⟨p, xs, rfl, hp, r⟩ := I1.tup r1
    exact .inr (.inl ⟨xs, SqT.of hp, (zmA r).symm⟩)
theorem zla {op : CmpOp} {r : R2} {f : D → D → Option D} (ho : OpR X (compareOp op) r) (hv : V2 X r f) (hB : ∀ x y d, f x y = some d → ∃ t, d = .bl t) (ha : SE X a ma) (hb : SE X b mb) (hm : behindInMarks op b = false) : STt X (.Compare a [op] [b] pos) (tTru (m2 f ma mb)) := by
 obtain ⟨ta, pa, sa⟩ := ha
 obtain ⟨tb, pb, sb⟩ := hb
 refine ⟨_, pt_cmpR ho pa pb hm, fun B G H σ ρ d ρ' Q I hm k => ?_⟩
 obtain ⟨⟨x, ρ1⟩, e1, e2⟩ := zal hm
 obtain ⟨t, e3, e4⟩ := za8 e2
 obtain ⟨rfl, rfl⟩ := Prod.mk.inj e4
 obtain ⟨_, _, _, _, _, e5⟩ := m2_inv e1
 obtain ⟨t', rfl⟩ := hB _ _ _ e5
 obtain rfl : t' = t := Option.some.inj e3
 refine zk2 hv sa sb B G H σ ρ (.bl t') ρ1 _ I e1 fun G1 H1 v I1 f1 r1 => ?_
 cases (show v = V.bl t' from r1)
 exact ⟨t', rfl, k G1 H1 I1 f1⟩
theorem zhG {g : Int → Int → Bool} (x y d : D) (h : dI2 (fun _ _ => true) (fun i j => .bl (g i j)) x y = some d) : ∃ t, d = .bl t := by
 cases x <;> cases y <;> simp only [dI2] at h <;> try cases h
 exact ⟨_, rfl⟩
theorem bl_eq (x y d : D) (h : dEq x y = some d) : ∃ t, d = .bl t := by
 unfold dEq at h
 split at h
 ·cases h; exact ⟨_, rfl⟩
 ·cases h
theorem bl_ne (x y d : D) (h : dNe x y = some d) : ∃ t, d = .bl t := by
 unfold dNe at h
 split at h
 ·cases h; exact ⟨_, rfl⟩
 ·cases h
theorem st_lt (ha : SE X a ma) (hb : SE X b mb) : STt X (.Compare a [.Lt] [b] pos) (tTru (m2 dLt ma mb)) := zla zjF zdg zhG ha hb (zgY _)
theorem st_gt (ha : SE X a ma) (hb : SE X b mb) : STt X (.Compare a [.Gt] [b] pos) (tTru (m2 dGt ma mb)) := zla op_gt zdg zhG ha hb (zgY _)
theorem zdt (hu : X.A.units + 64 < cLine) (ha : SE X a ma) (hb : SE X b mb) : STt X (.Compare a [.Eq] [b] pos) (tTru (m2 dEq ma mb)) := zla (op_eqD hu) v2_eq bl_eq ha hb (zgY _)
theorem zgK (hu : X.A.units + 64 < cLine) (ha : SE X a ma) (hb : SE X b mb) : STt X (.Compare a [.NotEq] [b] pos) (tTru (m2 dNe ma mb)) := zla (op_neD hu) v2_ne bl_ne ha hb (zgY _)
end
noncomputable def STw (X : Cx) (e : Expr) (m : MT) : Prop :=
 ∃ t, PW X e t ∧ ∀ B G H σ ρ d ρ' (Q : Bool → Hp → Prop), SI X.K B G H σ ρ → m ρ = some (d, ρ') → (∀ G' H', SI X.K B G' H' σ ρ' → Fz G G' → Q d H') → t σ H Q
theorem STw.st {X : Cx} {e : Expr} {m : MT} (h : STw X e m) : STt X e m := let ⟨t, p, s⟩ := h; ⟨t, p.pt, s⟩
noncomputable def zks (a b : MT) : MT := fun ρ => (a ρ).bind fun p => if p.1 then b p.2 else some (false, p.2)
noncomputable def tOrM (a b : MT) : MT := fun ρ => (a ρ).bind fun p => if p.1 then some (true, p.2) else b p.2
noncomputable def zhh (a : MT) : MT := fun ρ => (a ρ).map fun p => (!p.1, p.2)
section
variable {X : Cx} {a b c : Expr} {ma mb : MT} {pos : Pos} {rest : List Expr}
theorem zki (h : STt X a ma) : STw X (.BoolOp .And [a] pos) ma := let ⟨t, p, s⟩ := h; ⟨t, pw_and1 p, s⟩
theorem zkM (h : STt X a ma) : STw X (.BoolOp .Or [a] pos) ma := let ⟨t, p, s⟩ := h; ⟨t, pw_or1 p, s⟩
theorem zkW (ha : STt X a ma) (hb : STw X (.BoolOp .And (b :: rest) pos) mb) : STw X (.BoolOp .And (a :: b :: rest) pos) (zks ma mb) := by
 obtain ⟨ta, pa, sa⟩ := ha
 obtain ⟨tb, pb, sb⟩ := hb
 refine ⟨_, pw_and pa pb, fun B G H σ ρ d ρ' Q I hm k => ?_⟩
 obtain ⟨⟨x, ρ1⟩, e1, e2⟩ := zal hm
 refine sa B G H σ ρ x ρ1 _ I e1 fun G1 H1 I1 f1 => ?_
 cases x with
 | true => exact sb B G1 H1 σ ρ1 d ρ' Q I1 e2 fun G2 H2 I2 f2 => k G2 H2 I2 (f1.trans f2)
 | false => cases e2; exact k G1 H1 I1 f1
theorem zkq (ha : STt X a ma) (hb : STw X (.BoolOp .Or (b :: rest) pos) mb) : STw X (.BoolOp .Or (a :: b :: rest) pos) (tOrM ma mb) := by
 obtain ⟨ta, pa, sa⟩ := ha
 obtain ⟨tb, pb, sb⟩ := hb
 refine ⟨_, pw_or pa pb, fun B G H σ ρ d ρ' Q I hm k => ?_⟩
 obtain ⟨⟨x, ρ1⟩, e1, e2⟩ := zal hm
 refine sa B G H σ ρ x ρ1 _ I e1 fun G1 H1 I1 f1 => ?_
 cases x with
 | false => exact sb B G1 H1 σ ρ1 d ρ' Q I1 e2 fun G2 H2 I2 f2 => k G2 H2 I2 (f1.trans f2)
 | true => cases e2; exact k G1 H1 I1 f1
theorem zgB (ha : STt X a ma) : STt X (.UnaryOp .Not a pos) (zhh ma) := by
 obtain ⟨ta, pa, sa⟩ := ha
 refine ⟨_, pt_not pa, fun B G H σ ρ d ρ' Q I hm k => ?_⟩
 obtain ⟨⟨x, ρ1⟩, e1, e2⟩ := za8 hm
 cases e2
 exact sa B G H σ ρ x ρ1 _ I e1 fun G1 H1 I1 f1 => k G1 H1 I1 f1
end
noncomputable def eAnd (a b : ME) : ME := fun ρ => (a ρ).bind fun p => match p.1 with
 | .bl true => b p.2
 | .bl false => some (.bl false, p.2)
 | _ => none
noncomputable def eOr (a b : ME) : ME := fun ρ => (a ρ).bind fun p => match p.1 with
 | .bl true => some (.bl true, p.2)
 | .bl false => b p.2
 | _ => none
noncomputable def dNot : D → Option D
 | .bl b => some (.bl (!b))
 | _ => none
section
variable {X : Cx} {a b c : Expr} {ma mb : ME} {pos : Pos} {rest : List Expr} {op : BoolOp}
theorem zhM (h : SE X a ma) : SE X (.BoolOp op [a] pos) ma := let ⟨t, p, s⟩ := h; ⟨t, pe_one p, s⟩
theorem zhI (ha : SE X a ma) (hb : SE X (.BoolOp .And (b :: rest) pos) mb) : SE X (.BoolOp .And (a :: b :: rest) pos) (eAnd ma mb) := by
 obtain ⟨ta, pa, sa⟩ := ha
 obtain ⟨tb, pb, sb⟩ := hb
 refine ⟨_, pe_and pa pb, fun B G H σ ρ d ρ' Q I hm k => ?_⟩
 obtain ⟨⟨x, ρ1⟩, e1, e2⟩ := zal hm
 refine sa B G H σ ρ x ρ1 _ I e1 fun G1 H1 v I1 f1 r1 => ?_
 cases x <;> try cases e2
 rename_i y
 refine ⟨y, r1, ?_⟩
 cases y with
 | true => exact sb B G1 H1 σ ρ1 d ρ' Q I1 e2 fun G2 H2 v I2 f2 r2 => k G2 H2 v I2 (f1.trans f2) r2
 | false => cases e2; exact k G1 H1 _ I1 f1 rfl
theorem se_not (ha : SE X a ma) : SE X (.UnaryOp .Not a pos) (m1 dNot ma) := by
 obtain ⟨ta, pa, sa⟩ := ha
 refine ⟨_, pe_not pa, fun B G H σ ρ d ρ' Q I hm k => ?_⟩
 obtain ⟨x, e1, e2⟩ := m1_inv hm
 refine sa B G H σ ρ x ρ' _ I e1 fun G1 H1 v I1 f1 r1 => ?_
 cases x <;> simp only [dNot] at e2 <;> try cases e2
 exact ⟨_, r1, k G1 H1 _ I1 f1 rfl⟩
noncomputable def eIf (c : MT) (a b : ME) : ME := fun ρ => (c ρ).bind fun p => if p.1 then a p.2 else b p.2
end
noncomputable def zfj (f g : D → D → Option D) (a b c : ME) : ME := fun ρ => (a ρ).bind fun p => (b p.2).bind fun q => (f p.1 q.1).bind fun t => match t with
 | .bl true => (c q.2).bind fun r => (g q.1 r.1).map fun d => (d, r.2)
 | .bl false => some (.bl false, q.2)
 | _ => none
section
variable {X : Cx} {a b c : Expr} {ma mb mc : ME} {pos : Pos}
theorem zgZ {r r' : R2} {f g : D → D → Option D} {ta tb tc : TE} (hv : V2 X r f) (hw : V2 X r' g)
  (sa : ∀ B G H σ ρ d ρ' (Q : VK), SI X.K B G H σ ρ → ma ρ = some (d, ρ') → (∀ G' H' v, SI X.K B G' H' σ ρ' → Fz G G' → RepD X.K G' v d → Q v H') → ta σ H Q)
  (sb : ∀ B G H σ ρ d ρ' (Q : VK), SI X.K B G H σ ρ → mb ρ = some (d, ρ') → (∀ G' H' v, SI X.K B G' H' σ ρ' → Fz G G' → RepD X.K G' v d → Q v H') → tb σ H Q)
  (sc : ∀ B G H σ ρ d ρ' (Q : VK), SI X.K B G H σ ρ → mc ρ = some (d, ρ') → (∀ G' H' v, SI X.K B G' H' σ ρ' → Fz G G' → RepD X.K G' v d → Q v H') → tc σ H Q) :
  ∀ B G H σ ρ d ρ' (Q : VK), SI X.K B G H σ ρ → zfj f g ma mb mc ρ = some (d, ρ') → (∀ G' H' v, SI X.K B G' H' σ ρ' → Fz G G' → RepD X.K G' v d → Q v H') → zmX r r' ta tb tc σ H Q := by
 intro B G H σ ρ d ρ' Q I hm k
 obtain ⟨⟨x, ρ1⟩, e1, h1⟩ := zal hm
 obtain ⟨⟨y, ρ2⟩, e2, h2⟩ := zal h1
 obtain ⟨t, e3, h3⟩ := zal h2
 refine sa B G H σ ρ x ρ1 _ I e1 fun G1 H1 v I1 f1 r1 => sb B G1 H1 σ ρ1 y ρ2 _ I1 e2 fun G2 H2 u I2 f2 r2 => hv B G2 H2 σ ρ2 v u x y t _ I2 (r1.mono f2) r2 e3 fun G3 H3 z I3 f3 r3 => ?_
 cases t <;> try cases h3
 rename_i t
 refine ⟨t, r3, ?_⟩
 cases t with
 | true =>
  obtain ⟨⟨w, ρ3⟩, e4, h4⟩ := zal h3
  obtain ⟨d', e5, e6⟩ := za8 h4
  cases e6
  exact sc B G3 H3 σ ρ2 w ρ3 _ I3 e4 fun G4 H4 s I4 f4 r4 => hw B G4 H4 σ ρ3 u s y w d Q I4 (r2.mono (f3.trans f4)) r4 e5 fun G5 H5 z5 I5 f5 r5 => k G5 H5 z5 I5 (f1.trans (f2.trans (f3.trans (f4.trans f5)))) r5
 | false => cases h3; exact k G3 H3 _ I3 (f1.trans (f2.trans f3)) rfl
theorem zgR {op op' : CmpOp} {r r' : R2} {f g : D → D → Option D} (ho : OpR X (compareOp op) r) (ho' : OpR X (compareOp op') r') (hv : V2 X r f) (hw : V2 X r' g) (ha : SE X a ma) (hb : SE X b mb) (hc : SE X c mc)
  (hm : lastMarks [op, op'] [b, c] = false := by with_unfolding_all rfl) : SE X (.Compare a [op, op'] [b, c] pos) (zfj f g ma mb mc) := by
 obtain ⟨ta, pa, sa⟩ := ha
 obtain ⟨tb, pb, sb⟩ := hb
 obtain ⟨tc, pc, sc⟩ := hc
 exact ⟨_, pe_chain ho ho' pa pb pc hm, zgZ hv hw sa sb sc⟩
theorem zgP {op op' : CmpOp} {r r' : R2} {f g : D → D → Option D} (ho : OpR X (compareOp op) r) (ho' : OpR X (compareOp op') r') (hv : V2 X r f) (hw : V2 X r' g) (hB : ∀ x y d, g x y = some d → ∃ t, d = .bl t) (ha : SE X a ma) (hb : SE X b mb) (hc : SE X c mc)
  (hm : lastMarks [op, op'] [b, c] = false := by with_unfolding_all rfl) : STt X (.Compare a [op, op'] [b, c] pos) (tTru (zfj f g ma mb mc)) := by
 obtain ⟨ta, pa, sa⟩ := ha
 obtain ⟨tb, pb, sb⟩ := hb
 obtain ⟨tc, pc, sc⟩ := hc
 refine ⟨_, pt_chain ho ho' pa pb pc hm, fun B G H σ ρ d ρ' Q I hm k => ?_⟩
 obtain ⟨⟨x, ρ1⟩, e1, e2⟩ := zal hm
 obtain ⟨t, e3, e4⟩ := za8 e2
 obtain ⟨rfl, rfl⟩ := Prod.mk.inj e4
 have hx : ∃ t', x = .bl t' := by
  obtain ⟨⟨x', ρ1'⟩, _, h1⟩ := zal e1
  obtain ⟨⟨y', ρ2'⟩, _, h2⟩ := zal h1
  obtain ⟨t', et', h3⟩ := zal h2
  clear et'
  cases t' <;> try cases h3
  rename_i t'
  cases t' with
  | true =>
   obtain ⟨⟨w, ρ3⟩, e4, h4⟩ := zal h3
   obtain ⟨d', e5, e6⟩ := za8 h4
   cases e6
   exact hB _ _ _ e5
  | false => cases h3; exact ⟨_, rfl⟩
 obtain ⟨t', rfl⟩ := hx
 obtain rfl : t' = t := Option.some.inj e3
 refine zgZ hv hw sa sb sc B G H σ ρ (.bl t') ρ1 _ I e1 fun G1 H1 v I1 f1 r1 => ?_
 cases (show v = V.bl t' from r1)
 exact ⟨t', rfl, k G1 H1 I1 f1⟩
end
inductive Fl where
 | next | brk | cont | ret (r : Sl)
noncomputable abbrev MS := R → Option (Fl × R)
noncomputable def ResOk (K : W.Frag) (B : Bs) (G H : Hp) (v : V) : Sl → Prop
 | .val d => RepD K G v d
 | .own ds => ∃ l xs, v = .ref l ∧ G l = none ∧ H l = some (.lst xs) ∧ RepL K G xs ds ∧ B.H l = none
 | .two ds es => ∃ t l xs m ys, v = .ref t ∧ H t = some (.tup [.ref l, .ref m]) ∧ l ≠ m ∧ G l = none ∧ H l = some (.lst xs) ∧ RepL K G xs ds ∧ B.H l = none ∧ G m = none ∧ H m = some (.lst ys) ∧ RepL K G ys es ∧ B.H m = none
 | _ => False
noncomputable def Post (K : W.Frag) (B : Bs) (G : Hp) (E : Ends) (fl : Fl) (ρ' : R) : Prop := match fl with
 | .next => ∀ G' H' σ', SI K B G' H' σ' ρ' → Fz G G' → E.nx σ' H'
 | .brk => ∀ G' H' σ', SI K B G' H' σ' ρ' → Fz G G' → E.bk σ' H'
 | .cont => ∀ G' H' σ', SI K B G' H' σ' ρ' → Fz G G' → E.ct σ' H'
 | .ret r => ∀ G' H' σ' v, SI K B G' H' σ' ρ' → Fz G G' → ResOk K B G' H' v r → E.rt v H'
theorem Post.mono {K : W.Frag} {B : Bs} {G G1 : Hp} {E : Ends} {fl : Fl} {ρ' : R} (h : Post K B G E fl ρ') (f : Fz G G1) : Post K B G1 E fl ρ' := by
 cases fl with
 | next => exact fun G' H' σ' I g => h G' H' σ' I (f.trans g)
 | brk => exact fun G' H' σ' I g => h G' H' σ' I (f.trans g)
 | cont => exact fun G' H' σ' I g => h G' H' σ' I (f.trans g)
 | ret r => exact fun G' H' σ' v I g => h G' H' σ' v I (f.trans g)
noncomputable def SS (X : Cx) (st : Stmt) (m : MS) : Prop := ∃ t, PS X st t ∧ ∀ B G H σ ρ fl ρ' (E : Ends), SI X.K B G H σ ρ → m ρ = some (fl, ρ') → Post X.K B G E fl ρ' → t E σ H
noncomputable def SSs (X : Cx) (st : List Stmt) (m : MS) : Prop := ∃ t, PSs X st t ∧ ∀ B G H σ ρ fl ρ' (E : Ends), SI X.K B G H σ ρ → m ρ = some (fl, ρ') → Post X.K B G E fl ρ' → t E σ H
noncomputable def zcv : MS := fun ρ => some (.next, ρ)
noncomputable def sSeq (a b : MS) : MS := fun ρ => (a ρ).bind fun p => match p.1 with
 | .next => b p.2
 | f => some (f, p.2)
section
variable {X : Cx} {st : Stmt} {rest : List Stmt} {m n : MS} {e : Expr} {me : ME} {pos : Pos}
theorem zaQ : SSs X [] zcv := ⟨_, pss_nil, fun B G H σ ρ fl ρ' E I hm k => by cases hm; exact k G H σ I (Fz.refl G)⟩
theorem zan (h : SS X st m) : SSs X [st] m := let ⟨t, p, s⟩ := h; ⟨t, pss_one p, s⟩
theorem zah (h : SS X st m) (hr : SSs X rest n) : SSs X (st :: rest) (sSeq m n) := by
 obtain ⟨t, p, s⟩ := h
 obtain ⟨u, q, z⟩ := hr
 refine ⟨_, pss_cons p q, fun B G H σ ρ fl ρ' E I hm k => ?_⟩
 obtain ⟨⟨f, ρ1⟩, e1, e2⟩ := zal hm
 refine s B G H σ ρ f ρ1 _ I e1 ?_
 cases f with
 | next => exact fun G1 H1 σ1 I1 f1 => z B G1 H1 σ1 ρ1 fl ρ' E I1 e2 (k.mono f1)
 | brk => cases e2; exact k
 | cont => cases e2; exact k
 | ret r => cases e2; exact k
noncomputable def sExpr (m : ME) : MS := fun ρ => (m ρ).map fun p => (.next, p.2)
noncomputable def sRet (m : ME) : MS := fun ρ => (m ρ).map fun p => (.ret (.val p.1), p.2)
theorem zaL (h : SE X e me) : SS X (.Return (some e) pos) (sRet me) := by
 obtain ⟨t, p, s⟩ := h
 refine ⟨_, zmz p, fun B G H σ ρ fl ρ' E I hm k => ?_⟩
 obtain ⟨⟨d, ρ1⟩, e1, e2⟩ := za8 hm
 cases e2
 exact s B G H σ ρ d ρ1 _ I e1 fun G1 H1 v I1 f1 r1 => k G1 H1 σ v I1 f1 r1
noncomputable def zjZ (m : MO) : MS := fun ρ => (m ρ).map fun p => (.ret (.own p.1), p.2)
theorem zhf {mo : MO} (h : SO X e mo) : SS X (.Return (some e) pos) (zjZ mo) := by
 obtain ⟨t, p, s⟩ := h
 refine ⟨_, zmz p, fun B G H σ ρ fl ρ' E I hm k => ?_⟩
 obtain ⟨⟨d, ρ1⟩, e1, e2⟩ := za8 hm
 cases e2
 exact s B G H σ ρ d ρ1 _ I e1 fun G1 H1 l xs I1 f1 g1 h1 r1 b1 _ => k G1 H1 σ _ I1 f1 ⟨l, xs, rfl, g1, h1, r1, b1⟩
theorem SI.emp {K : W.Frag} {B : Bs} {G H : Hp} {σ : St} {ρ : R} (I : SI K B G H σ ρ) (i : Nat) : SI K B G H σ (ρ.set i .emp) where
 fz := I.fz
 g0 := I.g0
 new := I.new
 keep := I.keep
 there := I.there
 len := by rw [List.length_set]; exact I.len
 slot := fun j s e => by
  by_cases z : j = i
  ·subst z
   rw [List.getElem?_set] at e
   simp only [if_true] at e
   split at e
   ·cases e; trivial
   ·cases e
  ·rw [List.getElem?_set_ne (Ne.symm z)] at e
   exact I.slot j s e
 dis := fun j k hjk hj hk => by
  rcases hj.set with ⟨_, h1⟩ | ⟨h1, w1⟩
  ·exact absurd rfl h1
  rcases hk.set with ⟨_, h2⟩ | ⟨h2, w2⟩
  ·exact absurd rfl h2
  exact I.dis j k hjk w1 w2
noncomputable def ziB (i : Nat) : MS := fun ρ => match ρ[i]? with
 | some (.val d) => some (.ret (.val d), ρ)
 | some (.own ds) => some (.ret (.own ds), ρ.set i .emp)
 | _ => none
theorem zgy (i : Nat) {x : Str} {pos' : Pos} (hN : X.N[i]? = some x := by rfl) (hv : Vis X.env.scope x := by first | exact Or.inl rfl | exact Or.inr (Or.inl rfl) | exact Or.inr (Or.inr rfl)) (hd : (x == ("__debug__" : Str)) = false := by decide)
  (hcd : (x == ("__classdict__" : Str)) = false := by decide) : SS X (.Return (some (.Name x pos')) pos) (ziB i) := by
 refine ⟨_, zmz (zf5 hN hv hd hcd), fun B G H σ ρ fl ρ' E I hm k => ?_⟩
 unfold ziB at hm
 cases e : ρ[i]? with
 | none => rw [e] at hm; cases hm
 | some s =>
  rw [e] at hm
  have h := I.slot i s e
  cases s with
  | emp => cases hm
  | two _ _ => cases hm
  | par ds => cases hm
  | val d => cases hm; obtain ⟨v, h1, h2⟩ := h; exact ⟨v, h1, k G H σ v I (Fz.refl G) h2⟩
  | own ds =>
   cases hm
   obtain ⟨l, xs, h1, h2, h3, h4, h5⟩ := h
   exact ⟨.ref l, h1, k G H σ _ (I.emp i) (Fz.refl G) ⟨l, xs, rfl, h2, h3, h4, h5⟩⟩
noncomputable def sIf (c : MT) (a b : MS) : MS := fun ρ => (c ρ).bind fun p => if p.1 then a p.2 else b p.2
theorem zca {c : Expr} {a b : List Stmt} {mc : MT} {ma mb : MS} (hc : STt X c mc) (ha : SSs X a ma) (hb : SSs X b mb) : SS X (.If c a b pos) (sIf mc ma mb) := by
 obtain ⟨tc, pc, sc⟩ := hc
 obtain ⟨ta, pa, sa⟩ := ha
 obtain ⟨tb, pb, sb⟩ := hb
 refine ⟨_, ps_if pc pa pb, fun B G H σ ρ fl ρ' E I hm k => ?_⟩
 obtain ⟨⟨x, ρ1⟩, e1, e2⟩ := zal hm
 refine sc B G H σ ρ x ρ1 _ I e1 fun G1 H1 I1 f1 => ?_
 cases x with
 | true => exact sa B G1 H1 σ ρ1 fl ρ' E I1 e2 (k.mono f1)
 | false => exact sb B G1 H1 σ ρ1 fl ρ' E I1 e2 (k.mono f1)
end
noncomputable def SG (X : Cx) (tg : Expr) (g : D → R → Option R) : Prop := ∃ t, PG X tg t ∧ ∀ B G H σ ρ v d ρ' (Q : St → Hp → Prop), SI X.K B G H σ ρ → RepD X.K G v d → g d ρ = some ρ' → (∀ G' H' σ', SI X.K B G' H' σ' ρ' → Fz G G' → Q σ' H') → t v σ H Q
noncomputable def SGs (X : Cx) (tgs : List Expr) (g : List D → R → Option R) : Prop := ∃ t, PGs X tgs t ∧ ∀ B G H σ ρ vs ds ρ' (Q : St → Hp → Prop), SI X.K B G H σ ρ → RepL X.K G vs ds → g ds ρ = some ρ' → (∀ G' H' σ', SI X.K B G' H' σ' ρ' → Fz G G' → Q σ' H') → t vs σ H Q
noncomputable def gN (i : Nat) : D → R → Option R := fun d ρ => some (ρ.set i (.val d))
noncomputable def zfy : List D → R → Option R := fun ds ρ => match ds with
 | [] => some ρ
 | _ => none
noncomputable def zaP (g : D → R → Option R) (h : List D → R → Option R) : List D → R → Option R := fun ds ρ => match ds with
 | d :: ds => (g d ρ).bind fun ρ1 => h ds ρ1
 | [] => none
noncomputable def gT (n : Nat) (g : List D → R → Option R) : D → R → Option R := fun d ρ => match d with
 | .tup ds => if ds.length = n then g ds ρ else none
 | _ => none
section
variable {X : Cx} {pos : Pos}
theorem zap (i : Nat) {x : Str} (hN : X.N.Nodup) (hi : X.N[i]? = some x := by rfl) (hx : Loc X.env.scope x := by first | exact Or.inl rfl | exact Or.inr rfl) (hf : X.fn x = true ∨ X.env.scope.names.lookup x = some .local := by first | exact Or.inl rfl | exact Or.inr rfl) : SG X (.Name x pos) (gN i) :=
 ⟨_, zmt hN hi hx hf, fun B G H σ ρ v d ρ' Q I r hm k => by cases hm; exact k G H _ (I.set r) (Fz.refl G)⟩
theorem zcK : SGs X [] zfy := ⟨_, pgs_nil, fun B G H σ ρ vs ds ρ' Q I r hm k => by
 cases ds with
 | nil => cases hm; exact ⟨r, k G H σ I (Fz.refl G)⟩
 | cons => cases hm⟩
theorem zar {e : Expr} {es : List Expr} {g : D → R → Option R} {h : List D → R → Option R} (h1 : SG X e g) (h2 : SGs X es h) (hs : (assignEach (e :: es) X.env).map (·.2) = assign e X.env :: (assignEach es X.env).map (·.2) := by rfl) : SGs X (e :: es) (zaP g h) := by
 obtain ⟨t, p, s⟩ := h1
 obtain ⟨u, q, z⟩ := h2
 refine ⟨_, pgs_cons p q hs, fun B G H σ ρ vs ds ρ' Q I r hm k => ?_⟩
 cases ds with
 | nil => cases hm
 | cons d ds =>
  obtain ⟨x, ys, rfl, rx, ry⟩ := r
  obtain ⟨ρ1, e1, e2⟩ := zal hm
  exact ⟨x, ys, rfl, s B G H σ ρ x d ρ1 _ I rx e1 fun G1 H1 σ1 I1 f1 => z B G1 H1 σ1 ρ1 ys ds ρ' Q I1 (ry.mono f1) e2 fun G2 H2 σ2 I2 f2 => k G2 H2 σ2 I2 (f1.trans f2)⟩
theorem zeu {es : List Expr} {k : Nat} {g : List D → R → Option R} {n : Nat} (hc : X.calm = true) (h : SGs X es g) (hn : (assignEach es X.env).length = n := by rfl) (hst : (assignEach es X.env).findIdx? (·.1) = none := by rfl) : SG X (.Tuple es k pos) (gT n g) := by
 obtain ⟨t, p, s⟩ := h
 refine ⟨_, pg_tup hc p hn hst, fun B G H σ ρ v d ρ' Q I r hm k => ?_⟩
 cases d <;> try cases hm
 rename_i ds
 simp only [gT] at hm
 split at hm
 ·rename_i hl
  obtain ⟨a, xs, e, ha, rx⟩ := I.tup r
  exact ⟨a, xs, e, SqT.of ha, by rw [rx.length]; exact hl, s B G H σ ρ xs ds ρ' Q I rx hm k⟩
 ·cases hm
variable {e tg : Expr} {me : ME} {mo : MO}
noncomputable def sAsg (m : ME) (g : D → R → Option R) : MS := fun ρ => (m ρ).bind fun p => (g p.1 p.2).map fun ρ' => (.next, ρ')
theorem zgF {g : D → R → Option R} (he : SE X e me) (hg : SG X tg g) (hs : swapsWithSole [tg] e pos.line X.env = pure false := by rfl) (hw : swappedStores [tg] e X.env = pure none := by rfl)
  (h1 : (assignEach [tg] X.env).map (·.2) = [assign tg X.env] := by rfl) : SS X (.Assign [tg] e pos) (sAsg me g) := by
 obtain ⟨t, p, s⟩ := he
 obtain ⟨u, q, z⟩ := hg
 refine ⟨_, ps_asg p q hs hw h1, fun B G H σ ρ fl ρ' E I hm k => ?_⟩
 obtain ⟨⟨d, ρ1⟩, e1, h2⟩ := zal hm
 obtain ⟨ρ2, e2, e3⟩ := za8 h2
 obtain ⟨rfl, rfl⟩ := Prod.mk.inj e3
 exact s B G H σ ρ d ρ1 _ I e1 fun G1 H1 v I1 f1 r1 => z B G1 H1 σ ρ1 v d ρ2 _ I1 r1 e2 fun G2 H2 σ2 I2 f2 => k G2 H2 σ2 I2 (f1.trans f2)
noncomputable def sSet (i : Nat) (m : ME) : MS := fun ρ => (m ρ).map fun p => (.next, p.2.set i (.val p.1))
theorem zax (i : Nat) {x : Str} {pos' : Pos} (he : SE X e me) (hN : X.N.Nodup) (hi : X.N[i]? = some x := by rfl) (hx : Loc X.env.scope x := by first | exact Or.inl rfl | exact Or.inr rfl) (hs : swapsWith e (some (.Name x pos')) pos.line X.env = pure false := by rfl)
    (hf : X.fn x = true ∨ X.env.scope.names.lookup x = some .local := by first | exact Or.inl rfl | exact Or.inr rfl) : SS X (.Assign [.Name x pos'] e pos) (sSet i me) := by
  obtain ⟨t, p, s⟩ := he
  refine ⟨_, ps_set hN hi hx p hs hf, fun B G H σ ρ fl ρ' E I hm k => ?_⟩
  obtain ⟨⟨d, ρ1⟩, e1, e3⟩ := za8 hm
  cases e3
  exact s B G H σ ρ d ρ1 _ I e1 fun G1 H1 v I1 f1 r1 => k G1 H1 _ (I1.set r1) f1
noncomputable def zfn (i : Nat) (m : MO) : MS := fun ρ => (m ρ).map fun p => (.next, p.2.set i (.own p.1))
theorem zcR (i : Nat) {x : Str} {pos' : Pos} (he : SO X e mo) (hN : X.N.Nodup) (hi : X.N[i]? = some x := by rfl) (hx : Loc X.env.scope x := by first | exact Or.inl rfl | exact Or.inr rfl) (hs : swapsWith e (some (.Name x pos')) pos.line X.env = pure false := by rfl)
    (hf : X.fn x = true ∨ X.env.scope.names.lookup x = some .local := by first | exact Or.inl rfl | exact Or.inr rfl) : SS X (.Assign [.Name x pos'] e pos) (zfn i mo) := by
  obtain ⟨t, p, s⟩ := he
  refine ⟨_, ps_set hN hi hx p hs hf, fun B G H σ ρ fl ρ' E I hm k => ?_⟩
  obtain ⟨⟨d, ρ1⟩, e1, e3⟩ := za8 hm
  cases e3
  exact s B G H σ ρ d ρ1 _ I e1 fun G1 H1 l xs I1 f1 g1 h1 r1 b1 n1 => k G1 H1 _ (I1.setO g1 h1 r1 b1 n1) f1
noncomputable def sApp (i : Nat) (m : ME) : MS := fun ρ => if (ρ[i]?.bind Sl.items).isSome then (m ρ).bind fun p => p.2[i]?.bind fun s => s.items.bind fun ds => if ds.length < 16777216 then some (.next, p.2.set i (s.put (ds ++ [p.1]))) else none else none
theorem zfV (i : Nat) {x : Str} {pos' apos cpos : Pos} (he : SE X e me) (hN : X.N[i]? = some x := by rfl) (hv : Vis X.env.scope x := by first | exact Or.inl rfl | exact Or.inr (Or.inl rfl) | exact Or.inr (Or.inr rfl)) (hd : (x == ("__debug__" : Str)) = false := by decide)
  (hcd : (x == ("__classdict__" : Str)) = false := by decide)
  (hbase : attributeBase (.Name x pos') "append" X.env (eval (.Name x pos') X.env) = eval (.Name x pos') X.env := by rfl)
  (hfew : ((backTo cpos (starEach [e] X.env)).all (fun x => !x.1) && (backToKw cpos (keywordEach [] X.env)).all (fun x => x.1.isSome)
   && decide ([e].length + ([] : List Keyword).length + (if ([] : List Keyword).isEmpty then 0 else 1) < 30)) = true := by rfl)
  (hline : (apos.endLine == cpos.line) = true := by rfl) (hs : starEach [e] X.env = (false, eval e X.env) :: starEach [] X.env := by rfl) : SS X (.Expr (.Call (.Attribute (.Name x pos') "append" apos) [e] [] cpos) pos) (sApp i me) := by
 obtain ⟨t, p, s⟩ := he
 refine ⟨_, ps_expr (pe_bm PySem.F.plainAttrs_list PySem.F.slot_list_append PySem.F.type_list_append ziX (zf5 hN hv hd hcd) (zfD p zhK hs) hbase hfew hline hs rfl) (by rfl), fun B G H σ ρ fl ρ' E I hm k => ?_⟩
 unfold sApp at hm
 split at hm
 ·rename_i hso
  obtain ⟨ds0, hso⟩ := Option.isSome_iff_exists.mp hso
  obtain ⟨s0, e0, q0⟩ := zal hso
  obtain ⟨l, xs0, h1, h2, h3, h4⟩ := I.wr e0 q0
  obtain ⟨⟨d, ρ1⟩, e1, hm⟩ := zal hm
  obtain ⟨s1, e2, hm⟩ := zal hm
  obtain ⟨ds, e3, hm⟩ := zal hm
  split at hm
  ·rename_i hl
   cases hm
   refine ⟨.ref l, h1, .inl ⟨rfl, _, SqL.of h3⟩, s B G H σ ρ d ρ1 _ I e1 fun G1 H1 v I1 f1 r1 => ?_⟩
   obtain ⟨l', xs, k1, k2, k3, k4⟩ := I1.wr e2 e3
   rw [h1] at k1; cases k1
   refine ⟨l, xs, v, rfl, rfl, k3, by rw [k4.length, sizeLine_eq]; exact hl, ?_⟩
   exact k G1 _ σ (I1.write e2 e3 h1 (k4.snoc r1)) f1
  ·cases hm
 ·cases hm
noncomputable def sPut (j : Nat) (mi me : ME) : MS := fun ρ => (me ρ).bind fun p => if hasV p.2 j then (mi p.2).bind fun q => match q.1 with
 | .int k => q.2[j]?.bind fun s => s.items.bind fun ds => (ixN ds.length k).bind fun n => some (.next, q.2.set j (s.put (ds.set n p.1)))
 | _ => none else none
theorem zgA (j : Nat) {x : Str} {i : Expr} {mi : ME} {pos' tpos : Pos} (he : SE X e me) (hi : SE X i mi) (hN : X.N[j]? = some x := by rfl) (hv : Vis X.env.scope x := by first | exact Or.inl rfl | exact Or.inr (Or.inl rfl) | exact Or.inr (Or.inr rfl)) (hd : (x == ("__debug__" : Str)) = false := by decide)
  (hcd : (x == ("__classdict__" : Str)) = false := by decide)
  (ha : ∀ v, assign (.Subscript (.Name x pos') i tpos) X.env v = (do
   let ov ← holding [v] (eval (.Name x pos') X.env)
   let iv ← holding [v, ov] (eval i X.env)
   standAt tpos
   holding [v, ov, iv] (setItem ov iv v)
   release [v, ov, iv] []) := by exact fun _ => rfl)
  (hs : swapsWithSole [.Subscript (.Name x pos') i tpos] e pos.line X.env = pure false := by rfl) (hw : swappedStores [.Subscript (.Name x pos') i tpos] e X.env = pure none := by rfl)
  (h1 : (assignEach [.Subscript (.Name x pos') i tpos] X.env).map (·.2) = [assign (.Subscript (.Name x pos') i tpos) X.env] := by rfl) : SS X (.Assign [.Subscript (.Name x pos') i tpos] e pos) (sPut j mi me) := by
 obtain ⟨t, p, s⟩ := he
 obtain ⟨u, q, z⟩ := hi
 refine ⟨_, ps_asg p (pg_sub (zf5 hN hv hd hcd) q zlb ha) hs hw h1, fun B G H σ ρ fl ρ' E I hm k => ?_⟩
 obtain ⟨⟨d, ρ1⟩, e1, hm⟩ := zal hm
 refine s B G H σ ρ d ρ1 _ I e1 fun G1 H1 v I1 f1 r1 => ?_
 split at hm
 ·rename_i hh
  obtain ⟨w, ew⟩ := I1.has hh
  obtain ⟨⟨kd, ρ2⟩, e2, hm⟩ := zal hm
  cases kd <;> try cases hm
  rename_i kk
  obtain ⟨s2, e3, hm⟩ := zal hm
  obtain ⟨ds, e4, hm⟩ := zal hm
  obtain ⟨n, e5, hm⟩ := zal hm
  cases hm
  refine ⟨w, ew, z B G1 H1 σ ρ1 (.int kk) ρ2 _ I1 e2 fun G2 H2 y I2 f2 r2 => ?_⟩
  obtain ⟨l, xs, k1, k2, k3, k4⟩ := I2.wr e3 e4
  rw [ew] at k1; cases k1
  refine ⟨l, xs, kk, n, rfl, r2, k3, by rw [k4.length]; exact e5, ?_⟩
  exact k G2 _ σ (I2.write e3 e4 ew (k4.set n (r1.mono f2))) (f1.trans f2)
 ·cases hm
end
structure Itm (K : W.Frag) (J : It) (G : Hp) (items : List D) : Prop where
 go : ∀ H i, Fz G H → i < items.length → J.go i H
 yld : ∀ H i x H', Fz G H → J.yld i H x H' → ∀ d, items[i]? = some d → (H' = H ∧ RepD K G x d) ∨ ∃ p xs ds, H p = none ∧ H' = upd H p (.tup xs) ∧ x = .ref p ∧ d = .tup ds ∧ RepL K G xs ds
 stop : ∀ H i, Fz G H → items.length ≤ i → J.stop i H
noncomputable def SIt (X : Cx) (tg it : Expr) (m : MA) : Prop := ∃ wi, PI X tg it wi ∧ ∀ B G H σ ρ ds ρ' (Q : It → Hp → Prop), SI X.K B G H σ ρ → m ρ = some (ds, ρ') → (∀ J G' H', SI X.K B G' H' σ ρ' → Fz G G' → Itm X.K J G' ds → Q J H') → wi σ H Q
noncomputable def forM (f : D → R → Option (Fl × R)) : List D → R → Option (Fl × R)
 | [], ρ => some (.next, ρ)
 | d :: ds, ρ => (f d ρ).bind fun p => match p.1 with
  | .next => forM f ds p.2
  | .cont => forM f ds p.2
  | .brk => some (.next, p.2)
  | .ret r => some (.ret r, p.2)
noncomputable def sFor (mi : MA) (g : D → R → Option R) (mb : MS) : MS := fun ρ => (mi ρ).bind fun p => forM (fun d ρ => (g d ρ).bind fun ρ' => mb ρ') p.1 p.2
theorem SI.yld {K : W.Frag} {B : Bs} {G H H' : Hp} {σ : St} {ρ : R} {x : V} {d : D} (I : SI K B G H σ ρ)
  (h : (H' = H ∧ RepD K G x d) ∨ ∃ p xs ds, H p = none ∧ H' = upd H p (.tup xs) ∧ x = .ref p ∧ d = .tup ds ∧ RepL K G xs ds) : ∃ G', SI K B G' H' σ ρ ∧ Fz G G' ∧ RepD K G' x d := by
 rcases h with ⟨rfl, r⟩ | ⟨p, xs, ds, hp, rfl, rfl, rfl, r⟩
 ·exact ⟨G, I, Fz.refl G, r⟩
 ·obtain ⟨I2, f2, r2⟩ := I.newT hp r
  exact ⟨_, I2, f2, r2⟩
theorem zff {X : Cx} {tg it : Expr} {body : List Stmt} {mi : MA} {g : D → R → Option R} {mb : MS} {pos : Pos} (hp : PassesOwn (model X.prog X.w) X.A X.env X.xe) (hc : X.calm = true) (hi : SIt X tg it mi) (hg : SG X tg g) (hb : SSs X body mb)
    (hs : ∀ x, foldedSetIterable it X.env x = pure x := by exact fun _ => rfl) : SS X (.For tg it body [] pos) (sFor mi g mb) := by
  obtain ⟨wi, pi, si⟩ := hi
  obtain ⟨tg', pg, sg⟩ := hg
  obtain ⟨tb, pb, sb⟩ := hb
  refine ⟨_, ps_for hp hc pi pg pb hs, fun B G H σ ρ fl ρ' E I hm k => ?_⟩
  obtain ⟨⟨ds, ρ1⟩, e1, hm⟩ := zal hm
  refine si B G H σ ρ ds ρ1 _ I e1 fun J G1 H1 I1 f1 IT => ?_
  refine ⟨fun i m σ H => m = ds.length - i ∧ i ≤ ds.length ∧ ∃ G2 ρ2, SI X.K B G2 H σ ρ2 ∧ Fz G1 G2 ∧ forM (fun d ρ => (g d ρ).bind fun ρ' => mb ρ') (ds.drop i) ρ2 = some (fl, ρ'), ⟨ds.length, by simp, Nat.zero_le _, G1, ρ1, I1, Fz.refl _, by simpa using hm⟩, ?_⟩
  rintro i m σ2 H2 ⟨rfl, hi, G2, ρ2, I2, f2, e2⟩
  by_cases hlt : i < ds.length
  · rw [List.drop_eq_getElem_cons hlt] at e2
    simp only [forM] at e2
    obtain ⟨⟨f, ρ3⟩, e3, e4⟩ := zal e2
    obtain ⟨ρ2', e5, e6⟩ := zal e3
    have fz2 : Fz G1 H2 := f2.trans I2.fz
    refine .inr ⟨IT.go H2 i fz2 hlt, fun σ' H' => (∃ G3, SI X.K B G3 H' σ' ρ3 ∧ Fz G1 G3) ∧ (f = .next ∨ f = .cont), ?_, fun x H' y => ?_⟩
    · rintro σ' H' ⟨⟨G3, I3, f3⟩, hf⟩
      refine ⟨ds.length - (i + 1), by omega, rfl, hlt, G3, ρ3, I3, f3, ?_⟩
      rcases hf with rfl | rfl <;> exact e4
    · have yy := IT.yld H2 i x H' fz2 y ds[i] (List.getElem?_eq_getElem hlt)
      have yy2 : (H' = H2 ∧ RepD X.K G2 x ds[i]) ∨ ∃ p xs es, H2 p = none ∧ H' = upd H2 p (.tup xs) ∧ x = .ref p ∧ ds[i] = .tup es ∧ RepL X.K G2 xs es := by
        rcases yy with ⟨a, b⟩ | ⟨p, xs, es, a, b, c, d, e⟩
        · exact .inl ⟨a, b.mono f2⟩
        · exact .inr ⟨p, xs, es, a, b, c, d, e.mono f2⟩
      obtain ⟨G3, I3, f3, r3⟩ := I2.yld yy2
      refine sg B G3 H' σ2 ρ2 x ds[i] ρ2' _ I3 r3 e5 fun G4 H4 σ4 I4 f4 => sb B G4 H4 σ4 ρ2' f ρ3 _ I4 e6 ?_
      have ff : Fz G1 G4 := f2.trans (f3.trans f4)
      cases f with
      | next => exact fun G5 H5 σ5 I5 f5 => ⟨⟨G5, I5, ff.trans f5⟩, .inl rfl⟩
      | cont => exact fun G5 H5 σ5 I5 f5 => ⟨⟨G5, I5, ff.trans f5⟩, .inr rfl⟩
      | brk => cases e4; exact fun G5 H5 σ5 I5 f5 => k G5 H5 σ5 I5 (f1.trans (ff.trans f5))
      | ret r => cases e4; exact fun G5 H5 σ5 v I5 f5 => k G5 H5 σ5 v I5 (f1.trans (ff.trans f5))
  · have e : i = ds.length := by omega
    subst e
    rw [List.drop_length] at e2
    cases e2
    exact .inl ⟨IT.stop H2 _ (f2.trans I2.fz) (Nat.le_refl _), k G2 H2 σ2 I2 (f1.trans f2)⟩
section
variable {X : Cx} {tg it : Expr} {me : ME}
noncomputable def iSeq (m : ME) : MA := fun ρ => (m ρ).bind fun p => (za7 [p.1]).map fun ds => (ds, p.2)
theorem pi_or {l : Expr} {tl : TE} (hl : PE X l tl) : PI X tg l (fun σ H R => tl σ H fun x H1 => ∃ a, x = .ref a ∧ (((∃ xs, SqL X.K H1 a xs) ∧ R (Itl X.K a) H1) ∨ ((∃ xs, SqT X.K H1 a xs) ∧ R (Itt X.K a) H1))) := by
 intro pins s σ H R I h
 refine thn (hl pins s σ H _ I h) fun v s1 ⟨x, H1, I1, r1, q1⟩ => ?_
 obtain ⟨a, e, q⟩ := q1
 subst e
 cases r1
 rcases q with ⟨⟨xs, hq⟩, q⟩ | ⟨⟨xs, hq⟩, q⟩
 ·obtain ⟨its, rv, p, hz⟩ := I1.list hq
  refine wpAny_pyIter_list p.isList ?_
  refine ⟨s1.heap.objs.size, [s1.heap.objs.size], _, _, H1, rfl, I1.kept (t' := s1.toks) fun b o e => Heap.get?_push_of_some _ e, zlK a _, ⟨_, Heap.get?_push_size _ rfl, rfl, rfl⟩, fun b hb => ?_, q⟩
  have e : b = s1.heap.objs.size := by simpa using hb
  subst e
  exact I1.fpOk (Nat.le_refl _) (I1.hok.fresh (Nat.le_refl _))
 ·obtain ⟨its, rv, p, hz⟩ := I1.tuple hq
  refine wpAny_pyIter_tuple (show s1.heap.IsTuple a its.toArray from p) ?_
  refine ⟨s1.heap.objs.size, [s1.heap.objs.size], _, _, H1, rfl, I1.kept (t' := s1.toks) fun b o e => Heap.get?_push_of_some _ e, zlw a _, ⟨_, Heap.get?_push_size _ rfl, rfl, rfl⟩, fun b hb => ?_, q⟩
  have e : b = s1.heap.objs.size := by simpa using hb
  subst e
  exact I1.fpOk (Nat.le_refl _) (I1.hok.fresh (Nat.le_refl _))
theorem zk8 {K : W.Frag} {G : Hp} {a : Addr} {xs : List V} {ds : List D} (hg : SqL K G a xs) (r : RepL K G xs ds) : Itm K (Itl K a) G ds where
 go := fun H i f hi => by
  have hl := r.length
  exact ⟨xs, xs[i], f.sql hg, List.getElem?_eq_getElem (by omega)⟩
 yld := fun H i x H' f y d e => by
  obtain ⟨rfl, y⟩ := y
  have hx := y xs (f.sql hg)
  obtain ⟨x', h1, h2⟩ := r.get e
  rw [hx] at h1; cases h1
  exact .inl ⟨rfl, h2⟩
 stop := fun H i f hi => ⟨xs, f.sql hg, by rw [r.length]; exact hi⟩
theorem itm_tup {K : W.Frag} {G : Hp} {a : Addr} {xs : List V} {ds : List D} (hg : G a = some (.tup xs)) (r : RepL K G xs ds) : Itm K (Itt K a) G ds where
 go := fun H i f hi => by
  have hl := r.length
  exact ⟨xs, xs[i], SqT.of (f _ _ hg), List.getElem?_eq_getElem (by omega)⟩
 yld := fun H i x H' f y d e => by
  obtain ⟨rfl, y⟩ := y
  have hx := y xs (SqT.of (f _ _ hg))
  obtain ⟨x', h1, h2⟩ := r.get e
  rw [hx] at h1; cases h1
  exact .inl ⟨rfl, h2⟩
 stop := fun H i f hi => ⟨xs, SqT.of (f _ _ hg), by rw [r.length]; exact hi⟩
theorem zfp (h : SE X it me) : SIt X tg it (iSeq me) := by
 obtain ⟨t, p, s⟩ := h
 refine ⟨_, pi_or p, fun B G H σ ρ ds ρ' Q I hm k => ?_⟩
 obtain ⟨⟨d, ρ1⟩, e1, hm⟩ := zal hm
 obtain ⟨es, e2, e3⟩ := za8 hm
 cases e3
 refine s B G H σ ρ d ρ1 _ I e1 fun G1 H1 v I1 f1 r1 => ?_
 cases d <;> simp only [za7] at e2 <;> try cases e2
 ·obtain ⟨a, xs, rfl, ha, r⟩ := r1
  exact ⟨a, rfl, .inl ⟨⟨xs, SqL.of (I1.fz _ _ ha)⟩, k _ G1 H1 I1 f1 (zk8 (SqL.of ha) r)⟩⟩
 ·obtain ⟨a, xs, rfl, ha, r⟩ := r1
  exact ⟨a, rfl, .inr ⟨⟨xs, SqT.of (I1.fz _ _ ha)⟩, k _ G1 H1 I1 f1 (itm_tup ha r)⟩⟩
 ·obtain ⟨a, rfl, ha⟩ := r1
  exact ⟨a, rfl, .inl ⟨⟨_, I1.fz.sql ha⟩, k _ G1 H1 I1 f1 (zk8 ha (RepL.ints _))⟩⟩
end
end M
set_option Elab.async false
set_option linter.all false
set_option maxRecDepth 100000
namespace M
open PySem PySem.Spec L2
open PyProof.Rows hiding St
noncomputable def zdY (lo : Int) (n : Nat) : List D := (List.range n).map fun (i : Nat) => D.int (lo + (i : Int))
theorem zjq {K : W.Frag} {G : Hp} (lo : Int) (n : Nat) : Itm K (Itr lo n) G (zdY lo n) where
 go := fun H i f hi => by show i < n; simpa [zdY] using hi
 yld := fun H i x H' f y d e => by
  obtain ⟨rfl, rfl⟩ := y
  unfold zdY at e
  rw [List.getElem?_map] at e
  cases q : (List.range n)[i]? with
  | none => rw [q] at e; cases e
  | some j =>
   rw [q] at e
   have hj : j = i := by
    have := List.getElem?_eq_some_iff.mp q
    obtain ⟨h1, h2⟩ := this
    simpa using h2.symm
   subst hj
   cases e
   exact .inl ⟨rfl, rfl⟩
 stop := fun H i f hi => by show n ≤ i; simpa [zdY] using hi
noncomputable def zdw (j : Int) : Bool := decide (-1000000000000 ≤ j) && decide (j ≤ 1000000000000)
theorem zdj {j : Int} (h : zdw j = true) : -(2 ^ 62) ≤ j ∧ j < 2 ^ 62 := by
 unfold zdw at h
 simp only [Bool.and_eq_true, decide_eq_true_eq] at h
 omega
noncomputable def iR1 (ma : MA) : MA := fun ρ => (ma ρ).bind fun p => match p.1 with
 | [.int j] => if zdw j then some (zdY 0 j.toNat, p.2) else none
 | _ => none
noncomputable def iR2 (ma : MA) : MA := fun ρ => (ma ρ).bind fun p => match p.1 with
 | [.int i, .int j] => if zdw i && zdw j then some (zdY i (j - i).toNat, p.2) else none
 | _ => none
section
variable {X : Cx} {tg a b : Expr} {ma : MA} {p pos : Pos}
theorem zb6 (hm : X.mg "range" = none) (ha : SA X [a] ma) (hg : Gl X "range" := by rfl) (hs : starEach [a] X.env = [(false, eval a X.env)] := by rfl) : SIt X tg (.Call (.Name "range" p) [a] [] pos) (iR1 ma) := by
 obtain ⟨t, pa, sa⟩ := ha
 refine ⟨_, zmB hg hm pa hs, fun B G H σ ρ ds ρ' Q I hm k => ?_⟩
 obtain ⟨⟨es, ρ1⟩, e1, h2⟩ := zal hm
 dsimp only at h2
 refine sa B G H σ ρ es ρ1 _ I e1 fun G1 H1 vs I1 f1 r1 => ?_
 split at h2
 ·rename_i j
  split at h2
  ·rename_i hj
   cases h2
   obtain ⟨x, rfl, rx⟩ := r1.one
   cases (show x = V.int j from rx)
   exact ⟨j, rfl, (zdj hj).1, (zdj hj).2, k _ G1 H1 I1 f1 (zjq 0 _)⟩
  ·cases h2
 ·cases h2
theorem zl9 (hm : X.mg "range" = none) (ha : SA X [a, b] ma) (hg : Gl X "range" := by rfl) (hs : starEach [a, b] X.env = [(false, eval a X.env), (false, eval b X.env)] := by rfl) (hs2 : starEach [b] X.env = [(false, eval b X.env)] := by rfl) : SIt X tg (.Call (.Name "range" p) [a, b] [] pos) (iR2 ma) := by
 obtain ⟨t, pa, sa⟩ := ha
 refine ⟨_, zmJ hg hm pa hs hs2, fun B G H σ ρ ds ρ' Q I hm k => ?_⟩
 obtain ⟨⟨es, ρ1⟩, e1, h2⟩ := zal hm
 dsimp only at h2
 refine sa B G H σ ρ es ρ1 _ I e1 fun G1 H1 vs I1 f1 r1 => ?_
 split at h2
 ·rename_i i j
  split at h2
  ·rename_i hj
   simp only [Bool.and_eq_true] at hj
   cases h2
   obtain ⟨x, y, rfl, rx, ry⟩ := r1.two
   cases (show x = V.int i from rx)
   cases (show y = V.int j from ry)
   exact ⟨i, j, rfl, ⟨(zdj hj.1).1, (zdj hj.1).2, (zdj hj.2).1, (zdj hj.2).2⟩, k _ G1 H1 I1 f1 (zjq i _)⟩
  ·cases h2
 ·cases h2
end
noncomputable def ResF (K : W.Frag) (G' H' H : Hp) (v : V) : Sl → Prop
 | .val d => RepD K G' v d
 | .own ds => ∃ l xs, v = .ref l ∧ G' l = none ∧ H' l = some (.lst xs) ∧ RepL K G' xs ds ∧ H l = none
 | .two ds es => ∃ t l xs m ys, v = .ref t ∧ H' t = some (.tup [.ref l, .ref m]) ∧ l ≠ m ∧ G' l = none ∧ H' l = some (.lst xs) ∧ RepL K G' xs ds ∧ H l = none ∧ G' m = none ∧ H' m = some (.lst ys) ∧ RepL K G' ys es ∧ H m = none
 | _ => False
noncomputable def spP (K : W.Frag) (n : Nat) (F : List D → Option Sl) : Sp := fun vs H Q _ => ∃ G ds r, F ds = some r ∧ ds.length = n ∧ Fz G H ∧ RepL K G vs ds ∧
 ∀ G' H' v, Fz G G' → Fz G' H' → (∀ b o, G' b = some o → G b ≠ none ∨ H b = none) → Fz H H' → ResF K G' H' H v r → Q v H'
noncomputable def spM (K : W.Frag) (n : Nat) (F : List D → List D → Option (Sl × List D)) : Sp := fun vs H Q _ => ∃ G l xs cs ws ds r out, vs = .ref l :: ws ∧ F cs ds = some (r, out) ∧ ds.length + 1 = n ∧ Fz G H ∧ G l = none ∧ H l = some (.lst xs) ∧ RepL K G xs cs ∧ RepL K G ws ds ∧
 ∀ G' H' v ys, Fz G G' → Fz G' H' → (∀ b o, G' b = some o → G b ≠ none ∨ H b = none) → (∀ b o, b ≠ l → H b = some o → H' b = some o) → G' l = none → H' l = some (.lst ys) → RepL K G' ys out → ResF K G' H' H v r → Q v H'
noncomputable def fP (N : Nat) (m : MS) : List D → Option Sl := fun ds => (m (ds.map .val ++ List.replicate (N - ds.length) .emp)).bind fun p => match p.1 with
 | .ret r => some r
 | .next => some (.val .non)
 | _ => none
noncomputable def fM (N : Nat) (m : MS) : List D → List D → Option (Sl × List D) := fun cs ds => (m (.par cs :: (ds.map .val ++ List.replicate (N - (ds.length + 1)) .emp))).bind fun p => match p.1, (p.2[0]? : Option Sl) with
 | Fl.ret r, some (Sl.par out) => some (r, out)
 | Fl.next, some (Sl.par out) => some (.val .non, out)
 | _, _ => none
theorem zjQ {N : List Str} {vs : List V} (h : vs.length ≤ N.length) : (L2.start N vs).length = N.length := by
 unfold L2.start
 rw [List.length_append, List.length_map, List.length_replicate]
 omega
theorem SI.start {K : W.Frag} {G H : Hp} {N : List Str} {vs : List V} {ds : List D} (fz : Fz G H) (r : RepL K G vs ds) (h : ds.length ≤ N.length) :
  SI K ⟨G, H, []⟩ G H (L2.start N vs) (ds.map .val ++ List.replicate (N.length - ds.length) .emp) where
 fz := fz
 g0 := Fz.refl G
 new := fun b o e => .inl (by show G b ≠ none; rw [e]; simp)
 keep := fun b o e _ => e
 there := fun b e => e
 len := by rw [zjQ (by rw [r.length]; exact h), List.length_append, List.length_map, List.length_replicate]; omega
 slot := fun i s e => by
  by_cases hi : i < ds.length
  ·rw [List.getElem?_append_left (by simpa using hi), List.getElem?_map, List.getElem?_eq_getElem hi] at e
   cases e
   obtain ⟨x, h1, h2⟩ := r.get (List.getElem?_eq_getElem hi)
   refine ⟨x, ?_, h2⟩
   unfold L2.start
   rw [List.getElem?_append_left (by rw [List.length_map, r.length]; exact hi), List.getElem?_map, h1]
   rfl
  ·rw [List.getElem?_append_right (by simpa using hi), List.getElem?_replicate] at e
   split at e
   ·cases e; trivial
   ·cases e
 dis := fun i j _ hi _ => by
  obtain ⟨s, es, e, q⟩ := hi
  exfalso
  by_cases hi : i < ds.length
  ·rw [List.getElem?_append_left (by simpa using hi), List.getElem?_map, List.getElem?_eq_getElem hi] at e
   cases e; cases q
  ·rw [List.getElem?_append_right (by simpa using hi), List.getElem?_replicate] at e
   split at e
   ·cases e; cases q
   ·cases e
theorem SI.startM {K : W.Frag} {G H : Hp} {N : List Str} {l : Addr} {xs : List V} {cs : List D} {vs : List V} {ds : List D} (fz : Fz G H) (hg : G l = none) (hl : H l = some (.lst xs)) (rc : RepL K G xs cs) (r : RepL K G vs ds) (h : ds.length + 1 ≤ N.length) :
  SI K ⟨G, H, [(0, l)]⟩ G H (L2.start N (.ref l :: vs)) (.par cs :: (ds.map .val ++ List.replicate (N.length - (ds.length + 1)) .emp)) where
 fz := fz
 g0 := Fz.refl G
 new := fun b o e => .inl (by show G b ≠ none; rw [e]; simp)
 keep := fun b o e _ => e
 there := fun b e => e
 len := by
  have := r.length
  rw [zjQ (by rw [List.length_cons, r.length]; exact h), List.length_cons, List.length_append, List.length_map, List.length_replicate]; omega
 slot := fun i s e => by
  cases i with
  | zero => simp at e; subst e; exact ⟨l, xs, rfl, hg, hl, rc, by simp⟩
  | succ i =>
   rw [List.getElem?_cons_succ] at e
   by_cases hi : i < ds.length
   ·rw [List.getElem?_append_left (by simpa using hi), List.getElem?_map, List.getElem?_eq_getElem hi] at e
    cases e
    obtain ⟨x, h1, h2⟩ := r.get (List.getElem?_eq_getElem hi)
    refine ⟨x, ?_, h2⟩
    unfold L2.start
    rw [List.map_cons, List.cons_append, List.getElem?_cons_succ, List.getElem?_append_left (by rw [List.length_map, r.length]; exact hi), List.getElem?_map, h1]
    rfl
   ·rw [List.getElem?_append_right (by simpa using hi), List.getElem?_replicate] at e
    split at e
    ·cases e; trivial
    ·cases e
 dis := fun i j hij hi hj => by
  have z : ∀ i, Wr (.par cs :: (ds.map .val ++ List.replicate (N.length - (ds.length + 1)) .emp)) i → i = 0 := fun i ⟨s, es, e, q⟩ => by
   cases i with
   | zero => rfl
   | succ i =>
    exfalso
    rw [List.getElem?_cons_succ] at e
    by_cases hi : i < ds.length
    ·rw [List.getElem?_append_left (by simpa using hi), List.getElem?_map, List.getElem?_eq_getElem hi] at e
     cases e; cases q
    ·rw [List.getElem?_append_right (by simpa using hi), List.getElem?_replicate] at e
     split at e
     ·cases e; cases q
     ·cases e
  exact absurd ((z i hi).trans (z j hj).symm) hij
section
variable {P : Program} {w : World} {K : W.Frag} {mg : Str → Option Value} {base : Heap}
theorem zb9 {x qual : Str} {st : Stmt} {f : Addr} {fd : FuncData} {N ps : List Str} {k n : Nat} {m : MS} (F : Fun K x qual st f fd) (S : FnScope N ps (zad st)) (hn : ps.length = n) (hN : n ≤ N.length)
  (body : ∀ (cdv : Value) (A : Around) (outer : List Env) (s : Shared) (H : Hp) (E : XK), Room k (A.deeper (envOfC qual (zad st) s.heap.objs.size f cdv)) → SSs (cxOf CX0 P w K mg base N qual (zad st) f cdv A outer s H E).nox (zao st) m) :
  FnOk P w K mg base CX0 (k + 1) f fd ps (spP K n (fP N.length m)) := by
 refine F.ok S (fun vs H Q E h => ?_) (fun cdv A outer s H vs Q E hr h => ?_)
 ·obtain ⟨G, ds, r, _, h2, _, h4, _⟩ := h
  rw [h4.length, h2, hn]
 ·obtain ⟨G, ds, r, e1, h2, fz, h4, kk⟩ := h
  obtain ⟨t, pt, so⟩ := body cdv A outer s H E hr
  refine ⟨t, pt, ?_⟩
  obtain ⟨⟨fl, ρ'⟩, e2, e3⟩ := zal e1
  refine so ⟨G, H, []⟩ G H (L2.start N vs) _ fl ρ' _ (SI.start fz h4 (by omega)) e2 ?_
  have fin : ∀ G' H' σ' v, SI K ⟨G, H, []⟩ G' H' σ' ρ' → Fz G G' → ResF K G' H' H v r → Q v H' := fun G' H' σ' v I f rr => kk G' H' v f I.fz I.new (fun b o e => I.keep b o e (by simp)) rr
  cases fl with
  | next => cases e3; exact fun G' H' σ' I f => fin G' H' σ' .non I f rfl
  | brk => cases e3
  | cont => cases e3
  | ret r' =>
   cases e3
   refine fun G' H' σ' v I f rr => fin G' H' σ' v I f ?_
   cases r with
   | val d => exact rr
   | own ds => exact rr
   | emp => exact rr
   | two _ _ => exact rr
   | par ds => exact rr
theorem zf6 {x qual : Str} {st : Stmt} {f : Addr} {fd : FuncData} {N ps : List Str} {k n : Nat} {m : MS} (F : Fun K x qual st f fd) (S : FnScope N ps (zad st)) (hn : ps.length = n) (hN : n ≤ N.length)
  (body : ∀ (cdv : Value) (A : Around) (outer : List Env) (s : Shared) (H : Hp) (E : XK), Room k (A.deeper (envOfC qual (zad st) s.heap.objs.size f cdv)) → SSs (cxOf CX0 P w K mg base N qual (zad st) f cdv A outer s H E).nox (zao st) m) :
  FnOk P w K mg base CX0 (k + 1) f fd ps (spM K n (fM N.length m)) := by
 refine F.ok S (fun vs H Q E h => ?_) (fun cdv A outer s H vs Q E hr h => ?_)
 ·obtain ⟨G, l, xs, cs, ws, ds, r, out, rfl, _, h2, _, _, _, _, h4, _⟩ := h
  rw [List.length_cons, h4.length, h2, hn]
 ·obtain ⟨G, l, xs, cs, ws, ds, r, out, rfl, e1, h2, fz, hg, hl, rc, h4, kk⟩ := h
  obtain ⟨t, pt, so⟩ := body cdv A outer s H E hr
  refine ⟨t, pt, ?_⟩
  obtain ⟨⟨fl, ρ'⟩, e2, e3⟩ := zal e1
  refine so ⟨G, H, [(0, l)]⟩ G H _ _ fl ρ' _ (SI.startM fz hg hl rc h4 (by omega)) e2 ?_
  have fin : ∀ G' H' σ' v, ρ'[0]? = some (.par out) → SI K ⟨G, H, [(0, l)]⟩ G' H' σ' ρ' → Fz G G' → ResF K G' H' H v r → Q v H' := fun G' H' σ' v e0 I f rr => by
   obtain ⟨l', ys, k1, k2, k3, k4, k5⟩ := I.slot 0 _ e0
   have : l' = l := by simpa using k5
   subst this
   exact kk G' H' v ys f I.fz I.new (fun b o hb e => I.keep b o e (fun i hm => by simp at hm; exact hb hm.2)) k2 k3 k4 rr
  cases e0 : ρ'[0]? with
  | none => rw [e0] at e3; cases fl <;> cases e3
  | some s0 =>
   rw [e0] at e3
   cases s0 with
   | emp => cases fl <;> cases e3
   | two _ _ => cases fl <;> cases e3
   | val d => cases fl <;> cases e3
   | own d => cases fl <;> cases e3
   | par o2 =>
    cases fl with
    | next => cases e3; exact fun G' H' σ' I f => fin G' H' σ' .non e0 I f rfl
    | brk => cases e3
    | cont => cases e3
    | ret r' =>
     cases e3
     refine fun G' H' σ' v I f rr => fin G' H' σ' v e0 I f ?_
     cases r with
     | val d => exact rr
     | own ds => exact rr
     | emp => exact rr
     | two _ _ => exact rr
     | par ds => exact rr
end
structure FD (P : Program) (w : World) (K : W.Frag) (mg : Str → Option Value) (base : Heap) (k : Nat) (x : Str) (sp : Sp) : Prop where
 ex : ∃ f fd ps, FnOk P w K mg base CX0 k f fd ps sp ∧ mg x = some (.ref f) ∧ W.keepIn K (.ref f) = true ∧ Binds K fd ps []
theorem SI.grow {K : W.Frag} {B : Bs} {G H G' H' : Hp} {σ : St} {ρ : R} (I : SI K B G H σ ρ) (f : Fz G G') (fz : Fz G' H') (nw : ∀ b o, G' b = some o → G b ≠ none ∨ H b = none) (kp : Fz H H') : SI K B G' H' σ ρ where
 fz := fz
 g0 := I.g0.trans f
 new := fun b o e => by
  rcases nw b o e with h | h
  ·cases q : G b with
   | none => exact absurd q h
   | some u => exact I.new b u q
  ·exact .inr (I.there b h)
 keep := fun b o e n => kp b o (I.keep b o e n)
 there := fun b e => I.there b (kp.free e)
 len := I.len
 slot := fun i s e => (I.slot i s e).mono f fun l xs h g _ _ => by
  refine ⟨?_, kp l _ h⟩
  cases q : G' l with
  | none => rfl
  | some u =>
   rcases nw l u q with z | z
   ·exact absurd g z
   ·rw [h] at z; cases z
 dis := I.dis
theorem SI.own_ne {K : W.Frag} {B : Bs} {G H : Hp} {σ : St} {ρ : R} (I : SI K B G H σ ρ) {p : Addr} (hp : H p = none) : ∀ i, Wr ρ i → σ[i]? ≠ some (some (.ref p)) := fun i w z => by
 obtain ⟨s, ds, e, q⟩ := w
 obtain ⟨l, ys, h1, _, h3, _⟩ := I.wr e q
 rw [z] at h1
 cases h1
 rw [hp] at h3
 cases h3
noncomputable def zbH (F : List D → Option Sl) (ma : MA) : ME := fun ρ => (ma ρ).bind fun p => (F p.1).bind fun r => match r with
 | .val d => some (d, p.2)
 | .own ds => some (.lst ds, p.2)
 | _ => none
noncomputable def zhX (F : List D → Option Sl) (ma : MA) : MO := fun ρ => (ma ρ).bind fun p => (F p.1).bind fun r => match r with
 | .own ds => some (ds, p.2)
 | _ => none
section
variable {X : Cx} {x : Str} {p pos : Pos} {e : Expr} {es : List Expr} {ma : MA} {k k' n : Nat} {F : List D → Option Sl}
theorem zaI (fd : FD X.prog X.w X.K X.mg X.base k x (spP X.K n F)) (hr : Room k' X.A) (ha : SA X (e :: es) ma) (hn : (e :: es).length = n := by rfl) (hk : k ≤ k' := by decide) (hg : Gl X x := by rfl) (hdb : (x == ("__debug__" : Str)) = false := by decide)
  (he : starEach (e :: es) X.env = (false, eval e X.env) :: starEach es X.env := by rfl) (hpl : (backTo pos (starEach es X.env)).any (·.1) = false := by rfl) (hlen : ∀ ρ as ρ', ma ρ = some (as, ρ') → as.length = n) : SE X (.Call (.Name x p) (e :: es) [] pos) (zbH F ma) := by
 obtain ⟨f, fdd, ps, G0, h1, h2, h3⟩ := fd.ex
 obtain ⟨t, pa, sa⟩ := ha
 refine ⟨_, zkb G0 (hr.mono hk) hg h1 h2 h3 .nil pass0 pa hdb he hpl, fun B G H σ ρ d ρ' Q I hm kk => ?_⟩
 obtain ⟨⟨as, ρ1⟩, e1, hm⟩ := zal hm
 obtain ⟨r, e2, hm⟩ := zal hm
 refine sa B G H σ ρ as ρ1 _ I e1 fun G1 H1 vs I1 f1 r1 => ?_
 show spP X.K n F (vs ++ []) H1 Q E0
 rw [List.append_nil]
 refine ⟨G1, as, r, e2, hlen ρ as ρ1 e1, I1.fz, r1, fun G2 H2 v f2 fz2 nw kp rr => ?_⟩
 have I2 := I1.grow f2 fz2 nw kp
 cases r with
 | val d' => cases hm; exact kk G2 H2 v I2 (f1.trans f2) rr
 | own ds =>
  cases hm
  obtain ⟨l, xs, rfl, g3, h3, r3, b3⟩ := rr
  obtain ⟨I3, f3, r4⟩ := zkO I2 g3 h3 r3 (I1.there l b3) (I1.own_ne b3)
  exact kk _ H2 _ I3 (f1.trans (f2.trans f3)) r4
 | emp => cases hm
 | two _ _ => cases hm
 | par _ => cases hm
theorem zkh (fd : FD X.prog X.w X.K X.mg X.base k x (spP X.K n F)) (hr : Room k' X.A) (ha : SA X (e :: es) ma) (hn : (e :: es).length = n := by rfl) (hk : k ≤ k' := by decide) (hg : Gl X x := by rfl) (hdb : (x == ("__debug__" : Str)) = false := by decide)
  (he : starEach (e :: es) X.env = (false, eval e X.env) :: starEach es X.env := by rfl) (hpl : (backTo pos (starEach es X.env)).any (·.1) = false := by rfl) (hlen : ∀ ρ as ρ', ma ρ = some (as, ρ') → as.length = n) : SO X (.Call (.Name x p) (e :: es) [] pos) (zhX F ma) := by
 obtain ⟨f, fdd, ps, G0, h1, h2, h3⟩ := fd.ex
 obtain ⟨t, pa, sa⟩ := ha
 refine ⟨_, zkb G0 (hr.mono hk) hg h1 h2 h3 .nil pass0 pa hdb he hpl, fun B G H σ ρ d ρ' Q I hm kk => ?_⟩
 obtain ⟨⟨as, ρ1⟩, e1, hm⟩ := zal hm
 obtain ⟨r, e2, hm⟩ := zal hm
 refine sa B G H σ ρ as ρ1 _ I e1 fun G1 H1 vs I1 f1 r1 => ?_
 show spP X.K n F (vs ++ []) H1 Q E0
 rw [List.append_nil]
 refine ⟨G1, as, r, e2, hlen ρ as ρ1 e1, I1.fz, r1, fun G2 H2 v f2 fz2 nw kp rr => ?_⟩
 have I2 := I1.grow f2 fz2 nw kp
 cases r with
 | val d' => cases hm
 | own ds =>
  cases hm
  obtain ⟨l, xs, rfl, g3, h3, r3, b3⟩ := rr
  exact kk G2 H2 l xs I2 (f1.trans f2) g3 h3 r3 (I1.there l b3) (I1.own_ne b3)
 | emp => cases hm
 | two _ _ => cases hm
 | par _ => cases hm
end
noncomputable def aLen (ma : MA) (n : Nat) : Prop := ∀ ρ as ρ', ma ρ = some (as, ρ') → as.length = n
theorem zam : aLen aNil 0 := fun ρ as ρ' h => by cases h; rfl
theorem zac {m : ME} {r : MA} {n : Nat} (h : aLen r n) : aLen (zaf m r) (n + 1) := fun ρ as ρ' e => by
 obtain ⟨⟨d, ρ1⟩, _, h2⟩ := zal e
 obtain ⟨⟨ds, ρ2⟩, e3, e4⟩ := za8 h2
 cases e4
 rw [List.length_cons, h ρ1 ds ρ2 e3]
noncomputable def zaK (F : List D → List D → Option (Sl × List D)) (j : Nat) (ma : MA) : ME := fun ρ => if (ρ[j]?.bind Sl.items).isSome then (ma ρ).bind fun p => p.2[j]?.bind fun s => s.items.bind fun cs => (F cs p.1).bind fun r => match r.1 with
 | .val d => some (d, p.2.set j (s.put r.2))
 | .own ds => some (.lst ds, p.2.set j (s.put r.2))
 | _ => none else none
noncomputable def oCallM (F : List D → List D → Option (Sl × List D)) (j : Nat) (ma : MA) : MO := fun ρ => if (ρ[j]?.bind Sl.items).isSome then (ma ρ).bind fun p => p.2[j]?.bind fun s => s.items.bind fun cs => (F cs p.1).bind fun r => match r.1 with
 | .own ds => some (ds, p.2.set j (s.put r.2))
 | _ => none else none
theorem SI.growW {K : W.Frag} {B : Bs} {G H G' H' : Hp} {σ : St} {ρ : R} {j : Nat} {s : Sl} {cs out : List D} {l : Addr} {ys : List V} (I : SI K B G H σ ρ) (e : ρ[j]? = some s) (q : s.items = some cs) (hl : σ[j]? = some (some (.ref l)))
  (f : Fz G G') (fz : Fz G' H') (nw : ∀ b o, G' b = some o → G b ≠ none ∨ H b = none) (kp : ∀ b o, b ≠ l → H b = some o → H' b = some o) (gl : G' l = none) (hl' : H' l = some (.lst ys)) (r : RepL K G' ys out) : SI K B G' H' σ (ρ.set j (s.put out)) := by
 obtain ⟨l', xs, h1, h2, h3, h4⟩ := I.wr e q
 rw [hl] at h1; cases h1
 have hj : j < ρ.length := (List.getElem?_eq_some_iff.mp e).1
 have wj : Wr ρ j := ⟨s, cs, e, q⟩
 have conv : ∀ m, Wr (ρ.set j (s.put out)) m → Wr ρ m := fun m hm => by
  rcases hm.set with ⟨z, _⟩ | ⟨_, w⟩
  ·subst z; exact wj
  ·exact w
 have ne : ∀ b o, B.H b = some o → (∀ i, (i, b) ∉ B.O) → b ≠ l := fun b o k1 k2 z => by
  subst z
  have h := I.slot j s e
  cases s with
  | emp => cases q
  | two _ _ => cases q
  | val d => cases q
  | own es => obtain ⟨l', xs, m1, m2, m3, m4, m5⟩ := h; rw [hl] at m1; cases m1; rw [k1] at m5; cases m5
  | par es => obtain ⟨l', xs, m1, m2, m3, m4, m5⟩ := h; rw [hl] at m1; cases m1; exact k2 j m5
 refine ⟨fz, I.g0.trans f, fun b o k => ?_, fun b o k1 k2 => kp b o (ne b o k1 k2) (I.keep b o k1 k2), fun b k => ?_, by rw [List.length_set]; exact I.len, fun i t et => ?_, fun a b hab ha hb => I.dis a b hab (conv a ha) (conv b hb)⟩
 ·rcases nw b o k with h | h
  ·cases q2 : G b with
   | none => exact absurd q2 h
   | some u => exact I.new b u q2
  ·exact .inr (I.there b h)
 ·refine I.there b ?_
  cases q2 : H b with
  | none => rfl
  | some u =>
   by_cases z : b = l
   ·subst z; rw [hl'] at k; cases k
   ·rw [kp b u z q2] at k; cases k
 ·by_cases z : i = j
  ·subst z
   rw [List.getElem?_set, if_pos rfl, if_pos hj] at et
   cases et
   have h := I.slot i s e
   cases s with
   | emp => cases q
   | two _ _ => cases q
   | val d => cases q
   | own es' => obtain ⟨l', xs', k1, k2, k3, k4, k5⟩ := h; rw [hl] at k1; cases k1; exact ⟨_, ys, hl, gl, hl', r, k5⟩
   | par es' => obtain ⟨l', xs', k1, k2, k3, k4, k5⟩ := h; rw [hl] at k1; cases k1; exact ⟨_, ys, hl, gl, hl', r, k5⟩
  ·rw [List.getElem?_set_ne (Ne.symm z)] at et
   refine (I.slot i t et).mono f fun a zs ha hg hw ov => ?_
   have na : a ≠ l := fun w => by
    subst w
    cases qt : t.items with
    | none => exact hw qt
    | some fs => exact I.dis i j z ⟨t, fs, et, qt⟩ wj (ov.trans hl.symm)
   refine ⟨?_, kp a _ na ha⟩
   cases q2 : G' a with
   | none => rfl
   | some u =>
    rcases nw a u q2 with z | z
    ·exact absurd hg z
    ·rw [ha] at z; cases z
section
variable {X : Cx} {x y : Str} {p py pos : Pos} {es : List Expr} {ma : MA} {k k' n : Nat} {F : List D → List D → Option (Sl × List D)}
theorem soundM {t : TA} {Q : VK} {B : Bs} {G H : Hp} {σ : St} {ρ : R} {j : Nat} (sa : ∀ B G H σ ρ ds ρ' (Q : List V → Hp → Prop), SI X.K B G H σ ρ → ma ρ = some (ds, ρ') → (∀ G' H' vs, SI X.K B G' H' σ ρ' → Fz G G' → RepL X.K G' vs ds → Q vs H') → t σ H Q)
  (hlen : ∀ ρ as ρ', ma ρ = some (as, ρ') → as.length + 1 = n) (I : SI X.K B G H σ ρ) {ds0 : List D} (h0 : ρ[j]?.bind Sl.items = some ds0) {as : List D} {ρ1 : R} (e1 : ma ρ = some (as, ρ1)) {s : Sl} (e2 : ρ1[j]? = some s) {cs : List D} (e3 : s.items = some cs)
  {r : Sl} {out : List D} (e4 : F cs as = some (r, out))
  (kk : ∀ G' H' v, SI X.K B G' H' σ (ρ1.set j (s.put out)) → Fz G G' → (∀ i, Wr (ρ1.set j (s.put out)) i → ∀ l, σ[i]? = some (some (.ref l)) → v ≠ .ref l ∨ True) → (∃ H1, ResF X.K G' H' H1 v r ∧ (∀ b, H1 b = none → B.H b = none) ∧ ∀ b, H1 b = none → ∀ i, Wr ρ1 i → σ[i]? ≠ some (some (.ref b))) → Q v H') :
  tCall (spM X.K n F) [] E0 (tCons (tVar j) t) σ H Q := by
 obtain ⟨s0, k0, q0⟩ := zal h0
 obtain ⟨l, xs0, h1, h2, h3, h4⟩ := I.wr k0 q0
 refine ⟨.ref l, h1, sa B G H σ ρ as ρ1 _ I e1 fun G1 H1 vs I1 f1 r1 => ?_⟩
 show spM X.K n F ((.ref l :: vs) ++ []) H1 Q E0
 rw [List.append_nil]
 obtain ⟨l', xs, m1, m2, m3, m4⟩ := I1.wr e2 e3
 rw [h1] at m1; cases m1
 refine ⟨G1, l, xs, cs, vs, as, r, out, rfl, e4, hlen ρ as ρ1 e1, I1.fz, m2, m3, m4, r1, fun G2 H2 v ys f2 fz2 nw kp gl hl r2 rr => ?_⟩
 exact kk G2 H2 v (I1.growW e2 e3 h1 f2 fz2 nw kp gl hl r2) (f1.trans f2) (fun _ _ _ _ => .inr trivial) ⟨H1, rr, fun b hb => I1.there b hb, fun b hb => I1.own_ne hb⟩
theorem wr_put {ρ : R} {j : Nat} {s : Sl} {cs out : List D} (e : ρ[j]? = some s) (q : s.items = some cs) {i : Nat} (h : Wr (ρ.set j (s.put out)) i) : Wr ρ i := by
 rcases h.set with ⟨z, _⟩ | ⟨_, w⟩
 ·subst z; exact ⟨s, cs, e, q⟩
 ·exact w
theorem zaq (j : Nat) (fd : FD X.prog X.w X.K X.mg X.base k x (spM X.K n F)) (hr : Room k' X.A) (ha : SA X es ma) (hlen : ∀ ρ as ρ', ma ρ = some (as, ρ') → as.length + 1 = n) (hN : X.N[j]? = some y := by rfl) (hv : Vis X.env.scope y := by first | exact Or.inl rfl | exact Or.inr (Or.inl rfl) | exact Or.inr (Or.inr rfl)) (hd : (y == ("__debug__" : Str)) = false := by decide)
  (hcd : (y == ("__classdict__" : Str)) = false := by decide) (hk : k ≤ k' := by decide) (hg : Gl X x := by rfl) (hdb : (x == ("__debug__" : Str)) = false := by decide)
  (he : starEach (.Name y py :: es) X.env = (false, eval (.Name y py) X.env) :: starEach es X.env := by rfl) (hpl : (backTo pos (starEach es X.env)).any (·.1) = false := by rfl) : SE X (.Call (.Name x p) (.Name y py :: es) [] pos) (zaK F j ma) := by
 obtain ⟨f, fdd, ps, G0, h1, h2, h3⟩ := fd.ex
 obtain ⟨t, pa, sa⟩ := ha
 refine ⟨_, zkb G0 (hr.mono hk) hg h1 h2 h3 .nil pass0 (zfD (zf5 hN hv hd hcd) pa he) hdb he hpl, fun B G H σ ρ d ρ' Q I hm kk => ?_⟩
 unfold zaK at hm
 split at hm
 ·rename_i hso
  obtain ⟨ds0, hso⟩ := Option.isSome_iff_exists.mp hso
  obtain ⟨⟨as, ρ1⟩, e1, hm⟩ := zal hm
  obtain ⟨s, e2, hm⟩ := zal hm
  obtain ⟨cs, e3, hm⟩ := zal hm
  obtain ⟨⟨r, out⟩, e4, hm⟩ := zal hm
  refine soundM sa hlen I hso e1 e2 e3 e4 fun G' H' v I' f' _ ⟨H1, rr, bb, nn⟩ => ?_
  cases r with
  | val d' => cases hm; exact kk G' H' v I' f' rr
  | own ds =>
   cases hm
   obtain ⟨l, xs, rfl, g3, h3, r3, b3⟩ := rr
   obtain ⟨I3, f3, r4⟩ := zkO I' g3 h3 r3 (bb l b3) (fun i w => nn l b3 i (wr_put e2 e3 w))
   exact kk _ H' _ I3 (f'.trans f3) r4
  | emp => cases hm
  | two _ _ => cases hm
  | par _ => cases hm
 ·cases hm
end
end M
set_option Elab.async false
set_option linter.all false
set_option maxRecDepth 100000
namespace M
open PySem PySem.Spec L2
open PyProof.Rows hiding St
noncomputable def zfG (env : Env) (cs : List (Str × Addr)) (x : Str × NameKind) : List (Str × Addr) := if x.2 == .free then (x.1, (env.cells.lookup x.1).getD 0) :: cs else cs
noncomputable def clOf (scope : Scope) (env : Env) : List (Str × Addr) := scope.names.foldl (zfG env) []
theorem zgE {env : Env} : ∀ (names : List (Str × NameKind)) (cs : List (Str × Addr)), (∀ y ∈ names, y.2 = .free → ∃ c, env.cells.lookup y.1 = some c) →
  (forIn names cs (fun x r => if x.2 == NameKind.free then do let a ← cellOf env x.1; pure (ForInStep.yield ((x.1, a) :: r)) else pure (ForInStep.yield r)) : Sem (List (Str × Addr))) = pure (names.foldl (zfG env) cs)
 | [], cs, _ => rfl
 | (n, k) :: r, cs, h => by
  have ih := fun cs' => zgE r cs' (fun y hy => h y (List.mem_cons_of_mem _ hy))
  rw [List.forIn_cons, List.foldl_cons]
  by_cases hk : (k == NameKind.free) = true
  ·obtain ⟨c, hc⟩ := h (n, k) List.mem_cons_self (by simpa using hk)
   have e : zfG env cs (n, k) = (n, c) :: cs := by unfold zfG; simp [hk, hc]
   rw [e, ← ih]
   simp only [hk, if_true]
   unfold cellOf
   simp only at hc
   rw [hc]
   rfl
  ·have e : zfG env cs (n, k) = cs := by unfold zfG; simp [hk]
   rw [e, ← ih]
   simp only [hk]
   rfl
theorem zlF {scope : Scope} {env : Env} (h : ∀ y ∈ scope.names, y.2 = .free → ∃ c, env.cells.lookup y.1 = some c) : closureFor scope env = pure (clOf scope env) := by
 unfold closureFor clOf
 have e := zgE (env := env) scope.names [] h
 simp only [bind_pure]
 exact e
theorem zfa {env : Env} {x : Str} {c : Addr} : ∀ {names : List (Str × NameKind)} {cs : List (Str × Addr)}, (∀ y ∈ names, y.2 = .free → ∃ c, env.cells.lookup y.1 = some c) → (cs.lookup x = some c → env.cells.lookup x = some c) →
  (names.foldl (zfG env) cs).lookup x = some c → env.cells.lookup x = some c
 | [], cs, _, h0, h => h0 h
 | (n, k) :: r, cs, hn, h0, h => by
  rw [List.foldl_cons] at h
  refine zfa (names := r) (fun y hy => hn y (List.mem_cons_of_mem _ hy)) ?_ h
  intro q
  unfold zfG at q
  split at q
  ·rename_i hk
   obtain ⟨c', hc⟩ := hn (n, k) List.mem_cons_self (by simpa using hk)
   rw [List.lookup_cons] at q
   simp only at hc
   by_cases z : (x == n) = true
   ·rw [z] at q
    have zz : x = n := by simpa using z
    subst zz
    simp only [hc, Option.getD_some] at q
    rw [hc]; exact q
   ·have z' : (x == n) = false := by simpa using z
    rw [z'] at q; exact h0 q
  ·exact h0 q
theorem zfC {env : Env} {x : Str} : ∀ {names : List (Str × NameKind)} {cs : List (Str × Addr)}, ((x, NameKind.free) ∈ names ∨ (cs.lookup x).isSome = true) → ((names.foldl (zfG env) cs).lookup x).isSome = true
 | [], cs, h => by
  rcases h with h | h
  ·simp at h
  ·exact h
 | (n, k) :: r, cs, h => by
  rw [List.foldl_cons]
  refine zfC (names := r) ?_
  rcases h with h | h
  ·rcases List.mem_cons.mp h with h | h
   ·cases h
    refine .inr ?_
    unfold zfG
    simp
   ·exact .inl h
  ·refine .inr ?_
   unfold zfG
   split
   ·rw [List.lookup_cons]
    by_cases z : (x == n) = true
    ·rw [z]; rfl
    ·have z' : (x == n) = false := by simpa using z
     rw [z']; exact h
   ·exact h
theorem zg8 {x : Str} {c : Addr} : ∀ {names : List (Str × NameKind)} {n : Nat} {acc : List (Str × Addr)}, (cellsFrom n names acc).lookup x = some c → (n ≤ c ∧ (x, NameKind.cell) ∈ names) ∨ acc.lookup x = some c
 | [], n, acc, h => .inr h
 | (m, k) :: r, n, acc, h => by
  unfold cellsFrom at h
  split at h
  ·rename_i hk
   have hk' : k = .cell := by simpa using hk
   subst hk'
   rcases zg8 h with ⟨h1, h2⟩ | h1
   ·exact .inl ⟨Nat.le_of_succ_le h1, List.mem_cons_of_mem _ h2⟩
   ·rw [List.lookup_cons] at h1
    cases q : x == m with
    | true =>
     rw [q] at h1
     cases h1
     rw [beq_iff_eq.mp q]
     exact .inl ⟨Nat.le_refl _, List.mem_cons_self⟩
    | false => rw [q] at h1; exact .inr h1
  ·rcases zg8 h with ⟨h1, h2⟩ | h1
   ·exact .inl ⟨h1, List.mem_cons_of_mem _ h2⟩
   ·exact .inr h1
theorem zkB {x : Str} : ∀ {names : List (Str × NameKind)} {n : Nat} {acc : List (Str × Addr)}, (x, NameKind.cell) ∉ names → (cellsFrom n names acc).lookup x = acc.lookup x
 | [], n, acc, _ => rfl
 | (m, k) :: r, n, acc, h => by
  unfold cellsFrom
  split
  ·rename_i hk
   have hk' : k = .cell := by simpa using hk
   subst hk'
   rw [zkB fun z => h (List.mem_cons_of_mem _ z), List.lookup_cons]
   cases q : x == m with
   | true => exact absurd (by rw [beq_iff_eq.mp q]; exact List.mem_cons_self) h
   | false => rfl
  ·exact zkB fun z => h (List.mem_cons_of_mem _ z)
theorem zkG {x : Str} : ∀ {names : List (Str × NameKind)} {n : Nat} {acc : List (Str × Addr)}, (x, NameKind.cell) ∈ names → ∃ c, (cellsFrom n names acc).lookup x = some c ∧ n ≤ c
 | (m, k) :: r, n, acc, h => by
  unfold cellsFrom
  by_cases hr : (x, NameKind.cell) ∈ r
  ·split
   ·obtain ⟨c, h1, h2⟩ := zkG (n := n + 1) (acc := (m, n) :: acc) hr
    exact ⟨c, h1, Nat.le_of_succ_le h2⟩
   ·exact zkG hr
  ·rcases List.mem_cons.mp h with e | e
   ·cases e
    rw [if_pos (beq_self_eq_true _), zkB hr, List.lookup_cons, beq_self_eq_true]
    exact ⟨n, rfl, Nat.le_refl _⟩
   ·exact absurd e hr
theorem zlI : ∀ {names : List (Str × NameKind)} {n : Nat} {acc : List (Str × Addr)}, (∀ x c, acc.lookup x = some c → c < n) → (∀ x y c, acc.lookup x = some c → acc.lookup y = some c → x = y) →
  ∀ x y c, (cellsFrom n names acc).lookup x = some c → (cellsFrom n names acc).lookup y = some c → x = y
 | [], n, acc, _, hi => hi
 | (m, k) :: r, n, acc, hl, hi => by
  unfold cellsFrom
  split
  ·refine zlI (fun x c h => ?_) (fun x y c h1 h2 => ?_)
   ·rw [List.lookup_cons] at h
    cases q : x == m with
    | true => rw [q] at h; cases h; exact Nat.lt_succ_self _
    | false => rw [q] at h; exact Nat.lt_succ_of_lt (hl x c h)
   ·rw [List.lookup_cons] at h1 h2
    cases q : x == m with
    | true =>
     rw [q] at h1
     cases h1
     cases q2 : y == m with
     | true => rw [beq_iff_eq.mp q, beq_iff_eq.mp q2]
     | false => rw [q2] at h2; exact absurd (hl y n h2) (Nat.lt_irrefl _)
    | false =>
     rw [q] at h1
     cases q2 : y == m with
     | true => rw [q2] at h2; cases h2; exact absurd (hl x n h1) (Nat.lt_irrefl _)
     | false => rw [q2] at h2; exact hi x y c h1 h2
  ·exact zlI hl hi
theorem zkp : ∀ {names : List (Str × NameKind)} {h : Heap} {acc : List (Str × Addr)}, (∀ x c, acc.lookup x = some c → ∃ v, h.IsCell c v) → ∀ x c, (cellsFrom h.objs.size names acc).lookup x = some c → ∃ v, (pushCells h names).IsCell c v
 | [], h, acc, ha => ha
 | (m, k) :: r, h, acc, ha => by
  unfold cellsFrom pushCells
  split
  ·intro x c e
   rw [← Heap.size_push h { cls := .type "cell", data := .cell none }] at e
   refine zkp (fun y d q => ?_) x c e
   rw [List.lookup_cons] at q
   cases z : y == m with
   | true => rw [z] at q; cases q; exact ⟨none, _, Heap.get?_push_size _ rfl, rfl⟩
   | false =>
    rw [z] at q
    obtain ⟨v, hv⟩ := ha y d q
    exact ⟨v, hv.keeps fun b o e => Heap.get?_push_of_some _ e⟩
  ·exact zkp ha
theorem zjY {M : Model} {A : Around} {E : Value → Shared → Prop} {s : Shared} {scope : Scope} {globals : Addr} {cl : List (Str × Addr)} {qual : Str} {env : Env} {Q : Env → Shared → Prop}
  (hQ : ∀ h' : Heap, h'.Ns s.heap.objs.size (fun _ => none) → (∀ a o, s.heap.get? a = some o → h'.get? a = some o) →
   ((∀ x c, cl.lookup x = some c → ∃ v, s.heap.IsCell c v) → ∀ x c, (cellsFrom (s.heap.objs.size + 1) scope.names cl).lookup x = some c → ∃ v, h'.IsCell c v) →
   Q (newEnv scope s.heap.objs.size globals (cellsFrom (s.heap.objs.size + 1) scope.names cl) qual none .none (some env) builtinsNs) { s with heap := h' }) :
  wpAny M A (newFunctionEnv scope globals cl [] qual none .none (some env)) Q E s := by
 simp only [newFunctionEnv, Option.isSome_some, if_true]
 refine wpAny_bind (wpAny_alloc ?_)
 refine wpAny_bind (wpAny_layCells _ (fun name kind cells => by cases hkc : kind == NameKind.cell <;> simp [hkc]) _ _ _ _ ?_)
 rw [show ({ s with heap := s.heap.push { cls := .type "dict", data := .dict #[] } } : Shared).heap.objs.size = s.heap.objs.size + 1 from Heap.size_push ..]
 refine wpAny_bind ?_
 rw [List.forIn_nil]
 refine wpAny_pure (wpAny_pure (hQ _ ((Heap.Ns.new s.heap (.type "dict")).keeps (pushCells_keeps _ _)) (fun a o e => pushCells_keeps _ _ a o (Heap.get?_push_of_some _ e)) fun hc x c e => ?_))
 rw [← Heap.size_push s.heap { cls := .type "dict", data := .dict #[] }] at e
 refine zkp (fun y d q => ?_) x c e
 obtain ⟨v, hv⟩ := hc y d q
 exact ⟨v, hv.keeps fun b o e => Heap.get?_push_of_some _ e⟩
noncomputable def clC (scope : Scope) (env : Env) (C : Addr) : List (Str × Addr) := cellsFrom (C + 1) scope.names (clOf scope env)
noncomputable def ownC (scope : Scope) (x : Str) : Bool := match scope.names.lookup x with
 | some .cell => true
 | _ => false
noncomputable def cxC (X : Cx) (N : List Str) (scope : Scope) (C : Addr) (s : Shared) (H : Hp) (fp : List Addr) : Cx :=
 { X with N := N, s₀ := s, H₀ := H, env := compEnvC scope (clC scope X.env C) C X.env, outer := X.stack, ex := fp, fn := ownC scope, pn := [], xe := fun _ _ => False }
structure BlkOk (X : Cx) (scope : Scope) : Prop where
 kind : scope.kind = .function
 uniq : ∀ y ∈ scope.names, scope.names.lookup y.1 = some y.2
 free : ∀ y ∈ scope.names, y.2 = .free → X.env.kindOf y.1 = some .cell ∨ X.env.kindOf y.1 = some .free
theorem zfS {α : Type} {x : Str} {v : α} : ∀ {l : List (Str × α)}, l.lookup x = some v → (x, v) ∈ l
 | [], h => by simp at h
 | (n, w) :: r, h => by
  rw [List.lookup_cons] at h
  by_cases z : (x == n) = true
  ·rw [z] at h
   have zz : x = n := by simpa using z
   subst zz
   cases h
   exact List.mem_cons_self
  ·have z' : (x == n) = false := by simpa using z
   rw [z'] at h
   exact List.mem_cons_of_mem _ (zfS h)
theorem zeZ {env : Env} {x : Str} : ∀ {names : List (Str × NameKind)}, (names.map fun (n, k) => if (k == NameKind.free && env.scope.kind == .function && env.kindOf n == some .cell) then (n, NameKind.cell) else (n, k)).lookup x =
  (names.lookup x).map fun k => if (k == NameKind.free && env.scope.kind == .function && env.kindOf x == some .cell) then NameKind.cell else k
 | [] => rfl
 | (n, k) :: r => by
  have ih := zeZ (env := env) (x := x) (names := r)
  show List.lookup x ((if (k == NameKind.free && env.scope.kind == .function && env.kindOf n == some .cell) = true then (n, NameKind.cell) else (n, k)) :: _) = _
  cases hx : x == n with
  | true =>
   have zz : x = n := by simpa using hx
   by_cases hc : (k == NameKind.free && env.scope.kind == .function && env.kindOf n == some .cell) = true
   ·rw [if_pos hc]
    simp only [List.lookup_cons, hx, Option.map_some]
    rw [zz, if_pos hc]
   ·rw [if_neg hc]
    simp only [List.lookup_cons, hx, Option.map_some]
    rw [zz, if_neg hc]
  | false =>
   by_cases hc : (k == NameKind.free && env.scope.kind == .function && env.kindOf n == some .cell) = true
   ·rw [if_pos hc]; simp only [List.lookup_cons, hx]; exact ih
   ·rw [if_neg hc]; simp only [List.lookup_cons, hx]; exact ih
section
variable {X : Cx} {pins : List (Addr × Obj)} {σ : St} {H : Hp} {s : Shared} {scope : Scope} {N : List Str} {fp : List Addr} {C : Addr}
theorem zhb (I : Inv X pins σ H s) (b : BlkOk X scope) : ∀ y ∈ scope.names, y.2 = .free → ∃ c, X.env.cells.lookup y.1 = some c := fun y hy hf => I.ok.has y.1 (b.free y hy hf)
theorem blk_vis {x : Str} (h : (relabel scope X.env).names.lookup x = some .cell ∨ (relabel scope X.env).names.lookup x = some .free) : (x, NameKind.free) ∈ scope.names ∨ (x, NameKind.cell) ∈ scope.names := by
 have e : (relabel scope X.env).names.lookup x = (scope.names.lookup x).map fun k => if (k == NameKind.free && X.env.scope.kind == .function && X.env.kindOf x == some .cell) then NameKind.cell else k := zeZ
 rw [e] at h
 cases q : scope.names.lookup x with
 | none => rw [q] at h; simp at h
 | some k =>
  have hm := zfS q
  by_cases hk : k = .free
  ·subst hk; exact .inl hm
  ·rw [q] at h
   have hkf : (k == NameKind.free) = false := by simpa using hk
   simp only [Option.map_some, hkf, Bool.false_and, Bool.false_eq_true, if_false, Option.some.injEq] at h
   rcases h with h | h
   ·subst h; exact .inr hm
   ·exact absurd h hk
theorem zgf (I : Inv X pins σ H s) (b : BlkOk X scope) {x : Str} {c : Addr} (h : (clOf scope X.env).lookup x = some c) : X.env.cells.lookup x = some c := zfa (zhb I b) (by simp) h
theorem zgz (I : Inv X pins σ H s) (b : BlkOk X scope) {x : Str} {c : Addr} (h : (clC scope X.env C).lookup x = some c) : C < c ∨ X.env.cells.lookup x = some c := by
 rcases zg8 h with ⟨h1, _⟩ | h1
 ·exact .inl h1
 ·exact .inr (zgf I b h1)
theorem zk4 (b : BlkOk X scope) {x : Str} (h : (x, NameKind.free) ∈ scope.names) : (clC scope X.env C).lookup x = (clOf scope X.env).lookup x := zkB fun z => by
 have h1 := b.uniq _ h
 have h2 := b.uniq _ z
 simp only at h1 h2
 rw [h1] at h2
 cases h2
theorem blk_ok (I : Inv X pins σ H s) (b : BlkOk X scope) (hC : s.heap.objs.size ≤ C) (hf : ∀ b ∈ fp, FpOk X pins H b) (hfC : ∀ b ∈ fp, b < C) : (cxC X N scope C s H fp).Ok where
 mod := I.ok.mod
 kind := b.kind
 glob := I.ok.glob
 blt := I.ok.blt
 above := hC
 inj := zlI (fun x c h => by
  obtain ⟨v, hv⟩ := I.cell x c (zgf I b h)
  exact Nat.lt_succ_of_lt (Nat.lt_of_lt_of_le hv.lt hC)) fun x y c h1 h2 => I.ok.inj x y c (zgf I b h1) (zgf I b h2)
 has := fun x hx => by
  rcases blk_vis (x := x) hx with hm | hm
  ·show ∃ c, (clC scope X.env C).lookup x = some c
   rw [zk4 b hm]
   exact Option.isSome_iff_exists.mp (zfC (.inl hm))
  ·obtain ⟨c, h, _⟩ := zkG (n := C + 1) (acc := clOf scope X.env) hm
   exact ⟨c, h⟩
 cab := fun x c h e => by
  have h' : ownC scope x = true := h
  unfold ownC at h'
  split at h'
  ·rename_i q
   obtain ⟨c', h1, h2⟩ := zkG (n := C + 1) (acc := clOf scope X.env) (zfS q)
   have e' : some c' = some c := h1.symm.trans e
   cases e'
   exact Nat.le_trans hC (Nat.le_of_succ_le h2)
  ·cases h'
 hd := I.ok.hd
 frames := I.ok.frames
 stk := .inl rfl
 exf := fun a ha => ⟨Nat.ne_of_lt (hfC a ha), fun x c e z => by
  rcases zgz I b e with q | q
  ·exact Nat.lt_asymm q (z ▸ hfC a ha)
  ·exact (hf a ha).2.2.2.2.1 x c q z⟩
 bs := I.bs
 bsz := Nat.le_trans I.ok.bsz I.sz
 noex := fun a o e ha => by
  rcases (hf a ha).2.2.2.1 with z | z
  ·exact I.ok.noex a o e z
  ·exact absurd (Nat.lt_of_lt_of_le (Heap.lt_size e) (Nat.le_trans I.ok.bsz z)) (Nat.lt_irrefl _)
 exfs := fun a ha hs => by
  rcases List.mem_cons.mp (I.stkSub a hs) with z | z
  ·exact (hf a ha).2.1 z
  ·exact (hf a ha).2.2.1 z
 funs := I.stack
 frf := I.stkFree
theorem zmN {h' : Heap} {tk : Nat} {σc : St} (I : Inv X pins σ H s) (b : BlkOk X scope) (hf : ∀ b ∈ fp, FpOk X pins H b) (hfs : ∀ b ∈ fp, b < s.heap.objs.size)
  (hns : h'.Ns s.heap.objs.size (fun _ => none)) (hk : ∀ a o, s.heap.get? a = some o → h'.get? a = some o) (hcl : ∀ x c, (clC scope X.env s.heap.objs.size).lookup x = some c → ∃ v, h'.IsCell c v) (hl : σc.length = N.length)
  (hσ : ∀ (i : Nat) (x : Str) (v : V), N[i]? = some x → σc[i]? = some (some v) → (x, NameKind.free) ∈ scope.names ∧ ∃ j : Nat, X.N[j]? = some x ∧ σ[j]? = some (some v)) (hloc : ∀ (i : Nat) (x : Str) (v : V), N[i]? = some x → σc[i]? = some (some v) → ¬ (relabel scope X.env).names.lookup x = some .local) :
  Inv (cxC X N scope s.heap.objs.size s H fp) [] σc H { s with heap := h', toks := tk } := by
 have ok := blk_ok (N := N) I b (Nat.le_refl _) hf hfs
 refine ⟨ok, rfl, I.bare, Un.kept hk, ⟨_, hns, fun i x v h1 h2 h3 => ?_⟩, fun x c e => ?_, I.hok.fresh (Nat.le_refl _), fun x c e => ?_, fun p hp => absurd (show p ∈ ([] : List (Addr × Obj)) from hp) (by simp), I.hok.kept hk, hl⟩
 ·obtain ⟨hm, j, hj, hv⟩ := hσ i x v h1 h2
  have hkind := b.free _ hm rfl
  obtain ⟨m, hn, hloc'⟩ := I.loc
  have hvis : Vis X.env.scope x := by
   rcases hkind with z | z
   ·exact .inr (.inl z)
   ·exact .inr (.inr z)
  obtain ⟨u, ru, lk⟩ := hloc' j x v hj hv hvis
  refine ⟨u, ru, ?_⟩
  rcases lk with ⟨z, _⟩ | ⟨_, c, ec, hc⟩
  ·exfalso
   rcases hkind with w | w <;> simp only at w <;> rw [z] at w <;> cases w
  ·refine .inr ⟨?_, c, ?_, ?_⟩
   ·rcases h3 with z | z | z
    ·exact absurd z (hloc i x v h1 h2)
    ·exact .inl z
    ·exact .inr z
   ·have hs : ((clOf scope X.env).lookup x).isSome = true := zfC (.inl hm)
    obtain ⟨c', ec'⟩ := Option.isSome_iff_exists.mp hs
    have := zfa (zhb I b) (by simp) ec'
    rw [ec] at this
    cases this
    exact (zk4 b hm).trans ec'
   ·obtain ⟨o, ho, hd⟩ := hc
    exact ⟨o, hk _ _ ho, hd⟩
 ·exact hcl x c e
 ·rcases zgz I b e with q | q
  ·exact I.hok.fresh (Nat.le_of_lt q)
  ·exact I.freeC x c q
theorem zlS {h' : Heap} {s1 : Shared} {σc : St} {H' : Hp} (I : Inv X pins σ H s) (hf : ∀ b ∈ fp, FpOk X pins H b) (J : Inv (cxC X N scope s.heap.objs.size s H fp) [] σc H' s1) (hs : Heap.SameBut s.heap.objs.size s1.heap h') : Inv X pins σ H' { s1 with heap := h' } := by
 have kp : ∀ a o, a ≠ s.heap.objs.size → s1.heap.get? a = some o → h'.get? a = some o := fun a o ha e => hs.extBut a o ha e
 have free : H' s.heap.objs.size = none := J.free
 have ntr : ∀ a u, H' a = some u → a ≠ s.heap.objs.size := fun a u e z => by rw [z, free] at e; cases e
 have lt : ∀ a o, s.heap.get? a = some o → a ≠ s.heap.objs.size := fun a o e => Nat.ne_of_lt (Heap.lt_size e)
 have u : Un (frs X.stack) fp H H' s.heap s1.heap := J.base
 have u' : Un (frs X.stack) fp H H' s.heap h' := by
  refine ⟨fun a o e n hb hx => kp a o (lt a o e) (u.keep a o e n hb hx), fun a o e n hb hx => ?_, u.free, fun a o e hx => ?_, u.tups, u.frzs, u.tbls⟩
  ·obtain ⟨sl, q⟩ := u.slot a o e n hb hx
   exact ⟨sl, kp a _ (lt a o e) q⟩
  ·obtain ⟨o', q⟩ := u.there a o e hx
   exact ⟨o', kp a _ (lt a o e) q⟩
 have hok : HOk X.prog X.w H' h' := fun a o e => (J.hok a o e).stay (fun c v hc q => by
  refine kp c v ?_ q
  rcases hc with rfl | hc
  ·exact ntr _ _ e
  ·exact ntr _ _ hc) (fun _ q => q) fun _ _ q => q
 obtain ⟨hh, g, d, t, os'⟩ := s1
 have os : os' = s.os := J.os
 subst os
 have z := I.call (h' := h') (g' := g) (d' := d) (t' := t) (ch := fp) u' hok J.bare (fun a ha => ⟨(hf a ha).2.2.2.1, (hf a ha).2.1, (hf a ha).2.2.2.2.1, (hf a ha).2.2.2.2.2⟩)
 exact z
end
noncomputable def PTs (X : Cx) (ifs : List Expr) (t : TT) : Prop := ∀ (pins : List (Addr × Obj)) (s : Shared) (σ : St) (H : Hp) (Q : Bool → Hp → Prop), Inv X pins σ H s → t σ H Q →
 wpAny (model X.prog X.w) X.A (forIn ifs true fun c r => if r = true then do let ok ← isTrue c X.env (eval c X.env); pure (ForInStep.yield ok) else pure (ForInStep.yield r)) (TP X pins σ Q) X.xe s
theorem pts_nil {X : Cx} : PTs X [] (fun _ H Q => Q true H) := fun pins s σ H Q I h => wpAny_tests_nil ⟨H, I, h⟩
theorem pts_one {X : Cx} {c : Expr} {t : TT} (h : PT X c t) : PTs X [c] t := fun pins s σ H Q I hw => wpAny_tests_one (h pins s σ H Q I hw)
theorem zky {prog : Program} {w : World} {A : Around} {R : Result → Shared → Prop} {s : Shared} {elt target iter : Expr} {ifs : List Expr} {scope : Scope} {pos : Pos} {it acc : Value} {env : Env} (I : Nat → Shared → Prop)
  (turn : ∀ n s, I n s → wpAny (model prog w) A (pyNext it) (fun r s₁ => match r with
   | none => R (.ok .next) s₁
   | some v => wpAny (model prog w) A (letOwnedTupleGo target it v) (fun _ s₁' => wpAny (model prog w) A (assign target env v) (fun _ s₂ =>
     wpAny (model prog w) A (forIn ifs true fun c r => if r = true then do let ok ← isTrue c env (eval c env); pure (ForInStep.yield ok) else pure (ForInStep.yield r)) (fun ok s₃ =>
      if ok = true then wpAny (model prog w) A (eval elt env) (fun x s₄ =>
       wpAny (model prog w) A (call (.builtin "list.append") [acc, x]) (fun _ s₅ => ∃ m, m < n ∧ I m s₅) (fun _ _ => False) s₄) (fun _ _ => False) s₃
      else ∃ m, m < n ∧ I m s₃) (fun _ _ => False) s₂) (fun _ _ => False) s₁') (fun _ _ => False) s₁) (fun _ _ => False) s)
  (n : Nat) (h : I n s) : codeAny (model prog w) A (.compLoop (.ListComp elt [⟨target, iter, ifs, 0⟩] scope pos) 0 it acc env) R s := by
 refine codeAny_loop rfl I (fun n s hI => ?_) n h
 show wpAny _ A ((compTurn (.ListComp elt [⟨target, iter, ifs, 0⟩] scope pos) 0 it acc env).onRaise (fun x => do noteFrame x env; theTreesLotGoes x)) _ _ s
 refine wpAny_noted ?_
 rw [compTurn_list]
 have no : ∀ {E : Value → Shared → Prop}, ∀ x s', (fun (_ : Value) (_ : Shared) => False) x s' → E x s' := fun _ _ z => z.elim
 refine wpAny_bind (wpAny_standAt (wpAny_bind (wpAny_mono (turn n s hI) (fun r s₁ h₁ => ?_) no)))
 cases r with
 | none => exact wpAny_pure h₁
 | some v =>
  refine wpAny_bind (wpAny_mono h₁ (fun _ s₁' h₁' => ?_) no)
  refine wpAny_bind (wpAny_mono h₁' (fun _ s₂ h₂ => wpAny_bind (wpAny_mono h₂ (fun ok s₃ h₃ => ?_) no)) no)
  cases ok with
  | false => exact wpAny_pure ⟨rfl, h₃⟩
  | true =>
   exact wpAny_bind (wpAny_bind (wpAny_mono h₃ (fun x s₄ h₄ => wpAny_bind (wpAny_mono h₄ (fun _ s₅ h₅ => wpAny_pure (wpAny_pure ⟨rfl, h₅⟩)) no)) no))
noncomputable def tLC (σ0 : St → St) (wi : TI) (g : Addr → Shared → Hp → List Addr → TG) (tt : Addr → Shared → Hp → List Addr → TT) (te : Addr → Shared → Hp → List Addr → TE) : TE := fun σ H Q => wi σ H fun J H1 => ∀ D, H1 D = none → ∃ W : Nat → Nat → St → Hp → Prop, (∃ m, W 0 m (σ0 σ) (upd H1 D (.lst []))) ∧ ∀ i m σ H, W i m σ H →
 (J.stop i H ∧ Q (.ref D) H) ∨ (J.go i H ∧ ∀ C s₀ H₀ fp x H', J.yld i H x H' → g C s₀ H₀ fp x σ H' fun σ2 H2 => tt C s₀ H₀ fp σ2 H2 fun ok H3 => if ok = true then te C s₀ H₀ fp σ2 H3 fun v H4 => ∃ xs, H4 D = some (.lst xs) ∧ xs.length < sizeLine ∧ ∃ m', m' < m ∧ W (i + 1) m' σ2 (upd H4 D (.lst (xs ++ [v])))
  else ∃ m', m' < m ∧ W (i + 1) m' σ2 H3)
section
variable {X : Cx} {elt iter tg : Expr} {ifs : List Expr} {scope : Scope} {pos : Pos} {N : List Str} {σ0 : St → St} {wi : TI} {g : Addr → Shared → Hp → List Addr → TG} {tt : Addr → Shared → Hp → List Addr → TT} {te : Addr → Shared → Hp → List Addr → TE}
structure Cap (X : Cx) (scope : Scope) (N : List Str) (σ0 : St → St) : Prop where
 len : ∀ σ, (σ0 σ).length = N.length
 src : ∀ (σ : St) (i : Nat) (x : Str) (v : V), N[i]? = some x → (σ0 σ)[i]? = some (some v) → (x, NameKind.free) ∈ scope.names ∧ ∃ j : Nat, X.N[j]? = some x ∧ σ[j]? = some (some v)
 loc : ∀ (σ : St) (i : Nat) (x : Str) (v : V), N[i]? = some x → (σ0 σ)[i]? = some (some v) → ¬ (relabel scope X.env).names.lookup x = some .local
theorem zlM {use : Option (Value → Sem Unit)} {E : Value → Shared → Prop} (hc : X.calm = true) (b : BlkOk X scope) (cap : Cap X scope N σ0) (hi : PI X tg iter wi) (hg : ∀ C s H fp, PG (cxC X N scope C s H fp) tg (g C s H fp)) (ht : ∀ C s H fp, PTs (cxC X N scope C s H fp) ifs (tt C s H fp)) (he : ∀ C s H fp, PE (cxC X N scope C s H fp) elt (te C s H fp))
  {pins : List (Addr × Obj)} {s : Shared} {σ : St} {H : Hp} {Q : VK} (I : Inv X pins σ H s) (h : tLC σ0 wi g tt te σ H Q) {QQ : Value → Shared → Prop} {p0 : Pos}
  (hs : ∀ x, foldedSetIterable iter X.env x = pure x)
  (fin : match use with
   | none => ∀ u s', EP X pins σ Q u s' → QQ u s'
   | some f => ∀ (D : Addr) (fp : List Addr) (C : Addr) (H1 H' : Hp) (σc : St) (s1 s' : Shared), Inv X pins σ H1 s1 → (∀ b ∈ fp, FpOk X pins H1 b) → C = s1.heap.objs.size → Inv (cxC X N scope C s1 H1 fp) [] σc H' s' → Q (.ref D) H' →
     wpAny (model X.prog X.w) X.A (f (.ref D)) (fun _ s'' => ∃ m, s''.heap.Ns C m ∧ ∀ h', Heap.SameBut C s''.heap h' → QQ .none { s'' with heap := h' }) X.xe s') :
  wpAny (model X.prog X.w) X.A (comprehension (.ListComp elt [⟨tg, iter, ifs, 0⟩] scope pos) scope X.env p0 (newList []) false (eval iter X.env) use) QQ X.xe s := by
 refine wpAny_comprehension_free (cl := clOf scope X.env) (g := ⟨tg, iter, ifs, 0⟩) (gs := []) rfl hs (zlF (zhb I b)) b.kind (fun x hx hl => hl ▸ b.uniq x hx) ?_
 refine thn (hi pins s σ H _ I h) fun v s1 h1 => thn h1 fun itv s2 h2 => ?_
 obtain ⟨it, fp, tn, J, H2, e, I2, T, st2, f2, h3⟩ := h2
 subst e
 refine wpAny_newObj_type ?_ (by show (0 : Nat) ≤ sizeLine; exact Nat.zero_le _)
 have hD : H2 s2.heap.objs.size = none := I2.fresh
 obtain ⟨W, ⟨m0, w0⟩, turn⟩ := h3 _ hD
 have I3 : Inv X pins σ (upd H2 s2.heap.objs.size (.lst [])) { s2 with heap := s2.heap.push { cls := .type "list", data := .seq ([] : List Value).toArray } } := I2.lnew (t' := s2.toks) .nil (Nat.zero_le _)
 have f3 : ∀ b ∈ fp, FpOk X pins (upd H2 s2.heap.objs.size (.lst [])) b := fun b hb => by
  obtain ⟨a1, a2⟩ := f2 b hb
  obtain ⟨o, ho, _⟩ := T.obj _ _ st2 b hb
  exact ⟨by rw [zaU (Nat.ne_of_lt (Heap.lt_size ho))]; exact a1, a2⟩
 have st3 : tn 0 (s2.heap.push { cls := .type "list", data := .seq ([] : List Value).toArray }) := T.keep _ _ _ st2 fun b hb o e => Heap.get?_push_of_some _ e
 generalize hs3 : ({ s2 with heap := s2.heap.push { cls := .type "list", data := .seq ([] : List Value).toArray } } : Shared) = s3 at I3
 have hs3' : s3.heap = s2.heap.push { cls := .type "list", data := .seq ([] : List Value).toArray } := by rw [← hs3]
 rw [← hs3'] at st3
 have hfs : ∀ b ∈ fp, b < s3.heap.objs.size := fun b hb => by
  obtain ⟨o, ho, _⟩ := T.obj _ _ st3 b hb
  exact Heap.lt_size ho
 show wpAny _ _ (newFunctionEnv scope X.env.globals (clOf scope X.env) [] X.env.qual none .none (some X.env)) _ _ s3
 refine zjY fun h' hns hk hcl => ?_
 have hcl := hcl fun x c e => I3.cell x c (zgf I3 b e)
 generalize hDD : s2.heap.objs.size = DD at *
 have B0 : Inv (cxC X N scope s3.heap.objs.size s3 (upd H2 DD (.lst [])) fp) [] (σ0 σ) (upd H2 DD (.lst [])) { s3 with heap := h' } :=
  zmN (tk := s3.toks) I3 b f3 hfs hns hk hcl (cap.len σ) (cap.src σ) (cap.loc σ)
 have stat : ∀ {H' : Hp}, (∀ b ∈ fp, H' b = none) → ∀ b ∈ fp, FpOk (cxC X N scope s3.heap.objs.size s3 (upd H2 DD (.lst [])) fp) [] H' b := fun hn b' hb => by
  refine ⟨hn b' hb, Nat.ne_of_lt (hfs b' hb), fun z => ?_, .inl hb, fun x c e => ?_, fun p hp => absurd (show p ∈ ([] : List (Addr × Obj)) from hp) (by simp)⟩
  ·rcases List.mem_cons.mp (I3.stkSub b' z) with w | w
   ·exact (f3 b' hb).2.1 w
   ·exact (f3 b' hb).2.2.1 w
  ·intro z
   rcases zgz I3 b e with q | q
   ·exact Nat.lt_asymm q (z ▸ hfs b' hb)
   ·exact (f3 b' hb).2.2.2.2.1 x c q z
 have tn0 : tn 0 h' := T.keep _ _ _ st3 fun b' hb o e => hk b' o e
 have post : ∀ (s' : Shared) (σc : St) (H' : Hp), Inv (cxC X N scope s3.heap.objs.size s3 (upd H2 DD (.lst [])) fp) [] σc H' s' → Q (.ref DD) H' → compPost (model X.prog X.w) X.A X.xe use QQ (.ref DD) s3.heap.objs.size (.ok .next) s' := fun s' σc H' J' q => by
  cases use with
  | none =>
   obtain ⟨m, hn, _⟩ := J'.loc
   exact ⟨m, hn, fun h'' hs'' => fin _ _ ⟨.ref DD, H', zlS I3 f3 J' hs'', rfl, q⟩⟩
  | some f => exact fin DD fp _ _ H' σc s3 s' I3 f3 rfl J' q
 have loop : codeAny (model X.prog X.w) X.A (.compLoop (.ListComp elt [⟨tg, iter, ifs, 0⟩] scope pos) 0 (.ref it) (.ref DD) (compEnvC scope (clC scope X.env s3.heap.objs.size) s3.heap.objs.size X.env)) (compPost (model X.prog X.w) X.A X.xe use QQ (.ref DD) s3.heap.objs.size) { s3 with heap := h' } := by
  refine zky (fun n s' => ∃ i σ' H', Inv (cxC X N scope s3.heap.objs.size s3 (upd H2 DD (.lst [])) fp) [] σ' H' s' ∧ tn i s'.heap ∧ (∀ b ∈ fp, H' b = none) ∧ W i n σ' H') ?_ m0 ⟨0, σ0 σ, _, B0, tn0, fun b' hb => (f3 b' hb).1, w0⟩
  rintro n s5 ⟨i, σ5, H5, I5, st5, fr5, w5⟩
  rcases turn i n σ5 H5 w5 with ⟨stop, qn⟩ | ⟨go, step⟩
  ·refine thn (T.done (cxC X N scope s3.heap.objs.size s3 (upd H2 DD (.lst [])) fp) rfl rfl rfl hc i [] s5 σ5 H5 (fun _ _ => False) I5 (stat fr5) st5 stop) fun r s6 ⟨hr, I6⟩ => ?_
   subst hr
   exact post s6 σ5 H5 I6 qn
  ·refine thn (T.item (cxC X N scope s3.heap.objs.size s3 (upd H2 DD (.lst [])) fp) rfl rfl rfl hc i [] s5 σ5 H5 (fun _ _ => False) I5 (stat fr5) st5 go) fun r s6 ⟨u, hr, h6⟩ => ?_
   subst hr
   refine thn h6 fun _ s7 ⟨x, H7, I7, r7, y7, st7, fr7⟩ => ?_
   have I7' := I7.pinned (stat fr7) (T.obj _ _ st7)
   have again : ∀ {σ8 : St} {H8 : Hp} {s8 : Shared} {m' : Nat}, Inv (cxC X N scope s3.heap.objs.size s3 (upd H2 DD (.lst [])) fp) ([] ++ zi3 fp s7.heap) σ8 H8 s8 → m' < n → W (i + 1) m' σ8 H8 →
     ∃ m, m < n ∧ ∃ i σ' H', Inv (cxC X N scope s3.heap.objs.size s3 (upd H2 DD (.lst [])) fp) [] σ' H' s8 ∧ tn i s8.heap ∧ (∀ b ∈ fp, H' b = none) ∧ W i m σ' H' := fun {σ8 H8 s8 m'} I8 hm w8 => by
    refine ⟨m', hm, i + 1, σ8, H8, I8.unpinned, T.keep _ _ _ st7 fun b' hb o e => (I8.pin (b', o) (List.mem_append_right _ (List.mem_append_right _ (zfQ hb e)))).1, fun b' hb => ?_, w8⟩
    obtain ⟨o, e, d⟩ := T.obj _ _ st7 b' hb
    exact (I8.pin (b', o) (List.mem_append_right _ (List.mem_append_right _ (zfQ hb e)))).2.1
   refine thn (hg _ _ _ _ _ s7 σ5 H7 x u _ I7' r7 (step _ _ _ _ x H7 y7)) fun _ s8 ⟨σ8, H8, I8, q8⟩ => ?_
   refine thn (ht _ _ _ _ _ s8 σ8 H8 _ I8 q8) fun ok s9 ⟨H9, I9, q9⟩ => ?_
   cases ok with
   | false =>
    obtain ⟨m', hm, w9⟩ := q9
    exact again I9 hm w9
   | true =>
    refine thn (he _ _ _ _ _ s9 σ8 H9 _ I9 q9) fun u10 s10 ⟨v10, H10, I10, r10, xs, hx, hz, m', hm, w10⟩ => ?_
    refine thn (ziX _ s10 σ8 H10 (.ref DD) [v10] (.ref DD) [u10] (fun v H' => v = .non ∧ H' = upd H10 DD (.lst (xs ++ [v10]))) I10 rfl (.cons r10 .nil) ⟨DD, xs, v10, rfl, rfl, hx, hz, rfl, rfl⟩) fun _ s11 ⟨_, H11, I11, _, _, e11⟩ => ?_
    subst e11
    exact again I11 hm w10
 exact codeAny_compStart_list loop (T.self _ _ _ _ _ tn0 loop)
theorem pe_lc (hc : X.calm = true) (b : BlkOk X scope) (cap : Cap X scope N σ0) (hi : PI X tg iter wi) (hg : ∀ C s H fp, PG (cxC X N scope C s H fp) tg (g C s H fp)) (ht : ∀ C s H fp, PTs (cxC X N scope C s H fp) ifs (tt C s H fp)) (he : ∀ C s H fp, PE (cxC X N scope C s H fp) elt (te C s H fp))
    (hs : ∀ x, foldedSetIterable iter X.env x = pure x := by exact fun _ => rfl) : PE X (.ListComp elt [⟨tg, iter, ifs, 0⟩] scope pos) (tLC σ0 wi g tt te) := by
  intro pins s σ H Q I h
  rw [eval_ListComp]
  exact zlM (use := none) (E := X.xe) hc b cap hi hg ht he I h hs (fun u s' q => q)
end
end M
set_option Elab.async false
set_option linter.all false
set_option maxRecDepth 100000
namespace M
open PySem PySem.Spec L2
open PyProof.Rows hiding St
noncomputable def zga (ρ : R) : Bool := ρ.all fun s => match s with
 | .own _ => false
 | .par _ => false
 | _ => true
theorem zfT {ρ : R} (h : zga ρ = true) {i : Nat} : ¬ Wr ρ i := fun ⟨s, ds, e, q⟩ => by
 unfold zga at h
 rw [List.all_eq_true] at h
 have := h s (List.mem_of_getElem? e)
 cases s with
 | emp => cases q
 | two _ _ => cases q
 | val d => cases q
 | own d => exact absurd (show false = true from this) Bool.false_ne_true
 | par d => exact absurd (show false = true from this) Bool.false_ne_true
structure VS (K : W.Frag) (G : Hp) (σ : St) (ρ : R) : Prop where
 len : σ.length = ρ.length
 no : zga ρ = true
 val : ∀ (i : Nat) d, ρ[i]? = some (.val d) → ∃ v, σ[i]? = some (some v) ∧ RepD K G v d
theorem VS.si {K : W.Frag} {G H : Hp} {σ : St} {ρ : R} (h : VS K G σ ρ) (fz : Fz G H) : SI K ⟨G, H, []⟩ G H σ ρ where
 fz := fz
 g0 := Fz.refl G
 new := fun b o e => .inl (by show G b ≠ none; rw [e]; simp)
 keep := fun b o e _ => e
 there := fun b e => e
 len := h.len
 slot := fun i s e => by
  cases s with
  | emp => trivial
  | two _ _ => trivial
  | val d => exact h.val i d e
  | own ds => exact absurd ⟨_, ds, e, rfl⟩ (zfT h.no (i := i))
  | par ds => exact absurd ⟨_, ds, e, rfl⟩ (zfT h.no (i := i))
 dis := fun i j _ hi _ => absurd hi (zfT h.no)
theorem VS.of {K : W.Frag} {B : Bs} {G H : Hp} {σ : St} {ρ : R} (I : SI K B G H σ ρ) (h : zga ρ = true) : VS K G σ ρ := ⟨I.len, h, fun i d e => I.slot i _ e⟩
noncomputable def fz1 (i : Nat) (ρ : R) : R := match ρ[i]? with
 | some (.own ds) => ρ.set i (.val (.lst ds))
 | _ => ρ
noncomputable def fzL : List Nat → R → R
 | [], ρ => ρ
 | i :: is, ρ => fzL is (fz1 i ρ)
theorem SI.fz1 {K : W.Frag} {B : Bs} {G H : Hp} {σ : St} {ρ : R} (I : SI K B G H σ ρ) (i : Nat) : ∃ G', SI K B G' H σ (M.fz1 i ρ) ∧ Fz G G' := by
 unfold M.fz1
 cases e : ρ[i]? with
 | none => exact ⟨G, I, Fz.refl G⟩
 | some s =>
  cases s with
  | own ds => obtain ⟨l, xs, _, f, _, I'⟩ := I.freeze e; exact ⟨_, I', f⟩
  | emp => exact ⟨G, I, Fz.refl G⟩
  | two _ _ => exact ⟨G, I, Fz.refl G⟩
  | val _ => exact ⟨G, I, Fz.refl G⟩
  | par _ => exact ⟨G, I, Fz.refl G⟩
theorem SI.fzL {K : W.Frag} {B : Bs} {H : Hp} {σ : St} : ∀ (is : List Nat) {G : Hp} {ρ : R}, SI K B G H σ ρ → ∃ G', SI K B G' H σ (M.fzL is ρ) ∧ Fz G G'
 | [], G, ρ, I => ⟨G, I, Fz.refl G⟩
 | i :: is, G, ρ, I => by
  obtain ⟨G1, I1, f1⟩ := I.fz1 i
  obtain ⟨G2, I2, f2⟩ := SI.fzL is I1
  exact ⟨G2, I2, f1.trans f2⟩
noncomputable def capS (ρ : R) (i : Nat) : Sl := match ρ[i]? with
 | some (.val d) => .val d
 | _ => .emp
theorem zll (ρ : R) (i : Nat) : capS ρ i = .emp ∨ ∃ d, capS ρ i = .val d := by
 unfold capS
 split
 ·exact .inr ⟨_, rfl⟩
 ·exact .inl rfl
noncomputable def capR (cap : List Nat) (t : Nat) (ρ : R) : R := cap.map (capS ρ) ++ List.replicate t .emp
noncomputable def capσ (cap : List Nat) (t : Nat) (σ : St) : St := cap.map (fun i => (σ[i]?).join) ++ List.replicate t none
theorem cap_vs {K : W.Frag} {B : Bs} {G H : Hp} {σ : St} {ρ : R} (I : SI K B G H σ ρ) (cap : List Nat) (t : Nat) : VS K G (capσ cap t σ) (capR cap t ρ) where
 len := by unfold capσ capR; simp
 no := by
  unfold zga capR
  rw [List.all_eq_true]
  intro s hs
  rcases List.mem_append.mp hs with h | h
  ·obtain ⟨i, _, rfl⟩ := List.mem_map.mp h
   rcases zll ρ i with e | ⟨d, e⟩
   ·rw [e]
   ·rw [e]
  ·rw [List.eq_of_mem_replicate h]
 val := fun i d e => by
  unfold capR at e
  by_cases hi : i < cap.length
  ·rw [List.getElem?_append_left (by simpa using hi), List.getElem?_map, List.getElem?_eq_getElem hi] at e
   have e' : capS ρ cap[i] = .val d := by simpa using e
   unfold capS at e'
   split at e'
   ·rename_i d' q
    cases e'
    obtain ⟨v, h1, h2⟩ := I.slot _ _ q
    refine ⟨v, ?_, h2⟩
    unfold capσ
    rw [List.getElem?_append_left (by simpa using hi), List.getElem?_map, List.getElem?_eq_getElem hi]
    simp [h1]
   ·cases e'
  ·rw [List.getElem?_append_right (by simpa using hi), List.getElem?_replicate] at e
   split at e
   ·cases e
   ·cases e
noncomputable def zft (f : D → R → Option (Option D × R)) : List D → R → Option (List D × R)
 | [], ρ => some ([], ρ)
 | d :: ds, ρ => (f d ρ).bind fun p => (zft f ds p.2).map fun q => (p.1.toList ++ q.1, q.2)
noncomputable def zj9 (g : D → R → Option R) (mt : MT) (me : ME) : D → R → Option (Option D × R) := fun d ρ => (g d ρ).bind fun ρ1 => (mt ρ1).bind fun p => if p.1 then (me p.2).bind fun q => if zga q.2 then some (some q.1, q.2) else none else if zga p.2 then some (none, p.2) else none
noncomputable def oLC (cap : List Nat) (t : Nat) (mi : MA) (g : D → R → Option R) (mt : MT) (me : ME) : MO := fun ρ => (mi ρ).bind fun p => if p.1.length ≤ 16777216 then (zft (zj9 g mt me) p.1 (capR cap t (fzL cap p.2))).map fun q => (q.1, fzL cap p.2) else none
noncomputable def STs (X : Cx) (ifs : List Expr) (m : MT) : Prop :=
 ∃ t, PTs X ifs t ∧ ∀ B G H σ ρ d ρ' (Q : Bool → Hp → Prop), SI X.K B G H σ ρ → m ρ = some (d, ρ') → (∀ G' H', SI X.K B G' H' σ ρ' → Fz G G' → Q d H') → t σ H Q
noncomputable def zeR : MT := fun ρ => some (true, ρ)
theorem zb5 {X : Cx} : STs X [] zeR := ⟨_, pts_nil, fun B G H σ ρ d ρ' Q I hm k => by cases hm; exact k G H I (Fz.refl G)⟩
theorem zmV {X : Cx} {c : Expr} {m : MT} (h : STt X c m) : STs X [c] m := let ⟨t, p, s⟩ := h; ⟨t, pts_one p, s⟩
noncomputable def blkB (env : Env) (scope : Scope) : Bool := (scope.names.all fun x => scope.names.lookup x.1 == some x.2 && (x.2 != .free || (env.kindOf x.1 == some .cell || env.kindOf x.1 == some .free)))
theorem zkz {X : Cx} {scope : Scope} (hk : scope.kind = .function) (h : blkB X.env scope = true) : BlkOk X scope := by
 unfold blkB at h
 rw [List.all_eq_true] at h
 refine ⟨hk, fun x hx => ?_, fun x hx hf => ?_⟩
 ·have := h x hx
  simp only [Bool.and_eq_true, Bool.or_eq_true, bne_iff_ne, beq_iff_eq] at this
  exact this.1
 ·have := h x hx
  simp only [Bool.and_eq_true, Bool.or_eq_true, bne_iff_ne, beq_iff_eq] at this
  exact (this.2).resolve_left (fun z => z hf)
noncomputable def capB (names : List (Str × NameKind)) (N XN : List Str) (cap : List Nat) (t : Nat) : Bool := N.length == cap.length + t && (cap.zip N).all fun p => XN[p.1]? == some p.2 && names.lookup p.2 == some .free
theorem zkI {X : Cx} {scope : Scope} {N : List Str} {cap : List Nat} {t : Nat} (h : capB scope.names N X.N cap t = true) : Cap X scope N (capσ cap t) := by
 unfold capB at h
 rw [Bool.and_eq_true, List.all_eq_true] at h
 obtain ⟨hl, h⟩ := h
 have hl : N.length = cap.length + t := by simpa using hl
 have key : ∀ (σ : St) (i : Nat) (x : Str) (v : V), N[i]? = some x → (capσ cap t σ)[i]? = some (some v) → ∃ j, cap[i]? = some j ∧ σ[j]? = some (some v) ∧ X.N[j]? = some x ∧ scope.names.lookup x = some .free := fun σ i x v h1 h2 => by
  unfold capσ at h2
  by_cases hi : i < cap.length
  ·rw [List.getElem?_append_left (by simpa using hi), List.getElem?_map, List.getElem?_eq_getElem hi] at h2
   have h3 : (σ[cap[i]]?).join = some v := by simpa using h2
   have hz : (cap[i], x) ∈ cap.zip N := by
    refine List.mem_of_getElem? (i := i) ?_
    rw [List.getElem?_zip_eq_some]
    exact ⟨List.getElem?_eq_getElem hi, h1⟩
   have := h _ hz
   simp only [Bool.and_eq_true, beq_iff_eq] at this
   refine ⟨cap[i], List.getElem?_eq_getElem hi, ?_, this.1, this.2⟩
   cases q : σ[cap[i]]? with
   | none => rw [q] at h3; cases h3
   | some o => rw [q] at h3; rw [show o = some v from h3]
  ·rw [List.getElem?_append_right (by simpa using hi), List.getElem?_replicate] at h2
   split at h2 <;> cases h2
 refine ⟨fun σ => by unfold capσ; simp [hl], fun σ i x v h1 h2 => ?_, fun σ i x v h1 h2 z => ?_⟩
 ·obtain ⟨j, _, a, b, c⟩ := key σ i x v h1 h2
  exact ⟨zfS c, j, b, a⟩
 ·obtain ⟨j, _, a, b, c⟩ := key σ i x v h1 h2
  have e : (relabel scope X.env).names.lookup x = (scope.names.lookup x).map fun k => if (k == NameKind.free && X.env.scope.kind == .function && X.env.kindOf x == some .cell) then NameKind.cell else k := zeZ
  rw [e, c] at z
  simp only [Option.map_some, Option.some.injEq] at z
  split at z <;> cases z
structure LcV (K : W.Frag) (g : D → R → Option R) (mt : MT) (me : ME) (items all : List D) (G2 H1 : Hp) (DD : Addr) (i : Nat) (σc : St) (Hc Gc : Hp) (ρc : R) (acc : List D) (xs : List V) (rest : List D) (ρe : R) : Prop where
 fc : Fz G2 Gc
 fcH : Fz Gc Hc
 nw : ∀ b o, Gc b = some o → G2 b ≠ none ∨ H1 b = none
 kp : ∀ b o, H1 b = some o → Hc b = some o
 gD : Gc DD = none
 hDc : Hc DD = some (.lst xs)
 ra : RepL K Gc xs acc
 hx : xs.length ≤ i
 vs : VS K Gc σc ρc
 ec : zft (zj9 g mt me) (items.drop i) ρc = some (rest, ρe)
 eall : all = acc ++ rest
section
variable {X : Cx} {elt iter tg : Expr} {ifs : List Expr} {scope : Scope} {pos : Pos} {N : List Str} {cap : List Nat} {t : Nat} {mi : MA} {g : D → R → Option R} {mt : MT} {me : ME}
theorem zkP {wi : TI} {tg' : Addr → Shared → Hp → List Addr → TG} {tt : Addr → Shared → Hp → List Addr → TT} {te : Addr → Shared → Hp → List Addr → TE}
  (si : ∀ B G H σ ρ ds ρ' (Q : It → Hp → Prop), SI X.K B G H σ ρ → mi ρ = some (ds, ρ') → (∀ J G' H', SI X.K B G' H' σ ρ' → Fz G G' → Itm X.K J G' ds → Q J H') → wi σ H Q)
  (sg : ∀ C s H₀ fp B G H σ ρ v d ρ' (Q : St → Hp → Prop), SI X.K B G H σ ρ → RepD X.K G v d → g d ρ = some ρ' → (∀ G' H' σ', SI X.K B G' H' σ' ρ' → Fz G G' → Q σ' H') → tg' C s H₀ fp v σ H Q)
  (st : ∀ C s H₀ fp B G H σ ρ d ρ' (Q : Bool → Hp → Prop), SI X.K B G H σ ρ → mt ρ = some (d, ρ') → (∀ G' H', SI X.K B G' H' σ ρ' → Fz G G' → Q d H') → tt C s H₀ fp σ H Q)
  (se : ∀ C s H₀ fp B G H σ ρ d ρ' (Q : VK), SI X.K B G H σ ρ → me ρ = some (d, ρ') → (∀ G' H' v, SI X.K B G' H' σ ρ' → Fz G G' → RepD X.K G' v d → Q v H') → te C s H₀ fp σ H Q) :
  ∀ B G H σ ρ ds ρ' (Q : VK), SI X.K B G H σ ρ → oLC cap t mi g mt me ρ = some (ds, ρ') →
   (∀ G' H' l xs, SI X.K B G' H' σ ρ' → Fz G G' → G' l = none → H' l = some (.lst xs) → RepL X.K G' xs ds → B.H l = none → (∀ i, Wr ρ' i → σ[i]? ≠ some (some (.ref l))) → Q (.ref l) H') → tLC (capσ cap t) wi tg' tt te σ H Q := by
 intro B G H σ ρ ds ρ' Q I hm k
 obtain ⟨⟨items, ρ1⟩, e1, hm⟩ := zal hm
 refine si B G H σ ρ items ρ1 _ I e1 fun J G1 H1 I1 f1 IT DD hD => ?_
 dsimp only at hm
 split at hm
 ·rename_i hlen
  obtain ⟨⟨all, ρf⟩, e2, e3⟩ := za8 hm
  obtain ⟨rfl, rfl⟩ := Prod.mk.inj e3
  obtain ⟨G2, I2, f2⟩ := SI.fzL cap I1
  have hDG : G2 DD = none := I2.fz.free hD
  refine ⟨fun i m σc Hc => m = items.length - i ∧ i ≤ items.length ∧ ∃ Gc ρc acc xs rest ρe, LcV X.K g mt me items all G2 H1 DD i σc Hc Gc ρc acc xs rest ρe,
   ⟨items.length, by simp, Nat.zero_le _, G2, capR cap t (M.fzL cap ρ1), [], [], all, ρf, { fc := Fz.refl _, fcH := I2.fz.right hDG _, nw := fun b o e => .inl (by rw [e]; simp), kp := fun b o e => by rw [zaU (za1 e hD)]; exact e, gD := hDG, hDc := za4, ra := .nil, hx := Nat.le_refl _, vs := cap_vs I2 cap t, ec := by simpa using e2, eall := rfl }⟩, ?_⟩
  rintro i m σc Hc ⟨rfl, hi, Gc, ρc, acc, xs, rest, ρe, J0⟩
  obtain ⟨fc, fcH, nw, kp, gD, hDc, ra, hx, vs, ec, eall⟩ := J0
  by_cases hlt : i < items.length
  ·refine .inr ⟨IT.go Hc i (f2.trans (fc.trans fcH)) hlt, fun C s₀ H₀ fp x H' y => ?_⟩
   rw [List.drop_eq_getElem_cons hlt] at ec
   simp only [zft] at ec
   obtain ⟨⟨o, ρ3⟩, h3, ec⟩ := zal ec
   obtain ⟨⟨rest2, ρ4⟩, h4, ec⟩ := za8 ec
   obtain ⟨rfl, rfl⟩ := Prod.mk.inj ec
   dsimp only at h4
   unfold zj9 at h3
   obtain ⟨ρ5, h5, h3⟩ := zal h3
   obtain ⟨⟨ok, ρ6⟩, h6, h3⟩ := zal h3
   dsimp only at h3
   have Ic : SI X.K ⟨Gc, Hc, []⟩ Gc Hc σc ρc := vs.si fcH
   have fz2 : Fz G1 Hc := f2.trans (fc.trans fcH)
   have yy := IT.yld Hc i x H' fz2 y items[i] (List.getElem?_eq_getElem hlt)
   have yy2 : (H' = Hc ∧ RepD X.K Gc x items[i]) ∨ ∃ p xs es, Hc p = none ∧ H' = upd Hc p (.tup xs) ∧ x = .ref p ∧ items[i] = .tup es ∧ RepL X.K Gc xs es := by
    rcases yy with ⟨a, b⟩ | ⟨p, xs, es, a, b, c, d, e⟩
    ·exact .inl ⟨a, b.mono (f2.trans fc)⟩
    ·exact .inr ⟨p, xs, es, a, b, c, d, e.mono (f2.trans fc)⟩
   obtain ⟨G3, I3, f3, r3⟩ := Ic.yld yy2
   refine sg C s₀ H₀ fp _ G3 H' σc ρc x items[i] ρ5 _ I3 r3 h5 fun G4 H4 σ4 I4 f4 => st C s₀ H₀ fp _ G4 H4 σ4 ρ5 ok ρ6 _ I4 h6 fun G5 H5 I5 f5 => ?_
   have facts : ∀ (G' H' : Hp) (σ' : St) (ρ' : R), SI X.K ⟨Gc, Hc, []⟩ G' H' σ' ρ' → (∀ b o, G' b = some o → G2 b ≠ none ∨ H1 b = none) ∧ (∀ b o, H1 b = some o → H' b = some o) ∧ G' DD = none ∧ H' DD = some (.lst xs) := fun G' H' σ' ρ' I' => by
    refine ⟨fun b o e => ?_, fun b o e => I'.keep b o (kp b o e) (by simp), ?_, I'.keep DD _ hDc (by simp)⟩
    ·rcases I'.new b o e with h | h
     ·have h : Gc b ≠ none := h
      cases q : Gc b with
      | none => exact absurd q h
      | some u => exact nw b u q
     ·refine .inr ?_
      cases q : H1 b with
      | none => rfl
      | some u => have := kp b u q; rw [show Hc b = none from h] at this; cases this
    ·cases q : G' DD with
     | none => rfl
     | some u =>
      rcases I'.new DD u q with h | h
      ·exact absurd gD h
      ·rw [show Hc DD = none from h] at hDc; cases hDc
   cases ok with
   | false =>
    simp only [Bool.false_eq_true, if_false] at h3
    split at h3
    ·rename_i hno
     cases h3
     obtain ⟨a1, a2, a3, a4⟩ := facts G5 H5 σ4 _ I5
     exact ⟨items.length - (i + 1), by omega, rfl, hlt, G5, _, acc, xs, rest2, ρ4, { fc := fc.trans (f3.trans (f4.trans f5)), fcH := I5.fz, nw := a1, kp := a2, gD := a3, hDc := a4, ra := ra.mono (f3.trans (f4.trans f5)), hx := by omega, vs := VS.of I5 hno, ec := h4, eall := by simpa using eall }⟩
    ·cases h3
   | true =>
    simp only [if_true] at h3 ⊢
    obtain ⟨⟨dv, ρ7⟩, h7, h3⟩ := zal h3
    dsimp only at h3
    split at h3
    ·rename_i hno
     cases h3
     refine se C s₀ H₀ fp _ G5 H5 σ4 ρ6 dv _ _ I5 h7 fun G6 H6 v I6 f6 r6 => ?_
     obtain ⟨a1, a2, a3, a4⟩ := facts G6 H6 σ4 _ I6
     have ff : Fz Gc G6 := f3.trans (f4.trans (f5.trans f6))
     exact ⟨xs, a4, by rw [sizeLine_eq]; omega, items.length - (i + 1), by omega, rfl, hlt, G6, _, acc ++ [dv], xs ++ [v], rest2, ρ4, { fc := fc.trans ff, fcH := I6.fz.right a3 _, nw := a1, kp := fun b o e => by rw [zaU (za1 e hD)]; exact a2 b o e, gD := a3, hDc := za4, ra := (ra.mono ff).snoc r6, hx := by rw [List.length_append, List.length_singleton]; omega, vs := VS.of I6 hno, ec := h4, eall := by rw [eall]; simp }⟩
    ·cases h3
  ·have e : i = items.length := by omega
   subst e
   rw [List.drop_length] at ec
   cases ec
   have hall : all = acc := by rw [eall, List.append_nil]
   refine .inl ⟨IT.stop Hc _ (f2.trans (fc.trans fcH)) (Nat.le_refl _), ?_⟩
   rw [← hall] at ra
   exact k Gc Hc DD xs (I2.grow fc fcH nw kp) (f1.trans (f2.trans fc)) gD hDc ra (I2.there DD hD) (I2.own_ne hD)
 ·cases hm
theorem zfA (cap : List Nat) (t : Nat) (N : List Str) (hc : X.calm = true) (hi : SIt X tg iter mi) (hg : ∀ C s H fp, SG (cxC X N scope C s H fp) tg g) (ht : ∀ C s H fp, STs (cxC X N scope C s H fp) ifs mt) (he : ∀ C s H fp, SE (cxC X N scope C s H fp) elt me)
    (hk : scope.kind = .function := by rfl) (hb : blkB X.env scope = true := by kernel_rfl) (hcap : capB scope.names N X.N cap t = true := by kernel_rfl)
    (hs : ∀ x, foldedSetIterable iter X.env x = pure x := by exact fun _ => rfl) : SO X (.ListComp elt [⟨tg, iter, ifs, 0⟩] scope pos) (oLC cap t mi g mt me) := by
  obtain ⟨wi, pi, si⟩ := hi
  exact ⟨_, pe_lc hc (zkz hk hb) (zkI hcap) pi (fun C s H fp => (hg C s H fp).choose_spec.1) (fun C s H fp => (ht C s H fp).choose_spec.1) (fun C s H fp => (he C s H fp).choose_spec.1) hs,
    zkP si (fun C s H fp => (hg C s H fp).choose_spec.2) (fun C s H fp => (ht C s H fp).choose_spec.2) (fun C s H fp => (he C s H fp).choose_spec.2)⟩
end
end M
set_option Elab.async false
set_option linter.all false
set_option maxRecDepth 100000
namespace M
open PySem PySem.Spec L2
open PyProof.Rows hiding St
section
variable {X : Cx} {elt iter tg : Expr} {ifs : List Expr} {scope : Scope} {pos lpos pos' : Pos} {N : List Str} {cap : List Nat} {t : Nat} {mi : MA} {g : D → R → Option R} {mt : MT} {me : ME}
theorem zkR {i : Nat} {x : Str} {σ0 : St → St} {wi : TI} {tg' : Addr → Shared → Hp → List Addr → TG} {tt : Addr → Shared → Hp → List Addr → TT} {te : Addr → Shared → Hp → List Addr → TE} (hN : X.N.Nodup) (hxi : X.N[i]? = some x) (hx : Loc X.env.scope x) (hf : X.fn x = true ∨ X.env.scope.names.lookup x = some .local)
  (hsw : swapsWith (.ListComp elt [⟨tg, iter, ifs, 0⟩] scope lpos) (some (.Name x pos')) pos.line X.env = pure true) (hc : X.calm = true) (b : BlkOk X scope) (cap : Cap X scope N σ0) (hi : PI X tg iter wi) (hg : ∀ C s H fp, PG (cxC X N scope C s H fp) tg (tg' C s H fp)) (ht : ∀ C s H fp, PTs (cxC X N scope C s H fp) ifs (tt C s H fp)) (he : ∀ C s H fp, PE (cxC X N scope C s H fp) elt (te C s H fp))
  (hs : ∀ x, foldedSetIterable iter X.env x = pure x) : PS X (.Assign [.Name x pos'] (.ListComp elt [⟨tg, iter, ifs, 0⟩] scope lpos) pos) (fun E σ H => tLC σ0 wi tg' tt te σ H fun v H' => E.nx (σ.set i (some v)) H') := by
 intro pins s σ H E I h
 rw [exec_Assign_Name_used _ _ _ _ hsw]
 refine wpAny_bind (wpAny_standAt (wpAny_bind ?_))
 show wpAny _ _ (do let _ ← comprehension (.ListComp elt [⟨tg, iter, ifs, 0⟩] scope lpos) scope X.env _ (newList []) false (eval iter X.env) (some (assign (.Name x pos') X.env))) _ _ s
 refine wpAny_bind (thn (zlM (use := some (assign (.Name x pos') X.env)) (QQ := fun _ s' => SP X pins E .next s') (E := X.xe) hc b cap hi hg ht he I h hs ?_) fun _ s' hq => wpAny_pure (wpAny_pure hq))
 intro D fp C H1 H' σc s1 s' I1 f1 eC J q
 subst eC
 have I2 : Inv X pins σ H' s' := by
  have z := zlS (h' := s'.heap) I1 f1 J (Heap.SameBut.refl _ _)
  exact z
 obtain ⟨m, ⟨o, es, ep, ho, hd, hrest⟩, _⟩ := J.loc
 have fpk : FpOk X pins H' s1.heap.objs.size := I1.fpOk (Nat.le_refl _) J.free
 have I3 : Inv X (pins ++ [(s1.heap.objs.size, o)]) σ H' s' := I2.pins_of fun p hp => by
  rcases List.mem_append.mp hp with hp | hp
  ·exact I2.pin p (List.mem_append_right _ hp)
  ·have e : p = (s1.heap.objs.size, o) := by simpa using hp
   subst e
   exact ⟨ho, fpk.1, fpk.2.1, fpk.2.2.1, fun v z => by rw [hd] at z; cases z⟩
 refine thn (zmt hN hxi hx hf (pins ++ [(s1.heap.objs.size, o)]) s' σ H' (.ref D) (.ref D) (fun σ2 H2 => E.nx σ2 H2) I3 rfl q) fun _ s'' ⟨σ2, H2, I4, q4⟩ => ?_
 have pC := I4.pin (s1.heap.objs.size, o) (List.mem_append_right _ (List.mem_append_right _ (by simp)))
 refine ⟨m, ⟨o, es, ep, pC.1, hd, hrest⟩, fun h' hs' => ?_⟩
 have I5 : Inv X pins σ2 H2 s'' := I4.unpinned
 have fp2 : FpOk X pins H2 s1.heap.objs.size := I1.fpOk (Nat.le_refl _) pC.2.1
 have I6 := I5.turned (t' := s''.toks) (h' := h') (it := s1.heap.objs.size) (fun b' o' hb e => hs'.extBut b' o' hb e) fp2.1 fp2.2.1 fp2.2.2.2.1 fp2.2.2.2.2.1 fp2.2.2.2.2.2
 exact ⟨σ2, H2, I6, q4⟩
end
section
variable {X : Cx} {pins : List (Addr × Obj)} {σ : St} {H : Hp} {s : Shared}
theorem zgk {A : Around} {E : Value → Shared → Prop} {p : Addr} {ys : List V} {Q : Value → Shared → Prop} (hh : A.handled = none) (I : Inv X pins σ H s) (hq : SqL X.K H p ys ∨ SqT X.K H p ys)
  (k : ∀ (its : List Value) (s₂ : Shared) (St : Nat → Heap → Prop), Vals ys its → Walks X.prog X.w A s.heap.objs.size [s.heap.objs.size, p] [s.heap.objs.size] its.length (fun i v => its[i]? = some v) St → St 0 s₂.heap → (∀ b ∈ [s.heap.objs.size, p], b < s₂.heap.objs.size) →
   (∀ h' tk, (∀ b o, b ∉ [s.heap.objs.size] → s₂.heap.get? b = some o → h'.get? b = some o) → Inv X pins σ H { s₂ with heap := h', toks := tk }) → Q (.ref s.heap.objs.size) s₂) : wpAny (model X.prog X.w) A (pyIter (.ref p)) Q E s := by
 have fin : ∀ (o : Obj), ∀ h' tk, (∀ b o', b ∉ [s.heap.objs.size] → (s.heap.push o).get? b = some o' → h'.get? b = some o') → Inv X pins σ H { ({ s with heap := s.heap.push o } : Shared) with heap := h', toks := tk } := fun o h' tk hk => by
  have z := I.kept (h' := h') (t' := tk) fun b o' e => hk b o' (by simpa using Nat.ne_of_lt (Heap.lt_size e)) (Heap.get?_push_of_some _ e)
  exact z
 rcases hq with hq | hq
 ·obtain ⟨its, r, pl, hz⟩ := I.list hq
  have hlt : p < s.heap.objs.size := by obtain ⟨_, _, e, _⟩ := pl; exact Heap.lt_size e
  refine wpAny_pyIter_list pl.isList (k its _ (fun i h => h.IsListIter s.heap.objs.size p i ∧ h.IsList p its.toArray) r ?_ ⟨⟨_, Heap.get?_push_size _ rfl, rfl, rfl⟩, pl.isList.push _⟩ (fun b hb => ?_) (fin _))
  ·have w := Walks.list (prog := X.prog) (w := X.w) (A := A) hh s.heap.objs.size p (Nat.ne_of_lt hlt) its.toArray
   simpa using w
  ·show b < (s.heap.push _).objs.size
   rw [Heap.size_push]
   simp at hb
   rcases hb with z | z
   ·rw [z]; exact Nat.lt_succ_self _
   ·rw [z]; exact Nat.lt_succ_of_lt hlt
 ·obtain ⟨its, r, pl, hz⟩ := I.tuple hq
  have hlt : p < s.heap.objs.size := pl.lt
  refine wpAny_pyIter_tuple (show s.heap.IsTuple p its.toArray from pl) (k its _ (fun i h => h.IsTupleIter s.heap.objs.size p i ∧ h.IsTuple p its.toArray) r ?_ ⟨⟨_, Heap.get?_push_size _ rfl, rfl, rfl⟩, (show s.heap.IsTuple p its.toArray from pl).push _⟩ (fun b hb => ?_) (fin _))
  ·have w := Walks.tuple (prog := X.prog) (w := X.w) (A := A) hh s.heap.objs.size p (Nat.ne_of_lt hlt) its.toArray
   simpa using w
  ·show b < (s.heap.push _).objs.size
   rw [Heap.size_push]
   simp at hb
   rcases hb with z | z
   ·rw [z]; exact Nat.lt_succ_self _
   ·rw [z]; exact Nat.lt_succ_of_lt hlt
end
theorem zhJ (ns : List Int) : ∀ j, preSum (fun i => ns.getD i 0) j = (ns.take j).sum
 | 0 => by simp [preSum]
 | j + 1 => by
  rw [preSum, zhJ ns j]
  by_cases h : j < ns.length
  ·rw [List.take_succ_eq_append_getElem h, List.sum_append]
   simp [h]
  ·rw [List.take_of_length_le (by omega), List.take_of_length_le (by omega)]
   simp [List.getElem?_eq_none (by omega : ns.length ≤ j)]
theorem zf9 {ns : List Int} {its : List Value} (r : Vals (ns.map V.int) its) {i : Nat} {v : Value} (e : its[i]? = some v) : ∃ t, v = .int (ns.getD i 0) t := by
 have hl := r.length
 have hi : i < its.length := (List.getElem?_eq_some_iff.mp e).1
 rw [List.length_map] at hl
 have e2 : (ns.map V.int)[i]? = some (.int ns[i]) := by rw [List.getElem?_map, List.getElem?_eq_getElem (by omega)]; rfl
 obtain ⟨u, h1, t, h2⟩ := r.get e2
 rw [e] at h1; cases h1
 exact ⟨t, by rw [h2]; simp [show i < ns.length by omega]⟩
noncomputable def rSum (K : W.Frag) : List V → Hp → VK → Prop := fun xs H Q => ∃ (p : Addr) (ns : List Int), xs = [.ref p] ∧ (SqL K H p (ns.map V.int) ∨ SqT K H p (ns.map V.int)) ∧ Q (.int ns.sum) H
theorem zmR {X : Cx} (hc : X.calm = true) : zfe X (.builtin "sum") (rSum X.K) := by
 intro pins s σ H xs us Q I r h
 obtain ⟨p, ns, rfl, hq, q⟩ := h
 obtain ⟨u, rfl, ru⟩ := zgp r
 cases ru
 refine call_sum_walkG (zgk (A := X.A.in1) (I.ok.hd hc) I hq fun its s₂ St rv W st hfp fin => ?_)
 refine ⟨_, _, _, _, _, _, fun i => ns.getD i 0, rfl, W, st, hfp, fun i v e => zf9 rv e, fun h' tk t' hk => ⟨.int ns.sum, H, fin h' tk hk, ⟨t', ?_⟩, q⟩⟩
 have hl := rv.length
 rw [List.length_map] at hl
 rw [zhJ, ← hl, List.take_of_length_le (Nat.le_refl _)]
noncomputable def zcz : List D → Option (List Int)
 | [] => some []
 | .int i :: ds => (zcz ds).map (i :: ·)
 | _ => none
theorem zgU : ∀ {ds : List D} {ns : List Int}, zcz ds = some ns → ds = ns.map .int
 | [], ns, h => by cases h; rfl
 | d :: ds, ns, h => by
  cases d <;> simp only [zcz] at h <;> try cases h
  obtain ⟨ms, e1, e2⟩ := za8 h
  subst e2
  rw [zgU e1]; rfl
@[simp] theorem intsOf_map : ∀ (ns : List Int), zcz (ns.map .int) = some ns
 | [] => rfl
 | n :: ns => by simp [zcz, intsOf_map ns]
noncomputable def dSum : List D → Option D
 | [d] => (za7 [d]).bind fun ds => (zcz ds).map fun ns => .int ns.sum
 | _ => none
theorem zh9 {K : W.Frag} {B : Bs} {G H : Hp} {σ : St} {ρ : R} (I : SI K B G H σ ρ) {x : V} {d : D} {ds : List D} (r : RepD K G x d) (e : za7 [d] = some ds) : ∃ p ys, x = .ref p ∧ (SqL K H p ys ∨ SqT K H p ys) ∧ RepL K G ys ds := by
 cases d <;> simp only [za7] at e <;> try cases e
 ·obtain ⟨p, ys, ex, hp, q⟩ := I.lst r
  exact ⟨p, ys, ex, .inl (SqL.of hp), q⟩
 ·obtain ⟨p, ys, ex, hp, q⟩ := I.tup r
  exact ⟨p, ys, ex, .inr (SqT.of hp), q⟩
 ·obtain ⟨p, ex, hp⟩ := r
  exact ⟨p, _, ex, .inl (I.fz.sql hp), RepL.ints _⟩
theorem vc_sum {X : Cx} : VC X (rSum X.K) dSum := by
 intro B G H σ ρ xs ds d Q I r hf k
 match ds, hf with
 | [a], hf =>
  obtain ⟨es, e1, hf⟩ := zal hf
  obtain ⟨ns, e2, e3⟩ := za8 hf
  subst e3
  obtain ⟨x, rfl, ra⟩ := r.one
  obtain ⟨p, ys, rfl, hq, ry⟩ := zh9 I ra e1
  rw [zgU e2] at ry
  rw [RepL.ints_eq ry] at hq
  exact ⟨p, ns, rfl, hq, k G H _ I (Fz.refl G) rfl⟩
 | [], hf => cases hf
 | _ :: _ :: _, hf => cases hf
theorem zg5 {X : Cx} {e : Expr} {ma : MA} {p pos : Pos} (hc : X.calm = true) (ml : X.mg "sum" = none) (ha : SA X [e] ma) (hg : Gl X "sum" := by rfl) (he : starEach [e] X.env = (false, eval e X.env) :: starEach [] X.env := by rfl) : SE X (.Call (.Name "sum" p) [e] [] pos) (mC dSum ma) :=
 zeY (zmR hc) vc_sum (by decide +kernel) ml ha hg (by decide) (by decide) he rfl
noncomputable def zfq : List D → Option (List Bool)
 | [] => some []
 | .bl b :: ds => (zfq ds).map (b :: ·)
 | _ => none
theorem zhF : ∀ {ds : List D} {bs : List Bool}, zfq ds = some bs → ds = bs.map .bl
 | [], ns, h => by cases h; rfl
 | d :: ds, ns, h => by
  cases d <;> simp only [zfq] at h <;> try cases h
  obtain ⟨ms, e1, e2⟩ := za8 h
  subst e2
  rw [zhF e1]; rfl
@[simp] theorem boolsOf_map : ∀ (bs : List Bool), zfq (bs.map .bl) = some bs
 | [] => rfl
 | n :: ns => by simp [zfq, boolsOf_map ns]
theorem RepL.bools_eq {K : W.Frag} {G : Hp} : ∀ {bs : List Bool} {xs : List V}, RepL K G xs (bs.map D.bl) → xs = bs.map V.bl
 | [], _, e => e
 | n :: ns, _, ⟨x, ys, e, q, r⟩ => by subst e; cases (show x = V.bl n from q); rw [RepL.bools_eq r]; rfl
theorem ziS {bs : List Bool} {its : List Value} (r : Vals (bs.map V.bl) its) {i : Nat} {v : Value} (e : its[i]? = some v) : ∃ b, bs[i]? = some b ∧ v = .bool b := by
 have hl := r.length
 have hi : i < its.length := (List.getElem?_eq_some_iff.mp e).1
 rw [List.length_map] at hl
 have e2 : (bs.map V.bl)[i]? = some (.bl bs[i]) := by rw [List.getElem?_map, List.getElem?_eq_getElem (by omega)]; rfl
 obtain ⟨u, h1, h2⟩ := r.get e2
 rw [e] at h1; cases h1
 exact ⟨bs[i], List.getElem?_eq_getElem (by omega), h2⟩
noncomputable def rAll (K : W.Frag) (f : List Bool → Bool) : List V → Hp → VK → Prop := fun xs H Q => ∃ (p : Addr) (bs : List Bool), xs = [.ref p] ∧ (SqL K H p (bs.map V.bl) ∨ SqT K H p (bs.map V.bl)) ∧ Q (.bl (f bs)) H
theorem zmD {X : Cx} (hc : X.calm = true) : zfe X (.builtin "all") (rAll X.K fun bs => bs.all id) := by
 intro pins s σ H xs us Q I r h
 obtain ⟨p, bs, rfl, hq, q⟩ := h
 obtain ⟨u, rfl, ru⟩ := zgp r
 cases ru
 refine call_all_walk (zgk (A := X.A.in1) (I.ok.hd hc) I hq fun its s₂ St rv W st hfp fin => ?_)
 have hl := rv.length
 rw [List.length_map] at hl
 refine ⟨_, _, _, _, _, _, fun i => (bs[i]?).getD true, rfl, W, st, fun i v s' Q' E' hP hQ => ?_, fun h' tk hk => ⟨.bl (bs.all id), H, fin h' tk hk, ?_, q⟩⟩
 ·obtain ⟨b, e, rfl⟩ := ziS rv hP
  simp only [e, Option.getD_some] at hQ
  exact wpAny_truthy_bool hQ
 ·rw [← hl, LSm.range_all]; rfl
theorem zmy {X : Cx} (hc : X.calm = true) : zfe X (.builtin "any") (rAll X.K fun bs => bs.any id) := by
 intro pins s σ H xs us Q I r h
 obtain ⟨p, bs, rfl, hq, q⟩ := h
 obtain ⟨u, rfl, ru⟩ := zgp r
 cases ru
 refine call_any_walk (zgk (A := X.A.in1) (I.ok.hd hc) I hq fun its s₂ St rv W st hfp fin => ?_)
 have hl := rv.length
 rw [List.length_map] at hl
 refine ⟨_, _, _, _, _, _, fun i => (bs[i]?).getD false, rfl, W, st, fun i v s' Q' E' hP hQ => ?_, fun h' tk hk => ⟨.bl (bs.any id), H, fin h' tk hk, ?_, q⟩⟩
 ·obtain ⟨b, e, rfl⟩ := ziS rv hP
  simp only [e, Option.getD_some] at hQ
  exact wpAny_truthy_bool hQ
 ·rw [← hl, LSm.range_any]; rfl
noncomputable def dAll (f : List Bool → Bool) : List D → Option D
 | [d] => (za7 [d]).bind fun ds => (zfq ds).map fun bs => .bl (f bs)
 | _ => none
theorem vc_all {X : Cx} (f : List Bool → Bool) : VC X (rAll X.K f) (dAll f) := by
 intro B G H σ ρ xs ds d Q I r hf k
 match ds, hf with
 | [a], hf =>
  obtain ⟨es, e1, hf⟩ := zal hf
  obtain ⟨ns, e2, e3⟩ := za8 hf
  subst e3
  obtain ⟨x, rfl, ra⟩ := r.one
  obtain ⟨p, ys, rfl, hq, ry⟩ := zh9 I ra e1
  rw [zhF e2] at ry
  rw [RepL.bools_eq ry] at hq
  exact ⟨p, ns, rfl, hq, k G H _ I (Fz.refl G) rfl⟩
 | [], hf => cases hf
 | _ :: _ :: _, hf => cases hf
theorem zkC {X : Cx} {e : Expr} {ma : MA} {p pos : Pos} (hc : X.calm = true) (ml : X.mg "all" = none) (ha : SA X [e] ma) (hg : Gl X "all" := by rfl) (he : starEach [e] X.env = (false, eval e X.env) :: starEach [] X.env := by rfl) : SE X (.Call (.Name "all" p) [e] [] pos) (mC (dAll fun bs => bs.all id) ma) :=
 zeY (zmD hc) (vc_all _) (by decide +kernel) ml ha hg (by decide) (by decide) he rfl
theorem se_any {X : Cx} {e : Expr} {ma : MA} {p pos : Pos} (hc : X.calm = true) (ml : X.mg "any" = none) (ha : SA X [e] ma) (hg : Gl X "any" := by rfl) (he : starEach [e] X.env = (false, eval e X.env) :: starEach [] X.env := by rfl) : SE X (.Call (.Name "any" p) [e] [] pos) (mC (dAll fun bs => bs.any id) ma) :=
 zeY (zmy hc) (vc_all _) (by decide +kernel) ml ha hg (by decide) (by decide) he rfl
noncomputable def d2I (g : Int → Int → Int) : List D → Option D
 | [.int i, .int j] => some (.int (g i j))
 | _ => none
theorem vc_2I {X : Cx} (g : Int → Int → Int) : VC X (fun xs H Q => ∃ i j, xs = [.int i, .int j] ∧ Q (.int (g i j)) H) (d2I g) := by
 intro B G H σ ρ xs ds d Q I r hf k
 unfold d2I at hf
 split at hf
 ·rename_i i j
  cases hf
  obtain ⟨x, y, rfl, rx, ry⟩ := r.two
  cases (show x = V.int i from rx)
  cases (show y = V.int j from ry)
  exact ⟨i, j, rfl, k G H _ I (Fz.refl G) rfl⟩
 ·cases hf
noncomputable def max2 (i j : Int) : Int := if j > i then j else i
noncomputable def min2 (i j : Int) : Int := if j < i then j else i
theorem zj6 {X : Cx} {a b : Expr} {ma : MA} {p pos : Pos} (hc : X.calm = true) (ml : X.mg "max" = none) (ha : SA X [a, b] ma) (hg : Gl X "max" := by rfl) (he : starEach [a, b] X.env = (false, eval a X.env) :: starEach [b] X.env := by rfl) (hpl : (backTo pos (starEach [b] X.env)).any (·.1) = false := by rfl) : SE X (.Call (.Name "max" p) [a, b] [] pos) (mC (d2I max2) ma) :=
 zeY (zmx hc) (vc_2I max2) (by decide +kernel) ml ha hg (by decide) (by decide) he hpl
theorem zmK {X : Cx} {a b : Expr} {ma : MA} {p pos : Pos} (hc : X.calm = true) (ml : X.mg "min" = none) (ha : SA X [a, b] ma) (hg : Gl X "min" := by rfl) (he : starEach [a, b] X.env = (false, eval a X.env) :: starEach [b] X.env := by rfl) (hpl : (backTo pos (starEach [b] X.env)).any (·.1) = false := by rfl) : SE X (.Call (.Name "min" p) [a, b] [] pos) (mC (d2I min2) ma) :=
 zeY (zm3 hc) (vc_2I min2) (by decide +kernel) ml ha hg (by decide) (by decide) he hpl
noncomputable def abs1 (i : Int) : Int := if i < 0 then -i else i
noncomputable def dAbs : List D → Option D
 | [.int i] => some (.int (abs1 i))
 | _ => none
noncomputable def dInt : List D → Option D
 | [.int i] => some (.int i)
 | [.bl b] => some (.int (if b then 1 else 0))
 | _ => none
theorem zix {X : Cx} {a : Expr} {ma : MA} {p pos : Pos} (ml : X.mg "int" = none) (ha : SA X [a] ma) (hg : Gl X "int" := by rfl) (he : starEach [a] X.env = (false, eval a X.env) :: starEach [] X.env := by rfl) : SE X (.Call (.Name "int" p) [a] [] pos) (mC dInt ma) :=
 zi4 zl0 (fun B G H σ ρ xs ds d Q I r hf k => by
  unfold dInt at hf
  split at hf
  ·rename_i i
   cases hf
   obtain ⟨x, rfl, rx⟩ := r.one
   cases (show x = V.int i from rx)
   exact .inl ⟨i, rfl, k G H _ I (Fz.refl G) rfl⟩
  ·rename_i b
   cases hf
   obtain ⟨x, rfl, rx⟩ := r.one
   cases (show x = V.bl b from rx)
   exact .inr ⟨b, rfl, k G H _ I (Fz.refl G) rfl⟩
  ·cases hf) (by decide +kernel) ml ha hg (by decide) (by decide) he rfl
end M
set_option Elab.async false
set_option linter.all false
set_option maxRecDepth 100000
namespace M
open PySem PySem.Spec L2
open PyProof.Rows hiding St
theorem zgJ (K : W.Frag) : W.kitOne K (.type "NoneType") (.type "int") = some false := by kernel_rfl
theorem zgn (K : W.Frag) : W.kitOne K (.type "NoneType") (.type "bool") = some false := by kernel_rfl
theorem zgh (K : W.Frag) : W.kitOne K (.type "NoneType") (.type "tuple") = some false := by kernel_rfl
theorem zgx (K : W.Frag) : W.kitOne K (.type "NoneType") (.type "list") = some false := by kernel_rfl
theorem zgG (K : W.Frag) : W.kitOne K (.type "NoneType") (.type "str") = some false := by kernel_rfl
theorem zjD (K : W.Frag) : W.kitOne K (.type "bool") (.type "int") = some true := by kernel_rfl
theorem zh8 (K : W.Frag) : W.kitOne K (.type "bool") (.type "bool") = some true := by kernel_rfl
theorem zhv (K : W.Frag) : W.kitOne K (.type "bool") (.type "tuple") = some false := by kernel_rfl
theorem ziu (K : W.Frag) : W.kitOne K (.type "bool") (.type "list") = some false := by kernel_rfl
theorem zjG (K : W.Frag) : W.kitOne K (.type "bool") (.type "str") = some false := by kernel_rfl
theorem zkk (K : W.Frag) : W.kitOne K (.type "int") (.type "int") = some true := by kernel_rfl
theorem zjJ (K : W.Frag) : W.kitOne K (.type "int") (.type "bool") = some false := by kernel_rfl
theorem ziK (K : W.Frag) : W.kitOne K (.type "int") (.type "tuple") = some false := by kernel_rfl
theorem zjo (K : W.Frag) : W.kitOne K (.type "int") (.type "list") = some false := by kernel_rfl
theorem zkt (K : W.Frag) : W.kitOne K (.type "int") (.type "str") = some false := by kernel_rfl
theorem zj7 (K : W.Frag) : W.kitOne K (.type "str") (.type "int") = some false := by kernel_rfl
theorem zi1 (K : W.Frag) : W.kitOne K (.type "str") (.type "bool") = some false := by kernel_rfl
theorem zim (K : W.Frag) : W.kitOne K (.type "str") (.type "tuple") = some false := by kernel_rfl
theorem zjn (K : W.Frag) : W.kitOne K (.type "str") (.type "list") = some false := by kernel_rfl
theorem zj1 (K : W.Frag) : W.kitOne K (.type "str") (.type "str") = some true := by kernel_rfl
theorem zi8 (K : W.Frag) : W.kitOne K (.type "list") (.type "int") = some false := by kernel_rfl
theorem ziz (K : W.Frag) : W.kitOne K (.type "list") (.type "bool") = some false := by kernel_rfl
theorem zhj (K : W.Frag) : W.kitOne K (.type "list") (.type "tuple") = some false := by kernel_rfl
theorem zig (K : W.Frag) : W.kitOne K (.type "list") (.type "list") = some true := by kernel_rfl
theorem ziU (K : W.Frag) : W.kitOne K (.type "list") (.type "str") = some false := by kernel_rfl
theorem zia (K : W.Frag) : W.kitOne K (.type "tuple") (.type "int") = some false := by kernel_rfl
theorem zhE (K : W.Frag) : W.kitOne K (.type "tuple") (.type "bool") = some false := by kernel_rfl
theorem zg7 (K : W.Frag) : W.kitOne K (.type "tuple") (.type "tuple") = some true := by kernel_rfl
theorem zhu (K : W.Frag) : W.kitOne K (.type "tuple") (.type "list") = some false := by kernel_rfl
theorem zh5 (K : W.Frag) : W.kitOne K (.type "tuple") (.type "str") = some false := by kernel_rfl
noncomputable def isI (T : String) : D → Bool
 | .non => false
 | .bl _ => T == "bool" || T == "int"
 | .int _ => T == "int"
 | .str _ => T == "str"
 | .lst _ => T == "list"
 | .tup _ => T == "tuple"
 | .scr _ => T == "list"
 | .exc _ => false
noncomputable def okT (T : String) : Bool := ["int", "bool", "tuple", "list", "str"].contains T
noncomputable def rIsI (K : W.Frag) (T : String) : List V → Hp → VK → Prop := fun xs H Q => ∃ x t b, xs = [x, .ty T] ∧ TyOf K H x t ∧ W.kitOne K t (.type T) = some b ∧ Q (.bl b) H
theorem call_isI {X : Cx} (T : String) : zfe X (.builtin "isinstance") (rIsI X.K T) := by
 intro pins s σ H xs us Q I r h
 obtain ⟨x, t, b, rfl, ty, e, q⟩ := h
 obtain ⟨u, w', rfl, r1, r2⟩ := vals2 r
 cases (show w' = Value.type T from r2)
 exact zmo I r1 ty e fun tk => ⟨.bl b, H, I.tok _, rfl, q⟩
noncomputable def eIsI (T : String) (ma : ME) : ME := fun ρ => (ma ρ).bind fun p => if okT T && noS1 p.1 then some (.bl (isI T p.1), p.2) else none
where noS1 : D → Bool
 | .scr _ => false
 | .exc _ => false
 | _ => true
theorem kit_all (K : W.Frag) {T : String} (hT : okT T = true) : W.kitOne K (.type "NoneType") (.type T) = some false ∧ W.kitOne K (.type "bool") (.type T) = some (T == "bool" || T == "int") ∧ W.kitOne K (.type "int") (.type T) = some (T == "int") ∧
  W.kitOne K (.type "str") (.type T) = some (T == "str") ∧ W.kitOne K (.type "list") (.type T) = some (T == "list") ∧ W.kitOne K (.type "tuple") (.type T) = some (T == "tuple") := by
 have h : T = "int" ∨ T = "bool" ∨ T = "tuple" ∨ T = "list" ∨ T = "str" := by simpa [okT] using hT
 rcases h with rfl | rfl | rfl | rfl | rfl
 ·exact ⟨zgJ K, zjD K, zkk K, zj7 K, zi8 K, zia K⟩
 ·exact ⟨zgn K, zh8 K, zjJ K, zi1 K, ziz K, zhE K⟩
 ·exact ⟨zgh K, zhv K, ziK K, zim K, zhj K, zg7 K⟩
 ·exact ⟨zgx K, ziu K, zjo K, zjn K, zig K, zhu K⟩
 ·exact ⟨zgG K, zjG K, zkt K, zj1 K, ziU K, zh5 K⟩
theorem se_isI {X : Cx} {a : Expr} {ma : ME} {p q pos : Pos} (T : String) {x : Str} (ml : X.mg "isinstance" = none) (mT : X.mg x = none) (hbT : bootBuiltins x = some (.type T)) (ha : SE X a ma) (hg : Gl X "isinstance" := by rfl) (hgT : Gl X x := by rfl) (hn : x ≠ "__name__" := by decide) (hd : (x == ("__debug__" : Str)) = false := by decide)
  (he : starEach [a, .Name x q] X.env = (false, eval a X.env) :: starEach [.Name x q] X.env := by rfl) (he2 : starEach [.Name x q] X.env = (false, eval (.Name x q) X.env) :: starEach [] X.env := by rfl) (hpl : (backTo pos (starEach [.Name x q] X.env)).any (·.1) = false := by rfl) :
  SE X (.Call (.Name "isinstance" p) [a, .Name x q] [] pos) (eIsI T ma) := by
 obtain ⟨ta, pa, sa⟩ := ha
 refine ⟨_, zit (call_isI T) hg ml boot_isinstance (zfD pa (zfD (pe_bltn (v := .ty T) hgT mT hbT rfl hn hd) zhK he2) he) (by decide) (by decide) he hpl, fun B G H σ ρ d ρ' Q I hm k => ?_⟩
 obtain ⟨⟨y, ρ1⟩, e1, hm⟩ := zal hm
 dsimp only at hm
 split at hm
 ·rename_i hT
  obtain ⟨rfl, rfl⟩ := Prod.mk.inj (Option.some.inj hm)
  rw [Bool.and_eq_true] at hT
  obtain ⟨hT, hS⟩ := hT
  refine sa B G H σ ρ y ρ1 _ I e1 fun G1 H1 v I1 f1 r1 => ?_
  obtain ⟨k0, k1, k2, k3, k4, k5⟩ := kit_all X.K hT
  have fin : ∀ t, TyOf X.K H1 v t → W.kitOne X.K t (.type T) = some (isI T y) → rIsI X.K T [v, .ty T] H1 Q := fun t ty e => ⟨v, t, isI T y, rfl, ty, e, k G1 H1 _ I1 f1 rfl⟩
  cases y with
  | non => cases (show v = V.non from r1); exact fin _ .non k0
  | bl c => cases (show v = V.bl c from r1); exact fin _ (.bl c) k1
  | int c => cases (show v = V.int c from r1); exact fin _ (.int c) k2
  | str c => cases (show v = V.str c from r1); exact fin _ (.str c) k3
  | lst ds => obtain ⟨a, xs, e, hp, r⟩ := I1.lst r1; subst e; exact fin _ (.lst hp) k4
  | tup ds => obtain ⟨a, xs, e, hp, r⟩ := I1.tup r1; subst e; exact fin _ (.tup hp) k5
  | scr _ => cases hS
  | exc _ => cases hS
 ·cases hm
noncomputable def cutD {α : Type} (xs : List α) (lo hi : Option Int) : List α := (xs.drop (HT.sIx xs.length 0 lo)).take (HT.sIx xs.length xs.length hi - HT.sIx xs.length 0 lo)
theorem RepL.cut {K : W.Frag} {G : Hp} {xs : List V} {ds : List D} (h : RepL K G xs ds) (lo hi : Option Int) : RepL K G (cutV xs lo hi) (cutD ds lo hi) := by
 unfold cutV cutD
 rw [h.length]
 exact (h.drop _).take _
section
variable {prog : Program} {w : World} {A : Around} {E : Value → Shared → Prop} {s : Shared}
theorem zf0 {t sl : Addr} {items : Array Value} {vl vu : Value} {lo hi : Option Int} {Q : Value → Shared → Prop} (ht : IsTup s.heap t items) (hs : s.heap.IsSliceOf sl vl vu .none) (pl : IsPart vl lo) (pu : IsPart vu hi)
  (hw : HT.sIx items.size 0 lo = 0 ∧ HT.sIx items.size items.size hi = items.size) (h : Q (.ref t) s) : wpAny (model prog w) A (getItem (.ref t) (.ref sl)) Q E s := by
 obtain ⟨os, hos, hcs, hds⟩ := id hs
 have hTs : s.TypeIs (.ref sl) "slice" := ⟨os, hos, hcs⟩
 unfold getItem
 try with_reducible refine wpAny_holding ?_
 first | refine wpAny_bind (wpAny_pure ?_) | skip
 refine wpAny_bind (wpAny_sequenceKey ht.typeIs (by decide) ?_)
 refine wpAny_bind (wpAny_callSpecial?_slot (name := Str.ofString "__getitem__") ht.typeIs PyProof.Rows.slot_tuple_getitem
  (wpAny_call_entry PyProof.Rows.slot_tuple_getitem ht.typeIs entry_tuple_getitem ?_ (args_tuple_getitem _ _)))
 show wpAny _ _ (Builtin.Tuple.tupleItemsOf (.ref t) >>= _) _ _ s
 refine wpAny_bind (tupleItemsOf_ ht ?_)
 refine wpAny_bind (wpAny_typeOf hTs ?_)
 rw [if_pos (by decide)]
 refine wpAny_bind (HT.zfx hs pl pu ?_)
 have hyes : (((HT.sIx items.size 0 lo : Nat) : Int) == 0 && (1 : Int) == 1 && (HT.sIx items.size items.size hi - HT.sIx items.size 0 lo) == items.size) = true := by
  rw [hw.1, hw.2]; simp
 show wpAny _ _ (if (((HT.sIx items.size 0 lo : Nat) : Int) == 0 && (1 : Int) == 1 && (HT.sIx items.size items.size hi - HT.sIx items.size 0 lo) == items.size) = true then _ else _) _ _ s
 rw [if_pos hyes]
 refine wpAny_bind (m := Builtin.Tuple.tupleIsExact _) ?_
 unfold Builtin.Tuple.tupleIsExact
 refine wpAny_bind (wpAny_typeOf ht.typeIs (wpAny_pure ?_))
 rw [if_pos (by decide)]
 refine wpAny_bind (wpAny_rule ?_)
 exact wpAny_pure ⟨_, rfl, wpAny_pure h⟩
end
noncomputable def rSlTW (K : W.Frag) : V → Option Int → Option Int → Hp → VK → Prop := fun x lo hi H Q => ∃ a xs, x = .ref a ∧ SqT K H a xs ∧ (HT.sIx xs.length 0 lo = 0 ∧ HT.sIx xs.length xs.length hi = xs.length) ∧ Q (.ref a) H
theorem sl_tupW {X : Cx} : SlR X (rSlTW X.K) := by
 intro pins s σ H x v vl vu lo hi sl Q I rx hs pl pu h
 obtain ⟨a, xs, rfl, hx, hw, q⟩ := h
 cases rx
 obtain ⟨its, r, ht, hz⟩ := I.tuple hx
 have hlen : its.toArray.size = xs.length := by rw [List.size_toArray]; exact r.length.symm
 refine ⟨"tuple", _, PyProof.Rows.slot_tuple_getitem.lookup, ht.typeIs, ?_⟩
 exact zf0 ht hs pl pu (by rw [hlen]; exact hw) ⟨.ref a, H, I, rfl, q⟩
noncomputable abbrev MP := R → Option (Option Int × R)
noncomputable def SPt (X : Cx) (e : Option Expr) (m : MP) : Prop := ∃ t, PO X e t ∧ ∀ B G H σ ρ o ρ' (Q : Option Int → Hp → Prop), SI X.K B G H σ ρ → m ρ = some (o, ρ') → (∀ G' H', SI X.K B G' H' σ ρ' → Fz G G' → Q o H') → t σ H Q
noncomputable def pNo : MP := fun ρ => some (none, ρ)
noncomputable def zd2 (m : ME) : MP := fun ρ => (m ρ).bind fun p => match p.1 with
 | .int i => some (some i, p.2)
 | _ => none
theorem zfl {X : Cx} : SPt X none pNo := ⟨_, po_none, fun B G H σ ρ o ρ' Q I hm k => by cases hm; exact k G H I (Fz.refl G)⟩
theorem zbu {X : Cx} {e : Expr} {m : ME} (h : SE X e m) : SPt X (some e) (zd2 m) := by
 obtain ⟨t, p, s⟩ := h
 refine ⟨_, po_some p, fun B G H σ ρ o ρ' Q I hm k => ?_⟩
 obtain ⟨⟨d, ρ1⟩, e1, hm⟩ := zal hm
 refine s B G H σ ρ d ρ1 _ I e1 fun G1 H1 v I1 f1 r1 => ?_
 cases d <;> try cases hm
 rename_i i
 exact ⟨i, r1, k G1 H1 I1 f1⟩
noncomputable def dCut (d : D) (lo hi : Option Int) : Option D := match d with
 | .lst ds => some (.lst (cutD ds lo hi))
 | .tup ds => some (.tup (cutD ds lo hi))
 | .scr ns => some (.lst ((cutD ns lo hi).map .int))
 | _ => none
noncomputable def eCut (ma : ME) (ml mh : MP) : ME := fun ρ => (ma ρ).bind fun p => (ml p.2).bind fun q => (mh q.2).bind fun r => (dCut p.1 q.1 r.1).map fun d => (d, r.2)
theorem zlU (ns : List Int) (lo hi : Option Int) : cutV (ns.map V.int) lo hi = (cutD ns lo hi).map V.int := by
 unfold cutV cutD
 rw [List.length_map, ← List.map_drop, ← List.map_take]
theorem zcX {X : Cx} {e : Expr} {lo hi : Option Expr} {ma : ME} {ml mh : MP} {pos p2 : Pos} (he : SE X e ma) (hl : SPt X lo ml) (hu : SPt X hi mh) : SE X (.Subscript e (.Slice lo hi none p2) pos) (eCut ma ml mh) := by
 obtain ⟨ta, pa, sa⟩ := he
 obtain ⟨tl, pl, sl⟩ := hl
 obtain ⟨th, ph, sh⟩ := hu
 refine ⟨_, zkL (sl_list.or (sl_tup.or sl_tupW)) pa pl ph, fun B G H σ ρ d ρ' Q I hm k => ?_⟩
 obtain ⟨⟨x, ρ1⟩, e1, hm⟩ := zal hm
 obtain ⟨⟨l, ρ2⟩, e2, hm⟩ := zal hm
 obtain ⟨⟨u, ρ3⟩, e3, hm⟩ := zal hm
 obtain ⟨c, e4, e5⟩ := za8 hm
 obtain ⟨rfl, rfl⟩ := Prod.mk.inj e5
 refine sa B G H σ ρ x ρ1 _ I e1 fun G1 H1 v I1 f1 r1 => sl B G1 H1 σ ρ1 l ρ2 _ I1 e2 fun G2 H2 I2 f2 => sh B G2 H2 σ ρ2 u ρ3 _ I2 e3 fun G3 H3 I3 f3 => ?_
 have r3 := r1.mono (f2.trans f3)
 dsimp only at e4
 cases x with
 | exc _ => cases e4
 | non => cases e4
 | bl _ => cases e4
 | int _ => cases e4
 | str _ => cases e4
 | lst ds =>
  cases e4
  obtain ⟨a, xs, rfl, ha, r⟩ := I3.lst r3
  refine .inl ⟨a, xs, rfl, SqL.of ha, fun p hp => ?_⟩
  obtain ⟨I4, f4, r4⟩ := I3.newL hp (r.cut l u)
  exact k _ _ _ I4 (f1.trans (f2.trans (f3.trans f4))) r4
 | tup ds =>
  cases e4
  obtain ⟨a, xs, rfl, ha, r⟩ := I3.tup r3
  by_cases hw : HT.sIx xs.length 0 l = 0 ∧ HT.sIx xs.length xs.length u = xs.length
  ·refine .inr (.inr ⟨a, xs, rfl, SqT.of ha, hw, ?_⟩)
   have e : cutD ds l u = ds := by
    unfold cutD
    rw [← r.length, hw.1, hw.2, List.drop_zero, Nat.sub_zero, List.take_of_length_le (by rw [r.length]; exact Nat.le_refl _)]
   rw [e] at k
   exact k G3 H3 _ I3 (f1.trans (f2.trans f3)) r3
  ·refine .inr (.inl ⟨a, xs, rfl, SqT.of ha, hw, fun p hp => ?_⟩)
   obtain ⟨I4, f4, r4⟩ := I3.newT hp (r.cut l u)
   exact k _ _ _ I4 (f1.trans (f2.trans (f3.trans f4))) r4
 | scr ns =>
  cases e4
  obtain ⟨a, rfl, ha⟩ := r3
  refine .inl ⟨a, _, rfl, I3.fz.sql ha, fun p hp => ?_⟩
  rw [zlU]
  obtain ⟨I4, f4, r4⟩ := I3.newL hp (RepL.ints (cutD ns l u))
  exact k _ _ _ I4 (f1.trans (f2.trans (f3.trans f4))) r4
end M
set_option Elab.async false
set_option linter.all false
set_option maxRecDepth 100000
namespace M
open PySem PySem.Spec L2
open PyProof.Rows hiding St
theorem zbC {ma : MA} {n : Nat} (h : aLen ma n) : ∀ ρ as ρ', ma ρ = some (as, ρ') → as.length + 1 = n + 1 := fun ρ as ρ' e => congrArg (· + 1) (h ρ as ρ' e)
section
variable {X : Cx} {elt iter tg : Expr} {ifs : List Expr} {scope : Scope} {pos lpos pos' : Pos} {N : List Str} {cap : List Nat} {t : Nat} {mi : MA} {g : D → R → Option R} {mt : MT} {me : ME}
theorem zjC (i : Nat) {x : Str} (cap : List Nat) (t : Nat) (N : List Str) (hc : X.calm = true) (hi : SIt X tg iter mi) (hg : ∀ C s H fp, SG (cxC X N scope C s H fp) tg g) (ht : ∀ C s H fp, STs (cxC X N scope C s H fp) ifs mt) (he : ∀ C s H fp, SE (cxC X N scope C s H fp) elt me) (hN : X.N.Nodup)
    (hxi : X.N[i]? = some x := by rfl) (hx : Loc X.env.scope x := by first | exact Or.inl rfl | exact Or.inr rfl) (hf : X.fn x = true ∨ X.env.scope.names.lookup x = some .local := by first | exact Or.inl rfl | exact Or.inr rfl)
    (hsw : swapsWith (.ListComp elt [⟨tg, iter, ifs, 0⟩] scope lpos) (some (.Name x pos')) pos.line X.env = pure true := by rfl)
    (hk : scope.kind = .function := by rfl) (hb : blkB X.env scope = true := by kernel_rfl) (hcap : capB scope.names N X.N cap t = true := by kernel_rfl)
    (hs : ∀ x, foldedSetIterable iter X.env x = pure x := by exact fun _ => rfl) : SS X (.Assign [.Name x pos'] (.ListComp elt [⟨tg, iter, ifs, 0⟩] scope lpos) pos) (sSet i (eFz (oLC cap t mi g mt me))) := by
  obtain ⟨wi, pi, si⟩ := hi
  refine ⟨_, zkR hN hxi hx hf hsw hc (zkz hk hb) (zkI hcap) pi (fun C s H fp => (hg C s H fp).choose_spec.1) (fun C s H fp => (ht C s H fp).choose_spec.1) (fun C s H fp => (he C s H fp).choose_spec.1) hs, fun B G H σ ρ fl ρ' E I hm k => ?_⟩
  obtain ⟨⟨d, ρ1⟩, e1, e3⟩ := za8 hm
  obtain ⟨⟨ds, ρ2⟩, e4, e5⟩ := za8 e1
  obtain ⟨rfl, rfl⟩ := Prod.mk.inj e5
  obtain ⟨rfl, rfl⟩ := Prod.mk.inj e3
  refine zkP si (fun C s H fp => (hg C s H fp).choose_spec.2) (fun C s H fp => (ht C s H fp).choose_spec.2) (fun C s H fp => (he C s H fp).choose_spec.2) B G H σ ρ ds ρ2 _ I e4 fun G1 H1 l xs I1 f1 g1 h1 r1 b1 n1 => ?_
  obtain ⟨I2, f2, r2⟩ := zkO I1 g1 h1 r1 b1 n1
  exact k _ H1 _ (I2.set r2) (f1.trans f2)
end
end M
set_option Elab.async false
set_option linter.all false
set_option maxRecDepth 100000
namespace M
open PySem PySem.Spec L2
open PyProof.Rows hiding St
noncomputable def rRng1 : List V → Hp → VK → Prop := fun xs H Q => ∃ j, xs = [.int j] ∧ ∀ p, H p = none → Q (.ref p) (upd H p (.rng 0 j))
theorem zl1 {X : Cx} : zfe X (.type "range") rRng1 := by
 intro pins s σ H xs us Q I r h
 obtain ⟨j, rfl, q⟩ := h
 obtain ⟨u, rfl, t, rfl⟩ := zgp r
 refine call_range_1 ⟨.ref s.heap.objs.size, _, I.laid (o := .rng 0 j) (fun b o e => Heap.get?_push_of_some _ e) (Nat.le_refl _) ⟨_, _, _, Heap.get?_push_size _ rfl⟩, rfl, q _ I.fresh⟩
noncomputable def rListR : List V → Hp → VK → Prop := fun xs H Q => ∃ p i j, xs = [.ref p] ∧ H p = some (.rng i j) ∧ (-(2 ^ 62) ≤ i ∧ i < 2 ^ 62 ∧ -(2 ^ 62) ≤ j ∧ j < 2 ^ 62) ∧ (j - i).toNat ≤ 16777216 ∧ ∀ l, H l = none → Q (.ref l) (upd H l (.lst ((List.range (j - i).toNat).map fun (k : Nat) => V.int (i + k))))
theorem zlu {X : Cx} (hc : X.calm = true) : zfe X (.type "list") rListR := by
 intro pins s σ H xs us Q I r h
 obtain ⟨p, i, j, rfl, hp, ⟨h1, h2, h3, h4⟩, hz, q⟩ := h
 obtain ⟨u, rfl, ru⟩ := zgp r
 cases ru
 obtain ⟨t, t', t'', e⟩ := I.hok p _ hp
 refine call_list_range (a := i) (b := j) (c := 1) (t := t) (u := t') (v := t'') (n := (j - i).toNat) (I.ok.hd hc) e (small_one h1 h2 h3 h4) (by rw [rangeSize_one]; split <;> omega) (by omega) fun h' tk acc' c' hk hl ⟨hs1, hs2⟩ => ?_
 refine ⟨.ref s.heap.objs.size, _, I.laid (h' := h') (t' := tk) (o := .lst ((List.range (j - i).toNat).map fun (k : Nat) => V.int (i + k))) hk (Nat.le_refl _) ⟨by rw [List.length_map, List.length_range, sizeLine_eq]; exact hz, acc'.toList, c', ?_, by simpa using hl⟩, rfl, q _ I.fresh⟩
 have key : ∀ (n : Nat) (l : List Value), l.length = n → (∀ k v, l[k]? = some v → ∃ t, v = Value.int (i + (k : Nat) * 1) t) → Vals ((List.range n).map fun (k : Nat) => V.int (i + k)) l := by
  intro n
  induction n with
  | zero => intro l hl _; have : l = [] := List.eq_nil_of_length_eq_zero hl; subst this; exact .nil
  | succ n ih =>
   intro l hl hv
   have e : l = l.take n ++ [l[n]'(by omega)] := by
    rw [← List.take_succ_eq_append_getElem (by omega), List.take_of_length_le (by omega)]
   rw [List.range_succ, List.map_append, e]
   refine Vals.append (ih (l.take n) (by rw [List.length_take]; omega) fun k v hk => ?_) (.cons ?_ .nil)
   ·have hkn : k < n := by
     have := (List.getElem?_eq_some_iff.mp hk).1
     rw [List.length_take] at this; omega
    rw [List.getElem?_take_of_lt hkn] at hk
    exact hv k v hk
   ·obtain ⟨t, ht⟩ := hv n _ (List.getElem?_eq_getElem (by omega))
    exact ⟨t, by rw [ht, Int.mul_one]⟩
 exact key _ acc'.toList (by rw [Array.length_toList]; exact hs1) fun k v hk => hs2 k v (by simpa using hk)
theorem zls {K : W.Frag} {G : Hp} (i : Int) (n : Nat) : RepL K G ((List.range n).map fun (k : Nat) => V.int (i + k)) (zdY i n) := by
 have e1 : ((List.range n).map fun (k : Nat) => V.int (i + k)) = ((List.range n).map fun (k : Nat) => i + (k : Int)).map V.int := by rw [List.map_map]; rfl
 have e2 : zdY i n = ((List.range n).map fun (k : Nat) => i + (k : Int)).map D.int := by unfold zdY; rw [List.map_map]; rfl
 rw [e1, e2]
 exact RepL.ints _
noncomputable def oR (m : MA) : MO := fun ρ => (m ρ).bind fun p => if p.1.length ≤ 16777216 then some p else none
section
variable {X : Cx} {pins : List (Addr × Obj)} {σ : St} {H G : Hp} {s : Shared}
end
end M
set_option Elab.async false
set_option linter.all false
set_option maxRecDepth 100000
namespace M
open PySem L2
@[simp] theorem atI_nat' {α : Type} (xs : List α) (i : Nat) : atI xs (i : Int) = xs[i]? := by
 unfold atI ixN
 rw [if_pos (by omega)]
 by_cases h : i < xs.length
 ·rw [if_pos (by omega)]; simp
 ·rw [if_neg (by omega)]; simp [List.getElem?_eq_none (by omega : xs.length ≤ i)]
end M
set_option Elab.async false
set_option linter.all false
set_option maxRecDepth 100000
namespace M
open PySem PySem.Spec PyProof.Rows L2
noncomputable def sAugI (i : Nat) (g : Int → Int → Int) (me : ME) : MS := fun ρ => match ρ[i]? with
 | some (.val (.int a)) => (me ρ).bind fun p => match p.1 with
  | .int b => some (.next, p.2.set i (.val (.int (g a b))))
  | _ => none
 | _ => none
section
variable {X : Cx} {e : Expr} {me : ME} {pos : Pos}
end
end M
set_option Elab.async false
set_option linter.all false
set_option maxRecDepth 100000
namespace M
open PySem PySem.Spec PyProof.Rows L2
noncomputable def ziJ {α : Type} (xs : List α) (lo hi st : Option Int) : List α :=
 (sliceRange (sliceBounds lo hi st xs.length).1 (sliceBounds lo hi st xs.length).2.1 (sliceBounds lo hi st xs.length).2.2).filterMap (xs[·]?)
section
variable {X : Cx} {e st : Expr} {lo hi : Option Expr} {te : TE} {tl th ts : TO} {p2 pos : Pos}
end
noncomputable def dPick (d : D) (lo hi st : Option Int) : Option D := match d with
 | .lst ds => if st = some 0 then none else some (.lst (ziJ ds lo hi st))
 | _ => none
noncomputable def eCutS (ma : ME) (ml mh ms : MP) : ME := fun ρ => (ma ρ).bind fun p => (ml p.2).bind fun q => (mh q.2).bind fun r => (ms r.2).bind fun t => (dPick p.1 q.1 r.1 t.1).map fun d => (d, t.2)
end M
set_option Elab.async false
set_option linter.all false
set_option maxRecDepth 100000
namespace M
open PySem PySem.Spec L2
open PyProof.Rows hiding St
noncomputable def cntS (lo hi st : Int) : Nat := if lo < hi then ((hi - lo - 1) / st + 1).toNat else 0
noncomputable def Itrs (lo st : Int) (n : Nat) : It := ⟨fun i _ => i < n, fun i H x H' => H' = H ∧ x = .int (lo + i * st), fun i _ => n ≤ i⟩
theorem zkj {P : Program} {w : World} {K : W.Frag} {tg : Expr} (it : Addr) (lo st : Int) (n : Nat) : Turn P w K tg (Itrs lo st n) [it] it (fun i h => IsRangeIter h it (lo + (i : Nat) * st) ((n : Int) - (i : Nat)) st) where
 mem := by simp
 obj := fun i h st b hb => by
  have e : b = it := by simpa using hb
  subst e
  exact ⟨_, st, fun v z => by
   have z' : Data.fields _ = Data.cell v := z
   cases z'⟩
 keep := fun i h h' st k => k it (by simp) _ st
 item := by
  intro X hP hw hK hc i pins s σ H E I hf st' hg
  subst hP hw hK
  obtain ⟨f0, f1, f2, f3, f4, f5⟩ := hf it (by simp)
  have W := Walks.range (prog := X.prog) (w := X.w) (I.ok.hd hc) it lo st n
  refine W.item i s _ _ hg st' fun v h' tk hv st' kk => ?_
  obtain ⟨t, rfl⟩ := hv
  have I1 : Inv X pins σ H { s with heap := h', toks := tk } := I.turned (fun b o hb e => kk b o (by simpa using hb) e) f0 f1 f3 f4 f5
  exact ⟨_, rfl, go_of (s := { s with heap := h', toks := tk }) (n := "range_iterator") st' rfl rfl (by decide) ⟨.int (lo + i * st), H, I1, ⟨t, rfl⟩, ⟨rfl, rfl⟩, st', fun b hb => (hf b hb).1⟩⟩
 done := by
  intro X hP hw hK hc i pins s σ H E I hf st' hg
  subst hP hw hK
  obtain ⟨f0, f1, f2, f3, f4, f5⟩ := hf it (by simp)
  exact wpAny_pyNext_range_end (I.ok.hd hc) st' (by have : n ≤ i := hg; omega) fun h' eb => ⟨rfl, I.turned (t' := s.toks) (fun b o hb e => eb b o hb e) f0 f1 f3 f4 f5⟩
 self := fun _ _ _ _ _ st h => wpAny_pyIter_rangeiter st h
theorem zh6 {lo hi st : Int} (h : 0 < st) : ((cntS lo hi st : Nat) : Int) = Builtin.Range.rangeSize lo hi st := by
 unfold cntS Builtin.Range.rangeSize
 rw [if_pos h]
 split
 ·have : 0 ≤ (hi - lo - 1) / st := Int.ediv_nonneg (by omega) (by omega)
  omega
 ·rfl
theorem zkJ {a b c : Int} (ha : -(2 ^ 60) ≤ a) (ha' : a < 2 ^ 60) (hb : -(2 ^ 60) ≤ b) (hb' : b < 2 ^ 60) (hc : 0 < c) (hc' : c < 1073741824) : Builtin.Range.small a b c = true := by
 have h1 := zh6 (lo := a) (hi := b) hc
 have h2 : Builtin.Range.rangeSize a b c ≤ 2 ^ 62 := by
  unfold Builtin.Range.rangeSize
  rw [if_pos hc]
  split
  ·have : (b - a - 1) / c ≤ b - a - 1 := Int.ediv_le_self _ (by omega)
   omega
  ·omega
 have h3 : 0 ≤ Builtin.Range.rangeSize a b c := by rw [← h1]; omega
 unfold Builtin.Range.small
 simp only [Builtin.Range.rangeFitsLong, Bool.and_eq_true, Bool.or_eq_true, decide_eq_true_eq, beq_iff_eq, show c > 0 from hc, if_true]
 generalize Builtin.Range.rangeSize a b c = z at *
 omega
section
variable {X : Cx} {tg : Expr}
theorem zlN {pins : List (Addr × Obj)} {σ : St} {H : Hp} {s : Shared} {R : It → Hp → Prop} {E : Value → Shared → Prop} {lo hi st : Int} {t u v : Tok} {tk : Nat} (I : Inv X pins σ H s) (h1 : -(2 ^ 60) ≤ lo) (h2 : lo < 2 ^ 60) (h3 : -(2 ^ 60) ≤ hi) (h4 : hi < 2 ^ 60) (h5 : 0 < st) (h6 : st < 1073741824)
  (q : R (Itrs lo st (cntS lo hi st)) H) : wpAny (model X.prog X.w) X.A (pyIter (.ref s.heap.objs.size)) (PIE X pins σ tg R) E { s with heap := s.heap.push { cls := .type "range", data := .fields #[.int lo t, .int hi u, .int st v] }, toks := tk } := by
 refine wpAny_pyIter_range (IsRange.new ..) (zkJ h1 h2 h3 h4 h5 h6) ?_
 have I1 : Inv X pins σ H { s with heap := s.heap.push { cls := .type "range", data := .fields #[.int lo t, .int hi u, .int st v] }, toks := tk } := I.kept fun b o e => Heap.get?_push_of_some _ e
 refine ⟨(s.heap.push { cls := .type "range", data := .fields #[.int lo t, .int hi u, .int st v] }).objs.size, [(s.heap.push { cls := .type "range", data := .fields #[.int lo t, .int hi u, .int st v] }).objs.size], _, _, H, rfl,
  I1.kept (t' := tk) fun b o e => Heap.get?_push_of_some _ e, zkj _ lo st (cntS lo hi st), ?_, fun b hb => ?_, q⟩
 ·have e1 : lo + ((0 : Nat) : Int) * st = lo := by simp
  show IsRangeIter _ _ (lo + ((0 : Nat) : Int) * st) (((cntS lo hi st : Nat) : Int) - ((0 : Nat) : Int)) st
  rw [e1, zh6 h5, show (((0 : Nat) : Int)) = 0 from rfl, Int.sub_zero]
  exact Heap.get?_push_size _ rfl
 ·have e : b = (s.heap.push { cls := .type "range", data := .fields #[.int lo t, .int hi u, .int st v] }).objs.size := by simpa using hb
  subst e
  exact I1.fpOk (Nat.le_refl _) (I1.hok.fresh (Nat.le_refl _))
theorem zm4 {a b c : Expr} {ta : TA} {p pos : Pos} (hg : Gl X "range") (hm : X.mg "range" = none) (ha : PA X [a, b, c] ta) (hs : starEach [a, b, c] X.env = (false, eval a X.env) :: starEach [b, c] X.env := by rfl) (hs2 : (backTo pos (starEach [b, c] X.env)).any (·.1) = false := by rfl) :
  PI X tg (.Call (.Name "range" p) [a, b, c] [] pos) (fun σ H R => ta σ H fun vs H1 => ∃ i j k : Int, vs = [.int i, .int j, .int k] ∧ (-(2 ^ 60) ≤ i ∧ i < 2 ^ 60 ∧ -(2 ^ 60) ≤ j ∧ j < 2 ^ 60 ∧ 0 < k ∧ k < 1073741824) ∧ R (Itrs i k (cntS i j k)) H1) := by
 intro pins s σ H R I h
 refine Call_ (zgc I hg hm boot_range (PyProof.Rows.callWith_type1 (thn (ha pos pins s σ H _ I h) fun us s1 ⟨vs, H1, I1, r1, q1⟩ => ?_) hs hs2))
 obtain ⟨i, j, k, e, ⟨q1, q2, q3, q4, q5, q6⟩, q⟩ := q1
 subst e
 cases r1 with
 | cons r rr =>
  cases rr with
  | cons r' rr =>
   cases rr with
   | cons r'' rr =>
    cases rr
    obtain ⟨t, rfl⟩ := r
    obtain ⟨t', rfl⟩ := r'
    obtain ⟨t'', rfl⟩ := r''
    exact call_range_3 (by omega) (zlN I1 q1 q2 q3 q4 q5 q6 q) (Or.inl (PyProof.noPylong_small (by omega)))
end
noncomputable def zgW (lo st : Int) (n : Nat) : List D := (List.range n).map fun (i : Nat) => D.int (lo + (i : Int) * st)
theorem zlA {K : W.Frag} {G : Hp} (lo st : Int) (n : Nat) : Itm K (Itrs lo st n) G (zgW lo st n) where
 go := fun H i f hi => by show i < n; simpa [zgW] using hi
 yld := fun H i x H' f y d e => by
  obtain ⟨rfl, rfl⟩ := y
  unfold zgW at e
  rw [List.getElem?_map] at e
  cases q : (List.range n)[i]? with
  | none => rw [q] at e; cases e
  | some j =>
   rw [q] at e
   have hj : j = i := by
    have := List.getElem?_eq_some_iff.mp q
    obtain ⟨h1, h2⟩ := this
    simpa using h2.symm
   subst hj
   cases e
   exact .inl ⟨rfl, rfl⟩
 stop := fun H i f hi => by show n ≤ i; simpa [zgW] using hi
noncomputable def iR3 (ma : MA) : MA := fun ρ => (ma ρ).bind fun p => match p.1 with
 | [.int i, .int j, .int k] => if zdw i && zdw j && decide (0 < k) && decide (k < 1073741824) then some (zgW i k (cntS i j k), p.2) else none
 | _ => none
theorem zf8 {j : Int} (h : zdw j = true) : -(2 ^ 60) ≤ j ∧ j < 2 ^ 60 := by
 unfold zdw at h
 simp only [Bool.and_eq_true, decide_eq_true_eq] at h
 omega
theorem zgV {X : Cx} {tg a b c : Expr} {ma : MA} {p pos : Pos} (hm : X.mg "range" = none) (ha : SA X [a, b, c] ma) (hg : Gl X "range" := by rfl) (hs : starEach [a, b, c] X.env = (false, eval a X.env) :: starEach [b, c] X.env := by rfl) (hs2 : (backTo pos (starEach [b, c] X.env)).any (·.1) = false := by rfl) : SIt X tg (.Call (.Name "range" p) [a, b, c] [] pos) (iR3 ma) := by
 obtain ⟨t, pa, sa⟩ := ha
 refine ⟨_, zm4 hg hm pa hs hs2, fun B G H σ ρ ds ρ' Q I hm k => ?_⟩
 obtain ⟨⟨es, ρ1⟩, e1, h2⟩ := zal hm
 dsimp only at h2
 refine sa B G H σ ρ es ρ1 _ I e1 fun G1 H1 vs I1 f1 r1 => ?_
 split at h2
 ·rename_i i j l
  split at h2
  ·rename_i hj
   simp only [Bool.and_eq_true, decide_eq_true_eq] at hj
   cases h2
   obtain ⟨x, xs, rfl, rx, r2⟩ := r1
   obtain ⟨y, ys, rfl, ry, r3⟩ := r2
   obtain ⟨z, zs, rfl, rz, r4⟩ := r3
   cases (show x = V.int i from rx)
   cases (show y = V.int j from ry)
   cases (show z = V.int l from rz)
   cases (show zs = [] from r4)
   have a1 := zf8 hj.1.1.1
   have a2 := zf8 hj.1.1.2
   exact ⟨i, j, l, rfl, ⟨a1.1, a1.2, a2.1, a2.2, hj.1.2, hj.2⟩, k _ G1 H1 I1 f1 (zlA i l _)⟩
  ·cases h2
 ·cases h2
end M
set_option Elab.async false
set_option linter.all false
set_option maxRecDepth 100000
namespace M
open PySem PySem.Spec L2
open PyProof.Rows hiding St
noncomputable def zha (lt : Int → Int → Bool) (ns : List Int) : Int := ns.getD (argBest (fun i j => lt (ns.getD i 0) (ns.getD j 0)) (ns.length - 1)) 0
noncomputable def rBest (K : W.Frag) (lt : Int → Int → Bool) : List V → Hp → VK → Prop := fun xs H Q => ∃ (p : Addr) (ns : List Int), xs = [.ref p] ∧ ns ≠ [] ∧ (SqL K H p (ns.map V.int) ∨ SqT K H p (ns.map V.int)) ∧ Q (.int (zha lt ns)) H
theorem zmF {X : Cx} (hc : X.calm = true) : zfe X (.builtin "max") (rBest X.K fun i j => decide (i > j)) := by
 intro pins s σ H xs us Q I r h
 obtain ⟨p, ns, rfl, ne, hq, q⟩ := h
 obtain ⟨u, rfl, ru⟩ := zgp r
 cases ru
 refine call_max_walk (zgk (A := X.A.in1) (I.ok.hd hc) I hq fun its s₂ St rv W st hfp fin => ?_)
 have hl := rv.length
 rw [List.length_map] at hl
 have hp : 0 < its.length := by rw [← hl]; exact List.length_pos_iff.mpr ne
 refine ⟨_, _, _, _, _, _, _, rfl, W, st, hfp, hp, CmpOf.ints_gt (fun i => ns.getD i 0) (fun i v e => zf9 rv e), fun v h' tk hP hk => ?_⟩
 obtain ⟨t, rfl⟩ := zf9 rv hP
 refine ⟨.int (zha _ ns), H, fin h' tk hk, ⟨t, ?_⟩, q⟩
 unfold zha
 rw [hl]
theorem zmr {X : Cx} (hc : X.calm = true) : zfe X (.builtin "min") (rBest X.K fun i j => decide (i < j)) := by
 intro pins s σ H xs us Q I r h
 obtain ⟨p, ns, rfl, ne, hq, q⟩ := h
 obtain ⟨u, rfl, ru⟩ := zgp r
 cases ru
 refine call_min_walk (zgk (A := X.A.in1) (I.ok.hd hc) I hq fun its s₂ St rv W st hfp fin => ?_)
 have hl := rv.length
 rw [List.length_map] at hl
 have hp : 0 < its.length := by rw [← hl]; exact List.length_pos_iff.mpr ne
 refine ⟨_, _, _, _, _, _, _, rfl, W, st, hfp, hp, CmpOf.ints_lt (fun i => ns.getD i 0) (fun i v e => zf9 rv e), fun v h' tk hP hk => ?_⟩
 obtain ⟨t, rfl⟩ := zf9 rv hP
 refine ⟨.int (zha _ ns), H, fin h' tk hk, ⟨t, ?_⟩, q⟩
 unfold zha
 rw [hl]
noncomputable def zmL (lt : Int → Int → Bool) : List D → Option D
 | [d] => (za7 [d]).bind fun ds => (zcz ds).bind fun ns => if ns.isEmpty then none else some (.int (zha lt ns))
 | _ => none
theorem zmf {X : Cx} (lt : Int → Int → Bool) : VC X (rBest X.K lt) (zmL lt) := by
 intro B G H σ ρ xs ds d Q I r hf k
 match ds, hf with
 | [a], hf =>
  obtain ⟨es, e1, hf⟩ := zal hf
  obtain ⟨ns, e2, hf⟩ := zal hf
  split at hf
  ·cases hf
  ·rename_i ne
   cases hf
   obtain ⟨x, rfl, ra⟩ := r.one
   obtain ⟨p, ys, rfl, hq, ry⟩ := zh9 I ra e1
   rw [zgU e2] at ry
   rw [RepL.ints_eq ry] at hq
   exact ⟨p, ns, rfl, fun z => ne (by rw [z]; rfl), hq, k G H _ I (Fz.refl G) rfl⟩
 | [], hf => cases hf
 | _ :: _ :: _, hf => cases hf
noncomputable def zi5 : List D → Option D := zmL fun i j => decide (i > j)
noncomputable def ziO : List D → Option D := zmL fun i j => decide (i < j)
theorem se_maxL {X : Cx} {e : Expr} {ma : MA} {p pos : Pos} (hc : X.calm = true) (ml : X.mg "max" = none) (ha : SA X [e] ma) (hg : Gl X "max" := by rfl) (he : starEach [e] X.env = (false, eval e X.env) :: starEach [] X.env := by rfl) : SE X (.Call (.Name "max" p) [e] [] pos) (mC zi5 ma) :=
 zeY (zmF hc) (zmf _) (by decide +kernel) ml ha hg (by decide) (by decide) he rfl
theorem se_minL {X : Cx} {e : Expr} {ma : MA} {p pos : Pos} (hc : X.calm = true) (ml : X.mg "min" = none) (ha : SA X [e] ma) (hg : Gl X "min" := by rfl) (he : starEach [e] X.env = (false, eval e X.env) :: starEach [] X.env := by rfl) : SE X (.Call (.Name "min" p) [e] [] pos) (mC ziO ma) :=
 zeY (zmr hc) (zmf _) (by decide +kernel) ml ha hg (by decide) (by decide) he rfl
end M
set_option Elab.async false
set_option linter.all false
set_option maxRecDepth 100000
namespace M
open PySem PySem.Spec L2
open PyProof.Rows hiding St
noncomputable def oRep (ma mb : ME) : MO := fun ρ => (ma ρ).bind fun p => (mb p.2).bind fun q => match p.1, q.1 with
 | .lst xs, .int k => if zdw k && decide (xs.length * k.toNat ≤ 16777216) then some ((List.replicate k.toNat xs).flatten, q.2) else none
 | _, _ => none
theorem RepL.times {K : W.Frag} {G : Hp} {xs : List V} {ds : List D} (h : RepL K G xs ds) : ∀ n : Nat, RepL K G (List.replicate n xs).flatten (List.replicate n ds).flatten
 | 0 => RepL.nil
 | n + 1 => by
  rw [List.replicate_succ, List.flatten_cons, List.replicate_succ, List.flatten_cons]
  exact h.append (h.times n)
theorem so_rep {X : Cx} {a b : Expr} {ma mb : ME} {pos : Pos} (ha : SE X a ma) (hb : SE X b mb) : SO X (.BinOp a .Mult b pos) (oRep ma mb) := by
 obtain ⟨ta, pa, sa⟩ := ha
 obtain ⟨tb, pb, sb⟩ := hb
 refine ⟨_, pe_op op_rep pa pb, fun B G H σ ρ d ρ' Q I hm k => ?_⟩
 obtain ⟨⟨x, ρ1⟩, e1, hm⟩ := zal hm
 obtain ⟨⟨y, ρ2⟩, e2, hm⟩ := zal hm
 refine sa B G H σ ρ x ρ1 _ I e1 fun G1 H1 v I1 f1 r1 => sb B G1 H1 σ ρ1 y ρ2 _ I1 e2 fun G2 H2 u I2 f2 r2 => ?_
 dsimp only at hm
 split at hm
 ·rename_i xs n _
  split at hm
  ·rename_i hs
   cases hm
   simp only [Bool.and_eq_true, decide_eq_true_eq] at hs
   cases (show u = V.int n from r2)
   obtain ⟨l, ys, rfl, hl, r⟩ := I2.lst (r1.mono f2)
   have a1 := zdj hs.1
   refine ⟨l, n, ys, rfl, rfl, hl, by omega, by omega, by rw [r.length, sizeLine_eq]; exact hs.2, fun p hp => ?_⟩
   obtain ⟨I3, g3, h3, b3, n3⟩ := I2.newO hp (List.replicate n.toNat ys).flatten
   exact k G2 _ p _ I3 (f1.trans f2) g3 h3 (r.times _) b3 n3
  ·cases hm
 ·cases hm
end M
set_option Elab.async false
set_option linter.all false
set_option maxRecDepth 100000
namespace M
open PySem PySem.Spec L2
open PyProof.Rows hiding St
end M
set_option Elab.async false
set_option linter.all false
set_option maxRecDepth 100000
namespace M
open PySem PySem.Spec L2
open PyProof.Rows hiding St
open Sem (wp)
theorem nin2 {b x y z : Nat} (h : b ∈ [x, y]) (h1 : x ≠ z) (h2 : y ≠ z) : b ≠ z := by
 simp at h
 rcases h with rfl | rfl <;> assumption
theorem nA {N a b : Nat} (h : a ≠ b) : N + a ≠ N + b := fun e => h (Nat.add_left_cancel e)
theorem nB {N b : Nat} (h : 0 ≠ b) : N ≠ N + b := fun e => h (Nat.add_left_cancel (show N + 0 = N + b from e))
theorem nC {N b : Nat} (h : b ≠ 0) : N + b ≠ N := fun e => h (Nat.add_left_cancel (show N + b = N + 0 from e))
theorem nL {a N b : Nat} (h : a < N) : a ≠ N + b := Nat.ne_of_lt (Nat.lt_of_lt_of_le h (Nat.le_add_right _ _))
theorem ne_ {a b : Nat} (h : a ≠ b) : a ≠ b := h
noncomputable def SrcIt : Bool → Heap → Addr → Addr → Nat → Prop
 | true, h, it, a, i => h.IsTupleIter it a i
 | false, h, it, a, i => h.IsListIter it a i
noncomputable def SrcH : Bool → Heap → Addr → Array Value → Prop
 | true, h, a, its => h.IsTuple a its
 | false, h, a, its => h.IsList a its
theorem SrcIt.at {t : Bool} {h h' : Heap} {it a : Addr} {i : Nat} (x : SrcIt t h it a i) (e : ∀ o, h.get? it = some o → h'.get? it = some o) : SrcIt t h' it a i := by
 cases t
 ·exact Heap.IsListIter.at x e
 ·exact Heap.IsTupleIter.at x e
theorem SrcH.at {t : Bool} {h h' : Heap} {a : Addr} {is : Array Value} (x : SrcH t h a is) (e : ∀ o, h.get? a = some o → h'.get? a = some o) : SrcH t h' a is := by
 cases t
 ·exact Heap.IsList.at x e
 ·obtain ⟨o, ho, r⟩ := x; exact ⟨o, e _ ho, r⟩
theorem SrcIt.obj {t : Bool} {h : Heap} {it a : Addr} {i : Nat} (x : SrcIt t h it a i) : ∃ o, h.get? it = some o ∧ ∀ v, o.data ≠ .cell v := by
 cases t <;> (obtain ⟨o, e, c, d⟩ := x; exact ⟨o, e, fun v z => by rw [d] at z; cases z⟩)
theorem SrcH.lt {t : Bool} {h : Heap} {a : Addr} {is : Array Value} (x : SrcH t h a is) : a < h.objs.size := by
 cases t <;> (obtain ⟨o, e, _⟩ := x; exact Heap.lt_size e)
section
variable {prog : Program} {w : World} {A : Around} {E : Value → Shared → Prop} {s : Shared}
theorem zkT {it l : Addr} {i : Nat} {items} {Q : Value → Shared → Prop} (hit : s.heap.IsTupleIter it l i) (hl : s.heap.IsTuple l items)
  (k : (∃ x, items[i]? = some x ∧ ∀ h', h'.IsTupleIter it l (i + 1) → Heap.SameBut it s.heap h' → Q x { s with heap := h' }) ∨
   (items[i]? = none ∧ A.handled = none ∧ ∀ h' e, Heap.ExtBut it s.heap h' → (∃ o, h'.get? e = some o ∧ o.cls = .type "StopIteration") → E (.ref e) { s with heap := h' })) :
  wpAny (model prog w) A (Builtin.SmallTypes.nextOf (.ref it)) Q E s := by
 obtain ⟨o, ho, hc, hd⟩ := id hit
 obtain ⟨ol, hol, -, nl, hdl⟩ := hl
 have ne : ¬ ((Value.ref l == Value.none) = true) := Bool.false_ne_true
 unfold Builtin.SmallTypes.nextOf
 refine wpAny_bind (wpAny_callSpecial?_slot (name := Str.ofString "__next__") hit.typeIs slot_tupleiter_next (wpAny_call_entry slot_tupleiter_next hit.typeIs entry_tupleiter_next ?_ (args_tupleiter_next _)))
 refine (?_ : wpAny _ _ (field (.ref it) 0 >>= _) _ _ s)
 refine wpAny_bind (wpAny_field ho hd (x := .ref l) rfl (?_ : wpAny _ _ (if (Value.ref l == Value.none) = true then _ else _) _ _ s))
 rw [if_neg ne]
 refine (?_ : wpAny _ _ (field (.ref it) 1 >>= _) _ _ s)
 refine wpAny_bind (wpAny_field ho hd (x := .int i 0) rfl (?_ : wpAny _ _ (seqItems? (.ref l) >>= _) _ _ s))
 refine wpAny_bind (wpAny_seqItems hol hdl ?_)
 rcases k with ⟨x, hx, k⟩ | ⟨hx, hh, k⟩ <;> simp only [Int.toNat_natCast, hx]
 ·have upd : ∀ h' : Heap, h'.get? it = some (o.mapFields fun a => a.setIfInBounds 1 (rawInt (((i : Nat) : Int) + 1))) → h'.IsTupleIter it l (i + 1) := fun h' e => ⟨_, e, (Obj.cls_mapFields ..).trans hc, by rw [Obj.data_mapFields hd]; simp [rawInt]⟩
  refine wpAny_bind (wpAny_setField ho hd (by simp) (wpAny_pure ⟨x, rfl, wpAny_pure (k _ ?_ (Heap.SameBut.update ..))⟩))
  refine ⟨_, Heap.get?_update_self _ ho (Obj.isFreed_of_fields (Obj.data_mapFields hd _)), (Obj.cls_mapFields ..).trans hc, ?_⟩
  rw [Obj.data_mapFields hd]
  simp [rawInt]
 ·refine wpAny_bind (wpAny_rule (wpAny_bind (wpAny_setField ho hd (by simp) (?_ : wpAny _ _ (newExc (.type "StopIteration") [] >>= _) _ _ _))))
  refine wpAny_bind ?_
  simp only [newExc, newTuple]
  refine wpAny_bind (wpAny_newObj_type (wpAny_bind (m := firstArgMember _ _) (wpAny_of_eq (a := Value.none) (by first | rfl | (simp only [firstArgMember]; rfl)) (wpAny_newObj_type ?_ (by size_fits)))) (by size_fits))
  simp only [raiseNew]
  refine wpAny_bind (wpAny_handled ?_)
  first | rw [show A.in1.handled = none from hh] | rw [hh]
  exact wpAny_bind (wpAny_pure (wpAny_throw (k _ _ (((Heap.SameBut.update ..).extBut.push _).push _) ⟨_, Heap.get?_push_size _ rfl, rfl⟩)))
theorem zcr {t : Bool} (hh : A.handled = none) (it l : Addr) (hne : l ≠ it) (items : Array Value) : Draws prog w A it [it, l] items.size (fun i v => items[i]? = some v) (fun i h => SrcIt t h it l i ∧ SrcH t h l items) := by
 cases t
 ·exact Draws.list hh it l hne items
 ·refine ⟨fun _ _ st => ?_, fun _ _ _ st hk => ⟨SrcIt.at st.1 fun o e => hk it (by simp) o e, SrcH.at st.2 fun o e => hk l (by simp) o e⟩, fun i s Q E hi st hQ => ?_, fun s Q E st hE => zkT st.1 st.2 (.inr ⟨by simp, hh, hE⟩)⟩
  ·obtain ⟨o, e, -⟩ := SrcIt.obj st.1
   exact ⟨o, e⟩
  ·exact zkT st.1 st.2 (.inl ⟨items[i], by simp [hi], fun h' a b => hQ _ h' s.toks (by simp [hi]) ⟨a, SrcH.at st.2 fun o e => (b.2 l hne).trans e⟩ b⟩)
noncomputable def srcO (t : Bool) (a : Addr) : Obj := { cls := .type (if t then "tuple_iterator" else "list_iterator"), data := .fields #[.ref a, .int 0 0] }
theorem zgq {t : Bool} {h : Heap} {it a : Addr} (e : h.get? it = some (srcO t a)) : SrcIt t h it a 0 := by
 cases t <;> exact ⟨_, e, rfl, rfl⟩
theorem zfg (t : Bool) (a : Addr) : (srcO t a).isFreed = false := by cases t <;> rfl
theorem zdA {t : Bool} {a : Addr} {items} {Q : Value → Shared → Prop} (hl : SrcH t s.heap a items) (hQ : Q (.ref s.heap.objs.size) { s with heap := s.heap.push (srcO t a) }) :
  wpAny (model prog w) A (pyIter (.ref a)) Q E s := by
 cases t
 ·exact wpAny_pyIter_list hl hQ
 ·exact wpAny_pyIter_tuple hl hQ
noncomputable abbrev ze7 (h : Heap) (T : Addr) (a b c : Value) : Prop := h.get? T = some { cls := .type "tuple", data := .seq #[a, b, c] }
section
variable {N a1 a2 : Nat} {n1 n2 : Nat} {P1 P2 : Nat → Value → Prop} {S1 S2 : Nat → Heap → Prop}
theorem zl2 {i : Nat} {a b : Value} {Q : Value → Shared → Prop} (D1 : Draws prog w A N [N, a1] n1 P1 S1) (D2 : Draws prog w A (N + 1) [N + 1, a2] n2 P2 S2) (l1 : a1 < N) (l2 : a2 < N)
  (hz : IsZip s.heap (N + 4) (N + 2) (N + 3) .none) (hTI : IsPair s.heap (N + 2) (.ref N) (.ref (N + 1))) (hTO : IsPair s.heap (N + 3) a b) (h1 : S1 i s.heap) (h2 : S2 i s.heap) (i1 : i < n1) (i2 : i < n2)
  (k : ∀ x y h' tk, P1 i x → P2 i y → IsZip h' (N + 4) (N + 2) (N + 3) (rawInt s.heap.objs.size) → IsPair h' (N + 3) x y → S1 (i + 1) h' → S2 (i + 1) h' → IsPair h' s.heap.objs.size x y →
   (∀ c o, c ≠ N → c ≠ N + 1 → c ≠ N + 3 → c ≠ N + 4 → s.heap.get? c = some o → h'.get? c = some o) → Q (.ref s.heap.objs.size) { s with heap := h', toks := tk }) :
  wpAny (model prog w) A (Builtin.«zip.__next__» ⟨[.ref (N + 4)], []⟩) (fun fin s' => ∃ v, fin = .done (.ret v) ∧ Q v s') E s := by
 refine (?_ : wpAny _ _ (field (.ref (N + 4)) 2 >>= _) _ _ _)
 refine wpAny_bind (wpAny_field hz rfl (x := .bool false) rfl (?_ : wpAny _ _ (field (.ref (N + 4)) 3 >>= _) _ _ _))
 refine wpAny_bind (wpAny_field hz rfl (x := .ref (N + 2)) rfl (wpAny_bind (wpAny_seqItems hTI rfl (?_ : wpAny _ _ (Builtin.SmallTypes.ownedTupleIsFree (.ref (N + 4)) >>= _) _ _ _))))
 refine wpAny_bind ?_
 unfold Builtin.SmallTypes.ownedTupleIsFree
 refine wpAny_bind (wpAny_field hz rfl (x := .none) rfl (wpAny_pure ?_))
 simp only [if_true]
 refine wpAny_bind (wpAny_rule (wpAny_bind (wpAny_field hz rfl (x := .ref (N + 3)) rfl (wpAny_bind (wpAny_setField_rec hz (by simp) fun g1 z1 s1 => wpAny_bind ?_)))))
 replace z1 : IsZip g1 (N + 4) (N + 2) (N + 3) .ellipsis := z1
 simp only [List.zipIdx_cons, List.zipIdx_nil, List.forIn_cons, List.forIn_nil]
 refine wpAny_bind (wpAny_bind (wpAny_onRaise (?_ : wpAny _ _ (Builtin.SmallTypes.nextOf (.ref N) >>= _) _ _ _)))
 have e1 : S1 i g1 := D1.frame _ _ _ h1 fun b hb o e => (s1.2 b (nin2 hb (by first | exact nA (by decide) | exact nB (by decide) | exact nC (by decide) | exact nL (by assumption) | exact Nat.ne_of_lt (by assumption) | omega) (by first | exact nA (by decide) | exact nB (by decide) | exact nC (by decide) | exact nL (by assumption) | exact Nat.ne_of_lt (by assumption) | omega))).trans e
 refine wpAny_bind (D1.item i _ _ _ i1 e1 fun x g2 t2 p1 f2 s2 => wpAny_pure ?_)
 have q2 : IsPair g2 (N + 3) a b := (s2.2 _ (ne_ (by first | exact nA (by decide) | exact nB (by decide) | exact nC (by decide) | exact nL (by assumption) | exact Nat.ne_of_lt (by assumption) | omega))).trans ((s1.2 _ (ne_ (by first | exact nA (by decide) | exact nB (by decide) | exact nC (by decide) | exact nL (by assumption) | exact Nat.ne_of_lt (by assumption) | omega))).trans hTO)
 refine wpAny_bind (wpAny_seqItems q2 rfl (wpAny_bind (wpAny_updateSeq_pair q2 fun g3 q3 s3 => wpAny_bind (wpAny_letGo (wpAny_pure ?_)))))
 replace q3 : IsPair g3 (N + 3) x b := q3
 refine wpAny_bind (wpAny_bind (wpAny_onRaise (?_ : wpAny _ _ (Builtin.SmallTypes.nextOf (.ref (N + 1)) >>= _) _ _ _)))
 have e3 : S2 i g3 := D2.frame _ _ _ h2 fun b hb o e => (s3.2 b (nin2 hb (by first | exact nA (by decide) | exact nB (by decide) | exact nC (by decide) | exact nL (by assumption) | exact Nat.ne_of_lt (by assumption) | omega) (by first | exact nA (by decide) | exact nB (by decide) | exact nC (by decide) | exact nL (by assumption) | exact Nat.ne_of_lt (by assumption) | omega))).trans ((s2.2 b (nin2 hb (by first | exact nA (by decide) | exact nB (by decide) | exact nC (by decide) | exact nL (by assumption) | exact Nat.ne_of_lt (by assumption) | omega) (by first | exact nA (by decide) | exact nB (by decide) | exact nC (by decide) | exact nL (by assumption) | exact Nat.ne_of_lt (by assumption) | omega))).trans ((s1.2 b (nin2 hb (by first | exact nA (by decide) | exact nB (by decide) | exact nC (by decide) | exact nL (by assumption) | exact Nat.ne_of_lt (by assumption) | omega) (by first | exact nA (by decide) | exact nB (by decide) | exact nC (by decide) | exact nL (by assumption) | exact Nat.ne_of_lt (by assumption) | omega))).trans e))
 refine wpAny_bind (D2.item i _ _ _ i2 e3 fun y g4 t4 p2 f4 s4 => wpAny_pure ?_)
 have q4 : IsPair g4 (N + 3) x b := (s4.2 _ (ne_ (by first | exact nA (by decide) | exact nB (by decide) | exact nC (by decide) | exact nL (by assumption) | exact Nat.ne_of_lt (by assumption) | omega))).trans q3
 refine wpAny_bind (wpAny_seqItems q4 rfl (wpAny_bind (wpAny_updateSeq_pair q4 fun g5 q5 s5 => wpAny_bind (wpAny_letGo (wpAny_pure (wpAny_pure ?_))))))
 replace q5 : IsPair g5 (N + 3) x y := q5
 have sz : g5.objs.size = s.heap.objs.size := by rw [s5.1, s4.1, s3.1, s2.1, s1.1]
 have z5 : IsZip g5 (N + 4) (N + 2) (N + 3) .ellipsis := (s5.2 _ (ne_ (by first | exact nA (by decide) | exact nB (by decide) | exact nC (by decide) | exact nL (by assumption) | exact Nat.ne_of_lt (by assumption) | omega))).trans ((s4.2 _ (ne_ (by first | exact nA (by decide) | exact nB (by decide) | exact nC (by decide) | exact nL (by assumption) | exact Nat.ne_of_lt (by assumption) | omega))).trans ((s3.2 _ (ne_ (by first | exact nA (by decide) | exact nB (by decide) | exact nC (by decide) | exact nL (by assumption) | exact Nat.ne_of_lt (by assumption) | omega))).trans ((s2.2 _ (ne_ (by first | exact nA (by decide) | exact nB (by decide) | exact nC (by decide) | exact nL (by assumption) | exact Nat.ne_of_lt (by assumption) | omega))).trans z1)))
 have zl : (N + 4 : Nat) < g5.objs.size := Heap.lt_size z5
 have k5 : ∀ c o, c ≠ N → c ≠ N + 1 → c ≠ N + 3 → c ≠ N + 4 → s.heap.get? c = some o → g5.get? c = some o := fun c o c1 c2 c3 c4 e => (s5.2 c c3).trans ((s4.2 c c2).trans ((s3.2 c c3).trans ((s2.2 c c1).trans ((s1.2 c c4).trans e))))
 have f5 : S1 (i + 1) g5 := D1.frame _ _ _ f2 fun b hb o e => (s5.2 b (nin2 hb (by first | exact nA (by decide) | exact nB (by decide) | exact nC (by decide) | exact nL (by assumption) | exact Nat.ne_of_lt (by assumption) | omega) (by first | exact nA (by decide) | exact nB (by decide) | exact nC (by decide) | exact nL (by assumption) | exact Nat.ne_of_lt (by assumption) | omega))).trans ((s4.2 b (nin2 hb (by first | exact nA (by decide) | exact nB (by decide) | exact nC (by decide) | exact nL (by assumption) | exact Nat.ne_of_lt (by assumption) | omega) (by first | exact nA (by decide) | exact nB (by decide) | exact nC (by decide) | exact nL (by assumption) | exact Nat.ne_of_lt (by assumption) | omega))).trans ((s3.2 b (nin2 hb (by first | exact nA (by decide) | exact nB (by decide) | exact nC (by decide) | exact nL (by assumption) | exact Nat.ne_of_lt (by assumption) | omega) (by first | exact nA (by decide) | exact nB (by decide) | exact nC (by decide) | exact nL (by assumption) | exact Nat.ne_of_lt (by assumption) | omega))).trans e))
 have f5' : S2 (i + 1) g5 := D2.frame _ _ _ f4 fun b hb o e => (s5.2 b (nin2 hb (by first | exact nA (by decide) | exact nB (by decide) | exact nC (by decide) | exact nL (by assumption) | exact Nat.ne_of_lt (by assumption) | omega) (by first | exact nA (by decide) | exact nB (by decide) | exact nC (by decide) | exact nL (by assumption) | exact Nat.ne_of_lt (by assumption) | omega))).trans e
 refine wpAny_bind (wpAny_seqItems q5 rfl (wpAny_bind (wpAny_newTuple (?_ : wpAny _ _ (Builtin.SmallTypes.ownedTupleHandOut (.ref (N + 4)) (.ref g5.objs.size) >>= _) _ _ _))))
 refine wpAny_bind ?_
 unfold Builtin.SmallTypes.ownedTupleHandOut
 refine wpAny_bind (wpAny_setField_rec (show IsZip (g5.push { cls := .type "tuple", data := .seq #[x, y] }) (N + 4) (N + 2) (N + 3) .ellipsis from Heap.get?_push_of_some _ z5) (by simp) fun g7 z7 s7 => ?_)
 replace z7 : IsZip g7 (N + 4) (N + 2) (N + 3) (rawInt g5.objs.size) := z7
 refine wpAny_setField_rec z7 (by simp) fun g8 z8 s8 => wpAny_pure ⟨_, rfl, ?_⟩
 replace z8 : IsZip g8 (N + 4) (N + 2) (N + 3) (rawInt g5.objs.size) := z8
 have up : ∀ c o, c ≠ N + 4 → g5.get? c = some o → g8.get? c = some o := fun c o c1 e => (s8.2 c c1).trans ((s7.2 c c1).trans (Heap.get?_push_of_some _ e))
 have T8 : IsPair g8 g5.objs.size x y := (s8.2 _ (ne_ (by first | exact nA (by decide) | exact nB (by decide) | exact nC (by decide) | exact nL (by assumption) | exact Nat.ne_of_lt (by assumption) | omega))).trans ((s7.2 _ (ne_ (by first | exact nA (by decide) | exact nB (by decide) | exact nC (by decide) | exact nL (by assumption) | exact Nat.ne_of_lt (by assumption) | omega))).trans (Heap.get?_push_size _ rfl))
 rw [sz] at z8 T8
 refine (?_ : Q (.ref g5.objs.size) _)
 rw [sz]
 exact k x y g8 _ p1 p2 z8 (up _ _ (ne_ (by first | exact nA (by decide) | exact nB (by decide) | exact nC (by decide) | exact nL (by assumption) | exact Nat.ne_of_lt (by assumption) | omega)) q5) (D1.frame _ _ _ f5 fun b hb o e => up b o (nin2 hb (by first | exact nA (by decide) | exact nB (by decide) | exact nC (by decide) | exact nL (by assumption) | exact Nat.ne_of_lt (by assumption) | omega) (by first | exact nA (by decide) | exact nB (by decide) | exact nC (by decide) | exact nL (by assumption) | exact Nat.ne_of_lt (by assumption) | omega)) e) (D2.frame _ _ _ f5' fun b hb o e => up b o (nin2 hb (by first | exact nA (by decide) | exact nB (by decide) | exact nC (by decide) | exact nL (by assumption) | exact Nat.ne_of_lt (by assumption) | omega) (by first | exact nA (by decide) | exact nB (by decide) | exact nC (by decide) | exact nL (by assumption) | exact Nat.ne_of_lt (by assumption) | omega)) e) T8 fun c o c1 c2 c3 c4 e => up c o c4 (k5 c o c1 c2 c3 c4 e)
theorem zip2_end {i : Nat} {a b : Value} {Q : Fin → Shared → Prop} (D1 : Draws prog w A N [N, a1] n1 P1 S1) (D2 : Draws prog w A (N + 1) [N + 1, a2] n2 P2 S2) (l1 : a1 < N) (l2 : a2 < N)
  (hz : IsZip s.heap (N + 4) (N + 2) (N + 3) .none) (hTI : IsPair s.heap (N + 2) (.ref N) (.ref (N + 1))) (hTO : IsPair s.heap (N + 3) a b) (h1 : S1 i s.heap) (h2 : S2 i s.heap) (hi : i = n1 ∨ (i < n1 ∧ i = n2))
  (k : ∀ h' e tk, (∀ c o, c ≠ N → c ≠ N + 1 → c ≠ N + 3 → c ≠ N + 4 → s.heap.get? c = some o → h'.get? c = some o) → (∃ o, h'.get? e = some o ∧ o.cls = .type "StopIteration") → E (.ref e) { s with heap := h', toks := tk }) :
  wpAny (model prog w) A (Builtin.«zip.__next__» ⟨[.ref (N + 4)], []⟩) Q E s := by
 refine (?_ : wpAny _ _ (field (.ref (N + 4)) 2 >>= _) _ _ _)
 refine wpAny_bind (wpAny_field hz rfl (x := .bool false) rfl (?_ : wpAny _ _ (field (.ref (N + 4)) 3 >>= _) _ _ _))
 refine wpAny_bind (wpAny_field hz rfl (x := .ref (N + 2)) rfl (wpAny_bind (wpAny_seqItems hTI rfl (?_ : wpAny _ _ (Builtin.SmallTypes.ownedTupleIsFree (.ref (N + 4)) >>= _) _ _ _))))
 refine wpAny_bind ?_
 unfold Builtin.SmallTypes.ownedTupleIsFree
 refine wpAny_bind (wpAny_field hz rfl (x := .none) rfl (wpAny_pure ?_))
 simp only [if_true]
 refine wpAny_bind (wpAny_rule (wpAny_bind (wpAny_field hz rfl (x := .ref (N + 3)) rfl (wpAny_bind (wpAny_setField_rec hz (by simp) fun g1 z1 s1 => wpAny_bind ?_)))))
 replace z1 : IsZip g1 (N + 4) (N + 2) (N + 3) .ellipsis := z1
 simp only [List.zipIdx_cons, List.zipIdx_nil, List.forIn_cons, List.forIn_nil]
 refine wpAny_bind (wpAny_bind (wpAny_onRaise (?_ : wpAny _ _ (Builtin.SmallTypes.nextOf (.ref N) >>= _) _ _ _)))
 have e1 : S1 i g1 := D1.frame _ _ _ h1 fun b hb o e => (s1.2 b (nin2 hb (by first | exact nA (by decide) | exact nB (by decide) | exact nC (by decide) | exact nL (by assumption) | exact Nat.ne_of_lt (by assumption) | omega) (by first | exact nA (by decide) | exact nB (by decide) | exact nC (by decide) | exact nL (by assumption) | exact Nat.ne_of_lt (by assumption) | omega))).trans e
 rcases hi with rfl | ⟨i1, rfl⟩
 ·refine wpAny_bind (D1.done _ _ _ e1 fun g2 e x2 he => ?_)
  obtain ⟨oe, hoe, hce⟩ := he
  have z2 : IsZip g2 (N + 4) (N + 2) (N + 3) .ellipsis := x2 _ _ (ne_ (by first | exact nA (by decide) | exact nB (by decide) | exact nC (by decide) | exact nL (by assumption) | exact Nat.ne_of_lt (by assumption) | omega)) z1
  have hez : e ≠ N + 4 := fun x => by subst x; rw [z2] at hoe; cases hoe; simp at hce
  exact wpAny_setField_rec z2 (by simp) fun g3 _ s3 => k g3 e _ (fun c o c1 c2 c3 c4 x => (s3.2 c c4).trans (x2 c o c1 ((s1.2 c c4).trans x))) ⟨oe, (s3.2 _ hez).trans hoe, hce⟩
 ·refine wpAny_bind (D1.item i _ _ _ i1 e1 fun x g2 t2 p1 f2 s2 => wpAny_pure ?_)
  have q2 : IsPair g2 (N + 3) a b := (s2.2 _ (ne_ (by first | exact nA (by decide) | exact nB (by decide) | exact nC (by decide) | exact nL (by assumption) | exact Nat.ne_of_lt (by assumption) | omega))).trans ((s1.2 _ (ne_ (by first | exact nA (by decide) | exact nB (by decide) | exact nC (by decide) | exact nL (by assumption) | exact Nat.ne_of_lt (by assumption) | omega))).trans hTO)
  refine wpAny_bind (wpAny_seqItems q2 rfl (wpAny_bind (wpAny_updateSeq_pair q2 fun g3 q3 s3 => wpAny_bind (wpAny_letGo (wpAny_pure ?_)))))
  replace q3 : IsPair g3 (N + 3) x b := q3
  refine wpAny_bind (wpAny_bind (wpAny_onRaise (?_ : wpAny _ _ (Builtin.SmallTypes.nextOf (.ref (N + 1)) >>= _) _ _ _)))
  have e3 : S2 i g3 := D2.frame _ _ _ h2 fun b hb o e => (s3.2 b (nin2 hb (by first | exact nA (by decide) | exact nB (by decide) | exact nC (by decide) | exact nL (by assumption) | exact Nat.ne_of_lt (by assumption) | omega) (by first | exact nA (by decide) | exact nB (by decide) | exact nC (by decide) | exact nL (by assumption) | exact Nat.ne_of_lt (by assumption) | omega))).trans ((s2.2 b (nin2 hb (by first | exact nA (by decide) | exact nB (by decide) | exact nC (by decide) | exact nL (by assumption) | exact Nat.ne_of_lt (by assumption) | omega) (by first | exact nA (by decide) | exact nB (by decide) | exact nC (by decide) | exact nL (by assumption) | exact Nat.ne_of_lt (by assumption) | omega))).trans ((s1.2 b (nin2 hb (by first | exact nA (by decide) | exact nB (by decide) | exact nC (by decide) | exact nL (by assumption) | exact Nat.ne_of_lt (by assumption) | omega) (by first | exact nA (by decide) | exact nB (by decide) | exact nC (by decide) | exact nL (by assumption) | exact Nat.ne_of_lt (by assumption) | omega))).trans e))
  refine wpAny_bind (D2.done _ _ _ e3 fun g4 e x4 he => ?_)
  obtain ⟨oe, hoe, hce⟩ := he
  have z3 : IsZip g3 (N + 4) (N + 2) (N + 3) .ellipsis := (s3.2 _ (ne_ (by first | exact nA (by decide) | exact nB (by decide) | exact nC (by decide) | exact nL (by assumption) | exact Nat.ne_of_lt (by assumption) | omega))).trans ((s2.2 _ (ne_ (by first | exact nA (by decide) | exact nB (by decide) | exact nC (by decide) | exact nL (by assumption) | exact Nat.ne_of_lt (by assumption) | omega))).trans z1)
  have z4 : IsZip g4 (N + 4) (N + 2) (N + 3) .ellipsis := x4 _ _ (ne_ (by first | exact nA (by decide) | exact nB (by decide) | exact nC (by decide) | exact nL (by assumption) | exact Nat.ne_of_lt (by assumption) | omega)) z3
  have hez : e ≠ N + 4 := fun x => by subst x; rw [z4] at hoe; cases hoe; simp at hce
  exact wpAny_setField_rec z4 (by simp) fun g5 _ s5 => k g5 e _ (fun c o c1 c2 c3 c4 x => (s5.2 c c4).trans (x4 c o c2 ((s3.2 c c3).trans ((s2.2 c c1).trans ((s1.2 c c4).trans x))))) ⟨oe, (s5.2 _ hez).trans hoe, hce⟩
end
theorem zg6 {T : Addr} {a b c x : Value} {k : Nat} {Q : Unit → Shared → Prop} (hT : ze7 s.heap T a b c)
  (h : ∀ h', h'.get? T = some { cls := .type "tuple", data := .seq ((#[a, b, c] : Array Value).setIfInBounds k x) } → Heap.SameBut T s.heap h' → Q () { s with heap := h' }) :
  wpAny (model prog w) A (updateSeq T (·.setIfInBounds k x)) Q E s :=
 wpAny_updateSeq hT rfl (h _ (by rw [Heap.get?_update_self _ hT rfl]; simp [Obj.mapSeq]) (Heap.SameBut.update ..))
section
variable {N a1 a2 a3 : Nat} {n1 n2 n3 : Nat} {P1 P2 P3 : Nat → Value → Prop} {S1 S2 S3 : Nat → Heap → Prop}
theorem zmW {i : Nat} {a b c : Value} {Q : Value → Shared → Prop} (D1 : Draws prog w A N [N, a1] n1 P1 S1) (D2 : Draws prog w A (N + 1) [N + 1, a2] n2 P2 S2) (D3 : Draws prog w A (N + 2) [N + 2, a3] n3 P3 S3) (l1 : a1 < N) (l2 : a2 < N) (l3 : a3 < N)
  (hz : IsZip s.heap (N + 5) (N + 3) (N + 4) .none) (hTI : ze7 s.heap (N + 3) (.ref N) (.ref (N + 1)) (.ref (N + 2))) (hTO : ze7 s.heap (N + 4) a b c) (h1 : S1 i s.heap) (h2 : S2 i s.heap) (h3 : S3 i s.heap) (i1 : i < n1) (i2 : i < n2) (i3 : i < n3)
  (k : ∀ x y z h' tk, P1 i x → P2 i y → P3 i z → IsZip h' (N + 5) (N + 3) (N + 4) (rawInt s.heap.objs.size) → ze7 h' (N + 4) x y z → S1 (i + 1) h' → S2 (i + 1) h' → S3 (i + 1) h' → ze7 h' s.heap.objs.size x y z →
   (∀ c o, c ≠ N → c ≠ N + 1 → c ≠ N + 2 → c ≠ N + 4 → c ≠ N + 5 → s.heap.get? c = some o → h'.get? c = some o) → Q (.ref s.heap.objs.size) { s with heap := h', toks := tk }) :
  wpAny (model prog w) A (Builtin.«zip.__next__» ⟨[.ref (N + 5)], []⟩) (fun fin s' => ∃ v, fin = .done (.ret v) ∧ Q v s') E s := by
 refine (?_ : wpAny _ _ (field (.ref (N + 5)) 2 >>= _) _ _ _)
 refine wpAny_bind (wpAny_field hz rfl (x := .bool false) rfl (?_ : wpAny _ _ (field (.ref (N + 5)) 3 >>= _) _ _ _))
 refine wpAny_bind (wpAny_field hz rfl (x := .ref (N + 3)) rfl (wpAny_bind (wpAny_seqItems hTI rfl (?_ : wpAny _ _ (Builtin.SmallTypes.ownedTupleIsFree (.ref (N + 5)) >>= _) _ _ _))))
 refine wpAny_bind ?_
 unfold Builtin.SmallTypes.ownedTupleIsFree
 refine wpAny_bind (wpAny_field hz rfl (x := .none) rfl (wpAny_pure ?_))
 simp only [if_true]
 refine wpAny_bind (wpAny_rule (wpAny_bind (wpAny_field hz rfl (x := .ref (N + 4)) rfl (wpAny_bind (wpAny_setField_rec hz (by simp) fun g1 z1 s1 => wpAny_bind ?_)))))
 replace z1 : IsZip g1 (N + 5) (N + 3) (N + 4) .ellipsis := z1
 simp only [List.zipIdx_cons, List.zipIdx_nil, List.forIn_cons, List.forIn_nil]
 refine wpAny_bind (wpAny_bind (wpAny_onRaise (?_ : wpAny _ _ (Builtin.SmallTypes.nextOf (.ref N) >>= _) _ _ _)))
 have e1 : S1 i g1 := D1.frame _ _ _ h1 fun b hb o e => (s1.2 b (nin2 hb (by first | exact nA (by decide) | exact nB (by decide) | exact nC (by decide) | exact nL (by assumption) | exact Nat.ne_of_lt (by assumption) | omega) (by first | exact nA (by decide) | exact nB (by decide) | exact nC (by decide) | exact nL (by assumption) | exact Nat.ne_of_lt (by assumption) | omega))).trans e
 refine wpAny_bind (D1.item i _ _ _ i1 e1 fun x g2 t2 p1 f2 s2 => wpAny_pure ?_)
 have q2 : ze7 g2 (N + 4) a b c := (s2.2 _ (ne_ (by first | exact nA (by decide) | exact nB (by decide) | exact nC (by decide) | exact nL (by assumption) | exact Nat.ne_of_lt (by assumption) | omega))).trans ((s1.2 _ (ne_ (by first | exact nA (by decide) | exact nB (by decide) | exact nC (by decide) | exact nL (by assumption) | exact Nat.ne_of_lt (by assumption) | omega))).trans hTO)
 refine wpAny_bind (wpAny_seqItems q2 rfl (wpAny_bind (zg6 q2 fun g3 q3 s3 => wpAny_bind (wpAny_letGo (wpAny_pure ?_)))))
 replace q3 : ze7 g3 (N + 4) x b c := q3
 have k3 : ∀ d o, d ≠ N → d ≠ N + 4 → d ≠ N + 5 → s.heap.get? d = some o → g3.get? d = some o := fun d o c1 c2 c3 e => (s3.2 d c2).trans ((s2.2 d c1).trans ((s1.2 d c3).trans e))
 refine wpAny_bind (wpAny_bind (wpAny_onRaise (?_ : wpAny _ _ (Builtin.SmallTypes.nextOf (.ref (N + 1)) >>= _) _ _ _)))
 have e3 : S2 i g3 := D2.frame _ _ _ h2 fun b hb o e => k3 b o (nin2 hb (by first | exact nA (by decide) | exact nB (by decide) | exact nC (by decide) | exact nL (by assumption) | exact Nat.ne_of_lt (by assumption) | omega) (by first | exact nA (by decide) | exact nB (by decide) | exact nC (by decide) | exact nL (by assumption) | exact Nat.ne_of_lt (by assumption) | omega)) (nin2 hb (by first | exact nA (by decide) | exact nB (by decide) | exact nC (by decide) | exact nL (by assumption) | exact Nat.ne_of_lt (by assumption) | omega) (by first | exact nA (by decide) | exact nB (by decide) | exact nC (by decide) | exact nL (by assumption) | exact Nat.ne_of_lt (by assumption) | omega)) (nin2 hb (by first | exact nA (by decide) | exact nB (by decide) | exact nC (by decide) | exact nL (by assumption) | exact Nat.ne_of_lt (by assumption) | omega) (by first | exact nA (by decide) | exact nB (by decide) | exact nC (by decide) | exact nL (by assumption) | exact Nat.ne_of_lt (by assumption) | omega)) e
 refine wpAny_bind (D2.item i _ _ _ i2 e3 fun y g4 t4 p2 f4 s4 => wpAny_pure ?_)
 have q4 : ze7 g4 (N + 4) x b c := (s4.2 _ (ne_ (by first | exact nA (by decide) | exact nB (by decide) | exact nC (by decide) | exact nL (by assumption) | exact Nat.ne_of_lt (by assumption) | omega))).trans q3
 refine wpAny_bind (wpAny_seqItems q4 rfl (wpAny_bind (zg6 q4 fun g5 q5 s5 => wpAny_bind (wpAny_letGo (wpAny_pure ?_)))))
 replace q5 : ze7 g5 (N + 4) x y c := q5
 refine wpAny_bind (wpAny_bind (wpAny_onRaise (?_ : wpAny _ _ (Builtin.SmallTypes.nextOf (.ref (N + 2)) >>= _) _ _ _)))
 have e5 : S3 i g5 := D3.frame _ _ _ h3 fun b hb o e => (s5.2 b (nin2 hb (by first | exact nA (by decide) | exact nB (by decide) | exact nC (by decide) | exact nL (by assumption) | exact Nat.ne_of_lt (by assumption) | omega) (by first | exact nA (by decide) | exact nB (by decide) | exact nC (by decide) | exact nL (by assumption) | exact Nat.ne_of_lt (by assumption) | omega))).trans ((s4.2 b (nin2 hb (by first | exact nA (by decide) | exact nB (by decide) | exact nC (by decide) | exact nL (by assumption) | exact Nat.ne_of_lt (by assumption) | omega) (by first | exact nA (by decide) | exact nB (by decide) | exact nC (by decide) | exact nL (by assumption) | exact Nat.ne_of_lt (by assumption) | omega))).trans (k3 b o (nin2 hb (by first | exact nA (by decide) | exact nB (by decide) | exact nC (by decide) | exact nL (by assumption) | exact Nat.ne_of_lt (by assumption) | omega) (by first | exact nA (by decide) | exact nB (by decide) | exact nC (by decide) | exact nL (by assumption) | exact Nat.ne_of_lt (by assumption) | omega)) (nin2 hb (by first | exact nA (by decide) | exact nB (by decide) | exact nC (by decide) | exact nL (by assumption) | exact Nat.ne_of_lt (by assumption) | omega) (by first | exact nA (by decide) | exact nB (by decide) | exact nC (by decide) | exact nL (by assumption) | exact Nat.ne_of_lt (by assumption) | omega)) (nin2 hb (by first | exact nA (by decide) | exact nB (by decide) | exact nC (by decide) | exact nL (by assumption) | exact Nat.ne_of_lt (by assumption) | omega) (by first | exact nA (by decide) | exact nB (by decide) | exact nC (by decide) | exact nL (by assumption) | exact Nat.ne_of_lt (by assumption) | omega)) e))
 refine wpAny_bind (D3.item i _ _ _ i3 e5 fun z g6 t6 p3 f6 s6 => wpAny_pure ?_)
 have q6 : ze7 g6 (N + 4) x y c := (s6.2 _ (ne_ (by first | exact nA (by decide) | exact nB (by decide) | exact nC (by decide) | exact nL (by assumption) | exact Nat.ne_of_lt (by assumption) | omega))).trans q5
 refine wpAny_bind (wpAny_seqItems q6 rfl (wpAny_bind (zg6 q6 fun g7 q7 s7 => wpAny_bind (wpAny_letGo (wpAny_pure (wpAny_pure ?_))))))
 replace q7 : ze7 g7 (N + 4) x y z := q7
 have sz : g7.objs.size = s.heap.objs.size := by rw [s7.1, s6.1, s5.1, s4.1, s3.1, s2.1, s1.1]
 have z7 : IsZip g7 (N + 5) (N + 3) (N + 4) .ellipsis := (s7.2 _ (ne_ (by first | exact nA (by decide) | exact nB (by decide) | exact nC (by decide) | exact nL (by assumption) | exact Nat.ne_of_lt (by assumption) | omega))).trans ((s6.2 _ (ne_ (by first | exact nA (by decide) | exact nB (by decide) | exact nC (by decide) | exact nL (by assumption) | exact Nat.ne_of_lt (by assumption) | omega))).trans ((s5.2 _ (ne_ (by first | exact nA (by decide) | exact nB (by decide) | exact nC (by decide) | exact nL (by assumption) | exact Nat.ne_of_lt (by assumption) | omega))).trans ((s4.2 _ (ne_ (by first | exact nA (by decide) | exact nB (by decide) | exact nC (by decide) | exact nL (by assumption) | exact Nat.ne_of_lt (by assumption) | omega))).trans ((s3.2 _ (ne_ (by first | exact nA (by decide) | exact nB (by decide) | exact nC (by decide) | exact nL (by assumption) | exact Nat.ne_of_lt (by assumption) | omega))).trans ((s2.2 _ (ne_ (by first | exact nA (by decide) | exact nB (by decide) | exact nC (by decide) | exact nL (by assumption) | exact Nat.ne_of_lt (by assumption) | omega))).trans z1)))))
 have zl : (N + 5 : Nat) < g7.objs.size := Heap.lt_size z7
 have k7 : ∀ d o, d ≠ N → d ≠ N + 1 → d ≠ N + 2 → d ≠ N + 4 → d ≠ N + 5 → s.heap.get? d = some o → g7.get? d = some o := fun d o c1 c2 c3 c4 c5 e => (s7.2 d c4).trans ((s6.2 d c3).trans ((s5.2 d c4).trans ((s4.2 d c2).trans (k3 d o c1 c4 c5 e))))
 have f7 : S1 (i + 1) g7 := D1.frame _ _ _ f2 fun b hb o e => (s7.2 b (nin2 hb (by first | exact nA (by decide) | exact nB (by decide) | exact nC (by decide) | exact nL (by assumption) | exact Nat.ne_of_lt (by assumption) | omega) (by first | exact nA (by decide) | exact nB (by decide) | exact nC (by decide) | exact nL (by assumption) | exact Nat.ne_of_lt (by assumption) | omega))).trans ((s6.2 b (nin2 hb (by first | exact nA (by decide) | exact nB (by decide) | exact nC (by decide) | exact nL (by assumption) | exact Nat.ne_of_lt (by assumption) | omega) (by first | exact nA (by decide) | exact nB (by decide) | exact nC (by decide) | exact nL (by assumption) | exact Nat.ne_of_lt (by assumption) | omega))).trans ((s5.2 b (nin2 hb (by first | exact nA (by decide) | exact nB (by decide) | exact nC (by decide) | exact nL (by assumption) | exact Nat.ne_of_lt (by assumption) | omega) (by first | exact nA (by decide) | exact nB (by decide) | exact nC (by decide) | exact nL (by assumption) | exact Nat.ne_of_lt (by assumption) | omega))).trans ((s4.2 b (nin2 hb (by first | exact nA (by decide) | exact nB (by decide) | exact nC (by decide) | exact nL (by assumption) | exact Nat.ne_of_lt (by assumption) | omega) (by first | exact nA (by decide) | exact nB (by decide) | exact nC (by decide) | exact nL (by assumption) | exact Nat.ne_of_lt (by assumption) | omega))).trans ((s3.2 b (nin2 hb (by first | exact nA (by decide) | exact nB (by decide) | exact nC (by decide) | exact nL (by assumption) | exact Nat.ne_of_lt (by assumption) | omega) (by first | exact nA (by decide) | exact nB (by decide) | exact nC (by decide) | exact nL (by assumption) | exact Nat.ne_of_lt (by assumption) | omega))).trans e))))
 have f7' : S2 (i + 1) g7 := D2.frame _ _ _ f4 fun b hb o e => (s7.2 b (nin2 hb (by first | exact nA (by decide) | exact nB (by decide) | exact nC (by decide) | exact nL (by assumption) | exact Nat.ne_of_lt (by assumption) | omega) (by first | exact nA (by decide) | exact nB (by decide) | exact nC (by decide) | exact nL (by assumption) | exact Nat.ne_of_lt (by assumption) | omega))).trans ((s6.2 b (nin2 hb (by first | exact nA (by decide) | exact nB (by decide) | exact nC (by decide) | exact nL (by assumption) | exact Nat.ne_of_lt (by assumption) | omega) (by first | exact nA (by decide) | exact nB (by decide) | exact nC (by decide) | exact nL (by assumption) | exact Nat.ne_of_lt (by assumption) | omega))).trans ((s5.2 b (nin2 hb (by first | exact nA (by decide) | exact nB (by decide) | exact nC (by decide) | exact nL (by assumption) | exact Nat.ne_of_lt (by assumption) | omega) (by first | exact nA (by decide) | exact nB (by decide) | exact nC (by decide) | exact nL (by assumption) | exact Nat.ne_of_lt (by assumption) | omega))).trans e))
 have f7'' : S3 (i + 1) g7 := D3.frame _ _ _ f6 fun b hb o e => (s7.2 b (nin2 hb (by first | exact nA (by decide) | exact nB (by decide) | exact nC (by decide) | exact nL (by assumption) | exact Nat.ne_of_lt (by assumption) | omega) (by first | exact nA (by decide) | exact nB (by decide) | exact nC (by decide) | exact nL (by assumption) | exact Nat.ne_of_lt (by assumption) | omega))).trans e
 refine wpAny_bind (wpAny_seqItems q7 rfl (wpAny_bind (wpAny_newTuple (?_ : wpAny _ _ (Builtin.SmallTypes.ownedTupleHandOut (.ref (N + 5)) (.ref g7.objs.size) >>= _) _ _ _))))
 refine wpAny_bind ?_
 unfold Builtin.SmallTypes.ownedTupleHandOut
 refine wpAny_bind (wpAny_setField_rec (show IsZip (g7.push { cls := .type "tuple", data := .seq #[x, y, z] }) (N + 5) (N + 3) (N + 4) .ellipsis from Heap.get?_push_of_some _ z7) (by simp) fun g9 z9 s9 => ?_)
 replace z9 : IsZip g9 (N + 5) (N + 3) (N + 4) (rawInt g7.objs.size) := z9
 refine wpAny_setField_rec z9 (by simp) fun g8 z8 s8 => wpAny_pure ⟨_, rfl, ?_⟩
 replace z8 : IsZip g8 (N + 5) (N + 3) (N + 4) (rawInt g7.objs.size) := z8
 have up : ∀ c o, c ≠ N + 5 → g7.get? c = some o → g8.get? c = some o := fun c o c1 e => (s8.2 c c1).trans ((s9.2 c c1).trans (Heap.get?_push_of_some _ e))
 have T8 : ze7 g8 g7.objs.size x y z := (s8.2 _ (ne_ (by first | exact nA (by decide) | exact nB (by decide) | exact nC (by decide) | exact nL (by assumption) | exact Nat.ne_of_lt (by assumption) | omega))).trans ((s9.2 _ (ne_ (by first | exact nA (by decide) | exact nB (by decide) | exact nC (by decide) | exact nL (by assumption) | exact Nat.ne_of_lt (by assumption) | omega))).trans (Heap.get?_push_size _ rfl))
 rw [sz] at z8 T8
 refine (?_ : Q (.ref g7.objs.size) _)
 rw [sz]
 exact k x y z g8 _ p1 p2 p3 z8 (up _ _ (ne_ (by first | exact nA (by decide) | exact nB (by decide) | exact nC (by decide) | exact nL (by assumption) | exact Nat.ne_of_lt (by assumption) | omega)) q7) (D1.frame _ _ _ f7 fun b hb o e => up b o (nin2 hb (by first | exact nA (by decide) | exact nB (by decide) | exact nC (by decide) | exact nL (by assumption) | exact Nat.ne_of_lt (by assumption) | omega) (by first | exact nA (by decide) | exact nB (by decide) | exact nC (by decide) | exact nL (by assumption) | exact Nat.ne_of_lt (by assumption) | omega)) e) (D2.frame _ _ _ f7' fun b hb o e => up b o (nin2 hb (by first | exact nA (by decide) | exact nB (by decide) | exact nC (by decide) | exact nL (by assumption) | exact Nat.ne_of_lt (by assumption) | omega) (by first | exact nA (by decide) | exact nB (by decide) | exact nC (by decide) | exact nL (by assumption) | exact Nat.ne_of_lt (by assumption) | omega)) e) (D3.frame _ _ _ f7'' fun b hb o e => up b o (nin2 hb (by first | exact nA (by decide) | exact nB (by decide) | exact nC (by decide) | exact nL (by assumption) | exact Nat.ne_of_lt (by assumption) | omega) (by first | exact nA (by decide) | exact nB (by decide) | exact nC (by decide) | exact nL (by assumption) | exact Nat.ne_of_lt (by assumption) | omega)) e) T8 fun c o c1 c2 c3 c4 c5 e => up c o c5 (k7 c o c1 c2 c3 c4 c5 e)
theorem zip3_end {i : Nat} {a b c : Value} {Q : Fin → Shared → Prop} (D1 : Draws prog w A N [N, a1] n1 P1 S1) (D2 : Draws prog w A (N + 1) [N + 1, a2] n2 P2 S2) (D3 : Draws prog w A (N + 2) [N + 2, a3] n3 P3 S3) (l1 : a1 < N) (l2 : a2 < N) (l3 : a3 < N)
  (hz : IsZip s.heap (N + 5) (N + 3) (N + 4) .none) (hTI : ze7 s.heap (N + 3) (.ref N) (.ref (N + 1)) (.ref (N + 2))) (hTO : ze7 s.heap (N + 4) a b c) (h1 : S1 i s.heap) (h2 : S2 i s.heap) (h3 : S3 i s.heap) (hi : i = n1 ∨ (i < n1 ∧ (i = n2 ∨ (i < n2 ∧ i = n3))))
  (k : ∀ h' e tk, (∀ c o, c ≠ N → c ≠ N + 1 → c ≠ N + 2 → c ≠ N + 4 → c ≠ N + 5 → s.heap.get? c = some o → h'.get? c = some o) → (∃ o, h'.get? e = some o ∧ o.cls = .type "StopIteration") → E (.ref e) { s with heap := h', toks := tk }) :
  wpAny (model prog w) A (Builtin.«zip.__next__» ⟨[.ref (N + 5)], []⟩) Q E s := by
 refine (?_ : wpAny _ _ (field (.ref (N + 5)) 2 >>= _) _ _ _)
 refine wpAny_bind (wpAny_field hz rfl (x := .bool false) rfl (?_ : wpAny _ _ (field (.ref (N + 5)) 3 >>= _) _ _ _))
 refine wpAny_bind (wpAny_field hz rfl (x := .ref (N + 3)) rfl (wpAny_bind (wpAny_seqItems hTI rfl (?_ : wpAny _ _ (Builtin.SmallTypes.ownedTupleIsFree (.ref (N + 5)) >>= _) _ _ _))))
 refine wpAny_bind ?_
 unfold Builtin.SmallTypes.ownedTupleIsFree
 refine wpAny_bind (wpAny_field hz rfl (x := .none) rfl (wpAny_pure ?_))
 simp only [if_true]
 refine wpAny_bind (wpAny_rule (wpAny_bind (wpAny_field hz rfl (x := .ref (N + 4)) rfl (wpAny_bind (wpAny_setField_rec hz (by simp) fun g1 z1 s1 => wpAny_bind ?_)))))
 replace z1 : IsZip g1 (N + 5) (N + 3) (N + 4) .ellipsis := z1
 simp only [List.zipIdx_cons, List.zipIdx_nil, List.forIn_cons, List.forIn_nil]
 refine wpAny_bind (wpAny_bind (wpAny_onRaise (?_ : wpAny _ _ (Builtin.SmallTypes.nextOf (.ref N) >>= _) _ _ _)))
 have e1 : S1 i g1 := D1.frame _ _ _ h1 fun b hb o e => (s1.2 b (nin2 hb (by first | exact nA (by decide) | exact nB (by decide) | exact nC (by decide) | exact nL (by assumption) | exact Nat.ne_of_lt (by assumption) | omega) (by first | exact nA (by decide) | exact nB (by decide) | exact nC (by decide) | exact nL (by assumption) | exact Nat.ne_of_lt (by assumption) | omega))).trans e
 rcases hi with rfl | ⟨i1, hi⟩
 ·refine wpAny_bind (D1.done _ _ _ e1 fun g2 e x2 he => ?_)
  obtain ⟨oe, hoe, hce⟩ := he
  have z2 : IsZip g2 (N + 5) (N + 3) (N + 4) .ellipsis := x2 _ _ (ne_ (by first | exact nA (by decide) | exact nB (by decide) | exact nC (by decide) | exact nL (by assumption) | exact Nat.ne_of_lt (by assumption) | omega)) z1
  have hez : e ≠ N + 5 := fun x => by subst x; rw [z2] at hoe; cases hoe; simp at hce
  exact wpAny_setField_rec z2 (by simp) fun g3 _ s3 => k g3 e _ (fun c o c1 c2 c3 c4 c5 x => (s3.2 c c5).trans (x2 c o c1 ((s1.2 c c5).trans x))) ⟨oe, (s3.2 _ hez).trans hoe, hce⟩
 refine wpAny_bind (D1.item i _ _ _ i1 e1 fun x g2 t2 p1 f2 s2 => wpAny_pure ?_)
 have q2 : ze7 g2 (N + 4) a b c := (s2.2 _ (ne_ (by first | exact nA (by decide) | exact nB (by decide) | exact nC (by decide) | exact nL (by assumption) | exact Nat.ne_of_lt (by assumption) | omega))).trans ((s1.2 _ (ne_ (by first | exact nA (by decide) | exact nB (by decide) | exact nC (by decide) | exact nL (by assumption) | exact Nat.ne_of_lt (by assumption) | omega))).trans hTO)
 refine wpAny_bind (wpAny_seqItems q2 rfl (wpAny_bind (zg6 q2 fun g3 q3 s3 => wpAny_bind (wpAny_letGo (wpAny_pure ?_)))))
 replace q3 : ze7 g3 (N + 4) x b c := q3
 have k3 : ∀ d o, d ≠ N → d ≠ N + 4 → d ≠ N + 5 → s.heap.get? d = some o → g3.get? d = some o := fun d o c1 c2 c3 e => (s3.2 d c2).trans ((s2.2 d c1).trans ((s1.2 d c3).trans e))
 have z3 : IsZip g3 (N + 5) (N + 3) (N + 4) .ellipsis := (s3.2 _ (ne_ (by first | exact nA (by decide) | exact nB (by decide) | exact nC (by decide) | exact nL (by assumption) | exact Nat.ne_of_lt (by assumption) | omega))).trans ((s2.2 _ (ne_ (by first | exact nA (by decide) | exact nB (by decide) | exact nC (by decide) | exact nL (by assumption) | exact Nat.ne_of_lt (by assumption) | omega))).trans z1)
 refine wpAny_bind (wpAny_bind (wpAny_onRaise (?_ : wpAny _ _ (Builtin.SmallTypes.nextOf (.ref (N + 1)) >>= _) _ _ _)))
 have e3 : S2 i g3 := D2.frame _ _ _ h2 fun b hb o e => k3 b o (nin2 hb (by first | exact nA (by decide) | exact nB (by decide) | exact nC (by decide) | exact nL (by assumption) | exact Nat.ne_of_lt (by assumption) | omega) (by first | exact nA (by decide) | exact nB (by decide) | exact nC (by decide) | exact nL (by assumption) | exact Nat.ne_of_lt (by assumption) | omega)) (nin2 hb (by first | exact nA (by decide) | exact nB (by decide) | exact nC (by decide) | exact nL (by assumption) | exact Nat.ne_of_lt (by assumption) | omega) (by first | exact nA (by decide) | exact nB (by decide) | exact nC (by decide) | exact nL (by assumption) | exact Nat.ne_of_lt (by assumption) | omega)) (nin2 hb (by first | exact nA (by decide) | exact nB (by decide) | exact nC (by decide) | exact nL (by assumption) | exact Nat.ne_of_lt (by assumption) | omega) (by first | exact nA (by decide) | exact nB (by decide) | exact nC (by decide) | exact nL (by assumption) | exact Nat.ne_of_lt (by assumption) | omega)) e
 rcases hi with rfl | ⟨i2, rfl⟩
 ·refine wpAny_bind (D2.done _ _ _ e3 fun g4 e x4 he => ?_)
  obtain ⟨oe, hoe, hce⟩ := he
  have z4 : IsZip g4 (N + 5) (N + 3) (N + 4) .ellipsis := x4 _ _ (ne_ (by first | exact nA (by decide) | exact nB (by decide) | exact nC (by decide) | exact nL (by assumption) | exact Nat.ne_of_lt (by assumption) | omega)) z3
  have hez : e ≠ N + 5 := fun x => by subst x; rw [z4] at hoe; cases hoe; simp at hce
  exact wpAny_setField_rec z4 (by simp) fun g5 _ s5 => k g5 e _ (fun c o c1 c2 c3 c4 c5 x => (s5.2 c c5).trans (x4 c o c2 (k3 c o c1 c4 c5 x))) ⟨oe, (s5.2 _ hez).trans hoe, hce⟩
 refine wpAny_bind (D2.item i _ _ _ i2 e3 fun y g4 t4 p2 f4 s4 => wpAny_pure ?_)
 have q4 : ze7 g4 (N + 4) x b c := (s4.2 _ (ne_ (by first | exact nA (by decide) | exact nB (by decide) | exact nC (by decide) | exact nL (by assumption) | exact Nat.ne_of_lt (by assumption) | omega))).trans q3
 refine wpAny_bind (wpAny_seqItems q4 rfl (wpAny_bind (zg6 q4 fun g5 q5 s5 => wpAny_bind (wpAny_letGo (wpAny_pure ?_)))))
 have z5 : IsZip g5 (N + 5) (N + 3) (N + 4) .ellipsis := (s5.2 _ (ne_ (by first | exact nA (by decide) | exact nB (by decide) | exact nC (by decide) | exact nL (by assumption) | exact Nat.ne_of_lt (by assumption) | omega))).trans ((s4.2 _ (ne_ (by first | exact nA (by decide) | exact nB (by decide) | exact nC (by decide) | exact nL (by assumption) | exact Nat.ne_of_lt (by assumption) | omega))).trans z3)
 refine wpAny_bind (wpAny_bind (wpAny_onRaise (?_ : wpAny _ _ (Builtin.SmallTypes.nextOf (.ref (N + 2)) >>= _) _ _ _)))
 have e5 : S3 i g5 := D3.frame _ _ _ h3 fun b hb o e => (s5.2 b (nin2 hb (by first | exact nA (by decide) | exact nB (by decide) | exact nC (by decide) | exact nL (by assumption) | exact Nat.ne_of_lt (by assumption) | omega) (by first | exact nA (by decide) | exact nB (by decide) | exact nC (by decide) | exact nL (by assumption) | exact Nat.ne_of_lt (by assumption) | omega))).trans ((s4.2 b (nin2 hb (by first | exact nA (by decide) | exact nB (by decide) | exact nC (by decide) | exact nL (by assumption) | exact Nat.ne_of_lt (by assumption) | omega) (by first | exact nA (by decide) | exact nB (by decide) | exact nC (by decide) | exact nL (by assumption) | exact Nat.ne_of_lt (by assumption) | omega))).trans (k3 b o (nin2 hb (by first | exact nA (by decide) | exact nB (by decide) | exact nC (by decide) | exact nL (by assumption) | exact Nat.ne_of_lt (by assumption) | omega) (by first | exact nA (by decide) | exact nB (by decide) | exact nC (by decide) | exact nL (by assumption) | exact Nat.ne_of_lt (by assumption) | omega)) (nin2 hb (by first | exact nA (by decide) | exact nB (by decide) | exact nC (by decide) | exact nL (by assumption) | exact Nat.ne_of_lt (by assumption) | omega) (by first | exact nA (by decide) | exact nB (by decide) | exact nC (by decide) | exact nL (by assumption) | exact Nat.ne_of_lt (by assumption) | omega)) (nin2 hb (by first | exact nA (by decide) | exact nB (by decide) | exact nC (by decide) | exact nL (by assumption) | exact Nat.ne_of_lt (by assumption) | omega) (by first | exact nA (by decide) | exact nB (by decide) | exact nC (by decide) | exact nL (by assumption) | exact Nat.ne_of_lt (by assumption) | omega)) e))
 refine wpAny_bind (D3.done _ _ _ e5 fun g6 e x6 he => ?_)
 obtain ⟨oe, hoe, hce⟩ := he
 have z6 : IsZip g6 (N + 5) (N + 3) (N + 4) .ellipsis := x6 _ _ (ne_ (by first | exact nA (by decide) | exact nB (by decide) | exact nC (by decide) | exact nL (by assumption) | exact Nat.ne_of_lt (by assumption) | omega)) z5
 have hez : e ≠ N + 5 := fun x => by subst x; rw [z6] at hoe; cases hoe; simp at hce
 exact wpAny_setField_rec z6 (by simp) fun g7 _ s7 => k g7 e _ (fun c o c1 c2 c3 c4 c5 x => (s7.2 c c5).trans (x6 c o c3 ((s5.2 c c4).trans ((s4.2 c c2).trans (k3 c o c1 c4 c5 x))))) ⟨oe, (s7.2 _ hez).trans hoe, hce⟩
end
end
end M
set_option Elab.async false
set_option linter.all false
set_option maxRecDepth 100000
namespace M
open PySem PySem.Spec L2
open PyProof.Rows hiding St
open Sem (wp)
noncomputable abbrev tup_ (vs : Array Value) : Obj := { cls := .type "tuple", data := .seq vs }
noncomputable abbrev zip_ (ti to : Addr) : Obj := { cls := .type "zip", data := .fields #[.none, .bool false, .bool false, .ref ti, .ref to] }
noncomputable abbrev z2a (h : Heap) (t1 t2 : Bool) (l1 l2 : Addr) : Heap := (h.push (srcO t1 l1)).push (srcO t2 l2)
noncomputable abbrev z2b (h : Heap) (t1 t2 : Bool) (l1 l2 : Addr) : Heap := (z2a h t1 t2 l1 l2).push (tup_ #[.ref h.objs.size, .ref (h.push (srcO t1 l1)).objs.size])
noncomputable abbrev z2c (h : Heap) (t1 t2 : Bool) (l1 l2 : Addr) : Heap := (z2b h t1 t2 l1 l2).push (tup_ #[.none, .none])
noncomputable abbrev z2d (h : Heap) (t1 t2 : Bool) (l1 l2 : Addr) : Heap := (z2c h t1 t2 l1 l2).push (zip_ (z2a h t1 t2 l1 l2).objs.size (z2b h t1 t2 l1 l2).objs.size)
theorem zlz (t1 t2 : Bool) (l1 l2 : Addr) (xs ys : Array Value) : Meets (Builtin.«zip.__new__» ⟨[.type "zip", .ref l1, .ref l2], []⟩) (fun _ R s => SrcH t1 s.heap l1 xs ∧ SrcH t2 s.heap l2 ys ∧
   R (.ok (.ret (.ref (z2c s.heap t1 t2 l1 l2).objs.size))) { s with heap := z2d s.heap t1 t2 l1 l2 }) :=
 .of_wp fun prog w A R s h => by
  obtain ⟨hp, g, d, tk, os⟩ := s
  obtain ⟨b1, b2, h⟩ := h
  have hsub := sub_zip
  have L1 : SrcH t1 (Shared.heap ⟨hp, g, d, tk, os⟩) l1 xs := b1
  have L2 : SrcH t2 (Shared.heap ⟨hp.push (srcO t1 l1), g, d, tk, os⟩) l2 ys := SrcH.at b2 fun o e => Heap.get?_push_of_some _ e
  wp_walk using zdA L1, zdA L2
  exact ⟨_, rfl, h⟩
noncomputable abbrev z3a (h : Heap) (t1 t2 t3 : Bool) (l1 l2 l3 : Addr) : Heap := ((h.push (srcO t1 l1)).push (srcO t2 l2)).push (srcO t3 l3)
noncomputable abbrev z3b (h : Heap) (t1 t2 t3 : Bool) (l1 l2 l3 : Addr) : Heap := (z3a h t1 t2 t3 l1 l2 l3).push (tup_ #[.ref h.objs.size, .ref (h.push (srcO t1 l1)).objs.size, .ref ((h.push (srcO t1 l1)).push (srcO t2 l2)).objs.size])
noncomputable abbrev z3c (h : Heap) (t1 t2 t3 : Bool) (l1 l2 l3 : Addr) : Heap := (z3b h t1 t2 t3 l1 l2 l3).push (tup_ #[.none, .none, .none])
noncomputable abbrev z3d (h : Heap) (t1 t2 t3 : Bool) (l1 l2 l3 : Addr) : Heap := (z3c h t1 t2 t3 l1 l2 l3).push (zip_ (z3a h t1 t2 t3 l1 l2 l3).objs.size (z3b h t1 t2 t3 l1 l2 l3).objs.size)
set_option maxHeartbeats 4000000 in
theorem zlh (t1 t2 t3 : Bool) (l1 l2 l3 : Addr) (xs ys zs : Array Value) : Meets (Builtin.«zip.__new__» ⟨[.type "zip", .ref l1, .ref l2, .ref l3], []⟩) (fun _ R s => SrcH t1 s.heap l1 xs ∧ SrcH t2 s.heap l2 ys ∧ SrcH t3 s.heap l3 zs ∧
   R (.ok (.ret (.ref (z3c s.heap t1 t2 t3 l1 l2 l3).objs.size))) { s with heap := z3d s.heap t1 t2 t3 l1 l2 l3 }) :=
 .of_wp fun prog w A R s h => by
  obtain ⟨hp, g, d, tk, os⟩ := s
  obtain ⟨b1, b2, b3, h⟩ := h
  have hsub := sub_zip
  have L1 : SrcH t1 (Shared.heap ⟨hp, g, d, tk, os⟩) l1 xs := b1
  have L2 : SrcH t2 (Shared.heap ⟨hp.push (srcO t1 l1), g, d, tk, os⟩) l2 ys := SrcH.at b2 fun o e => Heap.get?_push_of_some _ e
  have L3 : SrcH t3 (Shared.heap ⟨(hp.push (srcO t1 l1)).push (srcO t2 l2), g, d, tk, os⟩) l3 zs := SrcH.at b3 fun o e => Heap.get?_push_of_some _ (Heap.get?_push_of_some _ e)
  wp_walk using zdA L1, zdA L2, zdA L3
  exact ⟨_, rfl, h⟩
theorem ziG (a b c : Value) : checkTypeCall "zip" ⟨[a, b, c], []⟩ = pure () := by kernel_rfl
theorem zjl (a b c : Value) : checkBuiltinCall "zip.__new__" ⟨[.type "zip", a, b, c], []⟩ = pure () := by kernel_rfl
theorem zln (a b c d : Value) : argsOk "object.__init__" ⟨[a, b, c, d], []⟩ := by
 unfold argsOk; rw [signature?_of (id := "object.__init__") (n := ['_', '_', 't', 'i', 'n', 'i', '_', '_']) (o := ['t', 'c', 'e', 'j', 'b', 'o']) (by kernel_rfl) F.owner_object]; kernel_rfl
section
variable {prog : Program} {w : World} {A : Around} {E : Value → Shared → Prop} {s : Shared}
theorem zlP {t1 t2 : Bool} {l1 l2 : Addr} {xs ys : Array Value} {Q : Value → Shared → Prop} (h1 : SrcH t1 s.heap l1 xs) (h2 : SrcH t2 s.heap l2 ys)
  (k : ∀ h', IsZip h' (s.heap.objs.size + 4) (s.heap.objs.size + 2) (s.heap.objs.size + 3) .none → IsPair h' (s.heap.objs.size + 2) (.ref s.heap.objs.size) (.ref (s.heap.objs.size + 1)) →
   IsPair h' (s.heap.objs.size + 3) .none .none → SrcIt t1 h' s.heap.objs.size l1 0 → SrcIt t2 h' (s.heap.objs.size + 1) l2 0 →
   (∀ c o, s.heap.get? c = some o → h'.get? c = some o) → Q (.ref (s.heap.objs.size + 4)) { s with heap := h' }) : wpAny (model prog w) A (call (.type "zip") [.ref l1, .ref l2]) Q E s := by
 refine callType_new F.called_zip (by decide) (F.typeCall_zip_2 _ _) (F.newCall_zip_2 _ _) (fun obj => F.args_object_init_3 obj _ _) F.entry_zip_new (zlz t1 t2 l1 l2 xs ys) ⟨h1, h2, (?_ : _ ∧ _)⟩
 have y1 : (s.heap.push (srcO t1 l1)).objs.size = s.heap.objs.size + 1 := Heap.size_push ..
 have y2 : (z2a s.heap t1 t2 l1 l2).objs.size = s.heap.objs.size + 2 := by rw [Heap.size_push, y1]
 have y3 : (z2b s.heap t1 t2 l1 l2).objs.size = s.heap.objs.size + 3 := by rw [Heap.size_push, y2]
 have y4 : (z2c s.heap t1 t2 l1 l2).objs.size = s.heap.objs.size + 4 := by rw [Heap.size_push, y3]
 have g5 : (z2d s.heap t1 t2 l1 l2).get? (z2c s.heap t1 t2 l1 l2).objs.size = some _ := Heap.get?_push_size _ rfl
 have g4 : (z2d s.heap t1 t2 l1 l2).get? (z2b s.heap t1 t2 l1 l2).objs.size = some _ := Heap.get?_push_of_some _ (Heap.get?_push_size _ rfl)
 have g3 : (z2d s.heap t1 t2 l1 l2).get? (z2a s.heap t1 t2 l1 l2).objs.size = some _ := Heap.get?_push_of_some _ (Heap.get?_push_of_some _ (Heap.get?_push_size _ rfl))
 have g2 : (z2d s.heap t1 t2 l1 l2).get? (s.heap.push (srcO t1 l1)).objs.size = some (srcO t2 l2) := Heap.get?_push_of_some _ (Heap.get?_push_of_some _ (Heap.get?_push_of_some _ (Heap.get?_push_size _ (zfg ..))))
 have g1 : (z2d s.heap t1 t2 l1 l2).get? s.heap.objs.size = some (srcO t1 l1) := Heap.get?_push_of_some _ (Heap.get?_push_of_some _ (Heap.get?_push_of_some _ (Heap.get?_push_of_some _ (Heap.get?_push_size _ (zfg ..)))))
 rw [y2, y3, y4] at g5
 rw [y1, y2] at g3
 rw [y3] at g4
 rw [y1] at g2
 rw [y4]
 exact ⟨⟨_, g5, rfl⟩, k _ g5 g3 g4 (zgq g1) (zgq g2) fun c o x => Heap.get?_push_of_some _ (Heap.get?_push_of_some _ (Heap.get?_push_of_some _ (Heap.get?_push_of_some _ (Heap.get?_push_of_some _ x))))⟩
theorem zl8 {t1 t2 t3 : Bool} {l1 l2 l3 : Addr} {xs ys zs : Array Value} {Q : Value → Shared → Prop} (h1 : SrcH t1 s.heap l1 xs) (h2 : SrcH t2 s.heap l2 ys) (h3 : SrcH t3 s.heap l3 zs)
  (k : ∀ h', IsZip h' (s.heap.objs.size + 5) (s.heap.objs.size + 3) (s.heap.objs.size + 4) .none → ze7 h' (s.heap.objs.size + 3) (.ref s.heap.objs.size) (.ref (s.heap.objs.size + 1)) (.ref (s.heap.objs.size + 2)) →
   ze7 h' (s.heap.objs.size + 4) .none .none .none → SrcIt t1 h' s.heap.objs.size l1 0 → SrcIt t2 h' (s.heap.objs.size + 1) l2 0 → SrcIt t3 h' (s.heap.objs.size + 2) l3 0 →
   (∀ c o, s.heap.get? c = some o → h'.get? c = some o) → Q (.ref (s.heap.objs.size + 5)) { s with heap := h' }) : wpAny (model prog w) A (call (.type "zip") [.ref l1, .ref l2, .ref l3]) Q E s := by
 refine callType_new F.called_zip (by decide) (ziG _ _ _) (zjl _ _ _) (fun obj => zln obj _ _ _) F.entry_zip_new (zlh t1 t2 t3 l1 l2 l3 xs ys zs) ⟨h1, h2, h3, (?_ : _ ∧ _)⟩
 have y1 : (s.heap.push (srcO t1 l1)).objs.size = s.heap.objs.size + 1 := Heap.size_push ..
 have y2 : ((s.heap.push (srcO t1 l1)).push (srcO t2 l2)).objs.size = s.heap.objs.size + 2 := by rw [Heap.size_push, y1]
 have y3 : (z3a s.heap t1 t2 t3 l1 l2 l3).objs.size = s.heap.objs.size + 3 := by rw [Heap.size_push, y2]
 have y4 : (z3b s.heap t1 t2 t3 l1 l2 l3).objs.size = s.heap.objs.size + 4 := by rw [Heap.size_push, y3]
 have y5 : (z3c s.heap t1 t2 t3 l1 l2 l3).objs.size = s.heap.objs.size + 5 := by rw [Heap.size_push, y4]
 have g6 : (z3d s.heap t1 t2 t3 l1 l2 l3).get? (z3c s.heap t1 t2 t3 l1 l2 l3).objs.size = some _ := Heap.get?_push_size _ rfl
 have g5 : (z3d s.heap t1 t2 t3 l1 l2 l3).get? (z3b s.heap t1 t2 t3 l1 l2 l3).objs.size = some _ := Heap.get?_push_of_some _ (Heap.get?_push_size _ rfl)
 have g4 : (z3d s.heap t1 t2 t3 l1 l2 l3).get? (z3a s.heap t1 t2 t3 l1 l2 l3).objs.size = some _ := Heap.get?_push_of_some _ (Heap.get?_push_of_some _ (Heap.get?_push_size _ rfl))
 have g3 : (z3d s.heap t1 t2 t3 l1 l2 l3).get? ((s.heap.push (srcO t1 l1)).push (srcO t2 l2)).objs.size = some (srcO t3 l3) := Heap.get?_push_of_some _ (Heap.get?_push_of_some _ (Heap.get?_push_of_some _ (Heap.get?_push_size _ (zfg ..))))
 have g2 : (z3d s.heap t1 t2 t3 l1 l2 l3).get? (s.heap.push (srcO t1 l1)).objs.size = some (srcO t2 l2) := Heap.get?_push_of_some _ (Heap.get?_push_of_some _ (Heap.get?_push_of_some _ (Heap.get?_push_of_some _ (Heap.get?_push_size _ (zfg ..)))))
 have g1 : (z3d s.heap t1 t2 t3 l1 l2 l3).get? s.heap.objs.size = some (srcO t1 l1) := Heap.get?_push_of_some _ (Heap.get?_push_of_some _ (Heap.get?_push_of_some _ (Heap.get?_push_of_some _ (Heap.get?_push_of_some _ (Heap.get?_push_size _ (zfg ..))))))
 rw [y3, y4, y5] at g6
 rw [y1, y2, y3] at g4
 rw [y4] at g5
 rw [y2] at g3
 rw [y1] at g2
 rw [y5]
 exact ⟨⟨_, g6, rfl⟩, k _ g6 g4 g5 (zgq g1) (zgq g2) (zgq g3) fun c o x => Heap.get?_push_of_some _ (Heap.get?_push_of_some _ (Heap.get?_push_of_some _ (Heap.get?_push_of_some _ (Heap.get?_push_of_some _ (Heap.get?_push_of_some _ x)))))⟩
noncomputable abbrev en_ (it : Addr) : Obj := { cls := .type "enumerate", data := .fields #[.none, .bool false, .ref it, rawInt 0, .none, .none] }
theorem zlk (t : Bool) (l : Addr) (o : Obj) (xs : Array Value) : Meets (Builtin.«enumerate.__new__» ⟨[.type "enumerate", .ref l], []⟩) (fun _ R s => s.heap.get? l = some o ∧ SrcH t s.heap l xs ∧
   R (.ok (.ret (.ref (s.heap.push (srcO t l)).objs.size))) { s with heap := (s.heap.push (srcO t l)).push (en_ s.heap.objs.size) }) :=
 .of_wp fun prog w A R s h => by
  obtain ⟨hp, g, d, tk, os⟩ := s
  obtain ⟨hl, b, h⟩ := h
  have hsub := sub_enumerate
  have hL : SrcH t (Shared.heap ⟨hp, g, d, tk, os⟩) l xs := b
  wp_walk using AutoSeq1.wpAny_loadPart' hl
  refine wpAny_stack_any fun st => wpAny_pure ?_
  split
  ·rename_i c _ _ _ _ _
   cases (c == Value.type "enumerate") <;> (wp_walk using AutoSeq1.wpAny_loadPart' hl, zdA hL; exact ⟨_, rfl, h⟩)
  ·wp_walk using AutoSeq1.wpAny_loadPart' hl, zdA hL
   exact ⟨_, rfl, h⟩
theorem zm5 {t : Bool} {l : Addr} {xs : Array Value} {Q : Value → Shared → Prop} (h1 : SrcH t s.heap l xs)
  (k : ∀ h', IsEnum h' (s.heap.objs.size + 1) s.heap.objs.size 0 .none → SrcIt t h' s.heap.objs.size l 0 → (∀ b o, s.heap.get? b = some o → h'.get? b = some o) → Q (.ref (s.heap.objs.size + 1)) { s with heap := h' }) :
  wpAny (model prog w) A (call (.type "enumerate") [.ref l]) Q E s := by
 have ⟨o, ho⟩ : ∃ o, s.heap.get? l = some o := by cases t <;> (obtain ⟨o, e, -⟩ := h1; exact ⟨o, e⟩)
 refine callType_new F.called_enumerate (by decide) (F.typeCall_enumerate_1 _) (F.newCall_enumerate_1 _) (fun obj => F.args_object_init_2 obj _) F.entry_enumerate_new (zlk t l o xs) ⟨ho, h1, (?_ : _ ∧ _)⟩
 have y1 : (s.heap.push (srcO t l)).objs.size = s.heap.objs.size + 1 := Heap.size_push ..
 have g2 : ((s.heap.push (srcO t l)).push (en_ s.heap.objs.size)).get? (s.heap.push (srcO t l)).objs.size = some _ := Heap.get?_push_size _ rfl
 have g1 : ((s.heap.push (srcO t l)).push (en_ s.heap.objs.size)).get? s.heap.objs.size = some (srcO t l) := Heap.get?_push_of_some _ (Heap.get?_push_size _ (zfg ..))
 rw [y1] at g2
 rw [y1]
 exact ⟨⟨_, g2, rfl⟩, k _ g2 (zgq g1) fun b o x => Heap.get?_push_of_some _ (Heap.get?_push_of_some _ x)⟩
end
end M
set_option Elab.async false
set_option linter.all false
set_option maxRecDepth 100000
namespace M
open PySem PySem.Spec L2
open PyProof.Rows hiding St
open Sem (wp)
section
variable {X : Cx} {pins : List (Addr × Obj)} {σ : St} {H : Hp} {s : Shared}
theorem zhW {t' : Nat} {h' : Heap} {fp : List Addr} (I : Inv X pins σ H s) (k : ∀ b o, b ∉ fp → s.heap.get? b = some o → h'.get? b = some o) (hf : ∀ b ∈ fp, FpOk X pins H b) : Inv X pins σ H { s with heap := h', toks := t' } := by
 have nit : ∀ b u, H b = some u → b ∉ fp := fun b u e z => by rw [(hf b z).1] at e; cases e
 refine I.step (g' := s.gens) (d' := s.drawn) (ch := fp) (fun b hb => ?_) (fun b o _ _ hc e _ => k b o hc e) (fun b o _ _ hc e _ => ⟨o.slots, k b o hc e⟩) (fun _ _ _ _ n => n)
  (fun b o hc e => ⟨o, k b o hc e⟩) (fun _ _ e => e) (fun _ _ _ e => e) (fun b ps e => ⟨#[], by rw [e]; simp⟩) (fun m hm => ?_) (fun b u e => ?_) I.bare
 ·obtain ⟨f0, f1, f2, f3, f4, f5⟩ := hf b hb
  exact ⟨f3, f1, f4, f5⟩
 ·obtain ⟨o, es, ep, ho, r⟩ := hm
  exact ⟨o, es, ep, k _ o (fun z => (hf _ z).2.1 rfl) ho, r⟩
 ·refine (I.hok b u e).stay (fun c v hc q => k c v ?_ q) (fun _ q => q) fun _ _ q => q
  rcases hc with z | z
  ·rw [z]; exact nit b u e
  ·exact nit c _ z
theorem zkv {t' : Nat} {h' : Heap} {fp : List Addr} {vs : List V} {its : List Value} (I : Inv X pins σ H s) (k : ∀ b o, b ∉ fp → s.heap.get? b = some o → h'.get? b = some o) (hf : ∀ b ∈ fp, FpOk X pins H b) (hl : ∀ b ∈ fp, b < s.heap.objs.size)
  (hT : h'.get? s.heap.objs.size = some (tup_ its.toArray)) (hz : vs.length ≤ sizeLine) (r : Vals vs its) : Inv X pins σ (upd H s.heap.objs.size (.tup vs)) { s with heap := h', toks := t' } := by
 have I1 := I.laid (t' := s.toks) (a := s.heap.objs.size) (o := .tup vs) (h' := s.heap.push (tup_ its.toArray)) (fun b u q => Heap.get?_push_of_some _ q) (Nat.le_refl _) ⟨hz, its, r, IsTup.new _ _⟩
 refine zhW (s := { s with heap := s.heap.push (tup_ its.toArray), toks := s.toks }) (t' := t') (fp := fp) I1 (fun b o hb e => ?_) fun b hb => ?_
 ·have e' : (s.heap.push (tup_ its.toArray)).get? b = some o := e
  rcases Heap.get?_push_cases e' with ⟨rfl, rfl⟩ | q
  ·exact hT
  ·exact k b o hb q
 ·obtain ⟨f0, fr⟩ := hf b hb
  refine ⟨?_, fr⟩
  rw [zaU (Nat.ne_of_lt (hl b hb))]
  exact f0
end
noncomputable def SrcSq (t : Bool) (K : W.Frag) (H : Hp) (a : Addr) (xs : List V) : Prop := match t with
 | true => SqT K H a xs
 | false => SqL K H a xs
theorem SrcSq.heap {t : Bool} {X : Cx} {pins : List (Addr × Obj)} {σ : St} {H : Hp} {s : Shared} {a : Addr} {xs : List V} (I : Inv X pins σ H s) (h : SrcSq t X.K H a xs) : ∃ its : List Value, Vals xs its ∧ SrcH t s.heap a its.toArray ∧ xs.length ≤ sizeLine := by
 cases t
 ·obtain ⟨its, r, p, z⟩ := I.list h
  exact ⟨its, r, p.isList, z⟩
 ·obtain ⟨its, r, p, z⟩ := I.tuple h
  exact ⟨its, r, p, z⟩
theorem SrcSq.inj {t : Bool} {X : Cx} {pins : List (Addr × Obj)} {σ : St} {H : Hp} {s : Shared} {a : Addr} {xs ys : List V} (I : Inv X pins σ H s) (h : SrcSq t X.K H a xs) (h' : SrcSq t X.K H a ys) : xs = ys := by
 cases t
 ·exact I.list_inj h h'
 ·exact I.tuple_inj h h'
noncomputable def Itz2 (K : W.Frag) (t1 : Bool) (a1 : Addr) (t2 : Bool) (a2 : Addr) (n : Nat) : It where
 go := fun i H => i < n ∧ ∃ xs ys, SrcSq t1 K H a1 xs ∧ SrcSq t2 K H a2 ys ∧ n = min xs.length ys.length
 yld := fun i H x H' => ∃ p x1 x2, H p = none ∧ H' = upd H p (.tup [x1, x2]) ∧ x = .ref p ∧ ∀ xs ys, SrcSq t1 K H a1 xs → SrcSq t2 K H a2 ys → xs[i]? = some x1 ∧ ys[i]? = some x2
 stop := fun i H => n ≤ i ∧ ∃ xs ys, SrcSq t1 K H a1 xs ∧ SrcSq t2 K H a2 ys ∧ n = min xs.length ys.length
theorem nin4 {c N : Nat} (h : c ∉ ([N, N + 1, N + 2, N + 3, N + 4] : List Nat)) : c ≠ N ∧ c ≠ N + 1 ∧ c ≠ N + 3 ∧ c ≠ N + 4 := by
 simp at h
 omega
theorem nin5 {c N : Nat} (h : c ∉ ([N, N + 1, N + 2, N + 3, N + 4, N + 5] : List Nat)) : c ≠ N ∧ c ≠ N + 1 ∧ c ≠ N + 2 ∧ c ≠ N + 4 ∧ c ≠ N + 5 := by
 simp at h
 omega
theorem zmY {P : Program} {w : World} {K : W.Frag} {elts : List Expr} {ek : Nat} {ep : Pos} (t1 : Bool) (a1 : Nat) (t2 : Bool) (a2 : Nat) (n N : Nat) (l1 : a1 < N) (l2 : a2 < N) :
  Turn P w K (.Tuple elts ek ep) (Itz2 K t1 a1 t2 a2 n) ([N, N + 1, N + 2, N + 3, N + 4] : List Nat) (N + 4 : Nat)
   (fun i h => i ≤ n ∧ IsZip h (N + 4 : Nat) (N + 2 : Nat) (N + 3 : Nat) .none ∧ IsPair h (N + 2 : Nat) (.ref N) (.ref (N + 1 : Nat)) ∧ (∃ a b, IsPair h (N + 3 : Nat) a b) ∧ SrcIt t1 h N a1 i ∧ SrcIt t2 h (N + 1 : Nat) a2 i) where
 mem := by simp
 obj := fun i h st b hb => by
  obtain ⟨-, h4, h2, ⟨a, c, h3⟩, h0, h1⟩ := st
  simp only [List.mem_cons, List.not_mem_nil, or_false] at hb
  rcases hb with rfl | rfl | rfl | rfl | rfl
  ·exact h0.obj
  ·exact h1.obj
  ·exact ⟨_, h2, fun v z => by cases z⟩
  ·exact ⟨_, h3, fun v z => by cases z⟩
  ·exact ⟨_, h4, fun v z => by cases z⟩
 keep := fun i h h' st k => by
  obtain ⟨hi, h4, h2, ⟨a, c, h3⟩, h0, h1⟩ := st
  exact ⟨hi, k _ (by simp) _ h4, k _ (by simp) _ h2, ⟨a, c, k _ (by simp) _ h3⟩, h0.at fun o e => k _ (by simp) o e, h1.at fun o e => k _ (by simp) o e⟩
 item := by
  intro X hP hw hK hc i pins s σ H E I hf st hg
  subst hP hw hK
  obtain ⟨hi, h4, h2, ⟨a, c, h3⟩, h0, h1⟩ := st
  obtain ⟨hn, xs, ys, q1, q2, en⟩ := hg
  obtain ⟨us, ru, hu, zu⟩ := q1.heap I
  obtain ⟨ws, rw', hw', zw⟩ := q2.heap I
  have lu := ru.length
  have lw := rw'.length
  have D1 := zcr (prog := X.prog) (w := X.w) (A := X.A.in1) (t := t1) (I.ok.hd hc) N a1 (ne_ (by first | exact nA (by decide) | exact nB (by decide) | exact nC (by decide) | exact nL (by assumption) | exact Nat.ne_of_lt (by assumption) | omega)) us.toArray
  have D2 := zcr (prog := X.prog) (w := X.w) (A := X.A.in1) (t := t2) (I.ok.hd hc) (N + 1) a2 (ne_ (by first | exact nA (by decide) | exact nB (by decide) | exact nC (by decide) | exact nL (by assumption) | exact Nat.ne_of_lt (by assumption) | omega)) ws.toArray
  have hT : s.TypeIs (.ref (N + 4 : Nat)) "zip" := ⟨_, h4, rfl⟩
  unfold pyNext
  refine wpAny_bind (wpAny_attempt (wpAny_callSpecial?_slot (name := Str.ofString "__next__") hT F.slot_zip_next (wpAny_call_entry F.slot_zip_next hT F.entry_zip_next
   (zl2 D1 D2 l1 l2 h4 h2 h3 ⟨h0, hu⟩ ⟨h1, hw'⟩ (by simp; omega) (by simp; omega) fun x y h' tk p1 p2 g4 g3 g0 g1 gT kk => wpAny_pure ?_) (F.args_zip_next_1 _))))
  obtain ⟨x1, hx1⟩ : ∃ x1, xs[i]? = some x1 := ⟨xs[i]'(by omega), List.getElem?_eq_getElem _⟩
  obtain ⟨x2, hx2⟩ : ∃ x2, ys[i]? = some x2 := ⟨ys[i]'(by omega), List.getElem?_eq_getElem _⟩
  obtain ⟨u1, hu1, r1⟩ := ru.get hx1
  obtain ⟨u2, hu2, r2⟩ := rw'.get hx2
  have e1 : u1 = x := by
   have : us[i]? = some x := by simpa using p1
   rw [hu1] at this; cases this; rfl
  have e2 : u2 = y := by
   have : ws[i]? = some y := by simpa using p2
   rw [hu2] at this; cases this; rfl
  subst e1 e2
  refine ⟨_, rfl, wpAny_letOwnedTupleGo_zip (s := { s with heap := h', toks := tk }) g4 fun h'' g4' sb => ?_⟩
  replace sb : Heap.SameBut (N + 4 : Nat) h' h'' := sb
  have lz : N + 4 < s.heap.objs.size := Heap.lt_size h4
  have kk' : ∀ b o, b ∉ ([N, N + 1, N + 2, N + 3, N + 4] : List Nat) → s.heap.get? b = some o → h''.get? b = some o := fun b o hb e => by
   obtain ⟨c1, c2, c3, c4⟩ := nin4 hb
   exact (sb.2 b c4).trans (kk b o c1 c2 c3 c4 e)
  have I1 := zkv (t' := tk) (vs := [x1, x2]) (its := [u1, u2]) I kk' hf (fun b hb => by
   have : b = N ∨ b = N + 1 ∨ b = N + 2 ∨ b = N + 3 ∨ b = N + 4 := by simpa using hb
   exact Nat.lt_of_le_of_lt (show (b : Nat) ≤ N + 4 by rcases this with h | h | h | h | h <;> rw [h] <;> simp) lz) ((sb.2 _ (ne_ (by first | exact nA (by decide) | exact nB (by decide) | exact nC (by decide) | exact nL (by assumption) | exact Nat.ne_of_lt (by assumption) | omega))).trans gT) (by simp; rw [sizeLine_eq]; decide) (.cons r1 (.cons r2 .nil))
  refine ⟨.ref s.heap.objs.size, _, I1, rfl, ⟨_, x1, x2, I.hok.fresh (Nat.le_refl _), rfl, rfl, fun xs' ys' b1 b2 => ?_⟩, ⟨hn, g4', (sb.2 _ (ne_ (by first | exact nA (by decide) | exact nB (by decide) | exact nC (by decide) | exact nL (by assumption) | exact Nat.ne_of_lt (by assumption) | omega))).trans (kk _ _ (ne_ (by first | exact nA (by decide) | exact nB (by decide) | exact nC (by decide) | exact nL (by assumption) | exact Nat.ne_of_lt (by assumption) | omega)) (ne_ (by first | exact nA (by decide) | exact nB (by decide) | exact nC (by decide) | exact nL (by assumption) | exact Nat.ne_of_lt (by assumption) | omega)) (ne_ (by first | exact nA (by decide) | exact nB (by decide) | exact nC (by decide) | exact nL (by assumption) | exact Nat.ne_of_lt (by assumption) | omega)) (ne_ (by first | exact nA (by decide) | exact nB (by decide) | exact nC (by decide) | exact nL (by assumption) | exact Nat.ne_of_lt (by assumption) | omega)) h2), ⟨_, _, (sb.2 _ (ne_ (by first | exact nA (by decide) | exact nB (by decide) | exact nC (by decide) | exact nL (by assumption) | exact Nat.ne_of_lt (by assumption) | omega))).trans g3⟩, SrcIt.at g0.1 fun o e => (sb.2 _ (ne_ (by first | exact nA (by decide) | exact nB (by decide) | exact nC (by decide) | exact nL (by assumption) | exact Nat.ne_of_lt (by assumption) | omega))).trans e, SrcIt.at g1.1 fun o e => (sb.2 _ (ne_ (by first | exact nA (by decide) | exact nB (by decide) | exact nC (by decide) | exact nL (by assumption) | exact Nat.ne_of_lt (by assumption) | omega))).trans e⟩, fun b hb => ?_⟩
  ·rw [SrcSq.inj I b1 q1, SrcSq.inj I b2 q2]
   exact ⟨hx1, hx2⟩
  ·have : b = N ∨ b = N + 1 ∨ b = N + 2 ∨ b = N + 3 ∨ b = N + 4 := by simpa using hb
   rw [zaU (Nat.ne_of_lt (Nat.lt_of_le_of_lt (show (b : Nat) ≤ N + 4 by rcases this with h | h | h | h | h <;> rw [h] <;> simp) lz))]
   exact (hf b hb).1
 done := by
  intro X hP hw hK hc i pins s σ H E I hf st hg
  subst hP hw hK
  obtain ⟨hi, h4, h2, ⟨a, c, h3⟩, h0, h1⟩ := st
  obtain ⟨hn, xs, ys, q1, q2, en⟩ := hg
  obtain ⟨us, ru, hu, zu⟩ := q1.heap I
  obtain ⟨ws, rw', hw', zw⟩ := q2.heap I
  have lu := ru.length
  have lw := rw'.length
  have D1 := zcr (prog := X.prog) (w := X.w) (A := X.A.in1) (t := t1) (I.ok.hd hc) N a1 (ne_ (by first | exact nA (by decide) | exact nB (by decide) | exact nC (by decide) | exact nL (by assumption) | exact Nat.ne_of_lt (by assumption) | omega)) us.toArray
  have D2 := zcr (prog := X.prog) (w := X.w) (A := X.A.in1) (t := t2) (I.ok.hd hc) (N + 1) a2 (ne_ (by first | exact nA (by decide) | exact nB (by decide) | exact nC (by decide) | exact nL (by assumption) | exact Nat.ne_of_lt (by assumption) | omega)) ws.toArray
  have hT : s.TypeIs (.ref (N + 4 : Nat)) "zip" := ⟨_, h4, rfl⟩
  unfold pyNext
  refine wpAny_bind (wpAny_attempt (wpAny_callSpecial?_slot (name := Str.ofString "__next__") hT F.slot_zip_next (wpAny_call_entry F.slot_zip_next hT F.entry_zip_next
   (zip2_end D1 D2 l1 l2 h4 h2 h3 ⟨h0, hu⟩ ⟨h1, hw'⟩ (by simp; omega) fun h' e tk kk he => ?_) (F.args_zip_next_1 _))))
  obtain ⟨o, ho, hce⟩ := he
  refine wpAny_bind (wpAny_isInstance (T := "StopIteration") (b := true) ⟨o, ho, hce⟩ isSubtype_stop (wpAny_pure ⟨rfl, zhW I (fun b o hb e => ?_) hf⟩))
  obtain ⟨c1, c2, c3, c4⟩ := nin4 hb
  exact kk b o c1 c2 c3 c4 e
 self := fun _ _ _ _ _ st h => wpAny_pyIter_zip st.2.1 h
noncomputable def Itz3 (K : W.Frag) (t1 : Bool) (a1 : Addr) (t2 : Bool) (a2 : Addr) (t3 : Bool) (a3 : Addr) (n : Nat) : It where
 go := fun i H => i < n ∧ ∃ xs ys zs, SrcSq t1 K H a1 xs ∧ SrcSq t2 K H a2 ys ∧ SrcSq t3 K H a3 zs ∧ n = min xs.length (min ys.length zs.length)
 yld := fun i H x H' => ∃ p x1 x2 x3, H p = none ∧ H' = upd H p (.tup [x1, x2, x3]) ∧ x = .ref p ∧ ∀ xs ys zs, SrcSq t1 K H a1 xs → SrcSq t2 K H a2 ys → SrcSq t3 K H a3 zs → xs[i]? = some x1 ∧ ys[i]? = some x2 ∧ zs[i]? = some x3
 stop := fun i H => n ≤ i ∧ ∃ xs ys zs, SrcSq t1 K H a1 xs ∧ SrcSq t2 K H a2 ys ∧ SrcSq t3 K H a3 zs ∧ n = min xs.length (min ys.length zs.length)
theorem zm1 {P : Program} {w : World} {K : W.Frag} {elts : List Expr} {ek : Nat} {ep : Pos} (t1 : Bool) (a1 : Nat) (t2 : Bool) (a2 : Nat) (t3 : Bool) (a3 : Nat) (n N : Nat) (l1 : a1 < N) (l2 : a2 < N) (l3 : a3 < N) :
  Turn P w K (.Tuple elts ek ep) (Itz3 K t1 a1 t2 a2 t3 a3 n) ([N, N + 1, N + 2, N + 3, N + 4, N + 5] : List Nat) (N + 5 : Nat)
   (fun i h => i ≤ n ∧ IsZip h (N + 5 : Nat) (N + 3 : Nat) (N + 4 : Nat) .none ∧ ze7 h (N + 3 : Nat) (.ref N) (.ref (N + 1 : Nat)) (.ref (N + 2 : Nat)) ∧ (∃ a b c, ze7 h (N + 4 : Nat) a b c) ∧ SrcIt t1 h N a1 i ∧ SrcIt t2 h (N + 1 : Nat) a2 i ∧ SrcIt t3 h (N + 2 : Nat) a3 i) where
 mem := by simp
 obj := fun i h st b hb => by
  obtain ⟨-, h5, h3, ⟨a, c, d, h4⟩, h0, h1, h2⟩ := st
  simp only [List.mem_cons, List.not_mem_nil, or_false] at hb
  rcases hb with rfl | rfl | rfl | rfl | rfl | rfl
  ·exact h0.obj
  ·exact h1.obj
  ·exact h2.obj
  ·exact ⟨_, h3, fun v z => by cases z⟩
  ·exact ⟨_, h4, fun v z => by cases z⟩
  ·exact ⟨_, h5, fun v z => by cases z⟩
 keep := fun i h h' st k => by
  obtain ⟨hi, h5, h3, ⟨a, c, d, h4⟩, h0, h1, h2⟩ := st
  exact ⟨hi, k _ (by simp) _ h5, k _ (by simp) _ h3, ⟨a, c, d, k _ (by simp) _ h4⟩, h0.at fun o e => k _ (by simp) o e, h1.at fun o e => k _ (by simp) o e, h2.at fun o e => k _ (by simp) o e⟩
 item := by
  intro X hP hw hK hc i pins s σ H E I hf st hg
  subst hP hw hK
  obtain ⟨hi, h5, h3, ⟨a, c, d, h4⟩, h0, h1, h2⟩ := st
  obtain ⟨hn, xs, ys, zs, q1, q2, q3, en⟩ := hg
  obtain ⟨us, ru, hu, zu⟩ := q1.heap I
  obtain ⟨ws, rw', hw', zw⟩ := q2.heap I
  obtain ⟨os, ro, ho', zo⟩ := q3.heap I
  have lu := ru.length
  have lw := rw'.length
  have lo := ro.length
  have D1 := zcr (prog := X.prog) (w := X.w) (A := X.A.in1) (t := t1) (I.ok.hd hc) N a1 (ne_ (by first | exact nA (by decide) | exact nB (by decide) | exact nC (by decide) | exact nL (by assumption) | exact Nat.ne_of_lt (by assumption) | omega)) us.toArray
  have D2 := zcr (prog := X.prog) (w := X.w) (A := X.A.in1) (t := t2) (I.ok.hd hc) (N + 1) a2 (ne_ (by first | exact nA (by decide) | exact nB (by decide) | exact nC (by decide) | exact nL (by assumption) | exact Nat.ne_of_lt (by assumption) | omega)) ws.toArray
  have D3 := zcr (prog := X.prog) (w := X.w) (A := X.A.in1) (t := t3) (I.ok.hd hc) (N + 2) a3 (ne_ (by first | exact nA (by decide) | exact nB (by decide) | exact nC (by decide) | exact nL (by assumption) | exact Nat.ne_of_lt (by assumption) | omega)) os.toArray
  have hT : s.TypeIs (.ref (N + 5 : Nat)) "zip" := ⟨_, h5, rfl⟩
  unfold pyNext
  refine wpAny_bind (wpAny_attempt (wpAny_callSpecial?_slot (name := Str.ofString "__next__") hT F.slot_zip_next (wpAny_call_entry F.slot_zip_next hT F.entry_zip_next
   (zmW D1 D2 D3 l1 l2 l3 h5 h3 h4 ⟨h0, hu⟩ ⟨h1, hw'⟩ ⟨h2, ho'⟩ (by simp; omega) (by simp; omega) (by simp; omega) fun x y z h' tk p1 p2 p3 g5 g4 g0 g1 g2 gT kk => wpAny_pure ?_) (F.args_zip_next_1 _))))
  obtain ⟨x1, hx1⟩ : ∃ x1, xs[i]? = some x1 := ⟨xs[i]'(by omega), List.getElem?_eq_getElem _⟩
  obtain ⟨x2, hx2⟩ : ∃ x2, ys[i]? = some x2 := ⟨ys[i]'(by omega), List.getElem?_eq_getElem _⟩
  obtain ⟨x3, hx3⟩ : ∃ x3, zs[i]? = some x3 := ⟨zs[i]'(by omega), List.getElem?_eq_getElem _⟩
  obtain ⟨u1, hu1, r1⟩ := ru.get hx1
  obtain ⟨u2, hu2, r2⟩ := rw'.get hx2
  obtain ⟨u3, hu3, r3⟩ := ro.get hx3
  have e1 : u1 = x := by
   have : us[i]? = some x := by simpa using p1
   rw [hu1] at this; cases this; rfl
  have e2 : u2 = y := by
   have : ws[i]? = some y := by simpa using p2
   rw [hu2] at this; cases this; rfl
  have e3 : u3 = z := by
   have : os[i]? = some z := by simpa using p3
   rw [hu3] at this; cases this; rfl
  subst e1 e2 e3
  refine ⟨_, rfl, wpAny_letOwnedTupleGo_zip (s := { s with heap := h', toks := tk }) g5 fun h'' g5' sb => ?_⟩
  replace sb : Heap.SameBut (N + 5 : Nat) h' h'' := sb
  have lz : N + 5 < s.heap.objs.size := Heap.lt_size h5
  have kk' : ∀ b o, b ∉ ([N, N + 1, N + 2, N + 3, N + 4, N + 5] : List Nat) → s.heap.get? b = some o → h''.get? b = some o := fun b o hb e => by
   obtain ⟨c1, c2, c3, c4, c5⟩ := nin5 hb
   exact (sb.2 b c5).trans (kk b o c1 c2 c3 c4 c5 e)
  have I1 := zkv (t' := tk) (vs := [x1, x2, x3]) (its := [u1, u2, u3]) I kk' hf (fun b hb => by
   have : b = N ∨ b = N + 1 ∨ b = N + 2 ∨ b = N + 3 ∨ b = N + 4 ∨ b = N + 5 := by simpa using hb
   exact Nat.lt_of_le_of_lt (show (b : Nat) ≤ N + 5 by rcases this with h | h | h | h | h | h <;> rw [h] <;> simp) lz) ((sb.2 _ (ne_ (by first | exact nA (by decide) | exact nB (by decide) | exact nC (by decide) | exact nL (by assumption) | exact Nat.ne_of_lt (by assumption) | omega))).trans gT) (by simp; rw [sizeLine_eq]; decide) (.cons r1 (.cons r2 (.cons r3 .nil)))
  refine ⟨.ref s.heap.objs.size, _, I1, rfl, ⟨_, x1, x2, x3, I.hok.fresh (Nat.le_refl _), rfl, rfl, fun xs' ys' zs' b1 b2 b3 => ?_⟩, ⟨hn, g5', (sb.2 _ (ne_ (by first | exact nA (by decide) | exact nB (by decide) | exact nC (by decide) | exact nL (by assumption) | exact Nat.ne_of_lt (by assumption) | omega))).trans (kk _ _ (ne_ (by first | exact nA (by decide) | exact nB (by decide) | exact nC (by decide) | exact nL (by assumption) | exact Nat.ne_of_lt (by assumption) | omega)) (ne_ (by first | exact nA (by decide) | exact nB (by decide) | exact nC (by decide) | exact nL (by assumption) | exact Nat.ne_of_lt (by assumption) | omega)) (ne_ (by first | exact nA (by decide) | exact nB (by decide) | exact nC (by decide) | exact nL (by assumption) | exact Nat.ne_of_lt (by assumption) | omega)) (ne_ (by first | exact nA (by decide) | exact nB (by decide) | exact nC (by decide) | exact nL (by assumption) | exact Nat.ne_of_lt (by assumption) | omega)) (ne_ (by first | exact nA (by decide) | exact nB (by decide) | exact nC (by decide) | exact nL (by assumption) | exact Nat.ne_of_lt (by assumption) | omega)) h3), ⟨_, _, _, (sb.2 _ (ne_ (by first | exact nA (by decide) | exact nB (by decide) | exact nC (by decide) | exact nL (by assumption) | exact Nat.ne_of_lt (by assumption) | omega))).trans g4⟩, SrcIt.at g0.1 fun o e => (sb.2 _ (ne_ (by first | exact nA (by decide) | exact nB (by decide) | exact nC (by decide) | exact nL (by assumption) | exact Nat.ne_of_lt (by assumption) | omega))).trans e, SrcIt.at g1.1 fun o e => (sb.2 _ (ne_ (by first | exact nA (by decide) | exact nB (by decide) | exact nC (by decide) | exact nL (by assumption) | exact Nat.ne_of_lt (by assumption) | omega))).trans e, SrcIt.at g2.1 fun o e => (sb.2 _ (ne_ (by first | exact nA (by decide) | exact nB (by decide) | exact nC (by decide) | exact nL (by assumption) | exact Nat.ne_of_lt (by assumption) | omega))).trans e⟩, fun b hb => ?_⟩
  ·rw [SrcSq.inj I b1 q1, SrcSq.inj I b2 q2, SrcSq.inj I b3 q3]
   exact ⟨hx1, hx2, hx3⟩
  ·have : b = N ∨ b = N + 1 ∨ b = N + 2 ∨ b = N + 3 ∨ b = N + 4 ∨ b = N + 5 := by simpa using hb
   rw [zaU (Nat.ne_of_lt (Nat.lt_of_le_of_lt (show (b : Nat) ≤ N + 5 by rcases this with h | h | h | h | h | h <;> rw [h] <;> simp) lz))]
   exact (hf b hb).1
 done := by
  intro X hP hw hK hc i pins s σ H E I hf st hg
  subst hP hw hK
  obtain ⟨hi, h5, h3, ⟨a, c, d, h4⟩, h0, h1, h2⟩ := st
  obtain ⟨hn, xs, ys, zs, q1, q2, q3, en⟩ := hg
  obtain ⟨us, ru, hu, zu⟩ := q1.heap I
  obtain ⟨ws, rw', hw', zw⟩ := q2.heap I
  obtain ⟨os, ro, ho', zo⟩ := q3.heap I
  have lu := ru.length
  have lw := rw'.length
  have lo := ro.length
  have D1 := zcr (prog := X.prog) (w := X.w) (A := X.A.in1) (t := t1) (I.ok.hd hc) N a1 (ne_ (by first | exact nA (by decide) | exact nB (by decide) | exact nC (by decide) | exact nL (by assumption) | exact Nat.ne_of_lt (by assumption) | omega)) us.toArray
  have D2 := zcr (prog := X.prog) (w := X.w) (A := X.A.in1) (t := t2) (I.ok.hd hc) (N + 1) a2 (ne_ (by first | exact nA (by decide) | exact nB (by decide) | exact nC (by decide) | exact nL (by assumption) | exact Nat.ne_of_lt (by assumption) | omega)) ws.toArray
  have D3 := zcr (prog := X.prog) (w := X.w) (A := X.A.in1) (t := t3) (I.ok.hd hc) (N + 2) a3 (ne_ (by first | exact nA (by decide) | exact nB (by decide) | exact nC (by decide) | exact nL (by assumption) | exact Nat.ne_of_lt (by assumption) | omega)) os.toArray
  have hT : s.TypeIs (.ref (N + 5 : Nat)) "zip" := ⟨_, h5, rfl⟩
  unfold pyNext
  refine wpAny_bind (wpAny_attempt (wpAny_callSpecial?_slot (name := Str.ofString "__next__") hT F.slot_zip_next (wpAny_call_entry F.slot_zip_next hT F.entry_zip_next
   (zip3_end D1 D2 D3 l1 l2 l3 h5 h3 h4 ⟨h0, hu⟩ ⟨h1, hw'⟩ ⟨h2, ho'⟩ (by simp; omega) fun h' e tk kk he => ?_) (F.args_zip_next_1 _))))
  obtain ⟨o, ho, hce⟩ := he
  refine wpAny_bind (wpAny_isInstance (T := "StopIteration") (b := true) ⟨o, ho, hce⟩ isSubtype_stop (wpAny_pure ⟨rfl, zhW I (fun b o hb e => ?_) hf⟩))
  obtain ⟨c1, c2, c3, c4, c5⟩ := nin5 hb
  exact kk b o c1 c2 c3 c4 c5 e
 self := fun _ _ _ _ _ st h => wpAny_pyIter_zip st.2.1 h
noncomputable def Ite (K : W.Frag) (t1 : Bool) (a1 : Addr) (n : Nat) : It where
 go := fun i H => i < n ∧ ∃ xs, SrcSq t1 K H a1 xs ∧ n = xs.length
 yld := fun i H x H' => ∃ p x1, H p = none ∧ H' = upd H p (.tup [.int i, x1]) ∧ x = .ref p ∧ ∀ xs, SrcSq t1 K H a1 xs → xs[i]? = some x1
 stop := fun i H => n ≤ i ∧ ∃ xs, SrcSq t1 K H a1 xs ∧ n = xs.length
theorem zmU {P : Program} {w : World} {K : W.Frag} {elts : List Expr} {ek : Nat} {ep : Pos} (t1 : Bool) (a1 : Nat) (n N : Nat) (l1 : a1 < N) :
  Turn P w K (.Tuple elts ek ep) (Ite K t1 a1 n) ([N + 1, N] : List Nat) (N + 1 : Nat) (fun i h => i ≤ n ∧ (∃ old, IsEnum h (N + 1 : Nat) N i old) ∧ SrcIt t1 h N a1 i) where
 mem := by simp
 obj := fun i h st b hb => by
  obtain ⟨-, ⟨old, h1⟩, h0⟩ := st
  simp only [List.mem_cons, List.not_mem_nil, or_false] at hb
  rcases hb with rfl | rfl
  ·exact ⟨_, h1, fun v z => by cases z⟩
  ·exact h0.obj
 keep := fun i h h' st k => by
  obtain ⟨hi, ⟨old, h1⟩, h0⟩ := st
  exact ⟨hi, ⟨old, k _ (by simp) _ h1⟩, h0.at fun o e => k _ (by simp) o e⟩
 item := by
  intro X hP hw hK hc i pins s σ H E I hf st hg
  subst hP hw hK
  obtain ⟨hi, ⟨old, h1⟩, h0⟩ := st
  obtain ⟨hn, xs, q1, en⟩ := hg
  obtain ⟨us, ru, hu, zu⟩ := q1.heap I
  have lu := ru.length
  have D1 := zcr (prog := X.prog) (w := X.w) (A := X.A.in1) (t := t1) (I.ok.hd hc) N a1 (ne_ (by first | exact nA (by decide) | exact nB (by decide) | exact nC (by decide) | exact nL (by assumption) | exact Nat.ne_of_lt (by assumption) | omega)) us.toArray
  refine wpAny_pyNext_enum_itemD D1 h1 ⟨h0, hu⟩ (by simp; omega) (ne_ (by first | exact nA (by decide) | exact nB (by decide) | exact nC (by decide) | exact nL (by assumption) | exact Nat.ne_of_lt (by assumption) | omega)) (fun z => nin2 (z := N + 1) z (by omega) (by omega) rfl) fun x h' tk p1 ho g0 gT gz kk => ?_
  obtain ⟨x1, hx1⟩ : ∃ x1, xs[i]? = some x1 := ⟨xs[i]'(by omega), List.getElem?_eq_getElem _⟩
  obtain ⟨u1, hu1, r1⟩ := ru.get hx1
  have e1 : u1 = x := by
   have : us[i]? = some x := by simpa using p1
   rw [hu1] at this; cases this; rfl
  subst e1
  refine ⟨_, rfl, wpAny_letOwnedTupleGo_enum (s := { s with heap := h', toks := tk + 1 }) ho fun h'' he' sb => ?_⟩
  replace sb : Heap.SameBut (N + 1 : Nat) h' h'' := sb
  have lz : N + 1 < s.heap.objs.size := Heap.lt_size h1
  have kk' : ∀ b o, b ∉ ([N + 1, N] : List Nat) → s.heap.get? b = some o → h''.get? b = some o := fun b o hb e =>
   (sb.2 b fun z => hb (by simp [z])).trans (kk b o (fun z => hb (by simp [z])) (fun z => hb (by simp [z])) e)
  have I1 := zkv (t' := tk + 1) (vs := [.int i, x1]) (its := [.int i tk, u1]) I kk' hf (fun b hb => by
   have : b = N + 1 ∨ b = N := by simpa using hb
   exact Nat.lt_of_le_of_lt (show (b : Nat) ≤ N + 1 by rcases this with h | h <;> rw [h] <;> simp) lz) ((sb.2 _ (ne_ (by first | exact nA (by decide) | exact nB (by decide) | exact nC (by decide) | exact nL (by assumption) | exact Nat.ne_of_lt (by assumption) | omega))).trans gT) (by simp; rw [sizeLine_eq]; decide) (.cons ⟨_, rfl⟩ (.cons r1 .nil))
  refine ⟨.ref s.heap.objs.size, _, I1, rfl, ⟨_, x1, I.hok.fresh (Nat.le_refl _), rfl, rfl, fun xs' b1 => ?_⟩, ⟨hn, ⟨_, by simpa using he'⟩, SrcIt.at g0.1 fun o e => (sb.2 _ (ne_ (by first | exact nA (by decide) | exact nB (by decide) | exact nC (by decide) | exact nL (by assumption) | exact Nat.ne_of_lt (by assumption) | omega))).trans e⟩, fun b hb => ?_⟩
  ·rw [SrcSq.inj I b1 q1]
   exact hx1
  ·have : b = N + 1 ∨ b = N := by simpa using hb
   rw [zaU (Nat.ne_of_lt (Nat.lt_of_le_of_lt (show (b : Nat) ≤ N + 1 by rcases this with h | h <;> rw [h] <;> simp) lz))]
   exact (hf b hb).1
 done := by
  intro X hP hw hK hc i pins s σ H E I hf st hg
  subst hP hw hK
  obtain ⟨hi, ⟨old, h1⟩, h0⟩ := st
  obtain ⟨hn, xs, q1, en⟩ := hg
  obtain ⟨us, ru, hu, zu⟩ := q1.heap I
  have lu := ru.length
  have D1 := zcr (prog := X.prog) (w := X.w) (A := X.A.in1) (t := t1) (I.ok.hd hc) N a1 (ne_ (by first | exact nA (by decide) | exact nB (by decide) | exact nC (by decide) | exact nL (by assumption) | exact Nat.ne_of_lt (by assumption) | omega)) us.toArray
  have W := WalksT.enumerateD D1 (N + 1 : Nat) (ne_ (by first | exact nA (by decide) | exact nB (by decide) | exact nC (by decide) | exact nL (by assumption) | exact Nat.ne_of_lt (by assumption) | omega)) (fun z => nin2 (z := N + 1) z (by omega) (by omega) rfl) (by simp)
  have ei : i = us.toArray.size := by simp; omega
  subst ei
  exact W.done s _ _ ⟨⟨old, h1⟩, h0, hu⟩ fun h' tk kk => ⟨rfl, zhW I kk hf⟩
 self := fun _ _ _ _ _ st h => by
  obtain ⟨hi, ⟨old, h1⟩, h0⟩ := st
  exact wpAny_pyIter_enum h1 h
theorem zkS : bootBuiltins "zip" = some (.type "zip") := by decide +kernel
theorem zhy : bootBuiltins "enumerate" = some (.type "enumerate") := by decide +kernel
section
variable {X : Cx} {elts : List Expr} {ek : Nat} {ep : Pos}
theorem pi_zip2 {a b : Expr} {ta : TA} {p pos : Pos} (hg : Gl X "zip") (hm : X.mg "zip" = none) (ha : PA X [a, b] ta) (hs : starEach [a, b] X.env = (false, eval a X.env) :: starEach [b] X.env := by rfl) (hs2 : (backTo pos (starEach [b] X.env)).any (·.1) = false := by rfl) :
  PI X (.Tuple elts ek ep) (.Call (.Name "zip" p) [a, b] [] pos) (fun σ H R => ta σ H fun vs H1 => ∃ t1 a1 xs t2 a2 ys, vs = [.ref a1, .ref a2] ∧ SrcSq t1 X.K H1 a1 xs ∧ SrcSq t2 X.K H1 a2 ys ∧ R (Itz2 X.K t1 a1 t2 a2 (min xs.length ys.length)) H1) := by
 intro pins s σ H R I h
 refine Call_ (zgc I hg hm zkS (PyProof.Rows.callWith_type1 (thn (ha pos pins s σ H _ I h) fun us s1 ⟨vs, H1, I1, r1, q1⟩ => ?_) hs hs2))
 obtain ⟨t1, a1, xs, t2, a2, ys, e, q1, q2, q⟩ := q1
 subst e
 cases r1 with
 | cons r rr =>
  cases rr with
  | cons r' rr =>
   cases rr
   cases r
   cases r'
   obtain ⟨us, ru, hu, -⟩ := q1.heap I1
   obtain ⟨ws, rw', hw', -⟩ := q2.heap I1
   refine zlP hu hw' fun h' g4 g2 g3 g0 g1 kk => wpAny_pyIter_zip g4 ⟨_, _, _, _, H1, rfl, I1.kept (t' := s1.toks) kk, zmY t1 a1 t2 a2 (min xs.length ys.length) s1.heap.objs.size hu.lt hw'.lt, ⟨Nat.zero_le _, g4, g2, ⟨_, _, g3⟩, g0, g1⟩, fun b hb => ?_, q⟩
   have : b = s1.heap.objs.size ∨ b = s1.heap.objs.size + 1 ∨ b = s1.heap.objs.size + 2 ∨ b = s1.heap.objs.size + 3 ∨ b = s1.heap.objs.size + 4 := by simpa using hb
   have le : s1.heap.objs.size ≤ b := by rcases this with h | h | h | h | h <;> rw [h] <;> simp
   exact I1.fpOk le (I1.hok.fresh le)
theorem pi_zip3 {a b c : Expr} {ta : TA} {p pos : Pos} (hg : Gl X "zip") (hm : X.mg "zip" = none) (ha : PA X [a, b, c] ta) (hs : starEach [a, b, c] X.env = (false, eval a X.env) :: starEach [b, c] X.env := by rfl) (hs2 : (backTo pos (starEach [b, c] X.env)).any (·.1) = false := by rfl) :
  PI X (.Tuple elts ek ep) (.Call (.Name "zip" p) [a, b, c] [] pos) (fun σ H R => ta σ H fun vs H1 => ∃ t1 a1 xs t2 a2 ys t3 a3 zs, vs = [.ref a1, .ref a2, .ref a3] ∧ SrcSq t1 X.K H1 a1 xs ∧ SrcSq t2 X.K H1 a2 ys ∧ SrcSq t3 X.K H1 a3 zs ∧ R (Itz3 X.K t1 a1 t2 a2 t3 a3 (min xs.length (min ys.length zs.length))) H1) := by
 intro pins s σ H R I h
 refine Call_ (zgc I hg hm zkS (PyProof.Rows.callWith_type1 (thn (ha pos pins s σ H _ I h) fun us s1 ⟨vs, H1, I1, r1, q1⟩ => ?_) hs hs2))
 obtain ⟨t1, a1, xs, t2, a2, ys, t3, a3, zs, e, q1, q2, q3, q⟩ := q1
 subst e
 cases r1 with
 | cons r rr =>
  cases rr with
  | cons r' rr =>
   cases rr with
   | cons r'' rr =>
    cases rr
    cases r
    cases r'
    cases r''
    obtain ⟨us, ru, hu, -⟩ := q1.heap I1
    obtain ⟨ws, rw', hw', -⟩ := q2.heap I1
    obtain ⟨os, ro, ho', -⟩ := q3.heap I1
    refine zl8 hu hw' ho' fun h' g5 g3 g4 g0 g1 g2 kk => wpAny_pyIter_zip g5 ⟨_, _, _, _, H1, rfl, I1.kept (t' := s1.toks) kk, zm1 t1 a1 t2 a2 t3 a3 (min xs.length (min ys.length zs.length)) s1.heap.objs.size hu.lt hw'.lt ho'.lt, ⟨Nat.zero_le _, g5, g3, ⟨_, _, _, g4⟩, g0, g1, g2⟩, fun b hb => ?_, q⟩
    have : b = s1.heap.objs.size ∨ b = s1.heap.objs.size + 1 ∨ b = s1.heap.objs.size + 2 ∨ b = s1.heap.objs.size + 3 ∨ b = s1.heap.objs.size + 4 ∨ b = s1.heap.objs.size + 5 := by simpa using hb
    have le : s1.heap.objs.size ≤ b := by rcases this with h | h | h | h | h | h <;> rw [h] <;> simp
    exact I1.fpOk le (I1.hok.fresh le)
theorem pi_enum {a : Expr} {ta : TA} {p pos : Pos} (hg : Gl X "enumerate") (hm : X.mg "enumerate" = none) (ha : PA X [a] ta) (hs : starEach [a] X.env = (false, eval a X.env) :: starEach [] X.env := by rfl) (hs2 : (backTo pos (starEach [] X.env)).any (·.1) = false := by rfl) :
  PI X (.Tuple elts ek ep) (.Call (.Name "enumerate" p) [a] [] pos) (fun σ H R => ta σ H fun vs H1 => ∃ t1 a1 xs, vs = [.ref a1] ∧ SrcSq t1 X.K H1 a1 xs ∧ R (Ite X.K t1 a1 xs.length) H1) := by
 intro pins s σ H R I h
 refine Call_ (zgc I hg hm zhy (PyProof.Rows.callWith_type1 (thn (ha pos pins s σ H _ I h) fun us s1 ⟨vs, H1, I1, r1, q1⟩ => ?_) hs hs2))
 obtain ⟨t1, a1, xs, e, q1, q⟩ := q1
 subst e
 cases r1 with
 | cons r rr =>
  cases rr
  cases r
  obtain ⟨us, ru, hu, -⟩ := q1.heap I1
  refine zm5 hu fun h' g1 g0 kk => wpAny_pyIter_enum g1 ⟨_, _, _, _, H1, rfl, I1.kept (t' := s1.toks) kk, zmU t1 a1 xs.length s1.heap.objs.size hu.lt, ⟨Nat.zero_le _, ⟨_, g1⟩, g0⟩, fun b hb => ?_, q⟩
  have : b = s1.heap.objs.size + 1 ∨ b = s1.heap.objs.size := by simpa using hb
  have le : s1.heap.objs.size ≤ b := by rcases this with h | h <;> rw [h] <;> simp
  exact I1.fpOk le (I1.hok.fresh le)
end
theorem zhP {K : W.Frag} {G : Hp} {x : V} {d : D} {es : List D} (r : RepD K G x d) (e : za7 [d] = some es) : ∃ t a xs, x = .ref a ∧ (∀ H, Fz G H → SrcSq t K H a xs) ∧ RepL K G xs es := by
 cases d <;> simp only [za7] at e <;> try cases e
 ·obtain ⟨a, xs, rfl, ha, r⟩ := r
  exact ⟨false, a, xs, rfl, fun H f => SqL.of (f _ _ ha), r⟩
 ·obtain ⟨a, xs, rfl, ha, r⟩ := r
  exact ⟨true, a, xs, rfl, fun H f => SqT.of (f _ _ ha), r⟩
 ·obtain ⟨a, rfl, ha⟩ := r
  exact ⟨false, a, _, rfl, fun H f => f.sql ha, RepL.ints _⟩
noncomputable def zkd (xs ys : List D) : List D := List.zipWith (fun x y => D.tup [x, y]) xs ys
noncomputable def zkr (xs ys zs : List D) : List D := List.zipWith (fun x (p : D × D) => D.tup [x, p.1, p.2]) xs (List.zip ys zs)
noncomputable def zj3 (xs : List D) : List D := List.zipWith (fun x (i : Nat) => D.tup [.int i, x]) xs (List.range xs.length)
noncomputable def iZ2 (ma : MA) : MA := fun ρ => (ma ρ).bind fun p => match p.1 with
 | [a, b] => (za7 [a]).bind fun xs => (za7 [b]).bind fun ys => some (zkd xs ys, p.2)
 | _ => none
noncomputable def iZ3 (ma : MA) : MA := fun ρ => (ma ρ).bind fun p => match p.1 with
 | [a, b, c] => (za7 [a]).bind fun xs => (za7 [b]).bind fun ys => (za7 [c]).bind fun zs => some (zkr xs ys zs, p.2)
 | _ => none
noncomputable def iEn (ma : MA) : MA := fun ρ => (ma ρ).bind fun p => (za7 p.1).map fun xs => (zj3 xs, p.2)
theorem it_zip2 {X : Cx} {elts : List Expr} {ek : Nat} {ep : Pos} {a b : Expr} {ma : MA} {p pos : Pos} (hm : X.mg "zip" = none) (ha : SA X [a, b] ma) (hg : Gl X "zip" := by rfl) (hs : starEach [a, b] X.env = (false, eval a X.env) :: starEach [b] X.env := by rfl) (hs2 : (backTo pos (starEach [b] X.env)).any (·.1) = false := by rfl) :
  SIt X (.Tuple elts ek ep) (.Call (.Name "zip" p) [a, b] [] pos) (iZ2 ma) := by
 obtain ⟨t, pa, sa⟩ := ha
 refine ⟨_, pi_zip2 hg hm pa hs hs2, fun B G H σ ρ ds ρ' Q I hm k => ?_⟩
 obtain ⟨⟨es, ρ1⟩, e1, h2⟩ := zal hm
 dsimp only at h2
 refine sa B G H σ ρ es ρ1 _ I e1 fun G1 H1 vs I1 f1 r1 => ?_
 split at h2
 ·obtain ⟨xs, ex, h2⟩ := zal h2
  obtain ⟨ys, ey, h2⟩ := zal h2
  cases h2
  obtain ⟨x, y, rfl, rx, ry⟩ := r1.two
  obtain ⟨t1, a1, us, rfl, s1, c1⟩ := zhP rx ex
  obtain ⟨t2, a2, ws, rfl, s2, c2⟩ := zhP ry ey
  have n1 := c1.length
  have n2 := c2.length
  refine ⟨t1, a1, us, t2, a2, ws, rfl, s1 _ I1.fz, s2 _ I1.fz, k _ G1 H1 I1 f1 ⟨fun H i f hi => ?_, fun H i x H' f y d e => ?_, fun H i f hi => ?_⟩⟩
  ·exact ⟨by simp [zkd] at hi; omega, us, ws, s1 _ f, s2 _ f, rfl⟩
  ·obtain ⟨p, x1, x2, hp, eh, ex', q⟩ := y
   obtain ⟨q1, q2⟩ := q us ws (s1 _ f) (s2 _ f)
   simp only [zkd, List.getElem?_zipWith] at e
   split at e
   ·rename_i d1 d2 g1 g2
    cases e
    obtain ⟨v1, b1, r1⟩ := c1.get g1
    obtain ⟨v2, b2, r2⟩ := c2.get g2
    rw [q1] at b1; cases b1
    rw [q2] at b2; cases b2
    exact .inr ⟨p, _, _, hp, eh, ex', rfl, ⟨_, _, rfl, r1, _, _, rfl, r2, rfl⟩⟩
   ·cases e
  ·exact ⟨by simp [zkd] at hi; omega, us, ws, s1 _ f, s2 _ f, rfl⟩
 ·cases h2
theorem it_zip3 {X : Cx} {elts : List Expr} {ek : Nat} {ep : Pos} {a b c : Expr} {ma : MA} {p pos : Pos} (hm : X.mg "zip" = none) (ha : SA X [a, b, c] ma) (hg : Gl X "zip" := by rfl) (hs : starEach [a, b, c] X.env = (false, eval a X.env) :: starEach [b, c] X.env := by rfl) (hs2 : (backTo pos (starEach [b, c] X.env)).any (·.1) = false := by rfl) :
  SIt X (.Tuple elts ek ep) (.Call (.Name "zip" p) [a, b, c] [] pos) (iZ3 ma) := by
 obtain ⟨t, pa, sa⟩ := ha
 refine ⟨_, pi_zip3 hg hm pa hs hs2, fun B G H σ ρ ds ρ' Q I hm k => ?_⟩
 obtain ⟨⟨es, ρ1⟩, e1, h2⟩ := zal hm
 dsimp only at h2
 refine sa B G H σ ρ es ρ1 _ I e1 fun G1 H1 vs I1 f1 r1 => ?_
 split at h2
 ·obtain ⟨xs, ex, h2⟩ := zal h2
  obtain ⟨ys, ey, h2⟩ := zal h2
  obtain ⟨zs, ez, h2⟩ := zal h2
  cases h2
  obtain ⟨x, us, rfl, rx, r2⟩ := r1
  obtain ⟨y, ws, rfl, ry, r3⟩ := r2
  obtain ⟨z, os, rfl, rz, r4⟩ := r3
  cases (show os = [] from r4)
  obtain ⟨t1, a1, us, rfl, s1, c1⟩ := zhP rx ex
  obtain ⟨t2, a2, ws, rfl, s2, c2⟩ := zhP ry ey
  obtain ⟨t3, a3, os, rfl, s3, c3⟩ := zhP rz ez
  have n1 := c1.length
  have n2 := c2.length
  have n3 := c3.length
  refine ⟨t1, a1, us, t2, a2, ws, t3, a3, os, rfl, s1 _ I1.fz, s2 _ I1.fz, s3 _ I1.fz, k _ G1 H1 I1 f1 ⟨fun H i f hi => ?_, fun H i x H' f y d e => ?_, fun H i f hi => ?_⟩⟩
  ·exact ⟨by simp [zkr] at hi; omega, us, ws, os, s1 _ f, s2 _ f, s3 _ f, rfl⟩
  ·obtain ⟨p, x1, x2, x3, hp, eh, ex', q⟩ := y
   obtain ⟨q1, q2, q3⟩ := q us ws os (s1 _ f) (s2 _ f) (s3 _ f)
   simp only [zkr, List.zip, List.getElem?_zipWith] at e
   have hi : i < us.length ∧ i < ws.length ∧ i < os.length := ⟨(List.getElem?_eq_some_iff.mp q1).1, (List.getElem?_eq_some_iff.mp q2).1, (List.getElem?_eq_some_iff.mp q3).1⟩
   have g1 : xs[i]? = some (xs[i]'(by omega)) := List.getElem?_eq_getElem _
   have g2 : ys[i]? = some (ys[i]'(by omega)) := List.getElem?_eq_getElem _
   have g3 : zs[i]? = some (zs[i]'(by omega)) := List.getElem?_eq_getElem _
   rw [g1, g2, g3] at e
   cases e
   obtain ⟨v1, b1, r1⟩ := c1.get g1
   obtain ⟨v2, b2, r2⟩ := c2.get g2
   obtain ⟨v3, b3, r3⟩ := c3.get g3
   rw [q1] at b1; cases b1
   rw [q2] at b2; cases b2
   rw [q3] at b3; cases b3
   exact .inr ⟨p, _, _, hp, eh, ex', rfl, ⟨_, _, rfl, r1, _, _, rfl, r2, _, _, rfl, r3, rfl⟩⟩
  ·exact ⟨by simp [zkr] at hi; omega, us, ws, os, s1 _ f, s2 _ f, s3 _ f, rfl⟩
 ·cases h2
theorem zfr {X : Cx} {elts : List Expr} {ek : Nat} {ep : Pos} {a : Expr} {ma : MA} {p pos : Pos} (hm : X.mg "enumerate" = none) (ha : SA X [a] ma) (hg : Gl X "enumerate" := by rfl) (hs : starEach [a] X.env = (false, eval a X.env) :: starEach [] X.env := by rfl) (hs2 : (backTo pos (starEach [] X.env)).any (·.1) = false := by rfl) :
  SIt X (.Tuple elts ek ep) (.Call (.Name "enumerate" p) [a] [] pos) (iEn ma) := by
 obtain ⟨t, pa, sa⟩ := ha
 refine ⟨_, pi_enum hg hm pa hs hs2, fun B G H σ ρ ds ρ' Q I hm k => ?_⟩
 obtain ⟨⟨es, ρ1⟩, e1, h2⟩ := zal hm
 obtain ⟨xs, ex, h2⟩ := za8 h2
 cases h2
 refine sa B G H σ ρ es ρ1 _ I e1 fun G1 H1 vs I1 f1 r1 => ?_
 match es, ex, r1 with
 | [], ex, _ => cases ex
 | _ :: _ :: _, ex, _ => exact absurd ex (by simp [za7])
 | [d], ex, r1 =>
  obtain ⟨x, rfl, rx⟩ := r1.one
  obtain ⟨t1, a1, us, rfl, s1, c1⟩ := zhP rx ex
  have n1 := c1.length
  refine ⟨t1, a1, us, rfl, s1 _ I1.fz, k _ G1 H1 I1 f1 ⟨fun H i f hi => ?_, fun H i x H' f y d e => ?_, fun H i f hi => ?_⟩⟩
  ·exact ⟨by simp [zj3] at hi; omega, us, s1 _ f, rfl⟩
  ·obtain ⟨p, x1, hp, eh, ex', q⟩ := y
   have q1 := q us (s1 _ f)
   have hi : i < us.length := (List.getElem?_eq_some_iff.mp q1).1
   have g1 : xs[i]? = some (xs[i]'(by omega)) := List.getElem?_eq_getElem _
   simp only [zj3, List.getElem?_zipWith] at e
   rw [g1, show (List.range xs.length)[i]? = some i from by rw [List.getElem?_range (by omega)]] at e
   cases e
   obtain ⟨v1, b1, r1⟩ := c1.get g1
   rw [q1] at b1; cases b1
   exact .inr ⟨p, _, _, hp, eh, ex', rfl, ⟨_, _, rfl, rfl, _, _, rfl, r1, rfl⟩⟩
  ·exact ⟨by simp [zj3] at hi; omega, us, s1 _ f, rfl⟩
end M
set_option Elab.async false
set_option linter.all false
set_option maxRecDepth 100000
namespace M
open PySem PySem.Spec L2
open PyProof.Rows hiding St
section
variable {X : Cx} {k1 k2 : Nat} {f g : Addr} {fd1 fd2 : FuncData} {ps1 ps2 : List Str} {sp1 sp2 : Sp} {x y : Str} {p1 p2 pl pb pos : Pos} {b e : Expr} {es : List Expr} {tb : TE} {t : TA}
end
noncomputable def ePick (F1 F2 : List D → Option Sl) (mi : ME) (ma : MA) : ME := fun ρ => (mi ρ).bind fun p => match p.1 with
 | .int i => if i = 0 then zbH F1 ma p.2 else if i = 1 then zbH F2 ma p.2 else none
 | _ => none
noncomputable def oPick (F1 F2 : List D → Option Sl) (mi : ME) (ma : MA) : MO := fun ρ => (mi ρ).bind fun p => match p.1 with
 | .int i => if i = 0 then zhX F1 ma p.2 else if i = 1 then zhX F2 ma p.2 else none
 | _ => none
section
variable {X : Cx} {k1 k2 k' n : Nat} {F1 F2 : List D → Option Sl} {x y : Str} {p1 p2 pl pb pos : Pos} {b e : Expr} {es : List Expr} {mi : ME} {ma : MA} {F : List D → Option Sl} {t : TA}
end
end M
set_option Elab.async false
set_option linter.all false
set_option maxRecDepth 100000
namespace M
open PySem PySem.Spec L2
open PyProof.Rows hiding St
noncomputable def isN : D → Bool
 | .non => true
 | _ => false
noncomputable def dIsN : D → D → Option D
 | a, .non => some (.bl (isN a))
 | _, _ => none
noncomputable def dNotN : D → D → Option D
 | a, .non => some (.bl (!isN a))
 | _, _ => none
section
variable {X : Cx} {a b : Expr} {ma mb : ME} {pos : Pos}
end
theorem zmq {X : Cx} {a : Expr} {ma : MA} {p q pos pos' : Pos} (ml : X.mg "list" = none) (mr : X.mg "range" = none) (ha : SA X [a] ma) (hc : X.calm = true := by rfl) (hg : Gl X "list" := by rfl) (hgr : Gl X "range" := by rfl)
  (he : starEach [a] X.env = (false, eval a X.env) :: starEach [] X.env := by rfl) (hpl : (backTo pos' (starEach [] X.env)).any (·.1) = false := by rfl)
  (he2 : starEach [.Call (.Name "range" q) [a] [] pos'] X.env = (false, eval (.Call (.Name "range" q) [a] [] pos') X.env) :: starEach [] X.env := by rfl) :
  SO X (.Call (.Name "list" p) [.Call (.Name "range" q) [a] [] pos'] [] pos) (oR (iR1 ma)) := by
 obtain ⟨t, pa, sa⟩ := ha
 refine ⟨_, zfo (zlu hc) hg ml (by decide +kernel) (zfD (zfo zl1 hgr mr (by decide +kernel) pa (by decide) (by decide) he hpl) zhK he2) (by decide) (by decide) he2 rfl, fun B G H σ ρ ds ρ' Q I hm k => ?_⟩
 obtain ⟨⟨items, ρ1⟩, e1, hm⟩ := zal hm
 obtain ⟨⟨es, ρ2⟩, e2, h2⟩ := zal e1
 dsimp only at hm h2
 split at hm
 ·rename_i hlen
  obtain ⟨rfl, rfl⟩ := Prod.mk.inj (Option.some.inj hm)
  refine sa B G H σ ρ es ρ2 _ I e2 fun G1 H1 vs I1 f1 r1 => ?_
  split at h2
  ·rename_i j
   split at h2
   ·rename_i hj
    obtain ⟨rfl, rfl⟩ := Prod.mk.inj (Option.some.inj h2)
    obtain ⟨x, rfl, rx⟩ := r1.one
    cases (show x = V.int j from rx)
    refine ⟨j, rfl, fun p hp => ⟨p, 0, j, rfl, za4, ⟨by decide, by decide, (zdj hj).1, (zdj hj).2⟩, by simpa [zdY] using hlen, fun l hl => ?_⟩⟩
    have I2 := I1.allocO hp (.rng 0 j)
    have ej : (j - 0).toNat = j.toNat := by rw [Int.sub_zero]
    rw [ej] at *
    obtain ⟨I3, g3, h3, b3, n3⟩ := I2.newO hl ((List.range j.toNat).map fun (k : Nat) => V.int (0 + k))
    exact k G1 _ l _ I3 f1 g3 h3 (zls 0 _) b3 n3
   ·cases h2
  ·cases h2
 ·cases hm
end M
set_option Elab.async false
set_option linter.all false
set_option maxRecDepth 100000
namespace M
open PySem PySem.Spec L2
open PyProof.Rows hiding St
noncomputable def zj5 (b : Nat) (ρ : R) : Bool := match ρ[b]? with
 | some (.par _) => zga (ρ.set b .emp)
 | _ => false
noncomputable def zmS (b : Nat) (ρ : R) : List D := match ρ[b]? with
 | some (.par cs) => cs
 | _ => []
noncomputable def zlo (b : Nat) (g : D → R → Option R) (mt : MT) (me : ME) : D → R → Option (Option D × R) := fun d ρ => (g d ρ).bind fun ρ1 => (mt ρ1).bind fun p => if p.1 then (me p.2).bind fun q => if zj5 b q.2 then some (some q.1, q.2) else none else if zj5 b p.2 then some (none, p.2) else none
noncomputable def oLCM (cap : List Nat) (t b w : Nat) (mi : MA) (g : D → R → Option R) (mt : MT) (me : ME) : MO := fun ρ => (mi ρ).bind fun p => if p.1.length ≤ 16777216 then
    ((fzL (cap.filter (· != w)) p.2)[w]?).bind fun s => s.items.bind fun cs => (zft (zlo b g mt me) p.1 ((capR cap t (fzL (cap.filter (· != w)) p.2)).set b (.par cs))).map fun q => (q.1, (fzL (cap.filter (· != w)) p.2).set w (s.put (zmS b q.2)))
  else none
theorem VS.setEmp {K : W.Frag} {G : Hp} {σ : St} {ρ : R} (h : VS K G σ ρ) (b : Nat) : VS K G σ (ρ.set b .emp) where
 len := by rw [List.length_set]; exact h.len
 no := by
  have h0 := h.no
  unfold zga at *
  rw [List.all_eq_true] at *
  intro s hs
  rcases List.mem_or_eq_of_mem_set hs with z | z
  ·exact h0 s z
  ·rw [z]
 val := fun i d e => by
  rw [List.getElem?_set] at e
  split at e
  ·split at e
   ·cases e
   ·cases e
  ·exact h.val i d e
theorem VS.siP {K : W.Frag} {G H : Hp} {σ : St} {ρ : R} {b : Nat} {cs : List D} {l : Addr} {ys : List V} (h : VS K G σ (ρ.set b .emp)) (fz : Fz G H) (hb : ρ[b]? = some (.par cs)) (hs : σ[b]? = some (some (.ref l))) (gl : G l = none) (hl : H l = some (.lst ys)) (r : RepL K G ys cs) : SI K ⟨G, H, [(b, l)]⟩ G H σ ρ where
 fz := fz
 g0 := Fz.refl G
 new := fun b o e => .inl (by show G b ≠ none; rw [e]; simp)
 keep := fun b o e _ => e
 there := fun b e => e
 len := by rw [h.len, List.length_set]
 slot := fun i s e => by
  by_cases z : i = b
  ·subst z
   rw [hb] at e; cases e
   exact ⟨l, ys, hs, gl, hl, r, by simp⟩
  ·have e' : (ρ.set b .emp)[i]? = some s := by rw [List.getElem?_set_ne (Ne.symm z)]; exact e
   cases s with
   | emp => trivial
   | two _ _ => trivial
   | val d => exact h.val i d e'
   | own ds => exact absurd ⟨_, ds, e', rfl⟩ (zfT h.no (i := i))
   | par ds => exact absurd ⟨_, ds, e', rfl⟩ (zfT h.no (i := i))
 dis := fun i j hij hi hj => by
  have key : ∀ i, Wr ρ i → i = b := fun i hi => by
   obtain ⟨s, ds, e, q⟩ := hi
   by_cases z : i = b
   ·exact z
   ·exact absurd ⟨s, ds, by rw [List.getElem?_set_ne (Ne.symm z)]; exact e, q⟩ (zfT h.no (i := i))
  exact absurd ((key i hi).trans (key j hj).symm) hij
theorem VS.ofP {K : W.Frag} {B : Bs} {G H : Hp} {σ : St} {ρ : R} {b : Nat} {l : Addr} (I : SI K B G H σ ρ) (hO : B.O = [(b, l)]) (h : zj5 b ρ = true) : ∃ cs ys, ρ[b]? = some (.par cs) ∧ σ[b]? = some (some (.ref l)) ∧ G l = none ∧ H l = some (.lst ys) ∧ RepL K G ys cs ∧ VS K G σ (ρ.set b .emp) := by
 unfold zj5 at h
 split at h
 ·rename_i cs e
  obtain ⟨l', ys, h1, h2, h3, h4, h5⟩ := I.slot b _ e
  have hl : l' = l := by rw [hO] at h5; simpa using h5
  subst hl
  refine ⟨cs, ys, e, h1, h2, h3, h4, ⟨by rw [List.length_set]; exact I.len, h, fun i d e' => ?_⟩⟩
  rw [List.getElem?_set] at e'
  split at e'
  ·split at e'
   ·cases e'
   ·cases e'
  ·exact I.slot i _ e'
 ·cases h
structure LcP (K : W.Frag) (bk : Nat) (g : D → R → Option R) (mt : MT) (me : ME) (items all : List D) (ρf : R) (G2 H1 : Hp) (DD l : Addr) (i : Nat) (σc : St) (Hc Gc : Hp) (ρc : R) (acc : List D) (xs : List V) (rest cs : List D) (ys : List V) : Prop where
 fc : Fz G2 Gc
 fcH : Fz Gc Hc
 nw : ∀ b o, Gc b = some o → G2 b ≠ none ∨ H1 b = none
 kp : ∀ b o, b ≠ l → H1 b = some o → Hc b = some o
 gD : Gc DD = none
 hDc : Hc DD = some (.lst xs)
 ra : RepL K Gc xs acc
 hx : xs.length ≤ i
 eb : ρc[bk]? = some (.par cs)
 sb : σc[bk]? = some (some (.ref l))
 glc : Gc l = none
 hlc : Hc l = some (.lst ys)
 rlc : RepL K Gc ys cs
 vs : VS K Gc σc (ρc.set bk .emp)
 ec : zft (zlo bk g mt me) (items.drop i) ρc = some (rest, ρf)
 eall : all = acc ++ rest
section
variable {X : Cx} {elt iter tg : Expr} {ifs : List Expr} {scope : Scope} {pos : Pos} {N : List Str} {cap : List Nat} {t bk wk : Nat} {mi : MA} {g : D → R → Option R} {mt : MT} {me : ME}
theorem zjB (hbw : cap[bk]? = some wk) {wi : TI} {tg' : Addr → Shared → Hp → List Addr → TG} {tt : Addr → Shared → Hp → List Addr → TT} {te : Addr → Shared → Hp → List Addr → TE}
    (si : ∀ B G H σ ρ ds ρ' (Q : It → Hp → Prop), SI X.K B G H σ ρ → mi ρ = some (ds, ρ') → (∀ J G' H', SI X.K B G' H' σ ρ' → Fz G G' → Itm X.K J G' ds → Q J H') → wi σ H Q)
    (sg : ∀ C s H₀ fp B G H σ ρ v d ρ' (Q : St → Hp → Prop), SI X.K B G H σ ρ → RepD X.K G v d → g d ρ = some ρ' → (∀ G' H' σ', SI X.K B G' H' σ' ρ' → Fz G G' → Q σ' H') → tg' C s H₀ fp v σ H Q)
    (st : ∀ C s H₀ fp B G H σ ρ d ρ' (Q : Bool → Hp → Prop), SI X.K B G H σ ρ → mt ρ = some (d, ρ') → (∀ G' H', SI X.K B G' H' σ ρ' → Fz G G' → Q d H') → tt C s H₀ fp σ H Q)
    (se : ∀ C s H₀ fp B G H σ ρ d ρ' (Q : VK), SI X.K B G H σ ρ → me ρ = some (d, ρ') → (∀ G' H' v, SI X.K B G' H' σ ρ' → Fz G G' → RepD X.K G' v d → Q v H') → te C s H₀ fp σ H Q) :
    ∀ B G H σ ρ ds ρ' (Q : VK), SI X.K B G H σ ρ → oLCM cap t bk wk mi g mt me ρ = some (ds, ρ') →
      (∀ G' H' l xs, SI X.K B G' H' σ ρ' → Fz G G' → G' l = none → H' l = some (.lst xs) → RepL X.K G' xs ds → B.H l = none → (∀ i, Wr ρ' i → σ[i]? ≠ some (some (.ref l))) → Q (.ref l) H') → tLC (capσ cap t) wi tg' tt te σ H Q := by
  intro B G H σ ρ ds ρ' Q I hm k
  obtain ⟨⟨items, ρ1⟩, e1, hm⟩ := zal hm
  refine si B G H σ ρ items ρ1 _ I e1 fun J G1 H1 I1 f1 IT DD hD => ?_
  dsimp only at hm
  split at hm
  · rename_i hlen
    obtain ⟨sw, ew, hm⟩ := zal hm
    obtain ⟨cs0, qw, hm⟩ := zal hm
    obtain ⟨⟨all, ρf⟩, e2, e3⟩ := za8 hm
    obtain ⟨rfl, rfl⟩ := Prod.mk.inj e3
    obtain ⟨G2, I2, f2⟩ := SI.fzL (cap.filter (· != wk)) I1
    have hDG : G2 DD = none := I2.fz.free hD
    obtain ⟨l, ys0, hσ, gl0, hl0, rl0⟩ := I2.wr ew qw
    have hlD : DD ≠ l := (za1 hl0 hD).symm
    have hb : bk < cap.length := (List.getElem?_eq_some_iff.mp hbw).1
    have hbe : cap[bk] = wk := (List.getElem?_eq_some_iff.mp hbw).2
    have hσb : (capσ cap t σ)[bk]? = some (some (.ref l)) := by
      unfold capσ
      rw [List.getElem?_append_left (by simpa using hb), List.getElem?_map, List.getElem?_eq_getElem hb, hbe]
      simp [hσ]
    have hcl : bk < (capR cap t (M.fzL (cap.filter (· != wk)) ρ1)).length := by unfold capR; simp; omega
    refine ⟨fun i m σc Hc => m = items.length - i ∧ i ≤ items.length ∧ ∃ Gc ρc acc xs rest cs ys, LcP X.K bk g mt me items all ρf G2 H1 DD l i σc Hc Gc ρc acc xs rest cs ys,
      ⟨items.length, by simp, Nat.zero_le _, G2, (capR cap t (M.fzL (cap.filter (· != wk)) ρ1)).set bk (.par cs0), [], [], all, cs0, ys0, { fc := Fz.refl _, fcH := I2.fz.right hDG _, nw := fun b o e => .inl (by rw [e]; simp), kp := fun b o _ e => by rw [zaU (za1 e hD)]; exact e, gD := hDG, hDc := za4, ra := .nil, hx := Nat.le_refl _, eb := by rw [List.getElem?_set]; simp [hcl], sb := hσb, glc := gl0, hlc := by rw [zaU (za1 hl0 hD)]; exact hl0, rlc := rl0, vs := by rw [List.set_set]; exact (cap_vs I2 cap t).setEmp bk, ec := by simpa using e2, eall := rfl }⟩, ?_⟩
    rintro i m σc Hc ⟨rfl, hi, Gc, ρc, acc, xs, rest, cs, ys, J0⟩
    obtain ⟨fc, fcH, nw, kp, gD, hDc, ra, hx, eb, sb, glc, hlc, rlc, vs, ec, eall⟩ := J0
    by_cases hlt : i < items.length
    · refine .inr ⟨IT.go Hc i (f2.trans (fc.trans fcH)) hlt, fun C s₀ H₀ fp x H' y => ?_⟩
      rw [List.drop_eq_getElem_cons hlt] at ec
      simp only [zft] at ec
      obtain ⟨⟨o, ρ3⟩, h3, ec⟩ := zal ec
      obtain ⟨⟨rest2, ρ4⟩, h4, ec⟩ := za8 ec
      obtain ⟨rfl, rfl⟩ := Prod.mk.inj ec
      dsimp only at h4
      unfold zlo at h3
      obtain ⟨ρ5, h5, h3⟩ := zal h3
      obtain ⟨⟨ok, ρ6⟩, h6, h3⟩ := zal h3
      dsimp only at h3
      have Ic : SI X.K ⟨Gc, Hc, [(bk, l)]⟩ Gc Hc σc ρc := vs.siP fcH eb sb glc hlc rlc
      have fz2 : Fz G1 Hc := f2.trans (fc.trans fcH)
      have yy := IT.yld Hc i x H' fz2 y items[i] (List.getElem?_eq_getElem hlt)
      have yy2 : (H' = Hc ∧ RepD X.K Gc x items[i]) ∨ ∃ p xs es, Hc p = none ∧ H' = upd Hc p (.tup xs) ∧ x = .ref p ∧ items[i] = .tup es ∧ RepL X.K Gc xs es := by
        rcases yy with ⟨a, b⟩ | ⟨p, xs, es, a, b, c, d, e⟩
        · exact .inl ⟨a, b.mono (f2.trans fc)⟩
        · exact .inr ⟨p, xs, es, a, b, c, d, e.mono (f2.trans fc)⟩
      obtain ⟨G3, I3, f3, r3⟩ := Ic.yld yy2
      refine sg C s₀ H₀ fp _ G3 H' σc ρc x items[i] ρ5 _ I3 r3 h5 fun G4 H4 σ4 I4 f4 => st C s₀ H₀ fp _ G4 H4 σ4 ρ5 ok ρ6 _ I4 h6 fun G5 H5 I5 f5 => ?_
      have facts : ∀ (G' H' : Hp) (σ' : St) (ρ' : R), SI X.K ⟨Gc, Hc, [(bk, l)]⟩ G' H' σ' ρ' → (∀ b o, G' b = some o → G2 b ≠ none ∨ H1 b = none) ∧ (∀ b o, b ≠ l → H1 b = some o → H' b = some o) ∧ G' DD = none ∧ H' DD = some (.lst xs) := fun G' H' σ' ρ' I' => by
        refine ⟨fun b o e => ?_, fun b o ne e => I'.keep b o (kp b o ne e) (by simp; exact ne), ?_, I'.keep DD _ hDc (by simp; exact hlD)⟩
        · rcases I'.new b o e with h | h
          · have h : Gc b ≠ none := h
            cases q : Gc b with
            | none => exact absurd q h
            | some u => exact nw b u q
          · refine .inr ?_
            cases q : H1 b with
            | none => rfl
            | some u =>
              have hn : Hc b = none := h
              have nb : b ≠ l := fun z => by rw [z, hlc] at hn; cases hn
              have := kp b u nb q
              rw [hn] at this; cases this
        · cases q : G' DD with
          | none => rfl
          | some u =>
            rcases I'.new DD u q with h | h
            · exact absurd gD h
            · rw [show Hc DD = none from h] at hDc; cases hDc
      cases ok with
      | false =>
        simp only [Bool.false_eq_true, if_false] at h3
        split at h3
        · rename_i hno
          cases h3
          obtain ⟨a1, a2, a3, a4⟩ := facts G5 H5 σ4 _ I5
          obtain ⟨cs', ys', w1, w2, w3, w4, w5, w6⟩ := VS.ofP I5 rfl hno
          exact ⟨items.length - (i + 1), by omega, rfl, hlt, G5, _, acc, xs, rest2, cs', ys', { fc := fc.trans (f3.trans (f4.trans f5)), fcH := I5.fz, nw := a1, kp := a2, gD := a3, hDc := a4, ra := ra.mono (f3.trans (f4.trans f5)), hx := by omega, eb := w1, sb := w2, glc := w3, hlc := w4, rlc := w5, vs := w6, ec := h4, eall := by simpa using eall }⟩
        · cases h3
      | true =>
        simp only [if_true] at h3 ⊢
        obtain ⟨⟨dv, ρ7⟩, h7, h3⟩ := zal h3
        dsimp only at h3
        split at h3
        · rename_i hno
          cases h3
          refine se C s₀ H₀ fp _ G5 H5 σ4 ρ6 dv _ _ I5 h7 fun G6 H6 v I6 f6 r6 => ?_
          obtain ⟨a1, a2, a3, a4⟩ := facts G6 H6 σ4 _ I6
          obtain ⟨cs', ys', w1, w2, w3, w4, w5, w6⟩ := VS.ofP I6 rfl hno
          have ff : Fz Gc G6 := f3.trans (f4.trans (f5.trans f6))
          exact ⟨xs, a4, by rw [sizeLine_eq]; omega, items.length - (i + 1), by omega, rfl, hlt, G6, _, acc ++ [dv], xs ++ [v], rest2, cs', ys', { fc := fc.trans ff, fcH := I6.fz.right a3 _, nw := a1, kp := fun b o ne e => by rw [zaU (za1 e hD)]; exact a2 b o ne e, gD := a3, hDc := za4, ra := (ra.mono ff).snoc r6, hx := by rw [List.length_append, List.length_singleton]; omega, eb := w1, sb := w2, glc := w3, hlc := by rw [zaU (Ne.symm hlD)]; exact w4, rlc := w5, vs := w6, ec := h4, eall := by rw [eall]; simp }⟩
        · cases h3
    · have e : i = items.length := by omega
      subst e
      rw [List.drop_length] at ec
      obtain ⟨rfl, rfl⟩ := Prod.mk.inj (Option.some.inj ec)
      have hall : all = acc := by rw [eall, List.append_nil]
      refine .inl ⟨IT.stop Hc _ (f2.trans (fc.trans fcH)) (Nat.le_refl _), ?_⟩
      rw [← hall] at ra
      have hp : zmS bk ρc = cs := by unfold zmS; rw [eb]
      rw [hp] at k
      exact k Gc Hc DD xs (I2.growW ew qw hσ fc fcH nw kp glc hlc rlc) (f1.trans (f2.trans fc)) gD hDc ra (I2.there DD hD) (fun i w => I2.own_ne hD i (wr_put ew qw w))
  · cases hm
theorem so_lcM (cap : List Nat) (t bk wk : Nat) (N : List Str) (hc : X.calm = true) (hi : SIt X tg iter mi) (hg : ∀ C s H fp, SG (cxC X N scope C s H fp) tg g) (ht : ∀ C s H fp, STs (cxC X N scope C s H fp) ifs mt) (he : ∀ C s H fp, SE (cxC X N scope C s H fp) elt me) (hbw : cap[bk]? = some wk := by rfl)
    (hk : scope.kind = .function := by rfl) (hb : blkB X.env scope = true := by kernel_rfl) (hcap : capB scope.names N X.N cap t = true := by kernel_rfl)
    (hs : ∀ x, foldedSetIterable iter X.env x = pure x := by exact fun _ => rfl) : SO X (.ListComp elt [⟨tg, iter, ifs, 0⟩] scope pos) (oLCM cap t bk wk mi g mt me) := by
  obtain ⟨wi, pi, si⟩ := hi
  exact ⟨_, pe_lc hc (zkz hk hb) (zkI hcap) pi (fun C s H fp => (hg C s H fp).choose_spec.1) (fun C s H fp => (ht C s H fp).choose_spec.1) (fun C s H fp => (he C s H fp).choose_spec.1) hs,
    zjB hbw si (fun C s H fp => (hg C s H fp).choose_spec.2) (fun C s H fp => (ht C s H fp).choose_spec.2) (fun C s H fp => (he C s H fp).choose_spec.2)⟩
theorem zmG (i : Nat) {x : Str} {lpos pos' : Pos} (cap : List Nat) (t bk wk : Nat) (N : List Str) (hc : X.calm = true) (hi : SIt X tg iter mi) (hg : ∀ C s H fp, SG (cxC X N scope C s H fp) tg g) (ht : ∀ C s H fp, STs (cxC X N scope C s H fp) ifs mt) (he : ∀ C s H fp, SE (cxC X N scope C s H fp) elt me) (hN : X.N.Nodup) (hbw : cap[bk]? = some wk := by rfl)
    (hxi : X.N[i]? = some x := by rfl) (hx : Loc X.env.scope x := by first | exact Or.inl rfl | exact Or.inr rfl) (hf : X.fn x = true ∨ X.env.scope.names.lookup x = some .local := by first | exact Or.inl rfl | exact Or.inr rfl)
    (hsw : swapsWith (.ListComp elt [⟨tg, iter, ifs, 0⟩] scope lpos) (some (.Name x pos')) pos.line X.env = pure true := by rfl)
    (hk : scope.kind = .function := by rfl) (hb : blkB X.env scope = true := by kernel_rfl) (hcap : capB scope.names N X.N cap t = true := by kernel_rfl)
    (hs : ∀ x, foldedSetIterable iter X.env x = pure x := by exact fun _ => rfl) : SS X (.Assign [.Name x pos'] (.ListComp elt [⟨tg, iter, ifs, 0⟩] scope lpos) pos) (zfn i (oLCM cap t bk wk mi g mt me)) := by
  obtain ⟨wi, pi, si⟩ := hi
  refine ⟨_, zkR hN hxi hx hf hsw hc (zkz hk hb) (zkI hcap) pi (fun C s H fp => (hg C s H fp).choose_spec.1) (fun C s H fp => (ht C s H fp).choose_spec.1) (fun C s H fp => (he C s H fp).choose_spec.1) hs, fun B G H σ ρ fl ρ' E I hm k => ?_⟩
  obtain ⟨⟨d, ρ1⟩, e1, e3⟩ := za8 hm
  obtain ⟨rfl, rfl⟩ := Prod.mk.inj e3
  exact zjB hbw si (fun C s H fp => (hg C s H fp).choose_spec.2) (fun C s H fp => (ht C s H fp).choose_spec.2) (fun C s H fp => (he C s H fp).choose_spec.2) B G H σ ρ d ρ1 _ I e1 fun G1 H1 l xs I1 f1 g1 h1 r1 b1 n1 => k G1 H1 _ (I1.setO g1 h1 r1 b1 n1) f1
end
end M
set_option Elab.async false
set_option linter.all false
set_option maxRecDepth 100000
namespace M
open PySem PySem.Spec L2
open PyProof.Rows hiding St
noncomputable def dIsB : D → D → Option D
 | .bl a, .bl b => some (.bl (a == b))
 | _, _ => none
noncomputable def dNotB : D → D → Option D
 | .bl a, .bl b => some (.bl (a != b))
 | _, _ => none
section
variable {X : Cx}
variable {a b : Expr} {ma mb : ME} {pos : Pos}
end
end M
set_option Elab.async false
set_option linter.all false
set_option maxRecDepth 100000
namespace M
open PySem PySem.Spec L2
open PyProof.Rows hiding St
noncomputable def rngP (p : Addr) (i j k : Int) (h : Heap) : Prop := ∃ t u v, h.get? p = some { cls := .type "range", data := .fields #[.int i t, .int j u, .int k v] }
noncomputable def rRng3 : List V → Hp → VK → Prop := fun xs H Q => ∃ i j k, xs = [.int i, .int j, .int k] ∧ (0 < k ∧ k < 1073741824) ∧ ∀ p, H p = none → Q (.ref p) (upd H p (.ext (rngP p i j k)))
theorem zlL {X : Cx} : zfe X (.type "range") rRng3 := by
 intro pins s σ H xs us Q I r h
 obtain ⟨i, j, k, rfl, ⟨hk, hk'⟩, q⟩ := h
 cases r with
 | cons r rr =>
  cases rr with
  | cons r' rr =>
   cases rr with
   | cons r'' rr =>
    cases rr
    obtain ⟨t, rfl⟩ := r
    obtain ⟨t', rfl⟩ := r'
    obtain ⟨t'', rfl⟩ := r''
    refine call_range_3 (by omega) ⟨.ref s.heap.objs.size, _, I.laid (t' := s.toks) (o := .ext (rngP s.heap.objs.size i j k)) (fun b o e => Heap.get?_push_of_some _ e) (Nat.le_refl _) ⟨⟨t, t', t'', Heap.get?_push_size _ rfl⟩, ⟨_, Heap.get?_push_size _ rfl⟩, fun h1 h2 ⟨a, b, c, e⟩ kk => ⟨a, b, c, kk _ e⟩⟩, rfl, q _ I.fresh⟩ (Or.inl (PyProof.noPylong_small (by omega)))
noncomputable def rListR3 : List V → Hp → VK → Prop := fun xs H Q => ∃ p i j k, xs = [.ref p] ∧ H p = some (.ext (rngP p i j k)) ∧ (-(2 ^ 60) ≤ i ∧ i < 2 ^ 60 ∧ -(2 ^ 60) ≤ j ∧ j < 2 ^ 60 ∧ 0 < k ∧ k < 1073741824) ∧ cntS i j k ≤ 16777216 ∧ ∀ l, H l = none → Q (.ref l) (upd H l (.lst ((List.range (cntS i j k)).map fun (n : Nat) => V.int (i + n * k))))
theorem zjX {X : Cx} (hc : X.calm = true) : zfe X (.type "list") rListR3 := by
 intro pins s σ H xs us Q I r h
 obtain ⟨p, i, j, st, rfl, hp, ⟨h1, h2, h3, h4, h5, h6⟩, hz, q⟩ := h
 obtain ⟨u, rfl, ru⟩ := zgp r
 cases ru
 obtain ⟨⟨t, t', t'', e⟩, -, -⟩ := I.hok p _ hp
 refine call_list_range (a := i) (b := j) (c := st) (t := t) (u := t') (v := t'') (n := cntS i j st) (I.ok.hd hc) e (zkJ h1 h2 h3 h4 h5 h6) (zh6 h5).symm (by omega) fun h' tk acc' c' hk hl ⟨hs1, hs2⟩ => ?_
 refine ⟨.ref s.heap.objs.size, _, I.laid (h' := h') (t' := tk) (o := .lst ((List.range (cntS i j st)).map fun (n : Nat) => V.int (i + n * st))) hk (Nat.le_refl _) ⟨by rw [List.length_map, List.length_range, sizeLine_eq]; exact hz, acc'.toList, c', ?_, by simpa using hl⟩, rfl, q _ I.fresh⟩
 have key : ∀ (n : Nat) (l : List Value), l.length = n → (∀ k v, l[k]? = some v → ∃ t, v = Value.int (i + (k : Nat) * st) t) → Vals ((List.range n).map fun (k : Nat) => V.int (i + k * st)) l := by
  intro n
  induction n with
  | zero => intro l hl _; have : l = [] := List.eq_nil_of_length_eq_zero hl; subst this; exact .nil
  | succ n ih =>
   intro l hl hv
   have e : l = l.take n ++ [l[n]'(by omega)] := by
    rw [← List.take_succ_eq_append_getElem (by omega), List.take_of_length_le (by omega)]
   rw [List.range_succ, List.map_append, e]
   refine Vals.append (ih (l.take n) (by rw [List.length_take]; omega) fun k v hk => ?_) (.cons ?_ .nil)
   ·have hkn : k < n := by
     have := (List.getElem?_eq_some_iff.mp hk).1
     rw [List.length_take] at this; omega
    rw [List.getElem?_take_of_lt hkn] at hk
    exact hv k v hk
   ·obtain ⟨t, ht⟩ := hv n _ (List.getElem?_eq_getElem (by omega))
    exact ⟨t, ht⟩
 exact key _ acc'.toList (by rw [Array.length_toList]; exact hs1) fun k v hk => hs2 k v (by simpa using hk)
theorem zlJ {K : W.Frag} {G : Hp} (i st : Int) (n : Nat) : RepL K G ((List.range n).map fun (k : Nat) => V.int (i + k * st)) (zgW i st n) := by
 have e1 : ((List.range n).map fun (k : Nat) => V.int (i + k * st)) = ((List.range n).map fun (k : Nat) => i + (k : Int) * st).map V.int := by rw [List.map_map]; rfl
 have e2 : zgW i st n = ((List.range n).map fun (k : Nat) => i + (k : Int) * st).map D.int := by unfold zgW; rw [List.map_map]; rfl
 rw [e1, e2]
 exact RepL.ints _
theorem zmO {X : Cx} {a b c : Expr} {ma : MA} {p q pos pos' : Pos} (ml : X.mg "list" = none) (mr : X.mg "range" = none) (ha : SA X [a, b, c] ma) (hc : X.calm = true := by rfl) (hg : Gl X "list" := by rfl) (hgr : Gl X "range" := by rfl)
  (he : starEach [a, b, c] X.env = (false, eval a X.env) :: starEach [b, c] X.env := by rfl) (hpl : (backTo pos' (starEach [b, c] X.env)).any (·.1) = false := by rfl)
  (he2 : starEach [.Call (.Name "range" q) [a, b, c] [] pos'] X.env = (false, eval (.Call (.Name "range" q) [a, b, c] [] pos') X.env) :: starEach [] X.env := by rfl) :
  SO X (.Call (.Name "list" p) [.Call (.Name "range" q) [a, b, c] [] pos'] [] pos) (oR (iR3 ma)) := by
 obtain ⟨t, pa, sa⟩ := ha
 refine ⟨_, zfo (zjX hc) hg ml (by decide +kernel) (zfD (zfo zlL hgr mr (by decide +kernel) pa (by decide) (by decide) he hpl) zhK he2) (by decide) (by decide) he2 rfl, fun B G H σ ρ ds ρ' Q I hm k => ?_⟩
 obtain ⟨⟨items, ρ1⟩, e1, hm⟩ := zal hm
 obtain ⟨⟨es, ρ2⟩, e2, h2⟩ := zal e1
 dsimp only at hm h2
 split at hm
 ·rename_i hlen
  obtain ⟨rfl, rfl⟩ := Prod.mk.inj (Option.some.inj hm)
  refine sa B G H σ ρ es ρ2 _ I e2 fun G1 H1 vs I1 f1 r1 => ?_
  split at h2
  ·rename_i i j l
   split at h2
   ·rename_i hj
    simp only [Bool.and_eq_true, decide_eq_true_eq] at hj
    obtain ⟨rfl, rfl⟩ := Prod.mk.inj (Option.some.inj h2)
    obtain ⟨x, xs, rfl, rx, r2⟩ := r1
    obtain ⟨y, ys, rfl, ry, r3⟩ := r2
    obtain ⟨z, zs, rfl, rz, r4⟩ := r3
    cases (show x = V.int i from rx)
    cases (show y = V.int j from ry)
    cases (show z = V.int l from rz)
    cases (show zs = [] from r4)
    have a1 := zf8 hj.1.1.1
    have a2 := zf8 hj.1.1.2
    refine ⟨i, j, l, rfl, ⟨hj.1.2, hj.2⟩, fun p hp => ⟨p, i, j, l, rfl, za4, ⟨a1.1, a1.2, a2.1, a2.2, hj.1.2, hj.2⟩, by simpa [zgW] using hlen, fun m hm => ?_⟩⟩
    have I2 := I1.allocO hp (.ext (rngP p i j l))
    obtain ⟨I3, g3, h3, b3, n3⟩ := I2.newO hm ((List.range (cntS i j l)).map fun (n : Nat) => V.int (i + n * l))
    exact k G1 _ m _ I3 f1 g3 h3 (zlJ i l _) b3 n3
   ·cases h2
  ·cases h2
 ·cases hm
end M
set_option Elab.async false
set_option linter.all false
set_option maxRecDepth 100000
namespace HT
open PySem PyProof.Rows L2
section
open PySem.SeqAt
open PySem.AutoSeq1 (wpAny_loadPart')
open PySem.MeetsSeq PySem.MeetsSeq2 PySem.MeetsSeq3
end
section
variable {prog : Program} {w : World} {A : Around} {E : Value → Shared → Prop} {s : Shared}
end
section
open PySem.SeqAt
open PySem.AutoSeq1 (wpAny_loadPart')
open PySem.MeetsSeq PySem.MeetsSeq2 PySem.MeetsSeq3
end
section
variable {prog : Program} {w : World} {A : Around} {E : Value → Shared → Prop} {s : Shared}
end
end HT
namespace M
open PySem L2
theorem zgs : ∀ {ds : List D} {ns : List Int}, zcz ds = some ns → ds = ns.map .int
 | [], _, h => by cases h; rfl
 | .int i :: ds, _, h => by
  obtain ⟨ms, e1, e2⟩ := za8 h
  cases e2
  rw [zgs e1]; rfl
 | .non :: _, _, h => by cases h
 | .bl _ :: _, _, h => by cases h
 | .str _ :: _, _, h => by cases h
 | .lst _ :: _, _, h => by cases h
 | .tup _ :: _, _, h => by cases h
 | .scr _ :: _, _, h => by cases h
 | .exc _ :: _, _, h => by cases h
section
variable {X : Cx} {a b : Expr} {ma mb : ME} {pos : Pos}
end
noncomputable def sExt (i : Nat) (m : ME) : MS := fun ρ => if (ρ[i]?.bind Sl.items).isSome then (m ρ).bind fun p => p.2[i]?.bind fun s => s.items.bind fun ds => match p.1 with
 | .lst es => if ds.length + es.length ≤ 16777216 then some (.next, p.2.set i (s.put (ds ++ es))) else none
 | _ => none else none
section
variable {X : Cx} {e : Expr} {me : ME} {pos : Pos}
end
end M
set_option Elab.async false
set_option linter.all false
set_option maxRecDepth 100000
namespace M
open PySem L2
noncomputable def eCutO (j : Nat) (ml mh : MP) : ME := fun ρ => if (ρ[j]?.bind Sl.items).isSome then (ml ρ).bind fun q => (mh q.2).bind fun r => (r.2[j]?.bind Sl.items).bind fun ds => some (.lst (cutD ds q.1 r.1), r.2) else none
theorem se_cutO {X : Cx} {lo hi : Option Expr} {ml mh : MP} {pos p2 pos' : Pos} (j : Nat) {x : Str} (hl : SPt X lo ml) (hu : SPt X hi mh) (hN : X.N[j]? = some x := by rfl) (hv : Vis X.env.scope x := by first | exact Or.inl rfl | exact Or.inr (Or.inl rfl) | exact Or.inr (Or.inr rfl)) (hd : (x == ("__debug__" : Str)) = false := by decide)
  (hcd : (x == ("__classdict__" : Str)) = false := by decide) : SE X (.Subscript (.Name x pos') (.Slice lo hi none p2) pos) (eCutO j ml mh) := by
 obtain ⟨tl, pl, sl⟩ := hl
 obtain ⟨th, ph, sh⟩ := hu
 refine ⟨_, zkL sl_list (zf5 hN hv hd hcd) pl ph, fun B G H σ ρ d ρ' Q I hm k => ?_⟩
 unfold eCutO at hm
 split at hm
 ·rename_i hso
  obtain ⟨ds0, hso⟩ := Option.isSome_iff_exists.mp hso
  obtain ⟨s0, e0, q0⟩ := zal hso
  obtain ⟨l, xs0, h1, h2, h3, h4⟩ := I.wr e0 q0
  obtain ⟨⟨a, ρ2⟩, e2, hm⟩ := zal hm
  obtain ⟨⟨u, ρ3⟩, e3, hm⟩ := zal hm
  obtain ⟨ds, e4, hm⟩ := zal hm
  obtain ⟨s3, e5, q5⟩ := zal e4
  cases hm
  refine ⟨.ref l, h1, sl B G H σ ρ a ρ2 _ I e2 fun G2 H2 I2 f2 => sh B G2 H2 σ ρ2 u ρ3 _ I2 e3 fun G3 H3 I3 f3 => ?_⟩
  obtain ⟨l', xs, k1, k2, k3, k4⟩ := I3.wr e5 q5
  rw [h1] at k1; cases k1
  refine ⟨l, xs, rfl, SqL.of k3, fun p hp => ?_⟩
  obtain ⟨I4, f4, r4⟩ := I3.newL hp (k4.cut a u)
  exact k _ _ _ I4 (f2.trans (f3.trans f4)) r4
 ·cases hm
end M
set_option Elab.async false
set_option linter.all false
set_option maxRecDepth 100000
namespace HT
open PySem PySem.Spec PyProof.Rows L2
section
variable {prog : Program} {w : World} {A : Around} {E : Value → Shared → Prop} {s : Shared}
end
end HT
namespace M
open PySem L2 PyProof.Rows
section
variable {X : Cx} {e st : Expr} {lo hi : Option Expr} {te : TE} {tl th ts : TO} {p2 pos : Pos}
end
noncomputable def eRevT (ma : ME) (ml mh ms : MP) : ME := fun ρ => (ma ρ).bind fun p => (ml p.2).bind fun q => (mh q.2).bind fun r => (ms r.2).bind fun t => if q.1 = none ∧ r.1 = none ∧ t.1 = some (-1) then match p.1 with
 | .tup ds => some (.tup ds.reverse, t.2)
 | _ => none else none
end M
set_option Elab.async false
set_option linter.all false
set_option maxRecDepth 100000
namespace M
open PySem PySem.Spec L2
open PyProof.Rows hiding St
noncomputable def sRet2 (i j : Nat) : MS := fun ρ => match ρ[i]?, ρ[j]? with
 | some (.own ds), some (.own es) => if i = j then none else some (.ret (.two ds es), (ρ.set i .emp).set j .emp)
 | _, _ => none
section
variable {X : Cx} {pos : Pos}
end
noncomputable def sAsg2M (F : List D → List D → Option (Sl × List D)) (j : Nat) (ma : MA) (a b : Nat) : MS := fun ρ => if (ρ[j]?.bind Sl.items).isSome then (ma ρ).bind fun p => p.2[j]?.bind fun s => s.items.bind fun cs => (F cs p.1).bind fun r => match r.1 with
 | .two ds es => some (.next, ((p.2.set j (s.put r.2)).set a (.own ds)).set b (.own es))
 | _ => none else none
section
variable {X : Cx} {x y xa xb : Str} {p py pos pos' pa pb tp : Pos} {es : List Expr} {ma : MA} {k k' n : Nat} {F : List D → List D → Option (Sl × List D)}
end
end M
set_option Elab.async false
set_option linter.all false
set_option maxRecDepth 100000
namespace HT
open PySem PySem.Spec
section
variable {prog : Program} {w : World} {A : Around} {E : Value → Shared → Prop} {s : Shared}
end
section
variable {prog : Program} {w : World} {A : Around} {E : Value → Shared → Prop} {s : Shared}
end
end HT
namespace M
open PySem PySem.Spec L2
open PyProof.Rows hiding St
noncomputable def eTupR (m : MA) : ME := fun ρ => (m ρ).bind fun p => if p.1.length ≤ 16777216 then some (.tup p.1, p.2) else none
end M
set_option Elab.async false
set_option linter.all false
set_option maxRecDepth 100000
namespace L2
open PySem PySem.Spec PyProof.Rows
section
variable {X : Cx} {tg : Expr}
end
end L2
namespace M
open PySem PySem.Spec L2
open PyProof.Rows hiding St
noncomputable def iR2L (ma : MA) : MA := fun ρ => (ma ρ).bind fun p => match p.1 with
 | [.int i, .int j] => some (zdY i (j - i).toNat, p.2)
 | _ => none
end M
set_option Elab.async false
set_option linter.all false
set_option maxRecDepth 100000
namespace HT
open PySem PySem.Spec
section
variable {prog : Program} {w : World} {A : Around} {R : Result → Shared → Prop} {I : Addr} {fp wr : List Addr} {n : Nat} {P : Nat → Value → Prop} {St : Nat → Heap → Prop}
end
section
variable {prog : Program} {w : World} {A : Around} {E : Value → Shared → Prop} {s : Shared}
end
end HT
namespace M
open PySem PySem.Spec L2
open PyProof.Rows hiding St
end M
set_option Elab.async false
set_option linter.all false
set_option maxRecDepth 100000
namespace M
open PySem L2 PySem.Spec
open PyProof.Rows hiding St
theorem nn {α : Type} {o : Option α} {x : α} (e : o = some x) : o ≠ none := by rw [e]; exact fun z => by cases z
section
variable {X : Cx} {pins : List (Addr × Obj)} {σ : St} {H H' : Hp} {s s1 s2 : Shared} {a T T' : Addr} {C a0 : Value} {E : XK}
end
end M
set_option Elab.async false
set_option linter.all false
set_option maxRecDepth 100000
namespace M
open PySem L2 PySem.Spec
open PyProof.Rows hiding St
noncomputable abbrev MX := R → Option Str
section
variable (X : Cx) (S : St → Prop) (E : XK)
end
section
variable {X : Cx} {S : St → Prop} {E : XK} {x : Str} {p pos : Pos} {e : Expr} {es : List Expr} {ma : MA} {k k' n : Nat} {F : List D → Option Str} {mx : MX}
end
end M
set_option Elab.async false
set_option linter.all false
set_option maxRecDepth 100000
namespace M
open PySem L2 PySem.Spec
open PyProof.Rows hiding St
section
variable {X : Cx} {E : XK} {S : St → Prop}
end
section
variable {P : Program} {w : World} {K : W.Frag} {mg : Str → Option Value} {base : Heap}
end
end M
set_option Elab.async false
set_option linter.all false
set_option maxRecDepth 100000
namespace M
open PySem L2 PySem.Spec
open PyProof.Rows hiding St
section
variable {X : Cx} {pins : List (Addr × Obj)} {σ : St} {H : Hp} {s : Shared}
end
end M
set_option Elab.async false
set_option linter.all false
set_option maxRecDepth 100000
namespace M
open PySem L2 PySem.Spec
open PyProof.Rows hiding St
section
variable {X : Cx} {pins : List (Addr × Obj)} {σ : St} {H : Hp} {s : Shared} {E : Value → Shared → Prop}
end
noncomputable def eIsO (tab : List (Str × Bool)) (ma : ME) : ME := fun ρ => (ma ρ).bind fun p => match p.1 with
 | .exc c => (tab.lookup c).map fun b => (.bl b, p.2)
 | _ => none
section
variable {X : Cx} {a : Expr} {ma : ME} {p q pos : Pos} {tab : List (Str × Bool)} {x : Str}
end
noncomputable def tPeek (j : Nat) (m : MT) : MT := fun ρ => match ρ[j]? with
 | some (.own ds) => if zga (ρ.set j .emp) then (m (ρ.set j (.val (.lst ds)))).map fun p => (p.1, ρ) else none
 | _ => none
end M
set_option Elab.async false
set_option linter.all false
set_option maxRecDepth 100000
namespace M
open PySem PySem.Spec L2
open PyProof.Rows hiding St
noncomputable def blsOf : List D → Option (List Bool)
 | [] => some []
 | .bl b :: ds => (blsOf ds).map (b :: ·)
 | _ => none
noncomputable def dCount : D → D → Option D
 | .lst ds, .bl k => (blsOf ds).map fun bs => .int (bs.count k : Nat)
 | _, _ => none
noncomputable def zkD (ns : List Int) : Nat := (firstMet (fun i => ns.getD i 0) ns.length).length
noncomputable def eLenSet (m : ME) : ME := fun ρ => (m ρ).bind fun p => match p.1 with
 | .lst ds => (zcz ds).bind fun ns => if ns.length < 4095 then some (.int (zkD ns : Nat), p.2) else none
 | _ => none
end M
set_option Elab.async false
set_option linter.all false
set_option maxRecDepth 100000
namespace M
open PySem L2 PySem.Spec
open PyProof.Rows hiding St
end M
set_option Elab.async false
set_option linter.all false
set_option maxRecDepth 100000
namespace M
open PySem L2 PySem.Spec
open PyProof.Rows hiding St
section
variable {X : Cx} {S : St → Prop} {E : XK} {mx : MX} {elt iter tg : Expr} {ifs : List Expr} {scope : Scope} {pos lpos pos' : Pos}
end
section
variable {X : Cx} {E : XK} {S : St → Prop}
end
end M
set_option Elab.async false
set_option linter.all false
set_option maxRecDepth 100000
namespace M
open PySem PySem.Spec L2
open PyProof.Rows hiding St
noncomputable def gS (j : Nat) (mi : ME) : D → R → Option R := fun d ρ => if hasV ρ j then (mi ρ).bind fun q => match q.1 with
 | .int k => q.2[j]?.bind fun s => s.items.bind fun ds => (ixN ds.length k).bind fun n => some (q.2.set j (s.put (ds.set n d)))
 | _ => none else none
section
variable {X : Cx}
theorem sg_sub (j : Nat) {x : Str} {i : Expr} {mi : ME} {pos' tpos : Pos} (hi : SE X i mi) (hN : X.N[j]? = some x := by rfl) (hv : Vis X.env.scope x := by first | exact Or.inl rfl | exact Or.inr (Or.inl rfl) | exact Or.inr (Or.inr rfl)) (hd : (x == ("__debug__" : Str)) = false := by decide)
    (hcd : (x == ("__classdict__" : Str)) = false := by decide)
    (ha : ∀ v, assign (.Subscript (.Name x pos') i tpos) X.env v = (do
      let ov ← holding [v] (eval (.Name x pos') X.env)
      let iv ← holding [v, ov] (eval i X.env)
      standAt tpos
      holding [v, ov, iv] (setItem ov iv v)
      release [v, ov, iv] []) := by exact fun _ => rfl) : SG X (.Subscript (.Name x pos') i tpos) (gS j mi) := by
  obtain ⟨u, q, z⟩ := hi
  refine ⟨_, pg_sub (zf5 hN hv hd hcd) q zlb ha, fun B G H σ ρ v d ρ' Q I r1 hm k => ?_⟩
  unfold gS at hm
  split at hm
  · rename_i hh
    obtain ⟨w, ew⟩ := I.has hh
    obtain ⟨⟨kd, ρ2⟩, e2, hm⟩ := zal hm
    cases kd <;> try cases hm
    rename_i kk
    obtain ⟨s2, e3, hm⟩ := zal hm
    obtain ⟨ds, e4, hm⟩ := zal hm
    obtain ⟨n, e5, hm⟩ := zal hm
    cases hm
    refine ⟨w, ew, z B G H σ ρ (.int kk) ρ2 _ I e2 fun G2 H2 y I2 f2 r2 => ?_⟩
    obtain ⟨l, xs, k1, k2, k3, k4⟩ := I2.wr e3 e4
    rw [ew] at k1; cases k1
    refine ⟨l, xs, kk, n, rfl, r2, k3, by rw [k4.length]; exact e5, ?_⟩
    exact k G2 _ σ (I2.write e3 e4 ew (k4.set n (r1.mono f2))) f2
  · cases hm
end
end M
set_option Elab.async false
set_option linter.all false
set_option maxRecDepth 100000
namespace M
open PySem L2
noncomputable def zj2 : Sl → Sl → Bool
 | .own ds, .own es => match zcz ds, zcz es with
  | some a, some b => a == b
  | _, _ => false
 | .par ds, .par es => match zcz ds, zcz es with
  | some a, some b => a == b
  | _, _ => false
 | .own _, _ => false
 | .par _, _ => false
 | _, _ => true
noncomputable def zji (j : Nat) (m : MT) : MT := fun ρ => match ρ[j]? with
 | some (.own ds) => (m (ρ.set j (.val (.lst ds)))).bind fun p => if ((ρ.set j .emp).zip p.2).all (fun q => zj2 q.1 q.2) then some (p.1, ρ) else none
 | _ => none
theorem zjk {ds es : List D} (h : (match zcz ds, zcz es with
  | some a, some b => a == b
  | _, _ => false) = true) : ∃ ns : List Int, ds = ns.map .int ∧ es = ns.map .int := by
 cases a : zcz ds with
 | none => rw [a] at h; cases h
 | some x =>
  cases b : zcz es with
  | none => rw [a, b] at h; cases h
  | some y =>
   rw [a, b] at h
   have e : x = y := by simpa using h
   subst e
   exact ⟨x, zgs a, zgs b⟩
theorem st_peekF {X : Cx} {c : Expr} {m : MT} (j : Nat) (h : STt X c m) : STt X c (zji j m) := by
 obtain ⟨t, pt, so⟩ := h
 refine ⟨t, pt, fun B G H σ ρ b ρ' Q I hm k => ?_⟩
 unfold zji at hm
 cases e : ρ[j]? with
 | none => rw [e] at hm; cases hm
 | some s =>
  rw [e] at hm
  cases s with
  | own ds =>
   dsimp only at hm
   obtain ⟨⟨b', ρ1⟩, e1, e2⟩ := zal hm
   dsimp only at e2
   split at e2
   ·rename_i al
    cases e2
    obtain ⟨l, xs, k1, k2, k3, k4, k5⟩ := I.slot j _ e
    obtain ⟨l', xs', h1, f1, r1, I1⟩ := I.freeze e
    refine so B _ H σ _ b ρ1 _ I1 e1 fun G' H' I2 f2 => ?_
    have el : l' = l := by rw [k1] at h1; cases h1; rfl
    subst el
    have h1l : H l' = some (.lst xs') := I1.fz _ _ za4
    have ex : xs' = xs := by rw [k3] at h1l; cases h1l; rfl
    subst ex
    have gl : H' l' = some (.lst xs') := I2.fz _ _ (f2 _ _ za4)
    have len1 : ρ1.length = ρ.length := by rw [← I2.len, I.len]
    refine k G H' ⟨(f1.trans f2).trans I2.fz, I.g0, I.new, I2.keep, I2.there, I.len, fun i s es => ?_, I.dis⟩ (Fz.refl G)
    by_cases hi : i = j
    ·subst hi
     rw [e] at es; cases es
     exact ⟨l', xs', k1, k2, gl, k4, k5⟩
    ·have q := I.slot i s es
     have il : i < ρ.length := (List.getElem?_eq_some_iff.mp es).1
     have es1 : ρ1[i]? = some (ρ1[i]'(by omega)) := List.getElem?_eq_getElem _
     have lk : zj2 s (ρ1[i]'(by omega)) = true := by
      have := List.all_eq_true.mp al (s, ρ1[i]'(by omega)) (by
       apply List.mem_of_getElem? (i := i)
       rw [List.getElem?_zip_eq_some]
       exact ⟨by rw [List.getElem?_set_ne (Ne.symm hi)]; exact es, es1⟩)
      exact this
     have q1 := I2.slot i _ es1
     generalize ρ1[i]'(by omega) = s1 at lk q1
     cases s with
     | emp => trivial
     | two _ _ => trivial
     | val d => exact q
     | own d0 =>
      cases s1 with
      | own d1 =>
       obtain ⟨ns, rfl, rfl⟩ := zjk lk
       obtain ⟨a1, xs1, m1, m2, m3, m4, m5⟩ := q1
       obtain ⟨a0, xs0, n1, n2, n3, n4, n5⟩ := q
       refine ⟨a1, xs1, m1, (f1.trans f2).free m2, m3, ?_, m5⟩
       rw [RepL.ints_eq m4]; exact RepL.ints ns
      | _ => cases lk
     | par d0 =>
      cases s1 with
      | par d1 =>
       obtain ⟨ns, rfl, rfl⟩ := zjk lk
       obtain ⟨a1, xs1, m1, m2, m3, m4, m5⟩ := q1
       refine ⟨a1, xs1, m1, (f1.trans f2).free m2, m3, ?_, m5⟩
       rw [RepL.ints_eq m4]; exact RepL.ints ns
      | _ => cases lk
   ·cases e2
  | _ => cases hm
end M
set_option Elab.async false
set_option linter.all false
set_option maxRecDepth 100000
namespace M
open PySem L2
structure Lock {α : Type} (Q : α → Prop) : Type where
noncomputable def Ok {α : Type} (o : Option α) (Q : α → Prop) (l : Lock Q := ⟨⟩) : Prop := ∃ a, o = some a ∧ Q a
section
variable {α β : Type} {o : Option α} {Q Q' : α → Prop}
theorem ok_some {a : α} : Ok (some a) Q ↔ Q a := ⟨fun ⟨_, e, q⟩ => by cases e; exact q, fun q => ⟨a, rfl, q⟩⟩
theorem ok_none : Ok (none : Option α) Q ↔ False := ⟨fun ⟨_, e, _⟩ => (by cases e), False.elim⟩
theorem ok_bind {f : α → Option β} {Q : β → Prop} : Ok (o.bind f) Q ↔ Ok o fun a => Ok (f a) Q := by
 cases o with
 | none => exact ⟨fun ⟨_, e, _⟩ => (by cases e), fun ⟨_, e, _⟩ => (by cases e)⟩
 | some a => exact ⟨fun h => ⟨a, rfl, h⟩, fun ⟨_, e, h⟩ => by cases e; exact h⟩
theorem ok_map {f : α → β} {Q : β → Prop} : Ok (o.map f) Q ↔ Ok o fun a => Q (f a) := by
 cases o with
 | none => exact ⟨fun ⟨_, e, _⟩ => (by cases e), fun ⟨_, e, _⟩ => (by cases e)⟩
 | some a => exact ⟨fun h => ⟨a, rfl, ok_some.mp h⟩, fun ⟨_, e, h⟩ => by cases e; exact ok_some.mpr h⟩
theorem zg2 {c : Prop} [Decidable c] : Ok (if c then o else none) Q ↔ c ∧ Ok o Q := by
 by_cases h : c
 ·rw [if_pos h]; exact ⟨fun k => ⟨h, k⟩, fun k => k.2⟩
 ·rw [if_neg h]; exact ⟨fun k => (ok_none.mp k).elim, fun k => absurd k.1 h⟩
theorem Ok.mono (h : Ok o Q) (k : ∀ a, Q a → Q' a) : Ok o Q' := by obtain ⟨a, e, q⟩ := h; exact ⟨a, e, k a q⟩
theorem zb7 {Q' : α → Prop} (h : ∀ a, Q a ↔ Q' a) : Ok o Q ↔ Ok o Q' := ⟨fun ⟨a, e, q⟩ => ⟨a, e, (h a).mp q⟩, fun ⟨a, e, q⟩ => ⟨a, e, (h a).mpr q⟩⟩
end
section
variable {c : MT} {a b : MS} {ρ : R}
theorem zlB {α : Type} {z : Bool} {o u : Option α} {Q : α → Prop} : Ok (if z then o else u) Q ↔ (z = true → Ok o Q) ∧ (z = false → Ok u Q) := by cases z <;> simp
theorem ok_sIf {Q : Fl × R → Prop} : Ok (sIf c a b ρ) Q ↔ Ok (c ρ) fun p => (p.1 = true → Ok (a p.2) Q) ∧ (p.1 = false → Ok (b p.2) Q) := by
 unfold sIf; rw [ok_bind]; exact zb7 fun p => zlB
theorem ok_eIf {a b : ME} {Q : D × R → Prop} : Ok (eIf c a b ρ) Q ↔ Ok (c ρ) fun p => (p.1 = true → Ok (a p.2) Q) ∧ (p.1 = false → Ok (b p.2) Q) := by
 unfold eIf; rw [ok_bind]; exact zb7 fun p => zlB
theorem ok_tAnd {a b : MT} {Q : Bool × R → Prop} : Ok (zks a b ρ) Q ↔ Ok (a ρ) fun p => (p.1 = true → Ok (b p.2) Q) ∧ (p.1 = false → Q (false, p.2)) := by
 unfold zks; rw [ok_bind]; exact zb7 fun p => by rw [zlB, ok_some]
theorem ok_tOr {a b : MT} {Q : Bool × R → Prop} : Ok (tOrM a b ρ) Q ↔ Ok (a ρ) fun p => (p.1 = true → Q (true, p.2)) ∧ (p.1 = false → Ok (b p.2) Q) := by
 unfold tOrM; rw [ok_bind]; exact zb7 fun p => by rw [zlB, ok_some]
theorem ok_eAnd {a b : ME} {Q : D × R → Prop} : Ok (eAnd a b ρ) Q ↔ Ok (a ρ) fun p => ∃ z, p.1 = .bl z ∧ (z = true → Ok (b p.2) Q) ∧ (z = false → Q (.bl false, p.2)) := by
 unfold eAnd; rw [ok_bind]
 have : ∀ p : D × R, Ok (match p.1 with
  | .bl true => b p.2
  | .bl false => some (.bl false, p.2)
  | _ => none) Q ↔ ∃ z, p.1 = .bl z ∧ (z = true → Ok (b p.2) Q) ∧ (z = false → Q (.bl false, p.2)) := by
  rintro ⟨d, ρ⟩
  cases d with
  | bl z => cases z <;> simp [ok_some]
  | _ => simp [ok_none]
 exact zb7 this
theorem ok_eOr {a b : ME} {Q : D × R → Prop} : Ok (eOr a b ρ) Q ↔ Ok (a ρ) fun p => ∃ z, p.1 = .bl z ∧ (z = true → Q (.bl true, p.2)) ∧ (z = false → Ok (b p.2) Q) := by
 unfold eOr; rw [ok_bind]
 have : ∀ p : D × R, Ok (match p.1 with
  | .bl true => some (.bl true, p.2)
  | .bl false => b p.2
  | _ => none) Q ↔ ∃ z, p.1 = .bl z ∧ (z = true → Q (.bl true, p.2)) ∧ (z = false → Ok (b p.2) Q) := by
  rintro ⟨d, ρ⟩
  cases d with
  | bl z => cases z <;> simp [ok_some]
  | _ => simp [ok_none]
 exact zb7 this
theorem ok_chain {f g : D → D → Option D} {a b c : ME} {Q : D × R → Prop} : Ok (zfj f g a b c ρ) Q ↔ Ok (a ρ) fun p => Ok (b p.2) fun q => Ok (f p.1 q.1) fun t => ∃ z, t = .bl z ∧ (z = true → Ok (c q.2) fun r => Ok (g q.1 r.1) fun d => Q (d, r.2)) ∧ (z = false → Q (.bl false, q.2)) := by
 unfold zfj; rw [ok_bind]
 have : ∀ (p q : D × R) (t : D), Ok (match t with
  | .bl true => (c q.2).bind fun r => (g q.1 r.1).map fun d => (d, r.2)
  | .bl false => some (.bl false, q.2)
  | _ => none) Q ↔ ∃ z, t = .bl z ∧ (z = true → Ok (c q.2) fun r => Ok (g q.1 r.1) fun d => Q (d, r.2)) ∧ (z = false → Q (.bl false, q.2)) := by
  intro p q t
  cases t with
  | bl z =>
   cases z
   ·simp [ok_some]
   ·simp only [ok_bind, D.bl.injEq, exists_eq_left', forall_const, reduceCtorEq, false_implies, and_true]
    exact zb7 fun r => ok_map
  | _ => simp [ok_none]
 exact zb7 fun p => by rw [ok_bind]; exact zb7 fun q => by rw [ok_bind]; exact zb7 fun t => this p q t
theorem ok_turnM {g : D → R → Option R} {mt : MT} {me : ME} {d : D} {Q : Option D × R → Prop} : Ok (zj9 g mt me d ρ) Q ↔ Ok (g d ρ) fun ρ1 => Ok (mt ρ1) fun p => (p.1 = true → Ok (me p.2) fun q => zga q.2 = true ∧ Q (some q.1, q.2)) ∧ (p.1 = false → zga p.2 = true ∧ Q (none, p.2)) := by
 unfold zj9; rw [ok_bind]; exact zb7 fun ρ1 => by rw [ok_bind]; exact zb7 fun p => by rw [zlB, ok_bind, zg2, ok_some]; exact and_congr (imp_congr Iff.rfl (zb7 fun q => by rw [zg2, ok_some])) Iff.rfl
theorem ok_turnP {bk : Nat} {g : D → R → Option R} {mt : MT} {me : ME} {d : D} {Q : Option D × R → Prop} : Ok (zlo bk g mt me d ρ) Q ↔ Ok (g d ρ) fun ρ1 => Ok (mt ρ1) fun p => (p.1 = true → Ok (me p.2) fun q => zj5 bk q.2 = true ∧ Q (some q.1, q.2)) ∧ (p.1 = false → zj5 bk p.2 = true ∧ Q (none, p.2)) := by
 unfold zlo; rw [ok_bind]; exact zb7 fun ρ1 => by rw [ok_bind]; exact zb7 fun p => by rw [zlB, ok_bind, zg2, ok_some]; exact and_congr (imp_congr Iff.rfl (zb7 fun q => by rw [zg2, ok_some])) Iff.rfl
theorem zlC (n : Nat) : Int.natAbs (no_index (OfNat.ofNat n)) = n := rfl
end
section
theorem ok_sNext {ρ : R} {Q : Fl × R → Prop} : Ok (zcv ρ) Q ↔ Q (.next, ρ) := ok_some
noncomputable def SeqK (b : MS) (Q : Fl × R → Prop) (p : Fl × R) : Prop := Ok (match p.1 with
 | .next => b p.2
 | f => some (f, p.2)) Q
theorem zme {b : MS} {Q : Fl × R → Prop} {ρ : R} : SeqK b Q (.next, ρ) ↔ Ok (b ρ) Q := Iff.rfl
theorem seqK_ret {b : MS} {Q : Fl × R → Prop} {ρ : R} {r : Sl} : SeqK b Q (.ret r, ρ) ↔ Q (.ret r, ρ) := ok_some
theorem seqK_brk {b : MS} {Q : Fl × R → Prop} {ρ : R} : SeqK b Q (.brk, ρ) ↔ Q (.brk, ρ) := ok_some
theorem zlY {b : MS} {Q : Fl × R → Prop} {ρ : R} : SeqK b Q (.cont, ρ) ↔ Q (.cont, ρ) := ok_some
theorem ok_sSeq {a b : MS} {ρ : R} {Q : Fl × R → Prop} : Ok (sSeq a b ρ) Q ↔ Ok (a ρ) (SeqK b Q) := ok_bind
theorem ok_sExpr {m : ME} {ρ : R} {Q : Fl × R → Prop} : Ok (sExpr m ρ) Q ↔ Ok (m ρ) fun p => Q (.next, p.2) := ok_map
theorem ok_sRet {m : ME} {ρ : R} {Q : Fl × R → Prop} : Ok (sRet m ρ) Q ↔ Ok (m ρ) fun p => Q (.ret (.val p.1), p.2) := ok_map
theorem ok_sRetO {m : MO} {ρ : R} {Q : Fl × R → Prop} : Ok (zjZ m ρ) Q ↔ Ok (m ρ) fun p => Q (.ret (.own p.1), p.2) := ok_map
theorem ok_sRetV {i : Nat} {ρ : R} {Q : Fl × R → Prop} : Ok (ziB i ρ) Q ↔ Ok (match ρ[i]? with
 | some (.val d) => some (.ret (.val d), ρ)
 | some (.own ds) => some (.ret (.own ds), ρ.set i .emp)
 | _ => none) Q := Iff.rfl
theorem ok_gN {i : Nat} {d : D} {ρ : R} {Q : R → Prop} : Ok (gN i d ρ) Q ↔ Q (ρ.set i (.val d)) := ok_some
theorem ok_gsNil  {ds : List D} {ρ : R} {Q : R → Prop} : Ok (zfy ds ρ) Q ↔ Ok (match ds with
 | [] => some ρ
 | _ => none) Q := Iff.rfl
theorem zmQ {g : D → R → Option R} {h : List D → R → Option R} {ds : List D} {ρ : R} {Q : R → Prop} : Ok (zaP g h ds ρ) Q ↔ Ok (match ds with
 | d :: ds => (g d ρ).bind fun ρ1 => h ds ρ1
 | [] => none) Q := Iff.rfl
theorem ok_gT {n : Nat} {g : List D → R → Option R} {d : D} {ρ : R} {Q : R → Prop} : Ok (gT n g d ρ) Q ↔ Ok (match d with
 | .tup ds => if ds.length = n then g ds ρ else none
 | _ => none) Q := Iff.rfl
theorem ok_sAsg {m : ME} {g : D → R → Option R} {ρ : R} {Q : Fl × R → Prop} : Ok (sAsg m g ρ) Q ↔ Ok (m ρ) fun p => Ok (g p.1 p.2) fun ρ' => Q (.next, ρ') := ok_bind.trans (zb7 fun _ => ok_map)
theorem ok_sSet {i : Nat} {m : ME} {ρ : R} {Q : Fl × R → Prop} : Ok (sSet i m ρ) Q ↔ Ok (m ρ) fun p => Q (.next, p.2.set i (.val p.1)) := ok_map
theorem ok_sSetO {i : Nat} {m : MO} {ρ : R} {Q : Fl × R → Prop} : Ok (zfn i m ρ) Q ↔ Ok (m ρ) fun p => Q (.next, p.2.set i (.own p.1)) := ok_map
theorem ok_sApp {i : Nat} {m : ME} {ρ : R} {Q : Fl × R → Prop} : Ok (sApp i m ρ) Q ↔ Ok (if (ρ[i]?.bind Sl.items).isSome then (m ρ).bind fun p => p.2[i]?.bind fun s => s.items.bind fun ds => if ds.length < 16777216 then some (.next, p.2.set i (s.put (ds ++ [p.1]))) else none else none) Q := Iff.rfl
theorem ok_sPut {j : Nat} {mi me : ME} {ρ : R} {Q : Fl × R → Prop} : Ok (sPut j mi me ρ) Q ↔ Ok ((me ρ).bind fun p => if hasV p.2 j then (mi p.2).bind fun q => match q.1 with
 | .int k => q.2[j]?.bind fun s => s.items.bind fun ds => (ixN ds.length k).bind fun n => some (.next, q.2.set j (s.put (ds.set n p.1)))
 | _ => none else none) Q := Iff.rfl
theorem ok_eC {d : D} {ρ : R} {Q : D × R → Prop} : Ok (eC d ρ) Q ↔ Q (d, ρ) := ok_some
theorem ok_eVar {i : Nat} {ρ : R} {Q : D × R → Prop} : Ok (eVar i ρ) Q ↔ Ok (match ρ[i]? with
 | some (.val d) => some (d, ρ)
 | some (.own ds) => some (.lst ds, ρ.set i (.val (.lst ds)))
 | _ => none) Q := Iff.rfl
theorem ok_aNil {ρ : R} {Q : List D × R → Prop} : Ok (aNil ρ) Q ↔ Q ([], ρ) := ok_some
theorem ok_aCons {m : ME} {r : MA} {ρ : R} {Q : List D × R → Prop} : Ok (zaf m r ρ) Q ↔ Ok (m ρ) fun p => Ok (r p.2) fun q => Q (p.1 :: q.1, q.2) := ok_bind.trans (zb7 fun _ => ok_map)
theorem ok_m2 {f : D → D → Option D} {ma mb : ME} {ρ : R} {Q : D × R → Prop} : Ok (m2 f ma mb ρ) Q ↔ Ok (ma ρ) fun p => Ok (mb p.2) fun q => Ok (f p.1 q.1) fun d => Q (d, q.2) := ok_bind.trans (zb7 fun _ => ok_bind.trans (zb7 fun _ => ok_map))
theorem ok_m1 {f : D → Option D} {ma : ME} {ρ : R} {Q : D × R → Prop} : Ok (m1 f ma ρ) Q ↔ Ok (ma ρ) fun p => Ok (f p.1) fun d => Q (d, p.2) := ok_bind.trans (zb7 fun _ => ok_map)
theorem ok_mC {f : List D → Option D} {ma : MA} {ρ : R} {Q : D × R → Prop} : Ok (mC f ma ρ) Q ↔ Ok (ma ρ) fun p => Ok (f p.1) fun d => Q (d, p.2) := ok_bind.trans (zb7 fun _ => ok_map)
theorem ok_eIxV {j : Nat} {mi : ME} {ρ : R} {Q : D × R → Prop} : Ok (eIxV j mi ρ) Q ↔ Ok (if hasV ρ j then (mi ρ).bind fun p => (p.2[j]?.bind Sl.read).bind fun d => (dIx d p.1).map fun e => (e, p.2) else none) Q := Iff.rfl
theorem ok_eLenV {j : Nat} {ρ : R} {Q : D × R → Prop} : Ok (zcN j ρ) Q ↔ Ok ((ρ[j]?.bind Sl.read).bind fun d => (dLen [d]).map fun e => (e, ρ)) Q := Iff.rfl
theorem ok_oC {f : List D → Option (List D)} {ma : MA} {ρ : R} {Q : List D × R → Prop} : Ok (oC f ma ρ) Q ↔ Ok (ma ρ) fun p => Ok (f p.1) fun d => Q (d, p.2) := ok_bind.trans (zb7 fun _ => ok_map)
theorem ok_eTup {ma : MA} {ρ : R} {Q : D × R → Prop} : Ok (eTup ma ρ) Q ↔ Ok (ma ρ) fun p => p.1.length ≤ 16777216 ∧ Q (.tup p.1, p.2) := ok_bind.trans (zb7 fun _ => by rw [zg2, ok_some])
theorem ok_oLst {ma : MA} {ρ : R} {Q : List D × R → Prop} : Ok (oLst ma ρ) Q ↔ Ok (ma ρ) fun p => p.1.length ≤ 16777216 ∧ Q (p.1, p.2) := ok_bind.trans (zb7 fun _ => by rw [zg2, ok_some])
theorem ok_tTru {ma : ME} {ρ : R} {Q : Bool × R → Prop} : Ok (tTru ma ρ) Q ↔ Ok (ma ρ) fun p => Ok (dTru p.1) fun b => Q (b, p.2) := ok_bind.trans (zb7 fun _ => ok_map)
theorem ok_tNotM {a : MT} {ρ : R} {Q : Bool × R → Prop} : Ok (zhh a ρ) Q ↔ Ok (a ρ) fun p => Q (!p.1, p.2) := ok_map
theorem ok_eCall {F : List D → Option Sl} {ma : MA} {ρ : R} {Q : D × R → Prop} : Ok (zbH F ma ρ) Q ↔ Ok ((ma ρ).bind fun p => (F p.1).bind fun r => match r with
 | .val d => some (d, p.2)
 | .own ds => some (.lst ds, p.2)
 | _ => none) Q := Iff.rfl
theorem ok_oCall {F : List D → Option Sl} {ma : MA} {ρ : R} {Q : List D × R → Prop} : Ok (zhX F ma ρ) Q ↔ Ok ((ma ρ).bind fun p => (F p.1).bind fun r => match r with
 | .own ds => some (ds, p.2)
 | _ => none) Q := Iff.rfl
theorem zmC {F : List D → List D → Option (Sl × List D)} {j : Nat} {ma : MA} {ρ : R} {Q : D × R → Prop} : Ok (zaK F j ma ρ) Q ↔ Ok (if (ρ[j]?.bind Sl.items).isSome then (ma ρ).bind fun p => p.2[j]?.bind fun s => s.items.bind fun cs => (F cs p.1).bind fun r => match r.1 with
 | .val d => some (d, p.2.set j (s.put r.2))
 | .own ds => some (.lst ds, p.2.set j (s.put r.2))
 | _ => none else none) Q := Iff.rfl
theorem zlT {F : List D → List D → Option (Sl × List D)} {j : Nat} {ma : MA} {ρ : R} {Q : List D × R → Prop} : Ok (oCallM F j ma ρ) Q ↔ Ok (if (ρ[j]?.bind Sl.items).isSome then (ma ρ).bind fun p => p.2[j]?.bind fun s => s.items.bind fun cs => (F cs p.1).bind fun r => match r.1 with
 | .own ds => some (ds, p.2.set j (s.put r.2))
 | _ => none else none) Q := Iff.rfl
theorem ok_sRet2 {i j : Nat} {ρ : R} {Q : Fl × R → Prop} : Ok (sRet2 i j ρ) Q ↔ Ok (match ρ[i]?, ρ[j]? with
 | some (.own ds), some (.own es) => if i = j then none else some (.ret (.two ds es), (ρ.set i .emp).set j .emp)
 | _, _ => none) Q := Iff.rfl
theorem zl5 {F : List D → List D → Option (Sl × List D)} {j a b : Nat} {ma : MA} {ρ : R} {Q : Fl × R → Prop} : Ok (sAsg2M F j ma a b ρ) Q ↔ Ok (if (ρ[j]?.bind Sl.items).isSome then (ma ρ).bind fun p => p.2[j]?.bind fun s => s.items.bind fun cs => (F cs p.1).bind fun r => match r.1 with
 | .two ds es => some (.next, ((p.2.set j (s.put r.2)).set a (.own ds)).set b (.own es))
 | _ => none else none) Q := Iff.rfl
theorem ok_eTupR {m : MA} {ρ : R} {Q : D × R → Prop} : Ok (eTupR m ρ) Q ↔ Ok ((m ρ).bind fun p => if p.1.length ≤ 16777216 then some (.tup p.1, p.2) else none) Q := Iff.rfl
theorem ok_iR2L {ma : MA} {ρ : R} {Q : List D × R → Prop} : Ok (iR2L ma ρ) Q ↔ Ok ((ma ρ).bind fun p => match p.1 with
 | [.int i, .int j] => some (zdY i (j - i).toNat, p.2)
 | _ => none) Q := Iff.rfl
theorem ok_eFz {m : MO} {ρ : R} {Q : D × R → Prop} : Ok (eFz m ρ) Q ↔ Ok (m ρ) fun p => Q (.lst p.1, p.2) := ok_map
theorem ok_eCut {ma : ME} {ml mh : MP} {ρ : R} {Q : D × R → Prop} : Ok (eCut ma ml mh ρ) Q ↔ Ok ((ma ρ).bind fun p => (ml p.2).bind fun q => (mh q.2).bind fun r => (dCut p.1 q.1 r.1).map fun d => (d, r.2)) Q := Iff.rfl
theorem ok_pNo {ρ : R} {Q : Option Int × R → Prop} : Ok (pNo ρ) Q ↔ Q (none, ρ) := ok_some
theorem ok_pSome {m : ME} {ρ : R} {Q : Option Int × R → Prop} : Ok (zd2 m ρ) Q ↔ Ok ((m ρ).bind fun p => match p.1 with
 | .int i => some (some i, p.2)
 | _ => none) Q := Iff.rfl
theorem ok_iSeq {m : ME} {ρ : R} {Q : List D × R → Prop} : Ok (iSeq m ρ) Q ↔ Ok (m ρ) fun p => Ok (za7 [p.1]) fun ds => Q (ds, p.2) := ok_bind.trans (zb7 fun _ => ok_map)
theorem ok_iR1 {ma : MA} {ρ : R} {Q : List D × R → Prop} : Ok (iR1 ma ρ) Q ↔ Ok ((ma ρ).bind fun p => match p.1 with
 | [.int j] => if zdw j then some (zdY 0 j.toNat, p.2) else none
 | _ => none) Q := Iff.rfl
theorem ok_iR2 {ma : MA} {ρ : R} {Q : List D × R → Prop} : Ok (iR2 ma ρ) Q ↔ Ok ((ma ρ).bind fun p => match p.1 with
 | [.int i, .int j] => if zdw i && zdw j then some (zdY i (j - i).toNat, p.2) else none
 | _ => none) Q := Iff.rfl
theorem ok_sFor {mi : MA} {g : D → R → Option R} {mb : MS} {ρ : R} {Q : Fl × R → Prop} : Ok (sFor mi g mb ρ) Q ↔ Ok (mi ρ) fun p => Ok (forM (fun d ρ => (g d ρ).bind fun ρ' => mb ρ') p.1 p.2) Q := ok_bind
theorem ok_oLC {cap : List Nat} {t : Nat} {mi : MA} {g : D → R → Option R} {mt : MT} {me : ME} {ρ : R} {Q : List D × R → Prop} : Ok (oLC cap t mi g mt me ρ) Q ↔ Ok ((mi ρ).bind fun p => if p.1.length ≤ 16777216 then (zft (zj9 g mt me) p.1 (capR cap t (fzL cap p.2))).map fun q => (q.1, fzL cap p.2) else none) Q := Iff.rfl
theorem ok_oR {m : MA} {ρ : R} {Q : List D × R → Prop} : Ok (oR m ρ) Q ↔ Ok ((m ρ).bind fun p => if p.1.length ≤ 16777216 then some p else none) Q := Iff.rfl
theorem ok_tTrue {ρ : R} {Q : Bool × R → Prop} : Ok (zeR ρ) Q ↔ Q (true, ρ) := ok_some
theorem ok_eIsI {T : String} {ma : ME} {ρ : R} {Q : D × R → Prop} : Ok (eIsI T ma ρ) Q ↔ Ok ((ma ρ).bind fun p => if okT T && eIsI.noS1 p.1 then some (.bl (isI T p.1), p.2) else none) Q := Iff.rfl
theorem ok_sAugI {i : Nat} {g : Int → Int → Int} {me : ME} {ρ : R} {Q : Fl × R → Prop} : Ok (sAugI i g me ρ) Q ↔ Ok (match ρ[i]? with
 | some (.val (.int a)) => (me ρ).bind fun p => match p.1 with
  | .int b => some (.next, p.2.set i (.val (.int (g a b))))
  | _ => none
 | _ => none) Q := Iff.rfl
theorem ok_eCutS {ma : ME} {ml mh ms : MP} {ρ : R} {Q : D × R → Prop} : Ok (eCutS ma ml mh ms ρ) Q ↔ Ok ((ma ρ).bind fun p => (ml p.2).bind fun q => (mh q.2).bind fun r => (ms r.2).bind fun t => (dPick p.1 q.1 r.1 t.1).map fun d => (d, t.2)) Q := Iff.rfl
theorem ok_iR3 {ma : MA} {ρ : R} {Q : List D × R → Prop} : Ok (iR3 ma ρ) Q ↔ Ok ((ma ρ).bind fun p => match p.1 with
 | [.int i, .int j, .int k] => if zdw i && zdw j && decide (0 < k) && decide (k < 1073741824) then some (zgW i k (cntS i j k), p.2) else none
 | _ => none) Q := Iff.rfl
theorem ok_oRep {ma mb : ME} {ρ : R} {Q : List D × R → Prop} : Ok (oRep ma mb ρ) Q ↔ Ok ((ma ρ).bind fun p => (mb p.2).bind fun q => match p.1, q.1 with
 | .lst xs, .int k => if zdw k && decide (xs.length * k.toNat ≤ 16777216) then some ((List.replicate k.toNat xs).flatten, q.2) else none
 | _, _ => none) Q := Iff.rfl
theorem ok_iZ2 {ma : MA} {ρ : R} {Q : List D × R → Prop} : Ok (iZ2 ma ρ) Q ↔ Ok ((ma ρ).bind fun p => match p.1 with
 | [a, b] => (za7 [a]).bind fun xs => (za7 [b]).bind fun ys => some (zkd xs ys, p.2)
 | _ => none) Q := Iff.rfl
theorem ok_iZ3 {ma : MA} {ρ : R} {Q : List D × R → Prop} : Ok (iZ3 ma ρ) Q ↔ Ok ((ma ρ).bind fun p => match p.1 with
 | [a, b, c] => (za7 [a]).bind fun xs => (za7 [b]).bind fun ys => (za7 [c]).bind fun zs => some (zkr xs ys zs, p.2)
 | _ => none) Q := Iff.rfl
theorem ok_iEn {ma : MA} {ρ : R} {Q : List D × R → Prop} : Ok (iEn ma ρ) Q ↔ Ok ((ma ρ).bind fun p => (za7 p.1).map fun xs => (zj3 xs, p.2)) Q := Iff.rfl
theorem ok_ePick {F1 F2 : List D → Option Sl} {mi : ME} {ma : MA} {ρ : R} {Q : D × R → Prop} : Ok (ePick F1 F2 mi ma ρ) Q ↔ Ok ((mi ρ).bind fun p => match p.1 with
 | .int i => if i = 0 then zbH F1 ma p.2 else if i = 1 then zbH F2 ma p.2 else none
 | _ => none) Q := Iff.rfl
theorem ok_oPick {F1 F2 : List D → Option Sl} {mi : ME} {ma : MA} {ρ : R} {Q : List D × R → Prop} : Ok (oPick F1 F2 mi ma ρ) Q ↔ Ok ((mi ρ).bind fun p => match p.1 with
 | .int i => if i = 0 then zhX F1 ma p.2 else if i = 1 then zhX F2 ma p.2 else none
 | _ => none) Q := Iff.rfl
theorem ok_oLCM {cap : List Nat} {t b w : Nat} {mi : MA} {g : D → R → Option R} {mt : MT} {me : ME} {ρ : R} {Q : List D × R → Prop} : Ok (oLCM cap t b w mi g mt me ρ) Q ↔ Ok ((mi ρ).bind fun p => if p.1.length ≤ 16777216 then
    ((fzL (cap.filter (· != w)) p.2)[w]?).bind fun s => s.items.bind fun cs => (zft (zlo b g mt me) p.1 ((capR cap t (fzL (cap.filter (· != w)) p.2)).set b (.par cs))).map fun q => (q.1, (fzL (cap.filter (· != w)) p.2).set w (s.put (zmS b q.2)))
  else none) Q := Iff.rfl
theorem ok_fP {N : Nat} {m : MS} {ds : List D} {Q : Sl → Prop} : Ok (fP N m ds) Q ↔ Ok ((m (ds.map .val ++ List.replicate (N - ds.length) .emp)).bind fun p => match p.1 with
 | .ret r => some r
 | .next => some (.val .non)
 | _ => none) Q := Iff.rfl
theorem ok_fM {N : Nat} {m : MS} {cs : List D} {ds : List D} {Q : Sl × List D → Prop} : Ok (fM N m cs ds) Q ↔ Ok ((m (.par cs :: (ds.map .val ++ List.replicate (N - (ds.length + 1)) .emp))).bind fun p => match p.1, (p.2[0]? : Option Sl) with
 | Fl.ret r, some (Sl.par out) => some (r, out)
 | Fl.next, some (Sl.par out) => some (.val .non, out)
 | _, _ => none) Q := Iff.rfl
end
noncomputable def Turn (I : R → Prop) (Q : Fl × R → Prop) (p : Fl × R) : Prop := match p.1 with
 | .next => I p.2
 | .cont => I p.2
 | .brk => Q (.next, p.2)
 | .ret r => Q (.ret r, p.2)
theorem zl7 {I : R → Prop} {Q : Fl × R → Prop} {ρ : R} : Turn I Q (.next, ρ) ↔ I ρ := Iff.rfl
theorem zmb {I : R → Prop} {Q : Fl × R → Prop} {ρ : R} : Turn I Q (.cont, ρ) ↔ I ρ := Iff.rfl
theorem turn_brk {I : R → Prop} {Q : Fl × R → Prop} {ρ : R} : Turn I Q (.brk, ρ) ↔ Q (.next, ρ) := Iff.rfl
theorem turn_ret {I : R → Prop} {Q : Fl × R → Prop} {ρ : R} {r : Sl} : Turn I Q (.ret r, ρ) ↔ Q (.ret r, ρ) := Iff.rfl
theorem zmm {α : Type} {f : D → R → Option (Fl × R)} (enc : α → D) {Q : Fl × R → Prop} (I : Nat → R → Prop) : ∀ (l : List α) (b : Nat) (ρ : R), I b ρ →
  (∀ i a ρ, l[i]? = some a → I (b + i) ρ → Ok (f (enc a) ρ) (Turn (I (b + i + 1)) Q)) → (∀ ρ, I (b + l.length) ρ → Q (.next, ρ)) → Ok (forM f (l.map enc) ρ) Q
 | [], b, ρ, h0, _, hq => ok_some.mpr (hq ρ h0)
 | a :: l, b, ρ, h0, hs, hq => by
  obtain ⟨p, e, t⟩ := hs 0 a ρ rfl h0
  obtain ⟨fl, ρ1⟩ := p
  have go : ∀ ρ1, I (b + 1) ρ1 → Ok (forM f (l.map enc) ρ1) Q := fun ρ1 h1 => zmm enc I l (b + 1) ρ1 h1 (fun i a' ρ' hi hp => by
   have := hs (i + 1) a' ρ' (by simpa using hi) (by rw [show b + (i + 1) = b + 1 + i by omega]; exact hp)
   rw [show b + (i + 1) + 1 = b + 1 + i + 1 by omega] at this
   exact this) (fun ρ h => hq ρ (by rw [List.length_cons, show b + (l.length + 1) = b + 1 + l.length by omega]; exact h))
  have e' : forM f ((a :: l).map enc) ρ = (f (enc a) ρ).bind fun p => match p.1 with
   | .next => forM f (l.map enc) p.2
   | .cont => forM f (l.map enc) p.2
   | .brk => some (.next, p.2)
   | .ret r => some (.ret r, p.2) := rfl
  rw [e', e]
  cases fl with
  | next => exact go ρ1 t
  | cont => exact go ρ1 t
  | brk => exact ok_some.mpr t
  | ret r => exact ok_some.mpr t
theorem ok_for {α : Type} {f : D → R → Option (Fl × R)} {enc : α → D} {l : List α} {ρ : R} {Q : Fl × R → Prop} (I : Nat → R → Prop) (h0 : I 0 ρ)
  (hs : ∀ i a ρ, l[i]? = some a → I i ρ → Ok (f (enc a) ρ) (Turn (I (i + 1)) Q)) (hq : ∀ ρ, I l.length ρ → Q (.next, ρ)) : Ok (forM f (l.map enc) ρ) Q :=
 zmm enc I l 0 ρ h0 (fun i a ρ hi h => by rw [Nat.zero_add] at h ⊢; exact hs i a ρ hi h) (fun ρ h => hq ρ (by rw [Nat.zero_add] at h; exact h))
theorem ziN {α : Type} {f : D → R → Option (Option D × R)} (enc : α → D) {Q : List D × R → Prop} (I : Nat → List D → R → Prop) : ∀ (l : List α) (b : Nat) (acc : List D) (ρ : R), I b acc ρ →
  (∀ i a acc ρ, l[i]? = some a → I (b + i) acc ρ → Ok (f (enc a) ρ) fun p => I (b + i + 1) (acc ++ p.1.toList) p.2) → (∀ ds ρ, I (b + l.length) (acc ++ ds) ρ → Q (ds, ρ)) → Ok (zft f (l.map enc) ρ) Q
 | [], b, acc, ρ, h0, _, hq => ok_some.mpr (hq [] ρ (by rw [List.append_nil]; exact h0))
 | a :: l, b, acc, ρ, h0, hs, hq => by
  obtain ⟨p, e, t⟩ := hs 0 a acc ρ rfl h0
  have go := ziN enc (Q := fun q => Q (p.1.toList ++ q.1, q.2)) I l (b + 1) (acc ++ p.1.toList) p.2 t (fun i a' acc' ρ' hi hp => by
   have := hs (i + 1) a' acc' ρ' (by simpa using hi) (by rw [show b + (i + 1) = b + 1 + i by omega]; exact hp)
   rw [show b + (i + 1) + 1 = b + 1 + i + 1 by omega] at this
   exact this) (fun ds ρ h => hq _ ρ (by rw [List.length_cons, show b + (l.length + 1) = b + 1 + l.length by omega, ← List.append_assoc]; exact h))
  have e' : zft f ((a :: l).map enc) ρ = (f (enc a) ρ).bind fun p => (zft f (l.map enc) p.2).map fun q => (p.1.toList ++ q.1, q.2) := rfl
  rw [e', e]
  exact ok_map.mpr go
theorem zkV {α : Type} {f : D → R → Option (Option D × R)} {enc : α → D} {l : List α} {ρ : R} {Q : List D × R → Prop} (I : Nat → List D → R → Prop) (h0 : I 0 [] ρ)
  (hs : ∀ i a acc ρ, l[i]? = some a → I i acc ρ → Ok (f (enc a) ρ) fun p => I (i + 1) (acc ++ p.1.toList) p.2) (hq : ∀ ds ρ, I l.length ds ρ → Q (ds, ρ)) : Ok (zft f (l.map enc) ρ) Q :=
 ziN enc I l 0 [] ρ h0 (fun i a acc ρ hi h => by rw [Nat.zero_add] at h ⊢; exact hs i a acc ρ hi h) (fun ds ρ h => hq ds ρ (by rw [Nat.zero_add] at h; exact h))
theorem zkN {α : Type} {f : D → R → Option (Option D × R)} {enc : α → D} {l : List α} {ρ : R} {Q : List D × R → Prop} (P : R → Prop) (g : α → Option D) (h0 : P ρ)
  (hs : ∀ a ρ, a ∈ l → P ρ → Ok (f (enc a) ρ) fun p => p.1 = g a ∧ P p.2) (hq : ∀ ρ, P ρ → Q (l.filterMap g, ρ)) : Ok (zft f (l.map enc) ρ) Q :=
 zkV (fun i ds ρ => ds = (l.take i).filterMap g ∧ P ρ) ⟨rfl, h0⟩ (fun i a acc ρ hi ⟨e, p⟩ => by
  refine (hs a ρ (List.mem_of_getElem? hi) p).mono fun r h => ⟨?_, h.2⟩
  obtain ⟨h1, h2⟩ := List.getElem?_eq_some_iff.mp hi
  rw [h.1, e, List.take_add_one, hi, List.filterMap_append]
  cases q : g a <;> simp [q]) (fun ds ρ ⟨e, p⟩ => by rw [List.take_length] at e; rw [e]; exact hq ρ p)
theorem ok_comp {α : Type} {f : D → R → Option (Option D × R)} {enc : α → D} {l : List α} {ρ : R} {Q : List D × R → Prop} (P : R → Prop) (g : α → D) (h0 : P ρ)
  (hs : ∀ a ρ, a ∈ l → P ρ → Ok (f (enc a) ρ) fun p => p.1 = some (g a) ∧ P p.2) (hq : ∀ ρ, P ρ → Q (l.map g, ρ)) : Ok (zft f (l.map enc) ρ) Q :=
 zkN P (fun a => some (g a)) h0 hs (fun ρ p => by rw [← Function.comp_def some g, List.filterMap_eq_map]; exact hq ρ p)
theorem dEq_int (i j : Int) : dEq (.int i) (.int j) = some (.bl (i == j)) := by
 unfold dEq
 rw [show noS (.int i) = true from rfl, show noS (.int j) = true from rfl, show depth (.int i) = 0 from rfl]
 rfl
theorem dNe_int (i j : Int) : dNe (.int i) (.int j) = some (.bl (i != j)) := by
 unfold dNe
 rw [show noS (.int i) = true from rfl, show noS (.int j) = true from rfl, show depth (.int i) = 0 from rfl]
 rfl
end M
namespace M
open PySem L2
theorem atI_n {α : Type} (xs : List α) (i : Nat) : atI xs (i : Int) = xs[i]? := by
 unfold atI ixN
 rw [if_pos (by omega)]
 by_cases h : i < xs.length
 ·rw [if_pos (by omega)]; simp
 ·rw [if_neg (by omega)]; simp [List.getElem?_eq_none (by omega : xs.length ≤ i)]
theorem atI_lit {α : Type} (xs : List α) (n : Nat) : atI xs (no_index (@OfNat.ofNat Int n _)) = xs[n]? := atI_n xs n
theorem atI_n1 {α : Type} (xs : List α) (i : Nat) : atI xs ((i : Int) + 1) = xs[i + 1]? := atI_n xs (i + 1)
theorem ixN_n (n i : Nat) : ixN n (i : Int) = if i < n then some i else none := by
 unfold ixN
 rw [if_pos (by omega)]
 by_cases h : i < n
 ·rw [if_pos (by omega), if_pos h]; simp
 ·rw [if_neg (by omega), if_neg h]
theorem ixN_lit (n i : Nat) : ixN n (no_index (@OfNat.ofNat Int i _)) = if i < n then some i else none := ixN_n n i
theorem zis {α : Type} (xs : List α) (x : α) : atI (xs ++ [x]) (-1) = some x := by
 unfold atI ixN
 rw [if_neg (by omega), if_pos (by simp; omega)]
 have : (-1 + ((xs ++ [x]).length : Int)).toNat = xs.length := by simp; omega
 simp only [Option.bind_some, this]
 simp
theorem zk7 (n : Nat) : ixN (n + 1) (-1) = some n := by
 unfold ixN
 rw [if_neg (by omega), if_pos (by omega)]
 congr 1; omega
theorem zf1 {i j : Int} (h : i.natAbs < 18446744073709551616) : zlH i j = true := by
 unfold zlH
 have : decide (i.natAbs < 2 ^ 64) = true := decide_eq_true h
 rw [this]; rfl
theorem zaw {j : Int} (h1 : -1000000000000 ≤ j) (h2 : j ≤ 1000000000000) : zdw j = true := by
 unfold zdw; rw [decide_eq_true h1, decide_eq_true h2]; rfl
end M
namespace M
open PySem L2
noncomputable def wL (n : Nat) (f : Nat → D) : List D := (List.range n).map f
noncomputable abbrev wI (n : Nat) (f : Nat → Int) : List D := wL n fun i => .int (f i)
theorem za9 (n : Nat) (f : Nat → D) : (wL n f).length = n := by simp [wL]
theorem zau {n i : Nat} (f : Nat → D) (h : i < n) : (wL n f)[i]? = some (f i) := by simp [wL, h]
theorem zf2 (n : Nat) (f : Nat → D) : wL (n + 1) f = wL n f ++ [f n] := by simp [wL, List.range_succ]
theorem zfR {n : Nat} {f g : Nat → D} (h : ∀ i, i < n → f i = g i) : wL n f = wL n g := List.map_congr_left fun i hi => h i (List.mem_range.mp hi)
theorem zmu (n : Nat) (f : Nat → D) (x : D) : wL n f ++ [x] = wL (n + 1) fun j => if j < n then f j else x := by
 rw [zf2]; congr 1
 ·exact zfR fun i hi => by rw [if_pos hi]
 ·rw [if_neg (by omega)]
theorem wL_set {n i : Nat} (f : Nat → D) (x : D) (h : i < n) : (wL n f).set i x = wL n fun j => if j = i then x else f j := by
 apply List.ext_getElem?
 intro j
 by_cases hj : j < n
 ·rw [zau _ hj, List.getElem?_set]
  by_cases e : i = j
  ·subst e; simp [za9, h]
  ·simp [e, zau _ hj, Ne.symm e]
 ·rw [List.getElem?_eq_none (by simp [za9]; omega), List.getElem?_eq_none (by simp [za9]; omega)]
theorem zko (n : Nat) (f : Nat → D) : zj3 (wL n f) = wL n fun i => .tup [.int (i : Nat), f i] := by
 apply List.ext_getElem?
 intro j
 unfold zj3
 by_cases hj : j < n
 ·rw [List.getElem?_zipWith, zau _ hj, zau _ hj]
  simp [za9, hj]
 ·rw [List.getElem?_eq_none (by simp [za9]; omega), List.getElem?_eq_none (by simp [za9]; omega)]
theorem zip2D_w (n : Nat) (f g : Nat → D) : zkd (wL n f) (wL n g) = wL n fun i => .tup [f i, g i] := by
 apply List.ext_getElem?
 intro j
 unfold zkd
 by_cases hj : j < n
 ·rw [List.getElem?_zipWith, zau _ hj, zau _ hj, zau _ hj]
 ·rw [List.getElem?_eq_none (by simp [za9]; omega), List.getElem?_eq_none (by simp [za9]; omega)]
theorem zfP {α : Type} (xs : List α) (i : Nat) : cutD xs none (some (i : Int)) = xs.take i := by
 unfold cutD
 rw [HT.zid, HT.zii, Nat.sub_zero, List.drop_zero]
 by_cases h : i ≤ xs.length
 ·rw [Nat.min_eq_left h]
 ·rw [Nat.min_eq_right (by omega), List.take_of_length_le (Nat.le_refl _), List.take_of_length_le (by omega)]
theorem zfs {α : Type} (xs : List α) (i : Nat) : cutD xs (some (i : Int)) none = xs.drop i := by
 unfold cutD
 rw [HT.zid, HT.zii]
 by_cases h : i ≤ xs.length
 ·rw [Nat.min_eq_left h, List.take_of_length_le (by simp)]
 ·rw [Nat.min_eq_right (by omega), List.drop_of_length_le (Nat.le_refl _), List.drop_of_length_le (by omega)]; simp
theorem zez : ∀ (l : List Int), zcz (l.map .int) = some l
 | [] => rfl
 | i :: l => by simp [zcz, zez l]
theorem zg4 (bt : Nat → Nat → Bool) : ∀ n, argBest bt n ≤ n
 | 0 => Nat.le_refl 0
 | n + 1 => by
  have := zg4 bt n
  unfold argBest
  split <;> omega
theorem ziV (lt : Int → Int → Bool) {ns : List Int} (h : ns ≠ []) : zha lt ns ∈ ns := by
 unfold zha
 have hl : 0 < ns.length := List.length_pos_iff.mpr h
 have := zg4 (fun i j => lt (ns.getD i 0) (ns.getD j 0)) (ns.length - 1)
 generalize argBest (fun i j => lt (ns.getD i 0) (ns.getD j 0)) (ns.length - 1) = k at *
 rw [List.getD_eq_getElem?_getD, List.getElem?_eq_getElem (by omega)]
 exact List.getElem_mem _
theorem zhL (lt : Int → Int → Bool) {ns : List Int} (h : ns ≠ []) : zmL lt [.lst (ns.map .int)] = some (.int (zha lt ns)) := by
 have hne : ns.isEmpty = false := by cases ns with | nil => exact absurd rfl h | cons => rfl
 simp only [zmL, za7, Option.bind_some, zez, hne]
 rfl
theorem zkx : ∀ {ds : List D}, (∀ d ∈ ds, noS d = true) → noSL ds = true
 | [], _ => rfl
 | d :: ds, h => by simp only [noSL, Bool.and_eq_true]; exact ⟨h d List.mem_cons_self, zkx fun e he => h e (List.mem_cons_of_mem _ he)⟩
theorem zgX {k : Nat} : ∀ {ds : List D}, (∀ d ∈ ds, depth d ≤ k) → zfW ds ≤ k
 | [], _ => Nat.zero_le _
 | d :: ds, h => by simp only [zfW]; exact Nat.max_le.mpr ⟨h d List.mem_cons_self, zgX fun e he => h e (List.mem_cons_of_mem _ he)⟩
noncomputable def Pl (k : Nat) (d : D) : Prop := noS d = true ∧ depth d ≤ k
theorem zjM (k : Nat) (i : Int) : Pl k (.int i) := ⟨rfl, Nat.zero_le _⟩
theorem zkU {k : Nat} {ds : List D} (h : ∀ d ∈ ds, Pl k d) : Pl (k + 1) (.lst ds) := ⟨by simp only [noS]; exact zkx fun d hd => (h d hd).1, by simp only [depth]; exact Nat.succ_le_succ (zgX fun d hd => (h d hd).2)⟩
theorem pl_tup {k : Nat} {ds : List D} (h : ∀ d ∈ ds, Pl k d) : Pl (k + 1) (.tup ds) := ⟨by simp only [noS]; exact zkx fun d hd => (h d hd).1, by simp only [depth]; exact Nat.succ_le_succ (zgX fun d hd => (h d hd).2)⟩
theorem pl_w {k n : Nat} {f : Nat → D} (h : ∀ i, Pl k (f i)) : ∀ d ∈ wL n f, Pl k d := fun d hd => by
 obtain ⟨i, _, rfl⟩ := List.mem_map.mp hd; exact h i
end M
namespace M
open PySem L2
theorem rangeD_w (n : Nat) : zdY 0 n = wL n fun i => .int (i : Nat) := by unfold zdY wL; simp only [Int.zero_add]
theorem zlX (lo : Int) (n : Nat) : zdY lo n = wL n fun i => .int (lo + (i : Nat)) := rfl
section
variable {n : Nat} {e : Nat → D} {ρ : R}
theorem zeb {f : D → R → Option (Fl × R)} {Q : Fl × R → Prop} (I : Nat → R → Prop) (h0 : I 0 ρ)
  (hs : ∀ i ρ, i < n → I i ρ → Ok (f (e i) ρ) (Turn (I (i + 1)) Q)) (hq : ∀ ρ, I n ρ → Q (.next, ρ)) : Ok (forM f (wL n e) ρ) Q :=
 ok_for (enc := e) (l := List.range n) I h0 (fun i a ρ hi h => by
  obtain ⟨h1, h2⟩ := List.getElem?_eq_some_iff.mp hi
  have : a = i := by simpa using h2.symm
  subst this
  exact hs a ρ (by simpa using h1) h) (fun ρ h => hq ρ (by simpa using h))
variable {f : D → R → Option (Option D × R)} {Q : List D × R → Prop}
theorem zjx (I : Nat → List D → R → Prop) (h0 : I 0 [] ρ)
  (hs : ∀ i acc ρ, i < n → I i acc ρ → Ok (f (e i) ρ) fun p => I (i + 1) (acc ++ p.1.toList) p.2) (hq : ∀ ds ρ, I n ds ρ → Q (ds, ρ)) : Ok (zft f (wL n e) ρ) Q :=
 zkV (enc := e) (l := List.range n) I h0 (fun i a acc ρ hi h => by
  obtain ⟨h1, h2⟩ := List.getElem?_eq_some_iff.mp hi
  have : a = i := by simpa using h2.symm
  subst this
  exact hs a acc ρ (by simpa using h1) h) (fun ds ρ h => hq ds ρ (by simpa using h))
theorem zjz (P : R → Prop) (g : Nat → Option D) (h0 : P ρ)
  (hs : ∀ i ρ, i < n → P ρ → Ok (f (e i) ρ) fun p => p.1 = g i ∧ P p.2) (hq : ∀ ρ, P ρ → Q ((List.range n).filterMap g, ρ)) : Ok (zft f (wL n e) ρ) Q :=
 zkN (enc := e) (l := List.range n) P g h0 (fun a ρ ha hp => hs a ρ (List.mem_range.mp ha) hp) hq
theorem zbn (P : R → Prop) (g : Nat → D) (h0 : P ρ)
  (hs : ∀ i ρ, i < n → P ρ → Ok (f (e i) ρ) fun p => p.1 = some (g i) ∧ P p.2) (hq : ∀ ρ, P ρ → Q (wL n g, ρ)) : Ok (zft f (wL n e) ρ) Q :=
 ok_comp (enc := e) (l := List.range n) P g h0 (fun a ρ ha hp => hs a ρ (List.mem_range.mp ha) hp) hq
end
end M
namespace M
end M
namespace M
theorem zgw (n : Nat) (f : Nat → Int) (x : Int) : wI n f ++ [.int x] = wI (n + 1) fun j => if j < n then f j else x := by
 rw [wI, zmu]; exact zfR fun j _ => by dsimp only; split <;> rfl
end M
namespace M
theorem zmk {j : Int} (h0 : 0 < j) (h1 : j < 2 ^ 250) : divOk j = true := by
 have h : j.natAbs.log2 < 9000 := by
  have : j.natAbs.log2 < 250 := (Nat.log2_lt (by omega)).mpr (by omega)
  omega
 unfold divOk; rw [decide_eq_true h0, decide_eq_true h]; rfl
end M
namespace M
theorem zgj {n i : Nat} (f : Nat → Int) (x : Int) (h : i < n) : (wI n f).set i (.int x) = wI n fun j => if j = i then x else f j := by
 rw [wI, wL_set _ _ h]; exact zfR fun j _ => by dsimp only; split <;> rfl
end M
namespace M
theorem isN_non : isN .non = true := rfl
theorem isN_int (i : Int) : isN (.int i) = false := rfl
theorem isN_bl (b : Bool) : isN (.bl b) = false := rfl
theorem isN_str (s : PySem.Str) : isN (.str s) = false := rfl
theorem isN_lst (ds : List D) : isN (.lst ds) = false := rfl
theorem isN_tup (ds : List D) : isN (.tup ds) = false := rfl
end M
namespace M
open PySem L2
theorem dItems_l (ds : List D) : za7 [.lst ds] = some ds := rfl
theorem dItems_t (ds : List D) : za7 [.tup ds] = some ds := rfl
theorem dItems_s (ns : List Int) : za7 [.scr ns] = some (ns.map .int) := rfl
theorem dLen_l (ds : List D) : dLen [.lst ds] = some (.int ds.length) := rfl
theorem dLen_t (ds : List D) : dLen [.tup ds] = some (.int ds.length) := rfl
theorem dLen_s (ns : List Int) : dLen [.scr ns] = some (.int ns.length) := rfl
theorem dTuple_l (ds : List D) : zcJ [.lst ds] = some (.tup ds) := rfl
theorem dTuple_t (ds : List D) : zcJ [.tup ds] = some (.tup ds) := rfl
theorem dTuple_s (ns : List Int) : zcJ [.scr ns] = some (.tup (ns.map .int)) := rfl
theorem dCut_l (ds : List D) (a b : Option Int) : dCut (.lst ds) a b = some (.lst (cutD ds a b)) := rfl
theorem dCut_t (ds : List D) (a b : Option Int) : dCut (.tup ds) a b = some (.tup (cutD ds a b)) := rfl
theorem dCut_s (ns : List Int) (a b : Option Int) : dCut (.scr ns) a b = some (.lst ((cutD ns a b).map .int)) := rfl
theorem dIx_l (ds : List D) (i : Int) : dIx (.lst ds) (.int i) = atI ds i := rfl
theorem dIx_t (ds : List D) (i : Int) : dIx (.tup ds) (.int i) = atI ds i := rfl
theorem dIx_s (ns : List Int) (i : Int) : dIx (.scr ns) (.int i) = (atI ns i).map .int := rfl
theorem dEq_str (a b : Str) : dEq (.str a) (.str b) = some (.bl (a == b)) := by
 unfold dEq
 rw [show noS (.str a) = true from rfl, show noS (.str b) = true from rfl, show depth (.str a) = 0 from rfl]
 rfl
theorem zip3D_w (n : Nat) (f g h : Nat → D) : zkr (wL n f) (wL n g) (wL n h) = wL n fun i => .tup [f i, g i, h i] := by
 apply List.ext_getElem?
 intro j
 unfold zkr
 by_cases hj : j < n
 ·have e : (List.zip (wL n g) (wL n h))[j]? = some (g j, h j) := by
   rw [List.getElem?_zip_eq_some]; exact ⟨zau g hj, zau h hj⟩
  rw [List.getElem?_zipWith, e, zau _ hj, zau _ hj]
 ·rw [List.getElem?_eq_none (by simp [za9]; omega), List.getElem?_eq_none (by simp [za9]; omega)]
structure Sq (d : D) (n : Nat) (f : Nat → Int) : Prop where
 it : za7 [d] = some (wI n f)
 ln : dLen [d] = some (.int n)
 tp : zcJ [d] = some (.tup (wI n f))
 ix : ∀ i, dIx d (.int i) = atI (wI n f) i
 ct : ∀ lo hi, ∃ d', dCut d lo hi = some d' ∧ za7 [d'] = some (cutD (wI n f) lo hi)
theorem Sq.lst (n : Nat) (f : Nat → Int) : Sq (.lst (wI n f)) n f := ⟨rfl, by rw [dLen_l, za9], rfl, fun _ => rfl, fun lo hi => ⟨_, rfl, rfl⟩⟩
theorem Sq.tup (n : Nat) (f : Nat → Int) : Sq (.tup (wI n f)) n f := ⟨rfl, by rw [dLen_t, za9], rfl, fun _ => rfl, fun lo hi => ⟨_, rfl, rfl⟩⟩
noncomputable def eqW (s : Nat) (a b : Nat → Int) : Bool := (List.range s).map a == (List.range s).map b
theorem zgQ : ∀ (xs ys : List Int), eqBL (xs.map D.int) (ys.map D.int) = (xs == ys)
 | [], [] => rfl
 | [], _ :: _ => rfl
 | _ :: _, [] => rfl
 | x :: xs, y :: ys => by simp [eqBL, eqB, zgQ xs ys]
theorem zjr (n : Nat) (f : Nat → Int) : wI n f = ((List.range n).map f).map .int := by simp [wL, List.map_map, Function.comp_def]
theorem zml (s : Nat) (a b : Nat → Int) : dEq (.tup (wI s a)) (.tup (wI s b)) = some (.bl (eqW s a b)) := by
 have p1 : Pl 1 (.tup (wI s a)) := pl_tup (pl_w fun c => zjM 0 _)
 have p2 : Pl 1 (.tup (wI s b)) := pl_tup (pl_w fun c => zjM 0 _)
 unfold dEq
 rw [p1.1, p2.1, decide_eq_true (Nat.le_trans p1.2 (by decide : 1 ≤ 50))]
 simp only [Bool.and_self, if_true, eqB]
 rw [zjr, zjr, zgQ]; rfl
theorem eqW_iff {s : Nat} {a b : Nat → Int} : eqW s a b = true ↔ ∀ i, i < s → a i = b i := by
 unfold eqW
 rw [beq_iff_eq]
 constructor
 ·intro h i hi
  have := congrArg (fun l => l[i]?) h
  simpa [hi] using this
 ·intro h
  exact List.map_congr_left fun i hi => h i (List.mem_range.mp hi)
theorem zfm (n : Nat) (b : Nat → Bool) : zfq (wL n fun i => .bl (b i)) = some ((List.range n).map b) := by
 have : ∀ l : List Nat, zfq (l.map fun i => D.bl (b i)) = some (l.map b) := by
  intro l
  induction l with
  | nil => rfl
  | cons a l ih => simp [zfq, ih]
 exact this _
theorem all_w (n : Nat) (b : Nat → Bool) : (((List.range n).map b).all id = true) ↔ ∀ i, i < n → b i = true := by simp
theorem any_w (n : Nat) (b : Nat → Bool) : (((List.range n).map b).any id = true) ↔ ∃ i, i < n ∧ b i = true := by simp
end M
namespace M
open PySem L2
theorem ok_eCutO {j : Nat} {ml mh : MP} {ρ : R} {Q : D × R → Prop} : Ok (eCutO j ml mh ρ) Q ↔ Ok (if (ρ[j]?.bind Sl.items).isSome then (ml ρ).bind fun q => (mh q.2).bind fun r => (r.2[j]?.bind Sl.items).bind fun ds => some (.lst (cutD ds q.1 r.1), r.2) else none) Q := Iff.rfl
theorem ok_sExt {i : Nat} {m : ME} {ρ : R} {Q : Fl × R → Prop} : Ok (sExt i m ρ) Q ↔ Ok (if (ρ[i]?.bind Sl.items).isSome then (m ρ).bind fun p => p.2[i]?.bind fun s => s.items.bind fun ds => match p.1 with
 | .lst es => if ds.length + es.length ≤ 16777216 then some (.next, p.2.set i (s.put (ds ++ es))) else none
 | _ => none else none) Q := Iff.rfl
end M
namespace M
open PySem L2
theorem ok_eRevT {ma : ME} {ml mh ms : MP} {ρ : R} {Q : D × R → Prop} : Ok (eRevT ma ml mh ms ρ) Q ↔ Ok ((ma ρ).bind fun p => (ml p.2).bind fun q => (mh q.2).bind fun r => (ms r.2).bind fun t => if q.1 = none ∧ r.1 = none ∧ t.1 = some (-1) then match p.1 with
 | .tup ds => some (.tup ds.reverse, t.2)
 | _ => none else none) Q := Iff.rfl
end M
set_option Elab.async false
set_option linter.all false
set_option maxRecDepth 100000
namespace M
open PySem L2
theorem zdu {j n m i : Nat} (hm : 0 < m) : i < cntS (j : Int) (n : Int) (m : Int) ↔ j + i * m < n := by
 unfold cntS
 by_cases h : (j : Int) < (n : Int)
 ·rw [if_pos h]
  have e : ((n : Int) - (j : Int) - 1) / (m : Int) = (((n - j - 1) / m : Nat) : Int) := by
   rw [Int.natCast_ediv]; congr 1; omega
  have e2 : ∀ q : Nat, ((q : Int) + 1).toNat = q + 1 := fun q => by omega
  rw [e, e2, Nat.lt_succ_iff, Nat.le_div_iff_mul_le hm]
  omega
 ·rw [if_neg h]
  constructor
  ·intro h; omega
  ·intro h; omega
theorem zlV {α β : Type} {h : α → Option β} {g : α → β} : ∀ (l : List α), (∀ a ∈ l, h a = some (g a)) → l.filterMap h = l.map g
 | [], _ => rfl
 | a :: l, e => by rw [List.filterMap_cons, e a List.mem_cons_self, List.map_cons, zlV l fun b hb => e b (List.mem_cons_of_mem _ hb)]
theorem zk9 {n j m : Nat} (f : Nat → D) (hm : 0 < m) (hj : j < n) : ziJ (wL n f) (some (j : Int)) none (some (m : Int)) = wL (cntS (j : Int) (n : Int) (m : Int)) fun i => f (j + i * m) := by
 have hb : sliceBounds (some (j : Int)) none (some (m : Int)) n = ((j : Int), (n : Int), (m : Int)) := by
  have : (m : Int) > 0 := by omega
  simp [sliceBounds, this]
  omega
 unfold ziJ
 rw [za9, hb]
 unfold sliceRange
 have h1 : (m : Int) > 0 := by omega
 have h2 : (j : Int) < (n : Int) := by omega
 simp only [h1, h2, if_true]
 have ec : (((n : Int) - (j : Int) + (m : Int) - 1) / (m : Int)).toNat = cntS (j : Int) (n : Int) (m : Int) := by
  unfold cntS
  rw [if_pos h2, show ((n : Int) - (j : Int) + (m : Int) - 1) = ((n : Int) - (j : Int) - 1) + (m : Int) by omega, Int.add_ediv_of_dvd_right (Int.dvd_refl _), Int.ediv_self (by omega)]
 rw [ec]
 rw [List.filterMap_map]
 apply zlV
 intro i hi
 have hi : j + i * m < n := (zdu hm).mp (List.mem_range.mp hi)
 have ht : ((j : Int) + (m : Int) * (i : Int)).toNat = j + i * m := by
  rw [show ((j : Int) + (m : Int) * (i : Int)) = ((j + i * m : Nat) : Int) by push_cast; rw [Int.mul_comm]]; omega
 simp only [Function.comp_def, ht]
 exact zau f hi
end M
set_option Elab.async false
set_option linter.all false
set_option maxRecDepth 100000
namespace M
open PySem L2
noncomputable def sumR : Nat → (Nat → Int) → Int
 | 0, _ => 0
 | n + 1, f => sumR n f + f n
theorem zdB {f g : Nat → Int} : ∀ {n : Nat}, (∀ i, i < n → f i = g i) → sumR n f = sumR n g
 | 0, _ => rfl
 | n + 1, h => by rw [sumR, sumR, zdB fun i hi => h i (by omega), h n (by omega)]
theorem sumR_add (f g : Nat → Int) : ∀ n, sumR n (fun i => f i + g i) = sumR n f + sumR n g
 | 0 => rfl
 | n + 1 => by simp only [sumR, sumR_add f g n]; omega
theorem zgl {f g : Nat → Int} : ∀ {n : Nat}, (∀ i, i < n → f i ≤ g i) → sumR n f ≤ sumR n g
 | 0, _ => Int.le_refl _
 | n + 1, h => by
  have h1 := zgl (n := n) fun i hi => h i (by omega)
  have h2 := h n (by omega)
  simp only [sumR]; omega
theorem zdH (f : Nat → Int) (a : Nat) : ∀ b, sumR (a + b) f = sumR a f + sumR b fun i => f (a + i)
 | 0 => by simp [sumR]
 | b + 1 => by rw [show a + (b + 1) = a + b + 1 by omega, sumR, sumR, zdH f a b]; omega
theorem zd4 (f : Nat → Int) : ∀ n, ((List.range n).map f).sum = sumR n f
 | 0 => rfl
 | n + 1 => by simp [List.range_succ, zd4 f n, sumR]
theorem zeW (n : Nat) (f : Nat → Int) : zcz (wI n f) = some ((List.range n).map f) := by
 have : wI n f = ((List.range n).map f).map .int := by simp [wL, List.map_map, Function.comp_def]
 rw [this, zez]
theorem cut_w {n a b : Nat} (f : Nat → D) (h : a + b ≤ n) : cutD (wL n f) (some (a : Int)) (some ((a : Int) + (b : Int))) = wL b fun i => f (a + i) := by
 have e : cutD (wL n f) (some (a : Int)) (some ((a : Int) + (b : Int))) = ((wL n f).drop a).take b := by
  unfold cutD
  rw [HT.zid, show ((a : Int) + (b : Int)) = ((a + b : Nat) : Int) by omega, HT.zid, za9]
  rw [Nat.min_eq_left h, Nat.min_eq_left (by omega : a ≤ n), Nat.add_sub_cancel_left]
 rw [e]
 apply List.ext_getElem?
 intro j
 by_cases hj : j < b
 ·rw [List.getElem?_take_of_lt hj, List.getElem?_drop, zau _ (by omega), zau _ hj]
 ·rw [List.getElem?_eq_none (by simp [za9]; omega), List.getElem?_eq_none (by rw [za9]; omega)]
end M
set_option Elab.async false
set_option linter.all false
set_option maxRecDepth 100000
namespace M
open PySem L2
theorem zfM (v : Nat → Int) : ∀ n i, i ≤ n → v i ≤ v (argBest (fun i j => decide (v i > v j)) n)
 | 0, i, h => by rw [show i = 0 by omega]; exact Int.le_refl _
 | n + 1, i, h => by
  simp only [argBest]
  by_cases c : v (n + 1) > v (argBest (fun i j => decide (v i > v j)) n)
  ·rw [if_pos (decide_eq_true c)]
   by_cases e : i = n + 1
   ·rw [e]; exact Int.le_refl _
   ·have := zfM v n i (by omega); omega
  ·rw [if_neg (by simpa using c)]
   by_cases e : i = n + 1
   ·rw [e]; omega
   ·exact zfM v n i (by omega)
theorem zfF (v : Nat → Int) : ∀ n i, i ≤ n → v (argBest (fun i j => decide (v i < v j)) n) ≤ v i
 | 0, i, h => by rw [show i = 0 by omega]; exact Int.le_refl _
 | n + 1, i, h => by
  simp only [argBest]
  by_cases c : v (n + 1) < v (argBest (fun i j => decide (v i < v j)) n)
  ·rw [if_pos (decide_eq_true c)]
   by_cases e : i = n + 1
   ·rw [e]; exact Int.le_refl _
   ·have := zfF v n i (by omega); omega
  ·rw [if_neg (by simpa using c)]
   by_cases e : i = n + 1
   ·rw [e]; omega
   ·exact zfF v n i (by omega)
theorem zle (g : Nat → Int) {c i : Nat} (h : i < c) : ((List.range c).map g).getD i 0 = g i := by
 rw [List.getD_eq_getElem?_getD]; simp [h]
theorem max_w (g : Nat → Int) {c : Nat} (hc : 0 < c) : ∃ v, zi5 [.lst (wI c g)] = some (.int v) ∧ (∃ i, i < c ∧ g i = v) ∧ ∀ i, i < c → g i ≤ v := by
 have hne : (List.range c).map g ≠ [] := fun h => by have := congrArg List.length h; simp at this; omega
 have e1 : wI c g = ((List.range c).map g).map .int := by simp [wL, List.map_map, Function.comp_def]
 refine ⟨_, by rw [e1]; exact zhL _ hne, ?_, ?_⟩
 ·obtain ⟨i, hi, e⟩ := List.mem_map.mp (ziV (fun i j => decide (i > j)) hne)
  exact ⟨i, List.mem_range.mp hi, e⟩
 ·intro i hi
  have := zfM (fun i => ((List.range c).map g).getD i 0) (c - 1) i (by omega)
  rw [zle g hi] at this
  unfold zha
  rw [List.length_map, List.length_range]
  exact this
theorem min_w (g : Nat → Int) {c : Nat} (hc : 0 < c) : ∃ v, ziO [.lst (wI c g)] = some (.int v) ∧ (∃ i, i < c ∧ g i = v) ∧ ∀ i, i < c → v ≤ g i := by
 have hne : (List.range c).map g ≠ [] := fun h => by have := congrArg List.length h; simp at this; omega
 have e1 : wI c g = ((List.range c).map g).map .int := by simp [wL, List.map_map, Function.comp_def]
 refine ⟨_, by rw [e1]; exact zhL _ hne, ?_, ?_⟩
 ·obtain ⟨i, hi, e⟩ := List.mem_map.mp (ziV (fun i j => decide (i < j)) hne)
  exact ⟨i, List.mem_range.mp hi, e⟩
 ·intro i hi
  have := zfF (fun i => ((List.range c).map g).getD i 0) (c - 1) i (by omega)
  rw [zle g hi] at this
  unfold zha
  rw [List.length_map, List.length_range]
  exact this
theorem max_pick (f : Nat → Int) {n m j : Nat} (hm : 0 < m) (hj : j < m) (hn : m ≤ n) : ∃ v, zi5 [.lst (ziJ (wI n f) (some (j : Int)) none (some (m : Int)))] = some (.int v) ∧ (∃ p, p < n ∧ p % m = j ∧ f p = v) ∧ ∀ p, p < n → p % m = j → f p ≤ v := by
 rw [wI, zk9 _ hm (by omega)]
 obtain ⟨v, e, ⟨i, hi, ei⟩, h⟩ := max_w (fun i => f (j + i * m)) (c := cntS (j : Int) (n : Int) (m : Int)) ((zdu hm).mpr (by omega))
 refine ⟨v, e, ⟨j + i * m, (zdu hm).mp hi, by rw [Nat.add_mul_mod_self_right, Nat.mod_eq_of_lt hj], ei⟩, fun p hp hpm => ?_⟩
 have e2 : j + p / m * m = p := by have := Nat.mod_add_div p m; rw [Nat.mul_comm]; omega
 have := h (p / m) ((zdu hm).mpr (by omega))
 rw [e2] at this
 exact this
theorem min_pick (f : Nat → Int) {n m j : Nat} (hm : 0 < m) (hj : j < m) (hn : m ≤ n) : ∃ v, ziO [.lst (ziJ (wI n f) (some (j : Int)) none (some (m : Int)))] = some (.int v) ∧ (∃ p, p < n ∧ p % m = j ∧ f p = v) ∧ ∀ p, p < n → p % m = j → v ≤ f p := by
 rw [wI, zk9 _ hm (by omega)]
 obtain ⟨v, e, ⟨i, hi, ei⟩, h⟩ := min_w (fun i => f (j + i * m)) (c := cntS (j : Int) (n : Int) (m : Int)) ((zdu hm).mpr (by omega))
 refine ⟨v, e, ⟨j + i * m, (zdu hm).mp hi, by rw [Nat.add_mul_mod_self_right, Nat.mod_eq_of_lt hj], ei⟩, fun p hp hpm => ?_⟩
 have e2 : j + p / m * m = p := by have := Nat.mod_add_div p m; rw [Nat.mul_comm]; omega
 have := h (p / m) ((zdu hm).mpr (by omega))
 rw [e2] at this
 exact this
end M
set_option Elab.async false
set_option linter.all false
set_option maxRecDepth 100000
namespace M
open PySem L2
open PyProof.Rows (step_dedup firstMet)
theorem ok_tPeek {j : Nat} {m : MT} {ρ : R} {Q : Bool × R → Prop} : Ok (tPeek j m ρ) Q ↔ Ok (match ρ[j]? with
 | some (.own ds) => if zga (ρ.set j .emp) then (m (ρ.set j (.val (.lst ds)))).map fun p => (p.1, ρ) else none
 | _ => none) Q := Iff.rfl
theorem ok_eIsO {tab : List (Str × Bool)} {ma : ME} {ρ : R} {Q : D × R → Prop} : Ok (eIsO tab ma ρ) Q ↔ Ok ((ma ρ).bind fun p => match p.1 with
 | .exc c => (tab.lookup c).map fun b => (.bl b, p.2)
 | _ => none) Q := Iff.rfl
theorem zlt {m : ME} {ρ : R} {Q : D × R → Prop} : Ok (eLenSet m ρ) Q ↔ Ok ((m ρ).bind fun p => match p.1 with
 | .lst ds => (zcz ds).bind fun ns => if ns.length < 4095 then some (.int (zkD ns : Nat), p.2) else none
 | _ => none) Q := Iff.rfl
end M
set_option Elab.async false
set_option linter.all false
set_option maxRecDepth 100000
namespace M
open PySem L2
theorem ok_gS {j : Nat} {mi : ME} {d : D} {ρ : R} {Q : R → Prop} : Ok (gS j mi d ρ) Q ↔ Ok (if hasV ρ j then (mi ρ).bind fun q => match q.1 with
 | .int k => q.2[j]?.bind fun s => s.items.bind fun ds => (ixN ds.length k).bind fun n => some (q.2.set j (s.put (ds.set n d)))
 | _ => none else none) Q := Iff.rfl
end M
set_option Elab.async false
set_option linter.all false
set_option maxRecDepth 100000
namespace M
open PySem L2
theorem zkH {j : Nat} {m : MT} {ρ : R} {ds : List D} {Q : Bool × R → Prop} (e : ρ[j]? = some (.own ds)) (hf : ((ρ.set j .emp).zip (ρ.set j (.val (.lst ds)))).all (fun q => zj2 q.1 q.2) = true) (hm : Ok (m (ρ.set j (.val (.lst ds)))) fun p => p.2 = ρ.set j (.val (.lst ds)) ∧ Q (p.1, ρ)) : Ok (zji j m ρ) Q := by
 obtain ⟨⟨b, ρ1⟩, e1, h1, h2⟩ := hm
 dsimp only at h1 h2
 subst h1
 exact ⟨(b, ρ), by unfold zji; rw [e]; show ((m _).bind _) = _; rw [e1]; show (if _ then _ else _) = _; rw [if_pos hf], h2⟩
theorem like_par (ns : List Int) : zj2 (.par (ns.map .int)) (.par (ns.map .int)) = true := by
 show (match zcz (ns.map D.int), zcz (ns.map D.int) with
  | some a, some b => a == b
  | _, _ => false) = true
 rw [zez]; exact beq_self_eq_true ns
theorem zkQ (d : D) (s : Sl) : zj2 (.val d) s = true := by cases s <;> rfl
theorem zk1 (s : Sl) : zj2 .emp s = true := by cases s <;> rfl
end M
local macro_rules | `(tactic| simp! only [$ls,*]) => `(tactic| simp only [↓M.ok_sIf, ↓M.ok_eIf, ↓M.ok_tAnd, ↓M.ok_tOr, ↓M.ok_eAnd, ↓M.ok_eOr, ↓M.ok_chain, ↓M.ok_turnM, ↓M.ok_turnP, ↓M.ok_bind, ↓M.ok_map, ↓M.zg2, ↓M.ok_some, ↓M.ok_sNext, ↓M.ok_sSeq, ↓M.ok_sExpr, ↓M.ok_sRet, ↓M.ok_sRetO, ↓M.ok_sRetV, ↓M.ok_gN, ↓M.ok_gsNil, ↓M.zmQ, ↓M.ok_gT, ↓M.ok_sAsg, ↓M.ok_sSet, ↓M.ok_sSetO, ↓M.ok_sApp, ↓M.ok_sPut, ↓M.ok_eC, ↓M.ok_eVar, ↓M.ok_aNil, ↓M.ok_aCons, ↓M.ok_m2, ↓M.ok_m1, ↓M.ok_mC, ↓M.ok_eIxV, ↓M.ok_eLenV, ↓M.ok_oC, ↓M.ok_eTup, ↓M.ok_oLst, ↓M.ok_tTru, ↓M.ok_tNotM, ↓M.ok_eCall, ↓M.ok_oCall, ↓M.zmC, ↓M.zlT, ↓M.ok_eFz, ↓M.ok_eCut, ↓M.ok_pNo, ↓M.ok_pSome, ↓M.ok_iSeq, ↓M.ok_iR1, ↓M.ok_iR2, ↓M.ok_sFor, ↓M.ok_oLC, ↓M.ok_oR, ↓M.ok_tTrue, ↓M.ok_eIsI, ↓M.ok_fP, ↓M.ok_fM, ↓M.ok_sAugI, ↓M.ok_eCutS, ↓M.ok_iR3, ↓M.ok_oRep, ↓M.ok_iZ2, ↓M.ok_iZ3, ↓M.ok_iEn, ↓M.ok_ePick, ↓M.ok_oPick, ↓M.ok_oLCM, ↓M.ok_eCutO, ↓M.ok_sExt, ↓M.ok_eRevT, ↓M.ok_sRet2, ↓M.zl5, ↓M.ok_eTupR, ↓M.ok_iR2L, ↓M.ok_tPeek, ↓M.ok_eIsO, ↓M.zlt, M.dI2, M.dSub, M.dDiv, M.dMod, M.dPow, M.dShl, M.dShr, M.dLt, M.dLe, M.dGt, M.dGe, M.dNeg, M.dMul, M.dAdd, M.dTru, M.dNot, M.Sl.read, M.Sl.items, M.Sl.put, M.hasV, M.zga, M.fz1, M.fzL, M.capS, M.capR, M.eIsI.noS1, M.okT, M.isI, M.d2I, M.dAbs, M.dInt, M.dSum, M.dAll, M.zi5, M.ziO, M.dIsN, M.dNotN, M.zj5, M.zmS, M.dIsB, M.dNotB, M.zme, M.seqK_ret, M.seqK_brk, M.zlY, M.zl7, M.zmb, M.turn_brk, M.turn_ret, List.getElem?_cons_zero, List.getElem?_cons_succ, List.set_cons_zero, List.set_cons_succ, Option.bind_some, Option.isSome_some, Option.map_some, if_true, List.map_cons, List.map_nil, List.replicate_succ, List.replicate_zero, List.length_cons, List.length_nil, List.cons_append, List.nil_append, List.all_cons, List.all_nil, Bool.and_true, Bool.true_and, Bool.and_self, Bool.true_eq_false, Bool.false_eq_true, if_false, M.dEq_int, M.dNe_int, List.length_map, List.length_append, M.atI_n, M.atI_lit, M.ixN_n, M.ixN_lit, M.atI_n1, M.ok_none, M.dItems_l, M.dItems_t, M.dItems_s, M.dLen_l, M.dLen_t, M.dLen_s, M.dTuple_l, M.dTuple_t, M.dTuple_s, M.dCut_l, M.dCut_t, M.dCut_s, M.dIx_l, M.dIx_t, M.dIx_s, M.dEq_str, M.zip3D_w, M.isN_non, M.isN_int, M.isN_bl, M.isN_str, M.isN_lst, M.isN_tup, M.zez, Int.toNat_natCast, M.rangeD_w, M.za9, decide_eq_true_eq, Bool.and_eq_true, true_and, and_true, Nat.reduceAdd, Nat.reduceLeDiff, Int.reduceLT, Int.reduceLE, Int.reduceNeg, Nat.reduceSub, Int.reducePow, Int.reduceMul, Int.reduceAdd, Int.reduceSub, Int.reduceMod, Int.reduceDiv, Nat.reduceLT, Nat.reduceBNe, Nat.reduceEqDiff, List.filter_cons, List.filter_nil, bne_self_eq_false, Int.reduceToNat, Nat.reducePow, M.zlC, Int.reduceEq, Int.reduceBEq, Int.reduceBNe, Nat.reduceMod, decide_true, decide_false, beq_iff_eq, beq_eq_false_iff_ne, bne_iff_ne, bne_eq_false_iff_eq, decide_eq_false_iff_not, Int.not_le, Int.not_lt, ne_eq, forall_const, true_implies, false_implies, reduceCtorEq, imp_self, implies_true, M.D.bl.injEq, exists_eq_left', Bool.not_true, Bool.not_false, $ls,*])
set_option Elab.async false
set_option linter.all false
set_option maxRecDepth 100000
namespace Prf
open PySem L2 M
noncomputable def top (i : Nat) : Stmt := PySem.Challenge.pw_tellsum_k11_lines_judged.main.body.getD i (.Pass ⟨0, 0, 0, 0⟩)
structure BN (K : W.Frag) (mg : Str → Option Value) : Prop where
 all' : mg "all" = none
 any' : mg "any" = none
 bool' : mg "bool" = none
 enumerate' : mg "enumerate" = none
 int' : mg "int" = none
 isinstance' : mg "isinstance" = none
 len' : mg "len" = none
 list' : mg "list" = none
 max' : mg "max" = none
 min' : mg "min" = none
 range' : mg "range" = none
 sum' : mg "sum" = none
 tuple' : mg "tuple" = none
 zip' : mg "zip" = none
noncomputable abbrev zbx : Stmt := top 1
noncomputable def zeS : ME :=
 (m2 dSub (eVar 0) (eVar 1))
noncomputable def zeC : MO :=
 oLC [] 2 (iZ2 (zaf (eVar 0) (zaf (eVar 1) aNil))) (gT 2 (zaP (gN 0) (zaP (gN 1) zfy))) zeR zeS
noncomputable def zd1 : MS :=
 (zjZ zeC)
noncomputable def zbA : List D → Option Sl := fP 2 zd1
theorem zib : FnScope ["bounds", "mores"] ["bounds", "mores"] (zad zbx) := ⟨rfl, rfl, rfl, by decide +kernel, rfl, by decide +kernel, by decide +kernel⟩
section
variable {P : Program} {w : World} {K : W.Frag} {mg : Str → Option Value} {base : Heap} {f : Addr} {cdv : Value} {A : Around} {outer : List Env} {s : Shared} {H : Hp} {E : XK}
theorem ziw (bn : BN K mg)  (hr : Room 0 (A.deeper (PyProof.Rows.envOfC "less_mores" (zad zbx) s.heap.objs.size f cdv))) :
  SSs (cxOf CX0 P w K mg base ["bounds", "mores"] "less_mores" (zad zbx) f cdv A outer s H E).nox (zao zbx) zd1 := by
 unfold zd1 zeC zeS
 exact (zan (zhf (zfA [] 2 ["bound", "more"] rfl (it_zip2 bn.zip' (zaa (zab 0) (zaa (zab 1) zai))) (fun C s H fp => (zeu rfl (zar (zap 0 (show (["bound", "more"] : List Str).Nodup by decide +kernel)) (zar (zap 1 (show (["bound", "more"] : List Str).Nodup by decide +kernel)) zcK)))) (fun C s H fp => zb5) (fun C s H fp => (zct (zab 0) (zab 1))))))
theorem zih {P : Program} {w : World} {K : W.Frag} {mg : Str → Option Value} {base : Heap} {f : Addr} {fd : FuncData} (bn : BN K mg)  (F : Fun K "less_mores" "less_mores" zbx f fd) : FnOk P w K mg base CX0 1 f fd ["bounds", "mores"] (spP K 2 zbA) :=
 zb9 (N := ["bounds", "mores"]) (ps := ["bounds", "mores"]) (k := 0) (n := 2) (m := zd1) F zib rfl (by decide) fun cdv A outer s H E hr => ziw bn  hr
noncomputable abbrev zaW : Stmt := top 2
noncomputable def zds : ME :=
 (m2 dAdd (eVar 3) (eIxV 0 (m2 dMod (eVar 2) (eVar 1))))
noncomputable def zdr : MO :=
 oLCM [4, 1] 2 0 4 (iEn (zaf (eVar 0) aNil)) (gT 2 (zaP (gN 2) (zaP (gN 3) zfy))) zeR zds
noncomputable def zcG : MS :=
 (sSeq (zfn 4 (oRep (eFz (oLst (zaf (eC (.int 0)) aNil))) (eVar 1)))
  (sSeq (sPut 4 (eVar 2) (m1 dNeg (eC (.int 1))))
  (sSeq (sPut 4 (eVar 3) (eC (.int 1)))
  (sRet (mC zcJ (zaf (eFz zdr) aNil))))))
noncomputable def zbE : List D → Option Sl := fP 5 zcG
theorem sc_exchanged_row : FnScope ["row", "many", "giver", "taker", "shifts"] ["row", "many", "giver", "taker"] (zad zaW) := ⟨rfl, rfl, rfl, by decide +kernel, rfl, by decide +kernel, by decide +kernel⟩
theorem zgI (bn : BN K mg)  (hr : Room 0 (A.deeper (PyProof.Rows.envOfC "exchanged_row" (zad zaW) s.heap.objs.size f cdv))) :
  SSs (cxOf CX0 P w K mg base ["row", "many", "giver", "taker", "shifts"] "exchanged_row" (zad zaW) f cdv A outer s H E).nox (zao zaW) zcG := by
 unfold zcG zdr zds
 exact (zah (zcR 4 (so_rep (SO.se (zeE (zaa zag zai))) (zab 1)) sc_exchanged_row.nd)
  (zah (zgA 4 (zfL zag) (zab 2))
  (zah (zgA 4 zag (zab 3))
  (zan (zaL (zcw bn.tuple' (zaa (SO.se (so_lcM [4, 1] 2 0 4 ["shifts", "many", "place", "number"] rfl (zfr bn.enumerate' (zaa (zab 0) zai)) (fun C s H fp => (zeu rfl (zar (zap 2 (show (["shifts", "many", "place", "number"] : List Str).Nodup by decide +kernel)) (zar (zap 3 (show (["shifts", "many", "place", "number"] : List Str).Nodup by decide +kernel)) zcK)))) (fun C s H fp => zb5) (fun C s H fp => (zaO (zab 3) (zaj 0 (zdy (zab 2) (zab 1))))))) zai)))))))
theorem zgL {P : Program} {w : World} {K : W.Frag} {mg : Str → Option Value} {base : Heap} {f : Addr} {fd : FuncData} (bn : BN K mg)  (F : Fun K "exchanged_row" "exchanged_row" zaW f fd) : FnOk P w K mg base CX0 1 f fd ["row", "many", "giver", "taker"] (spP K 4 zbE) :=
 zb9 (N := ["row", "many", "giver", "taker", "shifts"]) (ps := ["row", "many", "giver", "taker"]) (k := 0) (n := 4) (m := zcG) F sc_exchanged_row rfl (by decide) fun cdv A outer s H E hr => zgI bn  hr
noncomputable abbrev zbh : Stmt := top 3
noncomputable def zef : MS :=
 (sApp 2 (zbH zbE (zaf (eVar 0) (zaf (eVar 1) (zaf (eVar 3) (zaf (eVar 4) aNil))))))
noncomputable def zei : MS :=
 sFor (iR2 (zaf (m2 dAdd (eVar 3) (eC (.int 1))) (zaf (eVar 1) aNil))) (gN 4) zef
noncomputable def zel : MS :=
 zei
noncomputable def zec : MS :=
 sFor (iR1 (zaf (eVar 1) aNil)) (gN 3) zel
noncomputable def zdo : MS :=
 (sSeq (zfn 2 (oLst aNil))
  (sSeq zec
  (ziB 2)))
noncomputable def zcf : List D → Option Sl := fP 5 zdo
theorem sc_lesser_rows : FnScope ["row", "many", "rows", "giver", "taker"] ["row", "many"] (zad zbh) := ⟨rfl, rfl, rfl, by decide +kernel, rfl, by decide +kernel, by decide +kernel⟩
theorem zhm (bn : BN K mg) (zcs : FD P w K mg base 1 "exchanged_row" (spP K 4 zbE)) (hr : Room 1 (A.deeper (PyProof.Rows.envOfC "lesser_rows" (zad zbh) s.heap.objs.size f cdv))) :
  SSs (cxOf CX0 P w K mg base ["row", "many", "rows", "giver", "taker"] "lesser_rows" (zad zbh) f cdv A outer s H E).nox (zao zbh) zdo := by
 unfold zdo zec zel zei zef
 exact (zah (zcR 2 (zeE zai) sc_lesser_rows.nd)
  (zah (zff PassesOwn.never rfl (zb6 bn.range' (zaa (zab 1) zai)) (zap 3 sc_lesser_rows.nd)
  (zan (zff PassesOwn.never rfl (zl9 bn.range' (zaa (zaO (zab 3) zag) (zaa (zab 1) zai))) (zap 4 sc_lesser_rows.nd)
  (zan (zfV 2 (zaI zcs hr (zaa (zab 0) (zaa (zab 1) (zaa (zab 3) (zaa (zab 4) zai)))) (hlen := (zac (zac (zac (zac zam)))))))))))
  (zan (zgy 2))))
theorem zhr {P : Program} {w : World} {K : W.Frag} {mg : Str → Option Value} {base : Heap} {f : Addr} {fd : FuncData} (bn : BN K mg) (zcs : FD P w K mg base 1 "exchanged_row" (spP K 4 zbE)) (F : Fun K "lesser_rows" "lesser_rows" zbh f fd) : FnOk P w K mg base CX0 2 f fd ["row", "many"] (spP K 2 zcf) :=
 zb9 (N := ["row", "many", "rows", "giver", "taker"]) (ps := ["row", "many"]) (k := 1) (n := 2) (m := zdo) F sc_lesser_rows rfl (by decide) fun cdv A outer s H E hr => zhm bn zcs hr
noncomputable abbrev zcm : Stmt := top 5
noncomputable def zfu : MS :=
 (sApp 2 (m2 dSub (m2 dAdd (eIxV 2 (eVar 3)) (eIxV 1 (m2 dAdd (eVar 3) (eC (.int 1))))) (eIxV 1 (eVar 3))))
noncomputable def zfv : MS :=
 sFor (iR1 (zaf (m2 dSub (zcN 1) (eC (.int 1))) aNil)) (gN 3) zfu
noncomputable def zfh : MS :=
 (sSeq (sSet 1 (eIxV 0 (eC (.int 1))))
  (sSeq (zfn 2 (oRep (eFz (oLst (zaf (eC (.int 0)) aNil))) (eIxV 0 (eC (.int 0)))))
  (sSeq zfv
  (ziB 2))))
noncomputable def zcu : List D → Option Sl := fP 4 zfh
theorem sc_mores_of : FnScope ["line", "sums", "mores", "i"] ["line"] (zad zcm) := ⟨rfl, rfl, rfl, by decide +kernel, rfl, by decide +kernel, by decide +kernel⟩
theorem zkm (bn : BN K mg)  (hr : Room 0 (A.deeper (PyProof.Rows.envOfC "mores_of" (zad zcm) s.heap.objs.size f cdv))) :
  SSs (cxOf CX0 P w K mg base ["line", "sums", "mores", "i"] "mores_of" (zad zcm) f cdv A outer s H E).nox (zao zcm) zfh := by
 unfold zfh zfv zfu
 exact (zah (zax 1 (zaj 0 zag) sc_mores_of.nd)
  (zah (zcR 2 (so_rep (SO.se (zeE (zaa zag zai))) (zaj 0 zag)) sc_mores_of.nd)
  (zah (zff PassesOwn.never rfl (zb6 bn.range' (zaa (zct (za2 1 bn.len') zag) zai)) (zap 3 sc_mores_of.nd)
  (zan (zfV 2 (zct (zaO (zaj 2 (zab 3)) (zaj 1 (zaO (zab 3) zag))) (zaj 1 (zab 3))))))
  (zan (zgy 2)))))
theorem zkl {P : Program} {w : World} {K : W.Frag} {mg : Str → Option Value} {base : Heap} {f : Addr} {fd : FuncData} (bn : BN K mg)  (F : Fun K "mores_of" "mores_of" zcm f fd) : FnOk P w K mg base CX0 1 f fd ["line"] (spP K 1 zcu) :=
 zb9 (N := ["line", "sums", "mores", "i"]) (ps := ["line"]) (k := 0) (n := 1) (m := zfh) F sc_mores_of rfl (by decide) fun cdv A outer s H E hr => zkm bn  hr
noncomputable abbrev zcl : Stmt := top 6
noncomputable def zfk : MS :=
 (zjZ (zhX zbA (zaf (eIxV 0 (eC (.int 2))) (zaf (zbH zcu (zaf (eVar 0) aNil)) aNil))))
noncomputable def zdF : List D → Option Sl := fP 1 zfk
theorem zkg : FnScope ["line"] ["line"] (zad zcl) := ⟨rfl, rfl, rfl, by decide +kernel, rfl, by decide +kernel, by decide +kernel⟩
theorem zkc (bn : BN K mg) (zba : FD P w K mg base 1 "less_mores" (spP K 2 zbA)) (zbV : FD P w K mg base 1 "mores_of" (spP K 1 zcu)) (hr : Room 1 (A.deeper (PyProof.Rows.envOfC "low_asks" (zad zcl) s.heap.objs.size f cdv))) :
  SSs (cxOf CX0 P w K mg base ["line"] "low_asks" (zad zcl) f cdv A outer s H E).nox (zao zcl) zfk := by
 unfold zfk
 exact (zan (zhf (zkh zba hr (zaa (zaj 0 zag) (zaa (zaI zbV hr (zaa (zab 0) zai) (hlen := (zac zam))) zai)) (hlen := (zac (zac zam))))))
theorem zku {P : Program} {w : World} {K : W.Frag} {mg : Str → Option Value} {base : Heap} {f : Addr} {fd : FuncData} (bn : BN K mg) (zba : FD P w K mg base 1 "less_mores" (spP K 2 zbA)) (zbV : FD P w K mg base 1 "mores_of" (spP K 1 zcu)) (F : Fun K "low_asks" "low_asks" zcl f fd) : FnOk P w K mg base CX0 2 f fd ["line"] (spP K 1 zdF) :=
 zb9 (N := ["line"]) (ps := ["line"]) (k := 1) (n := 1) (m := zfk) F zkg rfl (by decide) fun cdv A outer s H E hr => zkc bn zba zbV hr
noncomputable abbrev zbN : Stmt := top 7
noncomputable def zeO : MS :=
 (zjZ (zhX zbA (zaf (eIxV 0 (eC (.int 3))) (zaf (zbH zcu (zaf (eVar 0) aNil)) aNil))))
noncomputable def zde : List D → Option Sl := fP 1 zeO
theorem zjL : FnScope ["line"] ["line"] (zad zbN) := ⟨rfl, rfl, rfl, by decide +kernel, rfl, by decide +kernel, by decide +kernel⟩
theorem ziW (bn : BN K mg) (zba : FD P w K mg base 1 "less_mores" (spP K 2 zbA)) (zbV : FD P w K mg base 1 "mores_of" (spP K 1 zcu)) (hr : Room 1 (A.deeper (PyProof.Rows.envOfC "high_asks" (zad zbN) s.heap.objs.size f cdv))) :
  SSs (cxOf CX0 P w K mg base ["line"] "high_asks" (zad zbN) f cdv A outer s H E).nox (zao zbN) zeO := by
 unfold zeO
 exact (zan (zhf (zkh zba hr (zaa (zaj 0 zag) (zaa (zaI zbV hr (zaa (zab 0) zai) (hlen := (zac zam))) zai)) (hlen := (zac (zac zam))))))
theorem zjh {P : Program} {w : World} {K : W.Frag} {mg : Str → Option Value} {base : Heap} {f : Addr} {fd : FuncData} (bn : BN K mg) (zba : FD P w K mg base 1 "less_mores" (spP K 2 zbA)) (zbV : FD P w K mg base 1 "mores_of" (spP K 1 zcu)) (F : Fun K "high_asks" "high_asks" zbN f fd) : FnOk P w K mg base CX0 2 f fd ["line"] (spP K 1 zde) :=
 zb9 (N := ["line"]) (ps := ["line"]) (k := 1) (n := 1) (m := zeO) F zjL rfl (by decide) fun cdv A outer s H E hr => ziW bn zba zbV hr
noncomputable abbrev zbK : Stmt := top 9
noncomputable def ze2 : ME :=
 (mC dSum (zaf (eCut (eVar 0) (zd2 (eVar 2)) (zd2 (m2 dAdd (eVar 2) (eVar 1)))) aNil))
noncomputable def ze3 : MO :=
 oLC [0, 1] 1 (iR1 (zaf (m2 dAdd (m2 dSub (zcN 0) (eVar 1)) (eC (.int 1))) aNil)) (gN 2) zeR ze2
noncomputable def zev : MS :=
 (sRet (mC zcJ (zaf (eFz ze3) aNil)))
noncomputable def zc5 : List D → Option Sl := fP 2 zev
theorem zjf : FnScope ["row", "k"] ["row", "k"] (zad zbK) := ⟨rfl, rfl, rfl, by decide +kernel, rfl, by decide +kernel, by decide +kernel⟩
theorem zjj (bn : BN K mg)  (hr : Room 0 (A.deeper (PyProof.Rows.envOfC "line_sums" (zad zbK) s.heap.objs.size f cdv))) :
  SSs (cxOf CX0 P w K mg base ["row", "k"] "line_sums" (zad zbK) f cdv A outer s H E).nox (zao zbK) zev := by
 unfold zev ze3 ze2
 exact (zan (zaL (zcw bn.tuple' (zaa (SO.se (zfA [0, 1] 1 ["row", "k", "i"] rfl (zb6 bn.range' (zaa (zaO (zct (za2 0 bn.len') (zab 1)) zag) zai)) (fun C s H fp => (zap 2 (show (["row", "k", "i"] : List Str).Nodup by decide +kernel))) (fun C s H fp => zb5) (fun C s H fp => (zg5 rfl bn.sum' (zaa (zcX (zab 0) (zbu (zab 2)) (zbu (zaO (zab 2) (zab 1)))) zai))))) zai))))
theorem zjw {P : Program} {w : World} {K : W.Frag} {mg : Str → Option Value} {base : Heap} {f : Addr} {fd : FuncData} (bn : BN K mg)  (F : Fun K "line_sums" "line_sums" zbK f fd) : FnOk P w K mg base CX0 1 f fd ["row", "k"] (spP K 2 zc5) :=
 zb9 (N := ["row", "k"]) (ps := ["row", "k"]) (k := 0) (n := 2) (m := zev) F zjf rfl (by decide) fun cdv A outer s H E hr => zjj bn  hr
noncomputable abbrev zbs : Stmt := top 10
noncomputable def zeV : ME :=
 (eIxV 0 (eVar 1))
noncomputable def zeG : MO :=
 oLC [0] 1 (iSeq (eVar 1)) (gN 1) zeR zeV
noncomputable def zdW : MS :=
 (sRet (mC dSum (zaf (eFz zeG) aNil)))
noncomputable def zbB : List D → Option Sl := fP 2 zdW
theorem zhS : FnScope ["row", "places"] ["row", "places"] (zad zbs) := ⟨rfl, rfl, rfl, by decide +kernel, rfl, by decide +kernel, by decide +kernel⟩
theorem zh7 (bn : BN K mg)  (hr : Room 0 (A.deeper (PyProof.Rows.envOfC "chosen_sum" (zad zbs) s.heap.objs.size f cdv))) :
  SSs (cxOf CX0 P w K mg base ["row", "places"] "chosen_sum" (zad zbs) f cdv A outer s H E).nox (zao zbs) zdW := by
 unfold zdW zeG zeV
 exact (zan (zaL (zg5 rfl bn.sum' (zaa (SO.se (zfA [0] 1 ["row", "place"] rfl (zfp (zab 1)) (fun C s H fp => (zap 1 (show (["row", "place"] : List Str).Nodup by decide +kernel))) (fun C s H fp => zb5) (fun C s H fp => (zaj 0 (zab 1))))) zai))))
theorem zhZ {P : Program} {w : World} {K : W.Frag} {mg : Str → Option Value} {base : Heap} {f : Addr} {fd : FuncData} (bn : BN K mg)  (F : Fun K "chosen_sum" "chosen_sum" zbs f fd) : FnOk P w K mg base CX0 1 f fd ["row", "places"] (spP K 2 zbB) :=
 zb9 (N := ["row", "places"]) (ps := ["row", "places"]) (k := 0) (n := 2) (m := zdW) F zhS rfl (by decide) fun cdv A outer s H E hr => zh7 bn  hr
noncomputable abbrev zby : Stmt := top 12
noncomputable def zeM : ME :=
 (zfj dLe dLe (eVar 0) (eVar 1) (eVar 2))
noncomputable def zeT : MO :=
 oLC [] 3 (iZ3 (zaf (eVar 1) (zaf (eVar 0) (zaf (eVar 2) aNil)))) (gT 3 (zaP (gN 0) (zaP (gN 1) (zaP (gN 2) zfy)))) zeR zeM
noncomputable def zew : MS :=
 (sRet (mC (dAll fun bs => bs.all id) (zaf (eFz zeT) aNil)))
noncomputable def zdQ : MS :=
 (sSeq (sIf (tTru (m2 dNe (zcN 0) (zcN 1)))
  (sRet (eC (.bl false)))
  zcv)
  zew)
noncomputable def zcF : List D → Option Sl := fP 3 zdQ
theorem zh1 : FnScope ["row", "least", "greatest"] ["row", "least", "greatest"] (zad zby) := ⟨rfl, rfl, rfl, by decide +kernel, rfl, by decide +kernel, by decide +kernel⟩
theorem zh3 (bn : BN K mg)  (hr : Room 0 (A.deeper (PyProof.Rows.envOfC "row_within" (zad zby) s.heap.objs.size f cdv))) :
  SSs (cxOf CX0 P w K mg base ["row", "least", "greatest"] "row_within" (zad zby) f cdv A outer s H E).nox (zao zby) zdQ := by
 unfold zdQ zew zeT zeM
 exact (zah (zca (zgK hr.units (za2 0 bn.len') (za2 1 bn.len'))
  (zan (zaL zgH))
  zaQ)
  (zan (zaL (zkC rfl bn.all' (zaa (SO.se (zfA [] 3 ["low", "number", "high"] rfl (it_zip3 bn.zip' (zaa (zab 1) (zaa (zab 0) (zaa (zab 2) zai)))) (fun C s H fp => (zeu rfl (zar (zap 0 (show (["low", "number", "high"] : List Str).Nodup by decide +kernel)) (zar (zap 1 (show (["low", "number", "high"] : List Str).Nodup by decide +kernel)) (zar (zap 2 (show (["low", "number", "high"] : List Str).Nodup by decide +kernel)) zcK))))) (fun C s H fp => zb5) (fun C s H fp => (zgR zhk zhk zdg zdg (zab 0) (zab 1) (zab 2))))) zai)))))
theorem zik {P : Program} {w : World} {K : W.Frag} {mg : Str → Option Value} {base : Heap} {f : Addr} {fd : FuncData} (bn : BN K mg)  (F : Fun K "row_within" "row_within" zby f fd) : FnOk P w K mg base CX0 1 f fd ["row", "least", "greatest"] (spP K 3 zcF) :=
 zb9 (N := ["row", "least", "greatest"]) (ps := ["row", "least", "greatest"]) (k := 0) (n := 3) (m := zdQ) F zh1 rfl (by decide) fun cdv A outer s H E hr => zh3 bn  hr
noncomputable abbrev zbr : Stmt := top 13
noncomputable def zd0 : MS :=
 (sRet (eAnd (zbH zcF (zaf (eVar 1) (zaf (eIxV 0 (eC (.int 2))) (zaf (eIxV 0 (eC (.int 3))) aNil)))) (m2 dEq (zbH zc5 (zaf (eVar 1) (zaf (eIxV 0 (eC (.int 0))) aNil))) (eIxV 0 (eC (.int 1))))))
noncomputable def zbJ : List D → Option Sl := fP 2 zd0
theorem ziv : FnScope ["line", "row"] ["line", "row"] (zad zbr) := ⟨rfl, rfl, rfl, by decide +kernel, rfl, by decide +kernel, by decide +kernel⟩
theorem zio (bn : BN K mg) (zdT : FD P w K mg base 1 "line_sums" (spP K 2 zc5)) (zdp : FD P w K mg base 1 "row_within" (spP K 3 zcF)) (hr : Room 1 (A.deeper (PyProof.Rows.envOfC "line_holds" (zad zbr) s.heap.objs.size f cdv))) :
  SSs (cxOf CX0 P w K mg base ["line", "row"] "line_holds" (zad zbr) f cdv A outer s H E).nox (zao zbr) zd0 := by
 unfold zd0
 exact (zan (zaL (zhI (zaI zdp hr (zaa (zab 1) (zaa (zaj 0 zag) (zaa (zaj 0 zag) zai))) (hlen := (zac (zac (zac zam))))) (zhM (zie hr.units (zaI zdT hr (zaa (zab 1) (zaa (zaj 0 zag) zai)) (hlen := (zac (zac zam)))) (zaj 0 zag))))))
theorem zil {P : Program} {w : World} {K : W.Frag} {mg : Str → Option Value} {base : Heap} {f : Addr} {fd : FuncData} (bn : BN K mg) (zdT : FD P w K mg base 1 "line_sums" (spP K 2 zc5)) (zdp : FD P w K mg base 1 "row_within" (spP K 3 zcF)) (F : Fun K "line_holds" "line_holds" zbr f fd) : FnOk P w K mg base CX0 2 f fd ["line", "row"] (spP K 2 zbJ) :=
 zb9 (N := ["line", "row"]) (ps := ["line", "row"]) (k := 1) (n := 2) (m := zd0) F ziv rfl (by decide) fun cdv A outer s H E hr => zio bn zdT zdp hr
noncomputable abbrev zbd : Stmt := top 15
noncomputable def zer : ME :=
 (zbH zbJ (zaf (eVar 0) (zaf (eVar 1) aNil)))
noncomputable def zd6 : MO :=
 oLC [0] 1 (iSeq (zbH zcf (zaf (eVar 1) (zaf (eIxV 0 (eC (.int 0))) aNil)))) (gN 1) zeR zer
noncomputable def zek : MS :=
 (sRet (m1 dNot (mC (dAll fun bs => bs.any id) (zaf (eFz zd6) aNil))))
noncomputable def zdn : MS :=
 (sSeq (sIf (zhh (tTru (zbH zbJ (zaf (eVar 0) (zaf (eVar 1) aNil)))))
  (sRet (eC (.bl false)))
  zcv)
  zek)
noncomputable def zcb : List D → Option Sl := fP 2 zdn
theorem zhC : FnScope ["line", "row"] ["line", "row"] (zad zbd) := ⟨rfl, rfl, rfl, by decide +kernel, rfl, by decide +kernel, by decide +kernel⟩
theorem zhl (bn : BN K mg) (zcV : FD P w K mg base 2 "lesser_rows" (spP K 2 zcf)) (zcH : FD P w K mg base 2 "line_holds" (spP K 2 zbJ)) (hr : Room 2 (A.deeper (PyProof.Rows.envOfC "least_right" (zad zbd) s.heap.objs.size f cdv))) :
  SSs (cxOf CX0 P w K mg base ["line", "row"] "least_right" (zad zbd) f cdv A outer s H E).nox (zao zbd) zdn := by
 unfold zdn zek zd6 zer
 exact (zah (zca (zgB (zf7 (zaI zcH hr (zaa (zab 0) (zaa (zab 1) zai)) (hlen := (zac (zac zam))))))
  (zan (zaL zgH))
  zaQ)
  (zan (zaL (se_not (se_any rfl bn.any' (zaa (SO.se (zfA [0] 1 ["line", "lesser"] rfl (zfp (zaI zcV hr (zaa (zab 1) (zaa (zaj 0 zag) zai)) (hlen := (zac (zac zam))))) (fun C s H fp => (zap 1 (show (["line", "lesser"] : List Str).Nodup by decide +kernel))) (fun C s H fp => zb5) (fun C s H fp => (zaI zcH hr (zaa (zab 0) (zaa (zab 1) zai)) (hlen := (zac (zac zam))))))) zai))))))
theorem zhp {P : Program} {w : World} {K : W.Frag} {mg : Str → Option Value} {base : Heap} {f : Addr} {fd : FuncData} (bn : BN K mg) (zcV : FD P w K mg base 2 "lesser_rows" (spP K 2 zcf)) (zcH : FD P w K mg base 2 "line_holds" (spP K 2 zbJ)) (F : Fun K "least_right" "least_right" zbd f fd) : FnOk P w K mg base CX0 3 f fd ["line", "row"] (spP K 2 zcb) :=
 zb9 (N := ["line", "row"]) (ps := ["line", "row"]) (k := 2) (n := 2) (m := zdn) F zhC rfl (by decide) fun cdv A outer s H E hr => zhl bn zcV zcH hr
noncomputable abbrev zbe : Stmt := top 16
noncomputable def zc2 : MS :=
 (sRet (m2 dGt (eIxV 0 (eVar 3)) (eIxV 1 (eVar 4))))
noncomputable def zdv : MS :=
 (sSeq (sIf (tOrM (zhh (tTru (zfj dLe dLt (eC (.int 0)) (eVar 3) (zcN 0)))) (tOrM (zhh (tTru (zfj dLe dLt (eC (.int 0)) (eVar 4) (zcN 1)))) (tTru (m2 dNe (m2 dMod (eVar 3) (eVar 2)) (m2 dMod (eVar 4) (eVar 2))))))
  (sRet (eC (.bl false)))
  zcv)
  zc2)
noncomputable def zcn : List D → Option Sl := fP 5 zdv
theorem zhA : FnScope ["lows", "highs", "many", "a", "b"] ["lows", "highs", "many", "a", "b"] (zad zbe) := ⟨rfl, rfl, rfl, by decide +kernel, rfl, by decide +kernel, by decide +kernel⟩
theorem zht (bn : BN K mg)  (hr : Room 0 (A.deeper (PyProof.Rows.envOfC "clash_right" (zad zbe) s.heap.objs.size f cdv))) :
  SSs (cxOf CX0 P w K mg base ["lows", "highs", "many", "a", "b"] "clash_right" (zad zbe) f cdv A outer s H E).nox (zao zbe) zdv := by
 unfold zdv zc2
 exact (zah (zca (STw.st (zkq (zgB (zgP zhk zjF zdg zdg zhG zag (zab 3) (za2 0 bn.len'))) (zkq (zgB (zgP zhk zjF zdg zdg zhG zag (zab 4) (za2 1 bn.len'))) (zkM (zgK hr.units (zdy (zab 3) (zab 2)) (zdy (zab 4) (zab 2)))))))
  (zan (zaL zgH))
  zaQ)
  (zan (zaL (se_gt (zaj 0 (zab 3)) (zaj 1 (zab 4))))))
theorem zhn {P : Program} {w : World} {K : W.Frag} {mg : Str → Option Value} {base : Heap} {f : Addr} {fd : FuncData} (bn : BN K mg)  (F : Fun K "clash_right" "clash_right" zbe f fd) : FnOk P w K mg base CX0 1 f fd ["lows", "highs", "many", "a", "b"] (spP K 5 zcn) :=
 zb9 (N := ["lows", "highs", "many", "a", "b"]) (ps := ["lows", "highs", "many", "a", "b"]) (k := 0) (n := 5) (m := zdv) F zhA rfl (by decide) fun cdv A outer s H E hr => zht bn  hr
noncomputable abbrev zbb : Stmt := top 17
noncomputable def zeh : ME :=
 (eAnd (zfj dLe dLt (eC (.int 0)) (eVar 3) (zcN 0)) (m2 dEq (m2 dMod (eVar 3) (eVar 1)) (eVar 2)))
noncomputable def zea : MO :=
 oLC [0, 1] 2 (iEn (zaf (eVar 2) aNil)) (gT 2 (zaP (gN 2) (zaP (gN 3) zfy))) zeR zeh
noncomputable def zes : MS :=
 (sRet (mC (dAll fun bs => bs.all id) (zaf (eFz zea) aNil)))
noncomputable def zdi : MS :=
 (sSeq (sIf (tTru (m2 dNe (zcN 2) (eVar 1)))
  (sRet (eC (.bl false)))
  zcv)
  zes)
noncomputable def zbc : List D → Option Sl := fP 3 zdi
theorem zho : FnScope ["asks", "many", "places"] ["asks", "many", "places"] (zad zbb) := ⟨rfl, rfl, rfl, by decide +kernel, rfl, by decide +kernel, by decide +kernel⟩
theorem zhx (bn : BN K mg)  (hr : Room 0 (A.deeper (PyProof.Rows.envOfC "one_of_each" (zad zbb) s.heap.objs.size f cdv))) :
  SSs (cxOf CX0 P w K mg base ["asks", "many", "places"] "one_of_each" (zad zbb) f cdv A outer s H E).nox (zao zbb) zdi := by
 unfold zdi zes zea zeh
 exact (zah (zca (zgK hr.units (za2 2 bn.len') (zab 1))
  (zan (zaL zgH))
  zaQ)
  (zan (zaL (zkC rfl bn.all' (zaa (SO.se (zfA [0, 1] 2 ["asks", "many", "j", "place"] rfl (zfr bn.enumerate' (zaa (zab 2) zai)) (fun C s H fp => (zeu rfl (zar (zap 2 (show (["asks", "many", "j", "place"] : List Str).Nodup by decide +kernel)) (zar (zap 3 (show (["asks", "many", "j", "place"] : List Str).Nodup by decide +kernel)) zcK)))) (fun C s H fp => zb5) (fun C s H fp => (zhI (zgR zhk zjF zdg zdg zag (zab 3) (za2 0 bn.len')) (zhM (zie hr.units (zdy (zab 3) (zab 1)) (zab 2))))))) zai)))))
theorem zhg {P : Program} {w : World} {K : W.Frag} {mg : Str → Option Value} {base : Heap} {f : Addr} {fd : FuncData} (bn : BN K mg)  (F : Fun K "one_of_each" "one_of_each" zbb f fd) : FnOk P w K mg base CX0 1 f fd ["asks", "many", "places"] (spP K 3 zbc) :=
 zb9 (N := ["asks", "many", "places"]) (ps := ["asks", "many", "places"]) (k := 0) (n := 3) (m := zdi) F zho rfl (by decide) fun cdv A outer s H E hr => zhx bn  hr
noncomputable abbrev zbR : Stmt := top 18
noncomputable def zeP : MS :=
 (sRet (eAnd (zbH zbc (zaf (eVar 0) (zaf (eVar 1) (zaf (eVar 3) aNil)))) (m2 dGt (zbH zbB (zaf (eVar 0) (zaf (eVar 3) aNil))) (eVar 2))))
noncomputable def zc6 : List D → Option Sl := fP 4 zeP
theorem zi2 : FnScope ["lows", "many", "total", "places"] ["lows", "many", "total", "places"] (zad zbR) := ⟨rfl, rfl, rfl, by decide +kernel, rfl, by decide +kernel, by decide +kernel⟩
theorem ziT (bn : BN K mg) (zbj : FD P w K mg base 1 "chosen_sum" (spP K 2 zbB)) (za3 : FD P w K mg base 1 "one_of_each" (spP K 3 zbc)) (hr : Room 1 (A.deeper (PyProof.Rows.envOfC "low_right" (zad zbR) s.heap.objs.size f cdv))) :
  SSs (cxOf CX0 P w K mg base ["lows", "many", "total", "places"] "low_right" (zad zbR) f cdv A outer s H E).nox (zao zbR) zeP := by
 unfold zeP
 exact (zan (zaL (zhI (zaI za3 hr (zaa (zab 0) (zaa (zab 1) (zaa (zab 3) zai))) (hlen := (zac (zac (zac zam))))) (zhM (se_gt (zaI zbj hr (zaa (zab 0) (zaa (zab 3) zai)) (hlen := (zac (zac zam)))) (zab 2))))))
theorem zjp {P : Program} {w : World} {K : W.Frag} {mg : Str → Option Value} {base : Heap} {f : Addr} {fd : FuncData} (bn : BN K mg) (zbj : FD P w K mg base 1 "chosen_sum" (spP K 2 zbB)) (za3 : FD P w K mg base 1 "one_of_each" (spP K 3 zbc)) (F : Fun K "low_right" "low_right" zbR f fd) : FnOk P w K mg base CX0 2 f fd ["lows", "many", "total", "places"] (spP K 4 zc6) :=
 zb9 (N := ["lows", "many", "total", "places"]) (ps := ["lows", "many", "total", "places"]) (k := 1) (n := 4) (m := zeP) F zi2 rfl (by decide) fun cdv A outer s H E hr => ziT bn zbj za3 hr
noncomputable abbrev zbw : Stmt := top 19
noncomputable def zdU : MS :=
 (sRet (eAnd (zbH zbc (zaf (eVar 0) (zaf (eVar 1) (zaf (eVar 3) aNil)))) (m2 dLt (zbH zbB (zaf (eVar 0) (zaf (eVar 3) aNil))) (eVar 2))))
noncomputable def zcy : List D → Option Sl := fP 4 zdU
theorem zh0 : FnScope ["highs", "many", "total", "places"] ["highs", "many", "total", "places"] (zad zbw) := ⟨rfl, rfl, rfl, by decide +kernel, rfl, by decide +kernel, by decide +kernel⟩
theorem ziy (bn : BN K mg) (zbj : FD P w K mg base 1 "chosen_sum" (spP K 2 zbB)) (za3 : FD P w K mg base 1 "one_of_each" (spP K 3 zbc)) (hr : Room 1 (A.deeper (PyProof.Rows.envOfC "high_right" (zad zbw) s.heap.objs.size f cdv))) :
  SSs (cxOf CX0 P w K mg base ["highs", "many", "total", "places"] "high_right" (zad zbw) f cdv A outer s H E).nox (zao zbw) zdU := by
 unfold zdU
 exact (zan (zaL (zhI (zaI za3 hr (zaa (zab 0) (zaa (zab 1) (zaa (zab 3) zai))) (hlen := (zac (zac (zac zam))))) (zhM (se_lt (zaI zbj hr (zaa (zab 0) (zaa (zab 3) zai)) (hlen := (zac (zac zam)))) (zab 2))))))
theorem ziI {P : Program} {w : World} {K : W.Frag} {mg : Str → Option Value} {base : Heap} {f : Addr} {fd : FuncData} (bn : BN K mg) (zbj : FD P w K mg base 1 "chosen_sum" (spP K 2 zbB)) (za3 : FD P w K mg base 1 "one_of_each" (spP K 3 zbc)) (F : Fun K "high_right" "high_right" zbw f fd) : FnOk P w K mg base CX0 2 f fd ["highs", "many", "total", "places"] (spP K 4 zcy) :=
 zb9 (N := ["highs", "many", "total", "places"]) (ps := ["highs", "many", "total", "places"]) (k := 1) (n := 4) (m := zdU) F zh0 rfl (by decide) fun cdv A outer s H E hr => ziy bn zbj za3 hr
noncomputable abbrev zbg : Stmt := top 20
noncomputable def zeg : MS :=
 (sRet (eAnd (m2 dEq (eVar 5) (eC (.str "high"))) (zbH zcy (zaf (eVar 1) (zaf (eVar 2) (zaf (eVar 3) (zaf (eIxV 4 (eC (.int 1))) aNil)))))))
noncomputable def zc3 : MS :=
 (sSeq (sIf (tTru (m2 dEq (eVar 5) (eC (.str "low"))))
  (sRet (zbH zc6 (zaf (eVar 0) (zaf (eVar 2) (zaf (eVar 3) (zaf (eIxV 4 (eC (.int 1))) aNil))))))
  zcv)
  zeg)
noncomputable def zck : MS :=
 (sSeq (sSet 5 (eIxV 4 (eC (.int 0))))
  (sSeq (sIf (tTru (m2 dEq (eVar 5) (eC (.str "clash"))))
  (sRet (zbH zcn (zaf (eVar 0) (zaf (eVar 1) (zaf (eVar 2) (zaf (eIxV 4 (eC (.int 1))) (zaf (eIxV 4 (eC (.int 2))) aNil)))))))
  zcv)
  zc3))
noncomputable def zbS : List D → Option Sl := fP 6 zck
theorem sc_paper_right : FnScope ["lows", "highs", "many", "total", "told", "word"] ["lows", "highs", "many", "total", "told"] (zad zbg) := ⟨rfl, rfl, rfl, by decide +kernel, rfl, by decide +kernel, by decide +kernel⟩
theorem zhD (bn : BN K mg) (zcZ : FD P w K mg base 1 "clash_right" (spP K 5 zcn)) (zdq : FD P w K mg base 2 "high_right" (spP K 4 zcy)) (zdS : FD P w K mg base 2 "low_right" (spP K 4 zc6)) (hr : Room 2 (A.deeper (PyProof.Rows.envOfC "paper_right" (zad zbg) s.heap.objs.size f cdv))) :
  SSs (cxOf CX0 P w K mg base ["lows", "highs", "many", "total", "told", "word"] "paper_right" (zad zbg) f cdv A outer s H E).nox (zao zbg) zck := by
 unfold zck zc3 zeg
 exact (zah (zax 5 (zaj 4 zag) sc_paper_right.nd)
  (zah (zca (zdt hr.units (zab 5) zc0)
  (zan (zaL (zaI zcZ hr (zaa (zab 0) (zaa (zab 1) (zaa (zab 2) (zaa (zaj 4 zag) (zaa (zaj 4 zag) zai))))) (hlen := (zac (zac (zac (zac (zac zam)))))))))
  zaQ)
  (zah (zca (zdt hr.units (zab 5) zc0)
  (zan (zaL (zaI zdS hr (zaa (zab 0) (zaa (zab 2) (zaa (zab 3) (zaa (zaj 4 zag) zai)))) (hlen := (zac (zac (zac (zac zam))))))))
  zaQ)
  (zan (zaL (zhI (zie hr.units (zab 5) zc0) (zhM (zaI zdq hr (zaa (zab 1) (zaa (zab 2) (zaa (zab 3) (zaa (zaj 4 zag) zai)))) (hlen := (zac (zac (zac (zac zam)))))))))))))
theorem zhi {P : Program} {w : World} {K : W.Frag} {mg : Str → Option Value} {base : Heap} {f : Addr} {fd : FuncData} (bn : BN K mg) (zcZ : FD P w K mg base 1 "clash_right" (spP K 5 zcn)) (zdq : FD P w K mg base 2 "high_right" (spP K 4 zcy)) (zdS : FD P w K mg base 2 "low_right" (spP K 4 zc6)) (F : Fun K "paper_right" "paper_right" zbg f fd) : FnOk P w K mg base CX0 3 f fd ["lows", "highs", "many", "total", "told"] (spP K 5 zbS) :=
 zb9 (N := ["lows", "highs", "many", "total", "told", "word"]) (ps := ["lows", "highs", "many", "total", "told"]) (k := 2) (n := 5) (m := zck) F sc_paper_right rfl (by decide) fun cdv A outer s H E hr => zhD bn zcZ zdq zdS hr
noncomputable abbrev zbt : Stmt := top 21
noncomputable def zcC : MS :=
 (sRet (zbH zbS (zaf (zbH zdF (zaf (eVar 0) aNil)) (zaf (zbH zde (zaf (eVar 0) aNil)) (zaf (eIxV 0 (eC (.int 0))) (zaf (m2 dIx (eIxV 0 (eC (.int 1))) (eC (.int 0))) (zaf (eVar 1) aNil)))))))
noncomputable def zb8 : MS :=
 (sSeq (sIf (tTru (m2 dEq (eIxV 1 (eC (.int 0))) (eC (.str "row"))))
  (sRet (zbH zcb (zaf (eVar 0) (zaf (eIxV 1 (eC (.int 1))) aNil))))
  zcv)
  zcC)
noncomputable def zaD : List D → Option Sl := fP 2 zb8
theorem zij : FnScope ["line", "told"] ["line", "told"] (zad zbt) := ⟨rfl, rfl, rfl, by decide +kernel, rfl, by decide +kernel, by decide +kernel⟩
theorem zif (bn : BN K mg) (zdX : FD P w K mg base 2 "high_asks" (spP K 1 zde)) (zcS : FD P w K mg base 3 "least_right" (spP K 2 zcb)) (zeQ : FD P w K mg base 2 "low_asks" (spP K 1 zdF)) (zcW : FD P w K mg base 3 "paper_right" (spP K 5 zbS)) (hr : Room 3 (A.deeper (PyProof.Rows.envOfC "line_right" (zad zbt) s.heap.objs.size f cdv))) :
  SSs (cxOf CX0 P w K mg base ["line", "told"] "line_right" (zad zbt) f cdv A outer s H E).nox (zao zbt) zb8 := by
 unfold zb8 zcC
 exact (zah (zca (zdt hr.units (zaj 1 zag) zc0)
  (zan (zaL (zaI zcS hr (zaa (zab 0) (zaa (zaj 1 zag) zai)) (hlen := (zac (zac zam))))))
  zaQ)
  (zan (zaL (zaI zcW hr (zaa (zaI zeQ hr (zaa (zab 0) zai) (hlen := (zac zam))) (zaa (zaI zdX hr (zaa (zab 0) zai) (hlen := (zac zam))) (zaa (zaj 0 zag) (zaa (zcx (zaj 0 zag) zag) (zaa (zab 1) zai))))) (hlen := (zac (zac (zac (zac (zac zam))))))))))
theorem zh2 {P : Program} {w : World} {K : W.Frag} {mg : Str → Option Value} {base : Heap} {f : Addr} {fd : FuncData} (bn : BN K mg) (zdX : FD P w K mg base 2 "high_asks" (spP K 1 zde)) (zcS : FD P w K mg base 3 "least_right" (spP K 2 zcb)) (zeQ : FD P w K mg base 2 "low_asks" (spP K 1 zdF)) (zcW : FD P w K mg base 3 "paper_right" (spP K 5 zbS)) (F : Fun K "line_right" "line_right" zbt f fd) : FnOk P w K mg base CX0 4 f fd ["line", "told"] (spP K 2 zaD) :=
 zb9 (N := ["line", "told"]) (ps := ["line", "told"]) (k := 3) (n := 2) (m := zb8) F zij rfl (by decide) fun cdv A outer s H E hr => zif bn zdX zcS zeQ zcW hr
noncomputable abbrev zbP : Stmt := top 23
noncomputable def zdO : MS :=
 (zjZ (oLst (zaf (mC (d2I max2) (zaf (eC (.int 0)) (zaf (m2 dSub (eVar 2) (m2 dPow (eC (.int 10)) (eC (.int 18)))) aNil))) (zaf (m2 dMod (m2 dMul (m2 dAdd (m2 dAdd (m2 dMod (eVar 2) (eC (.int 2147483629))) (m2 dMul (eC (.int 7919)) (eVar 1))) (eC (.int 1))) (eC (.int 48271))) (eC (.int 2147483647))) aNil))))
noncomputable def zey : MS :=
 (sSeq (sSet 2 (eC (.int 0)))
  (sSeq (sIf (tTru (m2 dLt (eVar 1) (zcN 0)))
  (sSet 2 (m2 dMod (eIxV 0 (eVar 1)) (m2 dMul (m2 dMul (m2 dMul (m2 dPow (eC (.int 10)) (eC (.int 64))) (m2 dPow (eC (.int 10)) (eC (.int 64)))) (m2 dPow (eC (.int 10)) (eC (.int 64)))) (m2 dPow (eC (.int 10)) (eC (.int 64))))))
  zcv)
  zdO))
noncomputable def zdb : List D → Option Sl := fP 3 zey
theorem sc__law_pool : FnScope ["script", "k", "cell"] ["script", "k"] (zad zbP) := ⟨rfl, rfl, rfl, by decide +kernel, rfl, by decide +kernel, by decide +kernel⟩
theorem zjv (bn : BN K mg)  (hr : Room 0 (A.deeper (PyProof.Rows.envOfC "_law_pool" (zad zbP) s.heap.objs.size f cdv))) :
  SSs (cxOf CX0 P w K mg base ["script", "k", "cell"] "_law_pool" (zad zbP) f cdv A outer s H E).nox (zao zbP) zey := by
 unfold zey zdO
 exact (zah (zax 2 zag sc__law_pool.nd)
  (zah (zca (st_lt (zab 1) (za2 0 bn.len'))
  (zan (zax 2 (zdy (zaj 0 (zab 1)) (zfU (zfU (zfU (zeX zag zag) (zeX zag zag)) (zeX zag zag)) (zeX zag zag))) sc__law_pool.nd))
  zaQ)
  (zan (zhf (zeE (zaa (zj6 rfl bn.max' (zaa zag (zaa (zct (zab 2) (zeX zag zag)) zai))) (zaa (zdy (zfU (zaO (zaO (zdy (zab 2) zag) (zfU zag (zab 1))) zag) zag) zag) zai)))))))
theorem ziZ {P : Program} {w : World} {K : W.Frag} {mg : Str → Option Value} {base : Heap} {f : Addr} {fd : FuncData} (bn : BN K mg)  (F : Fun K "_law_pool" "_law_pool" zbP f fd) : FnOk P w K mg base CX0 1 f fd ["script", "k"] (spP K 2 zdb) :=
 zb9 (N := ["script", "k", "cell"]) (ps := ["script", "k"]) (k := 0) (n := 2) (m := zey) F sc__law_pool rfl (by decide) fun cdv A outer s H E hr => zjv bn  hr
noncomputable abbrev zbG : Stmt := top 24
noncomputable def ze9 : MS :=
 (sSeq (sPut 0 (eC (.int 1)) (m2 dMod (m2 dAdd (m2 dMul (eIxV 0 (eC (.int 1))) (eC (.int 69621))) (eC (.int 12345))) (eC (.int 2147483647))))
  (sRet (m2 dMod (m2 dDiv (m2 dMod (m2 dMul (eIxV 0 (eC (.int 1))) (eIxV 0 (eC (.int 1)))) (eC (.int 2147483629))) (eC (.int 64))) (eVar 1))))
noncomputable def zeL : MS :=
 (sSeq (sIf (tTru (m2 dGt (eIxV 0 (eC (.int 0))) (eC (.int 0))))
  (sSeq (sSet 2 (m2 dMod (eIxV 0 (eC (.int 0))) (eVar 1)))
  (sSeq (sPut 0 (eC (.int 0)) (m2 dDiv (eIxV 0 (eC (.int 0))) (eVar 1)))
  (ziB 2)))
  zcv)
  ze9)
noncomputable def zak : List D → List D → Option (Sl × List D) := fM 3 zeL
theorem sc__law_pick : FnScope ["pool", "many", "digit"] ["pool", "many"] (zad zbG) := ⟨rfl, rfl, rfl, by decide +kernel, rfl, by decide +kernel, by decide +kernel⟩
theorem zjc (bn : BN K mg)  (hr : Room 0 (A.deeper (PyProof.Rows.envOfC "_law_pick" (zad zbG) s.heap.objs.size f cdv))) :
  SSs (cxOf CX0 P w K mg base ["pool", "many", "digit"] "_law_pick" (zad zbG) f cdv A outer s H E).nox (zao zbG) zeL := by
 unfold zeL ze9
 exact (zah (zca (st_gt (zaj 0 zag) zag)
  (zah (zax 2 (zdy (zaj 0 zag) (zab 1)) sc__law_pick.nd)
  (zah (zgA 0 (se_div (zaj 0 zag) (zab 1)) zag)
  (zan (zgy 2))))
  zaQ)
  (zah (zgA 0 (zdy (zaO (zfU (zaj 0 zag) zag) zag) zag) zag)
  (zan (zaL (zdy (se_div (zdy (zfU (zaj 0 zag) (zaj 0 zag)) zag) zag) (zab 1))))))
theorem zjA {P : Program} {w : World} {K : W.Frag} {mg : Str → Option Value} {base : Heap} {f : Addr} {fd : FuncData} (bn : BN K mg)  (F : Fun K "_law_pick" "_law_pick" zbG f fd) : FnOk P w K mg base CX0 1 f fd ["pool", "many"] (spM K 2 zak) :=
 zf6 (N := ["pool", "many", "digit"]) (ps := ["pool", "many"]) (k := 0) (n := 2) (m := zeL) F sc__law_pick rfl (by decide) fun cdv A outer s H E hr => zjc bn  hr
noncomputable abbrev zbM : Stmt := top 25
noncomputable def ze8 : MS :=
 (sRet (m2 dMul (zaK zak 0 (zaf (eC (.int 9)) aNil)) (m2 dIx (eTup (zaf (eC (.int 1)) (zaf (m2 dPow (eC (.int 10)) (eC (.int 3))) (zaf (m2 dPow (eC (.int 10)) (eC (.int 20))) (zaf (m2 dPow (eC (.int 10)) (eC (.int 58))) aNil))))) (zaK zak 0 (zaf (eC (.int 4)) aNil)))))
noncomputable def ze1 : MS :=
 (sSeq (sIf (tTru (m2 dEq (eVar 1) (eC (.int 2))))
  (sRet (m2 dMul (zaK zak 0 (zaf (eC (.int 2)) aNil)) (zaK zak 0 (zaf (eC (.int 40)) aNil))))
  zcv)
  ze8)
noncomputable def zfd : MS :=
 (sSeq (sIf (tTru (m2 dEq (eVar 1) (eC (.int 1))))
  (sRet (zaK zak 0 (zaf (eC (.int 4)) aNil)))
  zcv)
  ze1)
noncomputable def zeD : MS :=
 (sSeq (sIf (tTru (m2 dEq (eVar 1) (eC (.int 0))))
  (sRet (zaK zak 0 (zaf (eC (.int 2)) aNil)))
  zcv)
  zfd)
noncomputable def zcB : List D → List D → Option (Sl × List D) := fM 2 zeD
theorem zi0 : FnScope ["pool", "way"] ["pool", "way"] (zad zbM) := ⟨rfl, rfl, rfl, by decide +kernel, rfl, by decide +kernel, by decide +kernel⟩
theorem zje (bn : BN K mg) (zae : FD P w K mg base 1 "_law_pick" (spM K 2 zak)) (hr : Room 1 (A.deeper (PyProof.Rows.envOfC "_law_wide" (zad zbM) s.heap.objs.size f cdv))) :
  SSs (cxOf CX0 P w K mg base ["pool", "way"] "_law_wide" (zad zbM) f cdv A outer s H E).nox (zao zbM) zeD := by
 unfold zeD zfd ze1 ze8
 exact (zah (zca (zdt hr.units (zab 1) zag)
  (zan (zaL (zaq 0 zae hr (zaa zag zai) (zbC (zac zam)))))
  zaQ)
  (zah (zca (zdt hr.units (zab 1) zag)
  (zan (zaL (zaq 0 zae hr (zaa zag zai) (zbC (zac zam)))))
  zaQ)
  (zah (zca (zdt hr.units (zab 1) zag)
  (zan (zaL (zfU (zaq 0 zae hr (zaa zag zai) (zbC (zac zam))) (zaq 0 zae hr (zaa zag zai) (zbC (zac zam))))))
  zaQ)
  (zan (zaL (zfU (zaq 0 zae hr (zaa zag zai) (zbC (zac zam))) (zcx (zbD (zaa zag (zaa (zeX zag zag) (zaa (zeX zag zag) (zaa (zeX zag zag) zai))))) (zaq 0 zae hr (zaa zag zai) (zbC (zac zam))))))))))
theorem ziP {P : Program} {w : World} {K : W.Frag} {mg : Str → Option Value} {base : Heap} {f : Addr} {fd : FuncData} (bn : BN K mg) (zae : FD P w K mg base 1 "_law_pick" (spM K 2 zak)) (F : Fun K "_law_wide" "_law_wide" zbM f fd) : FnOk P w K mg base CX0 2 f fd ["pool", "way"] (spM K 2 zcB) :=
 zf6 (N := ["pool", "way"]) (ps := ["pool", "way"]) (k := 1) (n := 2) (m := zeD) F zi0 rfl (by decide) fun cdv A outer s H E hr => zje bn zae hr
noncomputable abbrev zbL : Stmt := top 26
noncomputable def zdP : ME :=
 (mC dSum (zaf (eCut (eVar 0) (zd2 (eVar 2)) (zd2 (m2 dAdd (eVar 2) (eVar 1)))) aNil))
noncomputable def zdI : MO :=
 oLC [0, 1] 1 (iR1 (zaf (m2 dAdd (m2 dSub (zcN 0) (eVar 1)) (eC (.int 1))) aNil)) (gN 2) zeR zdP
noncomputable def zdE : MS :=
 (sRet (mC zcJ (zaf (eFz zdI) aNil)))
noncomputable def zbo : List D → Option Sl := fP 2 zdE
theorem zjK : FnScope ["row", "k"] ["row", "k"] (zad zbL) := ⟨rfl, rfl, rfl, by decide +kernel, rfl, by decide +kernel, by decide +kernel⟩
theorem zi7 (bn : BN K mg)  (hr : Room 0 (A.deeper (PyProof.Rows.envOfC "_law_sums" (zad zbL) s.heap.objs.size f cdv))) :
  SSs (cxOf CX0 P w K mg base ["row", "k"] "_law_sums" (zad zbL) f cdv A outer s H E).nox (zao zbL) zdE := by
 unfold zdE zdI zdP
 exact (zan (zaL (zcw bn.tuple' (zaa (SO.se (zfA [0, 1] 1 ["row", "k", "at"] rfl (zb6 bn.range' (zaa (zaO (zct (za2 0 bn.len') (zab 1)) zag) zai)) (fun C s H fp => (zap 2 (show (["row", "k", "at"] : List Str).Nodup by decide +kernel))) (fun C s H fp => zb5) (fun C s H fp => (zg5 rfl bn.sum' (zaa (zcX (zab 0) (zbu (zab 2)) (zbu (zaO (zab 2) (zab 1)))) zai))))) zai))))
theorem zjt {P : Program} {w : World} {K : W.Frag} {mg : Str → Option Value} {base : Heap} {f : Addr} {fd : FuncData} (bn : BN K mg)  (F : Fun K "_law_sums" "_law_sums" zbL f fd) : FnOk P w K mg base CX0 1 f fd ["row", "k"] (spP K 2 zbo) :=
 zb9 (N := ["row", "k"]) (ps := ["row", "k"]) (k := 0) (n := 2) (m := zdE) F zjK rfl (by decide) fun cdv A outer s H E hr => zi7 bn  hr
noncomputable abbrev zbQ : Stmt := top 27
noncomputable def ze5 : MS :=
 (sSeq (sSet 11 (m2 dMul (m2 dSub (zaK zak 0 (zaf (eC (.int 13)) aNil)) (eC (.int 6))) (eVar 5)))
  (sSeq (sApp 7 (eVar 11))
  (sSeq (sApp 8 (m2 dSub (eVar 11) (zaK zcB 0 (zaf (eVar 6) aNil))))
  (sApp 9 (m2 dAdd (eVar 11) (zaK zcB 0 (zaf (eVar 6) aNil)))))))
noncomputable def zfc : MS :=
 sFor (iR1 (zaf (eVar 4) aNil)) (gN 10) ze5
noncomputable def zeB : MS :=
 (sSeq (sSet 3 (m2 dAdd (eC (.int 2)) (zaK zak 0 (zaf (eC (.int 4)) aNil))))
  (sSeq (sSet 4 (mC (d2I min2) (zaf (eVar 1) (zaf (m2 dIx (eTup (zaf (eVar 3) (zaf (m2 dAdd (eVar 3) (zaK zak 0 (zaf (eC (.int 4)) aNil))) (zaf (m2 dAdd (eVar 3) (zaK zak 0 (zaf (m2 dAdd (m2 dSub (eVar 1) (eVar 3)) (eC (.int 1))) aNil))) (zaf (eVar 1) aNil))))) (zaK zak 0 (zaf (eC (.int 4)) aNil))) aNil))))
  (sSeq (sSet 5 (m2 dIx (eTup (zaf (eC (.int 1)) (zaf (eC (.int 1)) (zaf (m2 dPow (eC (.int 10)) (eC (.int 57))) aNil)))) (zaK zak 0 (zaf (eC (.int 3)) aNil))))
  (sSeq (sSet 6 (zaK zak 0 (zaf (eVar 2) aNil)))
  (sSeq (zfn 7 (oLst aNil))
  (sSeq (zfn 8 (oLst aNil))
  (sSeq (zfn 9 (oLst aNil))
  (sSeq zfc
  (sRet (eTup (zaf (eVar 3) (zaf (zbH zbo (zaf (eVar 7) (zaf (eVar 3) aNil))) (zaf (mC zcJ (zaf (eVar 8) aNil)) (zaf (mC zcJ (zaf (eVar 9) aNil)) aNil))))))))))))))
noncomputable def zdc : List D → List D → Option (Sl × List D) := fM 12 zeB
theorem sc__law_line : FnScope ["pool", "most", "ways", "k", "many", "great", "way", "row", "least", "greatest", "place", "number"] ["pool", "most", "ways"] (zad zbQ) := ⟨rfl, rfl, rfl, by decide +kernel, rfl, by decide +kernel, by decide +kernel⟩
theorem zjS (bn : BN K mg) (zae : FD P w K mg base 1 "_law_pick" (spM K 2 zak)) (zbz : FD P w K mg base 1 "_law_sums" (spP K 2 zbo)) (zdh : FD P w K mg base 2 "_law_wide" (spM K 2 zcB)) (hr : Room 2 (A.deeper (PyProof.Rows.envOfC "_law_line" (zad zbQ) s.heap.objs.size f cdv))) :
  SSs (cxOf CX0 P w K mg base ["pool", "most", "ways", "k", "many", "great", "way", "row", "least", "greatest", "place", "number"] "_law_line" (zad zbQ) f cdv A outer s H E).nox (zao zbQ) zeB := by
 unfold zeB zfc ze5
 exact (zah (zax 3 (zaO zag (zaq 0 zae hr (zaa zag zai) (zbC (zac zam)))) sc__law_line.nd)
  (zah (zax 4 (zmK rfl bn.min' (zaa (zab 1) (zaa (zcx (zbD (zaa (zab 3) (zaa (zaO (zab 3) (zaq 0 zae hr (zaa zag zai) (zbC (zac zam)))) (zaa (zaO (zab 3) (zaq 0 zae hr (zaa (zaO (zct (zab 1) (zab 3)) zag) zai) (zbC (zac zam)))) (zaa (zab 1) zai))))) (zaq 0 zae hr (zaa zag zai) (zbC (zac zam)))) zai))) sc__law_line.nd)
  (zah (zax 5 (zcx (zbD (zaa zag (zaa zag (zaa (zeX zag zag) zai)))) (zaq 0 zae hr (zaa zag zai) (zbC (zac zam)))) sc__law_line.nd)
  (zah (zax 6 (zaq 0 zae hr (zaa (zab 2) zai) (zbC (zac zam))) sc__law_line.nd)
  (zah (zcR 7 (zeE zai) sc__law_line.nd)
  (zah (zcR 8 (zeE zai) sc__law_line.nd)
  (zah (zcR 9 (zeE zai) sc__law_line.nd)
  (zah (zff PassesOwn.never rfl (zb6 bn.range' (zaa (zab 4) zai)) (zap 10 sc__law_line.nd)
  (zah (zax 11 (zfU (zct (zaq 0 zae hr (zaa zag zai) (zbC (zac zam))) zag) (zab 5)) sc__law_line.nd)
  (zah (zfV 7 (zab 11))
  (zah (zfV 8 (zct (zab 11) (zaq 0 zdh hr (zaa (zab 6) zai) (zbC (zac zam)))))
  (zan (zfV 9 (zaO (zab 11) (zaq 0 zdh hr (zaa (zab 6) zai) (zbC (zac zam))))))))))
  (zan (zaL (zbD (zaa (zab 3) (zaa (zaI zbz hr (zaa (zab 7) (zaa (zab 3) zai)) (hlen := (zac (zac zam)))) (zaa (zcw bn.tuple' (zaa (zab 8) zai)) (zaa (zcw bn.tuple' (zaa (zab 9) zai)) zai)))))))))))))))
theorem zjg {P : Program} {w : World} {K : W.Frag} {mg : Str → Option Value} {base : Heap} {f : Addr} {fd : FuncData} (bn : BN K mg) (zae : FD P w K mg base 1 "_law_pick" (spM K 2 zak)) (zbz : FD P w K mg base 1 "_law_sums" (spP K 2 zbo)) (zdh : FD P w K mg base 2 "_law_wide" (spM K 2 zcB)) (F : Fun K "_law_line" "_law_line" zbQ f fd) : FnOk P w K mg base CX0 3 f fd ["pool", "most", "ways"] (spM K 3 zdc) :=
 zf6 (N := ["pool", "most", "ways", "k", "many", "great", "way", "row", "least", "greatest", "place", "number"]) (ps := ["pool", "most", "ways"]) (k := 2) (n := 3) (m := zeB) F sc__law_line rfl (by decide) fun cdv A outer s H E hr => zjS bn zae zbz zdh hr
noncomputable abbrev zbT : Stmt := top 28
noncomputable def ze0 : ME :=
 (m2 dAdd (eVar 1) (eVar 0))
noncomputable def ze4 : MO :=
 oLC [7] 1 (iSeq (eVar 3)) (gN 1) zeR ze0
noncomputable def ze6 : ME :=
 (m2 dAdd (eVar 1) (eVar 0))
noncomputable def zfb : MO :=
 oLC [7] 1 (iSeq (eCut (eVar 3) (zd2 (eVar 8)) pNo)) (gN 1) zeR ze6
noncomputable def zdM : MS :=
 (sRet (eTup (zaf (eVar 2) (zaf (eVar 3) (zaf (eVar 4) (zaf (eVar 5) aNil))))))
noncomputable def zdL : MS :=
 (sSeq (sIf (tTru (m2 dEq (eVar 6) (eC (.int 5))))
  (sSet 3 (m2 dAdd (eCut (eVar 3) pNo (zd2 (eVar 8))) (mC zcJ (zaf (eFz zfb) aNil))))
  zcv)
  zdM)
noncomputable def zdK : MS :=
 (sSeq (sIf (tTru (m2 dEq (eVar 6) (eC (.int 4))))
  (sSet 5 (m2 dAdd (m2 dAdd (eCut (eVar 5) pNo (zd2 (eVar 9))) (eTup (zaf (eIxV 4 (eVar 9)) aNil))) (eCut (eVar 5) (zd2 (m2 dAdd (eVar 9) (eC (.int 1)))) pNo)))
  zcv)
  zdL)
noncomputable def zdN : MS :=
 (sSeq (sIf (tTru (m2 dEq (eVar 6) (eC (.int 3))))
  (sSet 4 (m2 dAdd (m2 dAdd (eCut (eVar 4) pNo (zd2 (eVar 9))) (eTup (zaf (eIxV 5 (eVar 9)) aNil))) (eCut (eVar 4) (zd2 (m2 dAdd (eVar 9) (eC (.int 1)))) pNo)))
  zcv)
  zdK)
noncomputable def zdJ : MS :=
 (sSeq (sIf (tTru (m2 dEq (eVar 6) (eC (.int 2))))
  (sSet 3 (mC zcJ (zaf (eFz ze4) aNil)))
  zcv)
  zdN)
noncomputable def zex : MS :=
 (sSeq (sAsg (eVar 1) (gT 4 (zaP (gN 2) (zaP (gN 3) (zaP (gN 4) (zaP (gN 5) zfy))))))
  (sSeq (sSet 6 (zaK zak 0 (zaf (eC (.int 6)) aNil)))
  (sSeq (sSet 7 (m2 dIx (eTup (zaf (eC (.int 1)) (zaf (m1 dNeg (eC (.int 1))) (zaf (eC (.int 2)) (zaf (m1 dNeg (eC (.int 3))) (zaf (m2 dPow (eC (.int 10)) (eC (.int 58))) (zaf (m1 dNeg (m2 dPow (eC (.int 10)) (eC (.int 58)))) aNil))))))) (zaK zak 0 (zaf (eC (.int 6)) aNil))))
  (sSeq (sSet 8 (zaK zak 0 (zaf (zcN 3) aNil)))
  (sSeq (sSet 9 (zaK zak 0 (zaf (zcN 4) aNil)))
  (sSeq (sIf (tTru (m2 dEq (eVar 6) (eC (.int 1))))
  (sSet 3 (m2 dAdd (m2 dAdd (eCut (eVar 3) pNo (zd2 (eVar 8))) (eTup (zaf (m2 dAdd (eIxV 3 (eVar 8)) (eVar 7)) aNil))) (eCut (eVar 3) (zd2 (m2 dAdd (eVar 8) (eC (.int 1)))) pNo)))
  zcv)
  zdJ))))))
noncomputable def zc7 : List D → List D → Option (Sl × List D) := fM 10 zex
theorem sc__law_bent : FnScope ["pool", "line", "k", "sums", "least", "greatest", "way", "by", "at", "place"] ["pool", "line"] (zad zbT) := ⟨rfl, rfl, rfl, by decide +kernel, rfl, by decide +kernel, by decide +kernel⟩
theorem zi9 (bn : BN K mg) (zae : FD P w K mg base 1 "_law_pick" (spM K 2 zak)) (hr : Room 1 (A.deeper (PyProof.Rows.envOfC "_law_bent" (zad zbT) s.heap.objs.size f cdv))) :
  SSs (cxOf CX0 P w K mg base ["pool", "line", "k", "sums", "least", "greatest", "way", "by", "at", "place"] "_law_bent" (zad zbT) f cdv A outer s H E).nox (zao zbT) zex := by
 unfold zex zdJ zdN zdK zdL zdM zfb ze6 ze4 ze0
 exact (zah (zgF (zab 1) (zeu rfl (zar (zap 2 sc__law_bent.nd) (zar (zap 3 sc__law_bent.nd) (zar (zap 4 sc__law_bent.nd) (zar (zap 5 sc__law_bent.nd) zcK))))))
  (zah (zax 6 (zaq 0 zae hr (zaa zag zai) (zbC (zac zam))) sc__law_bent.nd)
  (zah (zax 7 (zcx (zbD (zaa zag (zaa (zfL zag) (zaa zag (zaa (zfL zag) (zaa (zeX zag zag) (zaa (zfL (zeX zag zag)) zai))))))) (zaq 0 zae hr (zaa zag zai) (zbC (zac zam)))) sc__law_bent.nd)
  (zah (zax 8 (zaq 0 zae hr (zaa (za2 3 bn.len') zai) (zbC (zac zam))) sc__law_bent.nd)
  (zah (zax 9 (zaq 0 zae hr (zaa (za2 4 bn.len') zai) (zbC (zac zam))) sc__law_bent.nd)
  (zah (zca (zdt hr.units (zab 6) zag)
  (zan (zax 3 (zaO (zaO (zcX (zab 3) zfl (zbu (zab 8))) (zbD (zaa (zaO (zaj 3 (zab 8)) (zab 7)) zai))) (zcX (zab 3) (zbu (zaO (zab 8) zag)) zfl)) sc__law_bent.nd))
  zaQ)
  (zah (zca (zdt hr.units (zab 6) zag)
  (zan (zax 3 (zcw bn.tuple' (zaa (SO.se (zfA [7] 1 ["by", "some"] rfl (zfp (zab 3)) (fun C s H fp => (zap 1 (show (["by", "some"] : List Str).Nodup by decide +kernel))) (fun C s H fp => zb5) (fun C s H fp => (zaO (zab 1) (zab 0))))) zai)) sc__law_bent.nd))
  zaQ)
  (zah (zca (zdt hr.units (zab 6) zag)
  (zan (zax 4 (zaO (zaO (zcX (zab 4) zfl (zbu (zab 9))) (zbD (zaa (zaj 5 (zab 9)) zai))) (zcX (zab 4) (zbu (zaO (zab 9) zag)) zfl)) sc__law_bent.nd))
  zaQ)
  (zah (zca (zdt hr.units (zab 6) zag)
  (zan (zax 5 (zaO (zaO (zcX (zab 5) zfl (zbu (zab 9))) (zbD (zaa (zaj 4 (zab 9)) zai))) (zcX (zab 5) (zbu (zaO (zab 9) zag)) zfl)) sc__law_bent.nd))
  zaQ)
  (zah (zca (zdt hr.units (zab 6) zag)
  (zan (zax 3 (zaO (zcX (zab 3) zfl (zbu (zab 8))) (zcw bn.tuple' (zaa (SO.se (zfA [7] 1 ["by", "some"] rfl (zfp (zcX (zab 3) (zbu (zab 8)) zfl)) (fun C s H fp => (zap 1 (show (["by", "some"] : List Str).Nodup by decide +kernel))) (fun C s H fp => zb5) (fun C s H fp => (zaO (zab 1) (zab 0))))) zai))) sc__law_bent.nd))
  zaQ)
  (zan (zaL (zbD (zaa (zab 2) (zaa (zab 3) (zaa (zab 4) (zaa (zab 5) zai)))))))))))))))))
theorem zjR {P : Program} {w : World} {K : W.Frag} {mg : Str → Option Value} {base : Heap} {f : Addr} {fd : FuncData} (bn : BN K mg) (zae : FD P w K mg base 1 "_law_pick" (spM K 2 zak)) (F : Fun K "_law_bent" "_law_bent" zbT f fd) : FnOk P w K mg base CX0 2 f fd ["pool", "line"] (spM K 2 zc7) :=
 zf6 (N := ["pool", "line", "k", "sums", "least", "greatest", "way", "by", "at", "place"]) (ps := ["pool", "line"]) (k := 1) (n := 2) (m := zex) F sc__law_bent rfl (by decide) fun cdv A outer s H E hr => zi9 bn zae hr
noncomputable abbrev zbv : Stmt := top 29
noncomputable def zeN : MS :=
 (sSet 7 (m2 dSub (m2 dAdd (eVar 7) (eIxV 2 (m2 dAdd (eVar 8) (eC (.int 1))))) (eIxV 2 (eVar 8))))
noncomputable def zeH : MS :=
 sFor (iR3 (zaf (m2 dMod (eVar 6) (eVar 1)) (zaf (eVar 6) (zaf (eVar 1) aNil)))) (gN 8) zeN
noncomputable def zeJ : MS :=
 (sSeq (sSet 7 (eC (.int 0)))
  (sSeq zeH
  (sApp 5 (eVar 7))))
noncomputable def zeK : MS :=
 sFor (iR1 (zaf (zcN 3) aNil)) (gN 6) zeJ
noncomputable def zd3 : MS :=
 (sSeq (sAsg (eVar 0) (gT 4 (zaP (gN 1) (zaP (gN 2) (zaP (gN 3) (zaP (gN 4) zfy))))))
  (sSeq (zfn 5 (oLst aNil))
  (sSeq zeK
  (ziB 5))))
noncomputable def zaM : List D → Option Sl := fP 9 zd3
theorem sc__law_mores : FnScope ["line", "k", "sums", "least", "greatest", "found", "place", "more", "at"] ["line"] (zad zbv) := ⟨rfl, rfl, rfl, by decide +kernel, rfl, by decide +kernel, by decide +kernel⟩
theorem zhU (bn : BN K mg)  (hr : Room 0 (A.deeper (PyProof.Rows.envOfC "_law_mores" (zad zbv) s.heap.objs.size f cdv))) :
  SSs (cxOf CX0 P w K mg base ["line", "k", "sums", "least", "greatest", "found", "place", "more", "at"] "_law_mores" (zad zbv) f cdv A outer s H E).nox (zao zbv) zd3 := by
 unfold zd3 zeK zeJ zeH zeN
 exact (zah (zgF (zab 0) (zeu rfl (zar (zap 1 sc__law_mores.nd) (zar (zap 2 sc__law_mores.nd) (zar (zap 3 sc__law_mores.nd) (zar (zap 4 sc__law_mores.nd) zcK))))))
  (zah (zcR 5 (zeE zai) sc__law_mores.nd)
  (zah (zff PassesOwn.never rfl (zb6 bn.range' (zaa (za2 3 bn.len') zai)) (zap 6 sc__law_mores.nd)
  (zah (zax 7 zag sc__law_mores.nd)
  (zah (zff PassesOwn.never rfl (zgV bn.range' (zaa (zdy (zab 6) (zab 1)) (zaa (zab 6) (zaa (zab 1) zai)))) (zap 8 sc__law_mores.nd)
  (zan (zax 7 (zct (zaO (zab 7) (zaj 2 (zaO (zab 8) zag))) (zaj 2 (zab 8))) sc__law_mores.nd)))
  (zan (zfV 5 (zab 7))))))
  (zan (zgy 5)))))
theorem ziq {P : Program} {w : World} {K : W.Frag} {mg : Str → Option Value} {base : Heap} {f : Addr} {fd : FuncData} (bn : BN K mg)  (F : Fun K "_law_mores" "_law_mores" zbv f fd) : FnOk P w K mg base CX0 1 f fd ["line"] (spP K 1 zaM) :=
 zb9 (N := ["line", "k", "sums", "least", "greatest", "found", "place", "more", "at"]) (ps := ["line"]) (k := 0) (n := 1) (m := zd3) F sc__law_mores rfl (by decide) fun cdv A outer s H E hr => zhU bn  hr
noncomputable abbrev zbq : Stmt := top 30
noncomputable def zdm : ME :=
 (m2 dSub (eIxV 0 (eVar 2)) (eIxV 1 (eVar 2)))
noncomputable def zeI : MO :=
 oLC [3, 5] 1 (iR3 (zaf (eVar 7) (zaf (zcN 3) (zaf (eVar 1) aNil)))) (gN 2) zeR zdm
noncomputable def zfN : ME :=
 (m2 dSub (eIxV 0 (eVar 2)) (eIxV 1 (eVar 2)))
noncomputable def zeA : MO :=
 oLC [4, 5] 1 (iR3 (zaf (eVar 7) (zaf (zcN 3) (zaf (eVar 1) aNil)))) (gN 2) zeR zfN
noncomputable def zeF : MS :=
 (sSeq (sSet 8 (eFz zeI))
  (sSeq (sSet 9 (eFz zeA))
  (sApp 6 (eTup (zaf (mC zi5 (zaf (eVar 8) aNil)) (zaf (mC ziO (zaf (eVar 9) aNil)) aNil))))))
noncomputable def zeU : MS :=
 sFor (iR1 (zaf (eVar 1) aNil)) (gN 7) zeF
noncomputable def zdR : MS :=
 (sSeq (sAsg (eVar 0) (gT 4 (zaP (gN 1) (zaP (gN 2) (zaP (gN 3) (zaP (gN 4) zfy))))))
  (sSeq (sSet 5 (zbH zaM (zaf (eVar 0) aNil)))
  (sSeq (zfn 6 (oLst aNil))
  (sSeq zeU
  (ziB 6)))))
noncomputable def zaZ : List D → Option Sl := fP 10 zdR
theorem sc__law_spans : FnScope ["line", "k", "sums", "least", "greatest", "mores", "found", "rest", "lows", "highs"] ["line"] (zad zbq) := ⟨rfl, rfl, rfl, by decide +kernel, rfl, by decide +kernel, by decide +kernel⟩
theorem ziC (bn : BN K mg) (zat : FD P w K mg base 1 "_law_mores" (spP K 1 zaM)) (hr : Room 1 (A.deeper (PyProof.Rows.envOfC "_law_spans" (zad zbq) s.heap.objs.size f cdv))) :
  SSs (cxOf CX0 P w K mg base ["line", "k", "sums", "least", "greatest", "mores", "found", "rest", "lows", "highs"] "_law_spans" (zad zbq) f cdv A outer s H E).nox (zao zbq) zdR := by
 unfold zdR zeU zeF zeA zfN zeI zdm
 exact (zah (zgF (zab 0) (zeu rfl (zar (zap 1 sc__law_spans.nd) (zar (zap 2 sc__law_spans.nd) (zar (zap 3 sc__law_spans.nd) (zar (zap 4 sc__law_spans.nd) zcK))))))
  (zah (zax 5 (zaI zat hr (zaa (zab 0) zai) (hlen := (zac zam))) sc__law_spans.nd)
  (zah (zcR 6 (zeE zai) sc__law_spans.nd)
  (zah (zff PassesOwn.never rfl (zb6 bn.range' (zaa (zab 1) zai)) (zap 7 sc__law_spans.nd)
  (zah (zjC 8 [3, 5] 1 ["least", "mores", "place"] rfl (zgV bn.range' (zaa (zab 7) (zaa (za2 3 bn.len') (zaa (zab 1) zai)))) (fun C s H fp => (zap 2 (show (["least", "mores", "place"] : List Str).Nodup by decide +kernel))) (fun C s H fp => zb5) (fun C s H fp => (zct (zaj 0 (zab 2)) (zaj 1 (zab 2)))) sc__law_spans.nd)
  (zah (zjC 9 [4, 5] 1 ["greatest", "mores", "place"] rfl (zgV bn.range' (zaa (zab 7) (zaa (za2 3 bn.len') (zaa (zab 1) zai)))) (fun C s H fp => (zap 2 (show (["greatest", "mores", "place"] : List Str).Nodup by decide +kernel))) (fun C s H fp => zb5) (fun C s H fp => (zct (zaj 0 (zab 2)) (zaj 1 (zab 2)))) sc__law_spans.nd)
  (zan (zfV 6 (zbD (zaa (se_maxL rfl bn.max' (zaa (zab 8) zai)) (zaa (se_minL rfl bn.min' (zaa (zab 9) zai)) zai))))))))
  (zan (zgy 6))))))
theorem ziD {P : Program} {w : World} {K : W.Frag} {mg : Str → Option Value} {base : Heap} {f : Addr} {fd : FuncData} (bn : BN K mg) (zat : FD P w K mg base 1 "_law_mores" (spP K 1 zaM)) (F : Fun K "_law_spans" "_law_spans" zbq f fd) : FnOk P w K mg base CX0 2 f fd ["line"] (spP K 1 zaZ) :=
 zb9 (N := ["line", "k", "sums", "least", "greatest", "mores", "found", "rest", "lows", "highs"]) (ps := ["line"]) (k := 1) (n := 1) (m := zdR) F sc__law_spans rfl (by decide) fun cdv A outer s H E hr => ziC bn zat hr
noncomputable abbrev zbi : Stmt := top 31
noncomputable def zen : ME :=
 (zfj dLe dLe (eIxV 0 (eVar 3)) (eIxV 1 (eVar 3)) (eIxV 2 (eVar 3)))
noncomputable def zep : MO :=
 oLC [4, 1, 5] 1 (iR1 (zaf (zcN 1) aNil)) (gN 3) zeR zen
noncomputable def zed : MS :=
 (sRet (m2 dEq (zbH zbo (zaf (eVar 1) (zaf (eVar 2) aNil))) (eVar 3)))
noncomputable def zd8 : MS :=
 (sSeq (sIf (zhh (tTru (mC (dAll fun bs => bs.all id) (zaf (eFz zep) aNil))))
  (sRet (eC (.bl false)))
  zcv)
  zed)
noncomputable def zdl : MS :=
 (sSeq (sAsg (eVar 0) (gT 4 (zaP (gN 2) (zaP (gN 3) (zaP (gN 4) (zaP (gN 5) zfy))))))
  (sSeq (sIf (tTru (m2 dNe (zcN 1) (zcN 4)))
  (sRet (eC (.bl false)))
  zcv)
  zd8))
noncomputable def zcj : List D → Option Sl := fP 6 zdl
theorem sc__law_is_fit : FnScope ["line", "row", "k", "sums", "least", "greatest"] ["line", "row"] (zad zbi) := ⟨rfl, rfl, rfl, by decide +kernel, rfl, by decide +kernel, by decide +kernel⟩
theorem zhw (bn : BN K mg) (zbz : FD P w K mg base 1 "_law_sums" (spP K 2 zbo)) (hr : Room 1 (A.deeper (PyProof.Rows.envOfC "_law_is_fit" (zad zbi) s.heap.objs.size f cdv))) :
  SSs (cxOf CX0 P w K mg base ["line", "row", "k", "sums", "least", "greatest"] "_law_is_fit" (zad zbi) f cdv A outer s H E).nox (zao zbi) zdl := by
 unfold zdl zd8 zed zep zen
 exact (zah (zgF (zab 0) (zeu rfl (zar (zap 2 sc__law_is_fit.nd) (zar (zap 3 sc__law_is_fit.nd) (zar (zap 4 sc__law_is_fit.nd) (zar (zap 5 sc__law_is_fit.nd) zcK))))))
  (zah (zca (zgK hr.units (za2 1 bn.len') (za2 4 bn.len'))
  (zan (zaL zgH))
  zaQ)
  (zah (zca (zgB (zf7 (zkC rfl bn.all' (zaa (SO.se (zfA [4, 1, 5] 1 ["least", "row", "greatest", "place"] rfl (zb6 bn.range' (zaa (za2 1 bn.len') zai)) (fun C s H fp => (zap 3 (show (["least", "row", "greatest", "place"] : List Str).Nodup by decide +kernel))) (fun C s H fp => zb5) (fun C s H fp => (zgR zhk zhk zdg zdg (zaj 0 (zab 3)) (zaj 1 (zab 3)) (zaj 2 (zab 3)))))) zai))))
  (zan (zaL zgH))
  zaQ)
  (zan (zaL (zie hr.units (zaI zbz hr (zaa (zab 1) (zaa (zab 2) zai)) (hlen := (zac (zac zam)))) (zab 3)))))))
theorem zhq {P : Program} {w : World} {K : W.Frag} {mg : Str → Option Value} {base : Heap} {f : Addr} {fd : FuncData} (bn : BN K mg) (zbz : FD P w K mg base 1 "_law_sums" (spP K 2 zbo)) (F : Fun K "_law_is_fit" "_law_is_fit" zbi f fd) : FnOk P w K mg base CX0 2 f fd ["line", "row"] (spP K 2 zcj) :=
 zb9 (N := ["line", "row", "k", "sums", "least", "greatest"]) (ps := ["line", "row"]) (k := 1) (n := 2) (m := zdl) F sc__law_is_fit rfl (by decide) fun cdv A outer s H E hr => zhw bn zbz hr
noncomputable abbrev zaS : Stmt := top 32
noncomputable def zc4 : ME :=
 (m2 dAdd (eIxV 0 (m2 dMod (eVar 3) (eIxV 1 (eC (.int 0))))) (eIxV 2 (eVar 3)))
noncomputable def zdf : MO :=
 oLC [1, 0, 2] 1 (iR1 (zaf (zcN 2) aNil)) (gN 3) zeR zc4
noncomputable def zcp : MS :=
 (sSeq (sSet 2 (zbH zaM (zaf (eVar 0) aNil)))
  (sRet (mC zcJ (zaf (eFz zdf) aNil))))
noncomputable def zaR : List D → Option Sl := fP 3 zcp
theorem sc__law_by_firsts : FnScope ["line", "firsts", "mores"] ["line", "firsts"] (zad zaS) := ⟨rfl, rfl, rfl, by decide +kernel, rfl, by decide +kernel, by decide +kernel⟩
theorem zgm (bn : BN K mg) (zat : FD P w K mg base 1 "_law_mores" (spP K 1 zaM)) (hr : Room 1 (A.deeper (PyProof.Rows.envOfC "_law_by_firsts" (zad zaS) s.heap.objs.size f cdv))) :
  SSs (cxOf CX0 P w K mg base ["line", "firsts", "mores"] "_law_by_firsts" (zad zaS) f cdv A outer s H E).nox (zao zaS) zcp := by
 unfold zcp zdf zc4
 exact (zah (zax 2 (zaI zat hr (zaa (zab 0) zai) (hlen := (zac zam))) sc__law_by_firsts.nd)
  (zan (zaL (zcw bn.tuple' (zaa (SO.se (zfA [1, 0, 2] 1 ["firsts", "line", "mores", "place"] rfl (zb6 bn.range' (zaa (za2 2 bn.len') zai)) (fun C s H fp => (zap 3 (show (["firsts", "line", "mores", "place"] : List Str).Nodup by decide +kernel))) (fun C s H fp => zb5) (fun C s H fp => (zaO (zaj 0 (zdy (zab 3) (zaj 1 zag))) (zaj 2 (zab 3)))))) zai)))))
theorem zgo {P : Program} {w : World} {K : W.Frag} {mg : Str → Option Value} {base : Heap} {f : Addr} {fd : FuncData} (bn : BN K mg) (zat : FD P w K mg base 1 "_law_mores" (spP K 1 zaM)) (F : Fun K "_law_by_firsts" "_law_by_firsts" zaS f fd) : FnOk P w K mg base CX0 2 f fd ["line", "firsts"] (spP K 2 zaR) :=
 zb9 (N := ["line", "firsts", "mores"]) (ps := ["line", "firsts"]) (k := 1) (n := 2) (m := zcp) F sc__law_by_firsts rfl (by decide) fun cdv A outer s H E hr => zgm bn zat hr
noncomputable abbrev zaT : Stmt := top 33
noncomputable def zdd : ME :=
 (eVar 1)
noncomputable def zc8 : MO :=
 oLC [] 2 (iSeq (eCut (eVar 1) (zd2 (m2 dAdd (eVar 4) (eC (.int 1)))) pNo)) (gT 2 (zaP (gN 0) (zaP (gN 1) zfy))) zeR zdd
noncomputable def zc9 : MS :=
 (sSeq (sSet 7 (mC dSum (zaf (eFz zc8) aNil)))
  (sSeq (sApp 3 (mC (d2I max2) (zaf (eVar 5) (zaf (m2 dSub (eVar 2) (eVar 7)) aNil))))
  (sSet 2 (m2 dSub (eVar 2) (eIxV 3 (m1 dNeg (eC (.int 1))))))))
noncomputable def zda : MS :=
 sFor (iEn (zaf (eVar 1) aNil)) (gT 2 (zaP (gN 4) (zaP (gT 2 (zaP (gN 5) (zaP (gN 6) zfy))) zfy))) zc9
noncomputable def zcq : MS :=
 (sSeq (sSet 1 (zbH zaZ (zaf (eVar 0) aNil)))
  (sSeq (sSet 2 (m2 dIx (eIxV 0 (eC (.int 1))) (eC (.int 0))))
  (sSeq (zfn 3 (oLst aNil))
  (sSeq zda
  (sRet (zbH zaR (zaf (eVar 0) (zaf (eVar 3) aNil))))))))
noncomputable def zaH : List D → Option Sl := fP 8 zcq
theorem sc__law_least_row : FnScope ["line", "spans", "left", "firsts", "rest", "low", "high", "others"] ["line"] (zad zaT) := ⟨rfl, rfl, rfl, by decide +kernel, rfl, by decide +kernel, by decide +kernel⟩
theorem zgu (bn : BN K mg) (zaJ : FD P w K mg base 2 "_law_by_firsts" (spP K 2 zaR)) (zaE : FD P w K mg base 2 "_law_spans" (spP K 1 zaZ)) (hr : Room 2 (A.deeper (PyProof.Rows.envOfC "_law_least_row" (zad zaT) s.heap.objs.size f cdv))) :
  SSs (cxOf CX0 P w K mg base ["line", "spans", "left", "firsts", "rest", "low", "high", "others"] "_law_least_row" (zad zaT) f cdv A outer s H E).nox (zao zaT) zcq := by
 unfold zcq zda zc9 zc8 zdd
 exact (zah (zax 1 (zaI zaE hr (zaa (zab 0) zai) (hlen := (zac zam))) sc__law_least_row.nd)
  (zah (zax 2 (zcx (zaj 0 zag) zag) sc__law_least_row.nd)
  (zah (zcR 3 (zeE zai) sc__law_least_row.nd)
  (zah (zff PassesOwn.never rfl (zfr bn.enumerate' (zaa (zab 1) zai)) (zeu rfl (zar (zap 4 sc__law_least_row.nd) (zar (zeu rfl (zar (zap 5 sc__law_least_row.nd) (zar (zap 6 sc__law_least_row.nd) zcK))) zcK)))
  (zah (zax 7 (zg5 rfl bn.sum' (zaa (SO.se (zfA [] 2 ["least", "most"] rfl (zfp (zcX (zab 1) (zbu (zaO (zab 4) zag)) zfl)) (fun C s H fp => (zeu rfl (zar (zap 0 (show (["least", "most"] : List Str).Nodup by decide +kernel)) (zar (zap 1 (show (["least", "most"] : List Str).Nodup by decide +kernel)) zcK)))) (fun C s H fp => zb5) (fun C s H fp => (zab 1)))) zai)) sc__law_least_row.nd)
  (zah (zfV 3 (zj6 rfl bn.max' (zaa (zab 5) (zaa (zct (zab 2) (zab 7)) zai))))
  (zan (zax 2 (zct (zab 2) (zaj 3 (zfL zag))) sc__law_least_row.nd)))))
  (zan (zaL (zaI zaJ hr (zaa (zab 0) (zaa (zab 3) zai)) (hlen := (zac (zac zam))))))))))
theorem zgr {P : Program} {w : World} {K : W.Frag} {mg : Str → Option Value} {base : Heap} {f : Addr} {fd : FuncData} (bn : BN K mg) (zaJ : FD P w K mg base 2 "_law_by_firsts" (spP K 2 zaR)) (zaE : FD P w K mg base 2 "_law_spans" (spP K 1 zaZ)) (F : Fun K "_law_least_row" "_law_least_row" zaT f fd) : FnOk P w K mg base CX0 3 f fd ["line"] (spP K 1 zaH) :=
 zb9 (N := ["line", "spans", "left", "firsts", "rest", "low", "high", "others"]) (ps := ["line"]) (k := 2) (n := 1) (m := zcq) F sc__law_least_row rfl (by decide) fun cdv A outer s H E hr => zgu bn zaJ zaE hr
noncomputable abbrev zaN : Stmt := top 34
noncomputable def zb3 : MS :=
 (sRet (m2 dGt (m2 dSub (eIxV 4 (eVar 8)) (eIxV 6 (eVar 8))) (m2 dSub (eIxV 5 (eVar 9)) (eIxV 6 (eVar 9)))))
noncomputable def zb1 : ME :=
 (zfj dLe dLt (eC (.int 0)) (eVar 1) (eVar 0))
noncomputable def zb2 : MO :=
 oLC [7] 1 (iSeq (eVar 10)) (gN 1) zeR zb1
noncomputable def zbY : ME :=
 (m2 dMod (eVar 1) (eVar 0))
noncomputable def zb4 : MO :=
 oLC [2] 1 (iSeq (eVar 10)) (gN 1) zeR zbY
noncomputable def zcL : ME :=
 (m2 dSub (eIxV 0 (eVar 2)) (eIxV 1 (eVar 2)))
noncomputable def zcM : MO :=
 oLC [4, 6] 1 (iSeq (eVar 10)) (gN 2) zeR zcL
noncomputable def zcQ : ME :=
 (m2 dSub (eIxV 0 (eVar 2)) (eIxV 1 (eVar 2)))
noncomputable def zcP : MO :=
 oLC [5, 6] 1 (iSeq (eVar 10)) (gN 2) zeR zcQ
noncomputable def zcO : MS :=
 (sRet (m2 dLt (mC dSum (zaf (eFz zcP) aNil)) (eIxV 3 (eC (.int 0)))))
noncomputable def zbZ : MS :=
 (sSeq (sIf (tTru (m2 dEq (eIxV 1 (eC (.int 0))) (eC (.str "low"))))
  (sRet (m2 dGt (mC dSum (zaf (eFz zcM) aNil)) (eIxV 3 (eC (.int 0)))))
  zcv)
  zcO)
noncomputable def zb0 : MS :=
 (sSeq (sIf (tTru (m2 dNe (eFz zb4) (eFz (oR (iR1 (zaf (eVar 2) aNil))))))
  (sRet (eC (.bl false)))
  zcv)
  zbZ)
noncomputable def zbX : MS :=
 (sSeq (sSet 10 (eIxV 1 (eC (.int 1))))
  (sSeq (sIf (tOrM (tTru (m2 dNe (zcN 10) (eVar 2))) (zhh (tTru (mC (dAll fun bs => bs.all id) (zaf (eFz zb2) aNil)))))
  (sRet (eC (.bl false)))
  zcv)
  zb0))
noncomputable def zbk : MS :=
 (sSeq (sIf (tTru (m2 dEq (eIxV 1 (eC (.int 0))) (eC (.str "clash"))))
  (sSeq (sAsg (eCut (eVar 1) (zd2 (eC (.int 1))) pNo) (gT 2 (zaP (gN 8) (zaP (gN 9) zfy))))
  (sSeq (sIf (tOrM (zhh (tTru (zfj dLe dLt (eC (.int 0)) (eVar 8) (eVar 7)))) (tOrM (zhh (tTru (zfj dLe dLt (eC (.int 0)) (eVar 9) (eVar 7)))) (tTru (m2 dNe (m2 dMod (m2 dSub (eVar 8) (eVar 9)) (eVar 2)) (eC (.int 0))))))
  (sRet (eC (.bl false)))
  zcv)
  zb3))
  zcv)
  zbX)
noncomputable def zaY : MS :=
 (sSeq (sAsg (eVar 0) (gT 4 (zaP (gN 2) (zaP (gN 3) (zaP (gN 4) (zaP (gN 5) zfy))))))
  (sSeq (sSet 6 (zbH zaM (zaf (eVar 0) aNil)))
  (sSeq (sSet 7 (zcN 6))
  (sSeq (sIf (tTru (m2 dEq (eIxV 1 (eC (.int 0))) (eC (.str "row"))))
  (sRet (eAnd (zbH zcj (zaf (eVar 0) (zaf (eIxV 1 (eC (.int 1))) aNil))) (m2 dEq (mC zcJ (zaf (eIxV 1 (eC (.int 1))) aNil)) (zbH zaH (zaf (eVar 0) aNil)))))
  zcv)
  zbk))))
noncomputable def zas : List D → Option Sl := fP 11 zaY
theorem sc__law_told_right : FnScope ["line", "told", "k", "sums", "least", "greatest", "mores", "many", "a", "b", "places"] ["line", "told"] (zad zaN) := ⟨rfl, rfl, rfl, by decide +kernel, rfl, by decide +kernel, by decide +kernel⟩
theorem zgd (bn : BN K mg) (zc1 : FD P w K mg base 2 "_law_is_fit" (spP K 2 zcj)) (zaz : FD P w K mg base 3 "_law_least_row" (spP K 1 zaH)) (zat : FD P w K mg base 1 "_law_mores" (spP K 1 zaM)) (hr : Room 3 (A.deeper (PyProof.Rows.envOfC "_law_told_right" (zad zaN) s.heap.objs.size f cdv))) :
  SSs (cxOf CX0 P w K mg base ["line", "told", "k", "sums", "least", "greatest", "mores", "many", "a", "b", "places"] "_law_told_right" (zad zaN) f cdv A outer s H E).nox (zao zaN) zaY := by
 unfold zaY zbk zbX zb0 zbZ zcO zcP zcQ zcM zcL zb4 zbY zb2 zb1 zb3
 exact (zah (zgF (zab 0) (zeu rfl (zar (zap 2 sc__law_told_right.nd) (zar (zap 3 sc__law_told_right.nd) (zar (zap 4 sc__law_told_right.nd) (zar (zap 5 sc__law_told_right.nd) zcK))))))
  (zah (zax 6 (zaI zat hr (zaa (zab 0) zai) (hlen := (zac zam))) sc__law_told_right.nd)
  (zah (zax 7 (za2 6 bn.len') sc__law_told_right.nd)
  (zah (zca (zdt hr.units (zaj 1 zag) zc0)
  (zan (zaL (zhI (zaI zc1 hr (zaa (zab 0) (zaa (zaj 1 zag) zai)) (hlen := (zac (zac zam)))) (zhM (zie hr.units (zcw bn.tuple' (zaa (zaj 1 zag) zai)) (zaI zaz hr (zaa (zab 0) zai) (hlen := (zac zam))))))))
  zaQ)
  (zah (zca (zdt hr.units (zaj 1 zag) zc0)
  (zah (zgF (zcX (zab 1) (zbu zag) zfl) (zeu rfl (zar (zap 8 sc__law_told_right.nd) (zar (zap 9 sc__law_told_right.nd) zcK))))
  (zah (zca (STw.st (zkq (zgB (zgP zhk zjF zdg zdg zhG zag (zab 8) (zab 7))) (zkq (zgB (zgP zhk zjF zdg zdg zhG zag (zab 9) (zab 7))) (zkM (zgK hr.units (zdy (zct (zab 8) (zab 9)) (zab 2)) zag)))))
  (zan (zaL zgH))
  zaQ)
  (zan (zaL (se_gt (zct (zaj 4 (zab 8)) (zaj 6 (zab 8))) (zct (zaj 5 (zab 9)) (zaj 6 (zab 9))))))))
  zaQ)
  (zah (zax 10 (zaj 1 zag) sc__law_told_right.nd)
  (zah (zca (STw.st (zkq (zgK hr.units (za2 10 bn.len') (zab 2)) (zkM (zgB (zf7 (zkC rfl bn.all' (zaa (SO.se (zfA [7] 1 ["many", "place"] rfl (zfp (zab 10)) (fun C s H fp => (zap 1 (show (["many", "place"] : List Str).Nodup by decide +kernel))) (fun C s H fp => zb5) (fun C s H fp => (zgR zhk zjF zdg zdg zag (zab 1) (zab 0))))) zai)))))))
  (zan (zaL zgH))
  zaQ)
  (zah (zca (zgK hr.units (SO.se (zfA [2] 1 ["k", "place"] rfl (zfp (zab 10)) (fun C s H fp => (zap 1 (show (["k", "place"] : List Str).Nodup by decide +kernel))) (fun C s H fp => zb5) (fun C s H fp => (zdy (zab 1) (zab 0))))) (SO.se (zmq bn.list' bn.range' (zaa (zab 2) zai))))
  (zan (zaL zgH))
  zaQ)
  (zah (zca (zdt hr.units (zaj 1 zag) zc0)
  (zan (zaL (se_gt (zg5 rfl bn.sum' (zaa (SO.se (zfA [4, 6] 1 ["least", "mores", "place"] rfl (zfp (zab 10)) (fun C s H fp => (zap 2 (show (["least", "mores", "place"] : List Str).Nodup by decide +kernel))) (fun C s H fp => zb5) (fun C s H fp => (zct (zaj 0 (zab 2)) (zaj 1 (zab 2)))))) zai)) (zaj 3 zag))))
  zaQ)
  (zan (zaL (se_lt (zg5 rfl bn.sum' (zaa (SO.se (zfA [5, 6] 1 ["greatest", "mores", "place"] rfl (zfp (zab 10)) (fun C s H fp => (zap 2 (show (["greatest", "mores", "place"] : List Str).Nodup by decide +kernel))) (fun C s H fp => zb5) (fun C s H fp => (zct (zaj 0 (zab 2)) (zaj 1 (zab 2)))))) zai)) (zaj 3 zag)))))))))))))
theorem zge {P : Program} {w : World} {K : W.Frag} {mg : Str → Option Value} {base : Heap} {f : Addr} {fd : FuncData} (bn : BN K mg) (zc1 : FD P w K mg base 2 "_law_is_fit" (spP K 2 zcj)) (zaz : FD P w K mg base 3 "_law_least_row" (spP K 1 zaH)) (zat : FD P w K mg base 1 "_law_mores" (spP K 1 zaM)) (F : Fun K "_law_told_right" "_law_told_right" zaN f fd) : FnOk P w K mg base CX0 4 f fd ["line", "told"] (spP K 2 zas) :=
 zb9 (N := ["line", "told", "k", "sums", "least", "greatest", "mores", "many", "a", "b", "places"]) (ps := ["line", "told"]) (k := 3) (n := 2) (m := zaY) F sc__law_told_right rfl (by decide) fun cdv A outer s H E hr => zgd bn zc1 zaz zat hr
noncomputable abbrev zav : Stmt := top 35
noncomputable def zcd : MS :=
 (sRet (m2 dAdd (m2 dAdd (eCut (eVar 1) pNo (zd2 (eVar 3))) (eTup (zaf (m2 dAdd (eIxV 1 (eVar 3)) (eVar 4)) aNil))) (eCut (eVar 1) (zd2 (m2 dAdd (eVar 3) (eC (.int 1)))) pNo)))
noncomputable def zci : MS :=
 (sSeq (sIf (tTru (m2 dEq (eVar 2) (eC (.int 2))))
  (sSeq (sSet 5 (zaK zak 0 (zaf (zcN 1) aNil)))
  (sSeq (zfn 6 (oC za7 (zaf (eVar 1) aNil)))
  (sSeq (sAsg (eTup (zaf (eIxV 6 (eVar 5)) (zaf (eIxV 6 (eVar 3)) aNil))) (gT 2 (zaP (gS 6 (eVar 3)) (zaP (gS 6 (eVar 5)) zfy))))
  (sRet (mC zcJ (zaf (eVar 6) aNil))))))
  zcv)
  zcd)
noncomputable def zcg : MS :=
 (sSeq (sIf (tTru (m2 dEq (eVar 3) (zcN 1)))
  (ziB 1)
  zcv)
  zci)
noncomputable def zch : MS :=
 (sSeq (sIf (tTru (m2 dEq (eVar 2) (eC (.int 1))))
  (sRet (m2 dAdd (m2 dAdd (eCut (eVar 1) pNo (zd2 (eVar 3))) (eTup (zaf (eVar 4) aNil))) (eCut (eVar 1) (zd2 (eVar 3)) pNo)))
  zcv)
  zcg)
noncomputable def zbp : MS :=
 (sSeq (sSet 2 (zaK zak 0 (zaf (eC (.int 8)) aNil)))
  (sSeq (sSet 3 (zaK zak 0 (zaf (m2 dAdd (zcN 1) (eC (.int 1))) aNil)))
  (sSeq (sSet 4 (m2 dIx (eTup (zaf (eC (.int 1)) (zaf (m1 dNeg (eC (.int 1))) (zaf (eC (.int 2)) (zaf (m1 dNeg (eC (.int 2))) (zaf (m2 dPow (eC (.int 10)) (eC (.int 59))) (zaf (m1 dNeg (m2 dPow (eC (.int 10)) (eC (.int 59)))) aNil))))))) (zaK zak 0 (zaf (eC (.int 6)) aNil))))
  (sSeq (sIf (tTru (m2 dEq (eVar 2) (eC (.int 0))))
  (sRet (m2 dAdd (eCut (eVar 1) pNo (zd2 (eVar 3))) (eCut (eVar 1) (zd2 (m2 dAdd (eVar 3) (eC (.int 1)))) pNo)))
  zcv)
  zch))))
noncomputable def zay : List D → List D → Option (Sl × List D) := fM 7 zbp
theorem sc__law_one_otherwise : FnScope ["pool", "numbers", "way", "at", "by", "other", "made"] ["pool", "numbers"] (zad zav) := ⟨rfl, rfl, rfl, by decide +kernel, rfl, by decide +kernel, by decide +kernel⟩
theorem zfE (bn : BN K mg) (zae : FD P w K mg base 1 "_law_pick" (spM K 2 zak)) (hr : Room 1 (A.deeper (PyProof.Rows.envOfC "_law_one_otherwise" (zad zav) s.heap.objs.size f cdv))) :
  SSs (cxOf CX0 P w K mg base ["pool", "numbers", "way", "at", "by", "other", "made"] "_law_one_otherwise" (zad zav) f cdv A outer s H E).nox (zao zav) zbp := by
 unfold zbp zch zcg zci zcd
 exact (zah (zax 2 (zaq 0 zae hr (zaa zag zai) (zbC (zac zam))) sc__law_one_otherwise.nd)
  (zah (zax 3 (zaq 0 zae hr (zaa (zaO (za2 1 bn.len') zag) zai) (zbC (zac zam))) sc__law_one_otherwise.nd)
  (zah (zax 4 (zcx (zbD (zaa zag (zaa (zfL zag) (zaa zag (zaa (zfL zag) (zaa (zeX zag zag) (zaa (zfL (zeX zag zag)) zai))))))) (zaq 0 zae hr (zaa zag zai) (zbC (zac zam)))) sc__law_one_otherwise.nd)
  (zah (zca (zdt hr.units (zab 2) zag)
  (zan (zaL (zaO (zcX (zab 1) zfl (zbu (zab 3))) (zcX (zab 1) (zbu (zaO (zab 3) zag)) zfl))))
  zaQ)
  (zah (zca (zdt hr.units (zab 2) zag)
  (zan (zaL (zaO (zaO (zcX (zab 1) zfl (zbu (zab 3))) (zbD (zaa (zab 4) zai))) (zcX (zab 1) (zbu (zab 3)) zfl))))
  zaQ)
  (zah (zca (zdt hr.units (zab 3) (za2 1 bn.len'))
  (zan (zgy 1))
  zaQ)
  (zah (zca (zdt hr.units (zab 2) zag)
  (zah (zax 5 (zaq 0 zae hr (zaa (za2 1 bn.len') zai) (zbC (zac zam))) sc__law_one_otherwise.nd)
  (zah (zcR 6 (zg9 bn.list' (zaa (zab 1) zai)) sc__law_one_otherwise.nd)
  (zah (zgF (zbD (zaa (zaj 6 (zab 5)) (zaa (zaj 6 (zab 3)) zai))) (zeu rfl (zar (sg_sub 6 (zab 3)) (zar (sg_sub 6 (zab 5)) zcK))))
  (zan (zaL (zcw bn.tuple' (zaa (zab 6) zai)))))))
  zaQ)
  (zan (zaL (zaO (zaO (zcX (zab 1) zfl (zbu (zab 3))) (zbD (zaa (zaO (zaj 1 (zab 3)) (zab 4)) zai))) (zcX (zab 1) (zbu (zaO (zab 3) zag)) zfl)))))))))))
theorem zfI {P : Program} {w : World} {K : W.Frag} {mg : Str → Option Value} {base : Heap} {f : Addr} {fd : FuncData} (bn : BN K mg) (zae : FD P w K mg base 1 "_law_pick" (spM K 2 zak)) (F : Fun K "_law_one_otherwise" "_law_one_otherwise" zav f fd) : FnOk P w K mg base CX0 2 f fd ["pool", "numbers"] (spM K 2 zay) :=
 zf6 (N := ["pool", "numbers", "way", "at", "by", "other", "made"]) (ps := ["pool", "numbers"]) (k := 1) (n := 2) (m := zbp) F sc__law_one_otherwise rfl (by decide) fun cdv A outer s H E hr => zfE bn zae hr
noncomputable abbrev za6 : Stmt := top 36
noncomputable def zcI : MS :=
 (sIf (tTru (m2 dEq (m2 dMod (eVar 7) (eIxV 1 (eC (.int 0)))) (eVar 4)))
  (sPut 6 (eVar 7) (m2 dSub (eIxV 2 (eVar 7)) (eVar 5)))
  zcv)
noncomputable def zdC : MS :=
 (sSeq (sIf (tTru (m2 dEq (m2 dMod (eVar 7) (eIxV 1 (eC (.int 0)))) (eVar 3)))
  (sPut 6 (eVar 7) (m2 dAdd (eIxV 2 (eVar 7)) (eVar 5)))
  zcv)
  zcI)
noncomputable def zdz : MS :=
 sFor (iR1 (zaf (zcN 2) aNil)) (gN 7) zdC
noncomputable def zcY : MS :=
 (sSeq (sSet 3 (zaK zak 0 (zaf (eIxV 1 (eC (.int 0))) aNil)))
  (sSeq (sSet 4 (m2 dMod (m2 dAdd (m2 dAdd (eVar 3) (eC (.int 1))) (zaK zak 0 (zaf (m2 dSub (eIxV 1 (eC (.int 0))) (eC (.int 1))) aNil))) (eIxV 1 (eC (.int 0)))))
  (sSeq (sSet 5 (m2 dIx (eTup (zaf (eC (.int 1)) (zaf (m1 dNeg (eC (.int 1))) (zaf (eC (.int 2)) (zaf (eC (.int 3)) (zaf (eC (.int 40)) (zaf (m2 dPow (eC (.int 10)) (eC (.int 58))) aNil))))))) (zaK zak 0 (zaf (eC (.int 6)) aNil))))
  (sSeq (zfn 6 (oC za7 (zaf (eVar 2) aNil)))
  (sSeq zdz
  (sRet (mC zcJ (zaf (eVar 6) aNil))))))))
noncomputable def zbU : List D → List D → Option (Sl × List D) := fM 8 zcY
theorem sc__law_shifted : FnScope ["pool", "line", "row", "one", "other", "by", "made", "place"] ["pool", "line", "row"] (zad za6) := ⟨rfl, rfl, rfl, by decide +kernel, rfl, by decide +kernel, by decide +kernel⟩
theorem zg3 (bn : BN K mg) (zae : FD P w K mg base 1 "_law_pick" (spM K 2 zak)) (hr : Room 1 (A.deeper (PyProof.Rows.envOfC "_law_shifted" (zad za6) s.heap.objs.size f cdv))) :
  SSs (cxOf CX0 P w K mg base ["pool", "line", "row", "one", "other", "by", "made", "place"] "_law_shifted" (zad za6) f cdv A outer s H E).nox (zao za6) zcY := by
 unfold zcY zdz zdC zcI
 exact (zah (zax 3 (zaq 0 zae hr (zaa (zaj 1 zag) zai) (zbC (zac zam))) sc__law_shifted.nd)
  (zah (zax 4 (zdy (zaO (zaO (zab 3) zag) (zaq 0 zae hr (zaa (zct (zaj 1 zag) zag) zai) (zbC (zac zam)))) (zaj 1 zag)) sc__law_shifted.nd)
  (zah (zax 5 (zcx (zbD (zaa zag (zaa (zfL zag) (zaa zag (zaa zag (zaa zag (zaa (zeX zag zag) zai))))))) (zaq 0 zae hr (zaa zag zai) (zbC (zac zam)))) sc__law_shifted.nd)
  (zah (zcR 6 (zg9 bn.list' (zaa (zab 2) zai)) sc__law_shifted.nd)
  (zah (zff PassesOwn.never rfl (zb6 bn.range' (zaa (za2 2 bn.len') zai)) (zap 7 sc__law_shifted.nd)
  (zah (zca (zdt hr.units (zdy (zab 7) (zaj 1 zag)) (zab 3))
  (zan (zgA 6 (zaO (zaj 2 (zab 7)) (zab 5)) (zab 7)))
  zaQ)
  (zan (zca (zdt hr.units (zdy (zab 7) (zaj 1 zag)) (zab 4))
  (zan (zgA 6 (zct (zaj 2 (zab 7)) (zab 5)) (zab 7)))
  zaQ))))
  (zan (zaL (zcw bn.tuple' (zaa (zab 6) zai)))))))))
theorem zhc {P : Program} {w : World} {K : W.Frag} {mg : Str → Option Value} {base : Heap} {f : Addr} {fd : FuncData} (bn : BN K mg) (zae : FD P w K mg base 1 "_law_pick" (spM K 2 zak)) (F : Fun K "_law_shifted" "_law_shifted" za6 f fd) : FnOk P w K mg base CX0 2 f fd ["pool", "line", "row"] (spM K 3 zbU) :=
 zf6 (N := ["pool", "line", "row", "one", "other", "by", "made", "place"]) (ps := ["pool", "line", "row"]) (k := 1) (n := 3) (m := zcY) F sc__law_shifted rfl (by decide) fun cdv A outer s H E hr => zg3 bn zae hr
noncomputable abbrev za5 : Stmt := top 37
noncomputable def zdD : ME :=
 (m2 dAdd (eVar 1) (zaK zak 0 (zaf (eC (.int 3)) aNil)))
noncomputable def zdG : MO :=
 oLCM [0] 2 0 0 (iSeq (zbH zaZ (zaf (eVar 1) aNil))) (gT 2 (zaP (gN 1) (zaP (gN 2) zfy))) zeR zdD
noncomputable def zcT : MS :=
 (sSeq (zfn 2 zdG)
  (sSeq (sPut 2 (m1 dNeg (eC (.int 1))) (m2 dSub (m2 dIx (eIxV 1 (eC (.int 1))) (eC (.int 0))) (mC dSum (zaf (eCutO 2 pNo (zd2 (m1 dNeg (eC (.int 1))))) aNil))))
  (sRet (zbH zaR (zaf (eVar 1) (zaf (eVar 2) aNil))))))
noncomputable def zbW : List D → List D → Option (Sl × List D) := fM 3 zcT
theorem sc__law_sum_row : FnScope ["pool", "line", "firsts"] ["pool", "line"] (zad za5) := ⟨rfl, rfl, rfl, by decide +kernel, rfl, by decide +kernel, by decide +kernel⟩
theorem zg0 (bn : BN K mg) (zaJ : FD P w K mg base 2 "_law_by_firsts" (spP K 2 zaR)) (zae : FD P w K mg base 1 "_law_pick" (spM K 2 zak)) (zaE : FD P w K mg base 2 "_law_spans" (spP K 1 zaZ)) (hr : Room 2 (A.deeper (PyProof.Rows.envOfC "_law_sum_row" (zad za5) s.heap.objs.size f cdv))) :
  SSs (cxOf CX0 P w K mg base ["pool", "line", "firsts"] "_law_sum_row" (zad za5) f cdv A outer s H E).nox (zao za5) zcT := by
 unfold zcT zdG zdD
 exact (zah (zmG 2 [0] 2 0 0 ["pool", "low", "high"] rfl (zfp (zaI zaE hr (zaa (zab 1) zai) (hlen := (zac zam)))) (fun C s H fp => (zeu rfl (zar (zap 1 (show (["pool", "low", "high"] : List Str).Nodup by decide +kernel)) (zar (zap 2 (show (["pool", "low", "high"] : List Str).Nodup by decide +kernel)) zcK)))) (fun C s H fp => zb5) (fun C s H fp => (zaO (zab 1) (zaq 0 zae hr (zaa zag zai) (zbC (zac zam))))) sc__law_sum_row.nd)
  (zah (zgA 2 (zct (zcx (zaj 1 zag) zag) (zg5 rfl bn.sum' (zaa (se_cutO 2 zfl (zbu (zfL zag))) zai))) (zfL zag))
  (zan (zaL (zaI zaJ hr (zaa (zab 1) (zaa (zab 2) zai)) (hlen := (zac (zac zam))))))))
theorem zhe {P : Program} {w : World} {K : W.Frag} {mg : Str → Option Value} {base : Heap} {f : Addr} {fd : FuncData} (bn : BN K mg) (zaJ : FD P w K mg base 2 "_law_by_firsts" (spP K 2 zaR)) (zae : FD P w K mg base 1 "_law_pick" (spM K 2 zak)) (zaE : FD P w K mg base 2 "_law_spans" (spP K 1 zaZ)) (F : Fun K "_law_sum_row" "_law_sum_row" za5 f fd) : FnOk P w K mg base CX0 3 f fd ["pool", "line"] (spM K 2 zbW) :=
 zf6 (N := ["pool", "line", "firsts"]) (ps := ["pool", "line"]) (k := 2) (n := 2) (m := zcT) F sc__law_sum_row rfl (by decide) fun cdv A outer s H E hr => zg0 bn zaJ zae zaE hr
noncomputable abbrev zbf : Stmt := top 38
noncomputable def zd7 : ME :=
 (eVar 4)
noncomputable def zem : MT :=
 (tTru (m2 dEq (m2 dSub (eIxV 0 (eVar 4)) (eIxV 1 (eVar 4))) (m2 dIx (eIxV 2 (eVar 3)) (eC (.int 0)))))
noncomputable def zeo : MO :=
 oLC [4, 6, 8, 12] 1 (iSeq (eVar 13)) (gN 4) zem zd7
noncomputable def zej : ME :=
 (eVar 4)
noncomputable def zet : MT :=
 (tTru (m2 dEq (m2 dSub (eIxV 0 (eVar 4)) (eIxV 1 (eVar 4))) (m2 dIx (eIxV 2 (eVar 3)) (eC (.int 1)))))
noncomputable def zeq : MO :=
 oLC [5, 6, 8, 12] 1 (iSeq (eVar 13)) (gN 4) zet zej
noncomputable def zee : MS :=
 (sSeq (sSet 13 (eFz (oR (iR3 (zaf (eVar 12) (zaf (eVar 7) (zaf (eVar 2) aNil)))))))
  (sSeq (sSet 14 (m2 dIx (eFz zeo) (eC (.int 0))))
  (sSeq (sSet 15 (m2 dIx (eFz zeq) (eC (.int 0))))
  (sSeq (sApp 10 (m2 dIx (eTup (zaf (eVar 14) (zaf (eIxV 13 (zaK zak 0 (zaf (zcN 13) aNil))) aNil))) (mC dInt (zaf (m2 dEq (zaK zak 0 (zaf (eC (.int 4)) aNil)) (eC (.int 0))) aNil))))
  (sApp 11 (m2 dIx (eTup (zaf (eVar 15) (zaf (eIxV 13 (zaK zak 0 (zaf (zcN 13) aNil))) aNil))) (mC dInt (zaf (m2 dEq (zaK zak 0 (zaf (eC (.int 4)) aNil)) (eC (.int 0))) aNil))))))))
noncomputable def zd9 : MS :=
 sFor (iR1 (zaf (eVar 2) aNil)) (gN 12) zee
noncomputable def zdk : MS :=
 (sSeq (sAsg (eVar 1) (gT 4 (zaP (gN 2) (zaP (gN 3) (zaP (gN 4) (zaP (gN 5) zfy))))))
  (sSeq (sSet 6 (zbH zaM (zaf (eVar 1) aNil)))
  (sSeq (sSet 7 (zcN 6))
  (sSeq (sSet 8 (zbH zaZ (zaf (eVar 1) aNil)))
  (sSeq (sSet 9 (m2 dIx (eTup (zaf (zbH zaH (zaf (eVar 1) aNil)) (zaf (zaK zbW 0 (zaf (eVar 1) aNil)) (zaf (zbH zaH (zaf (eVar 1) aNil)) aNil)))) (zaK zak 0 (zaf (eC (.int 3)) aNil))))
  (sSeq (zfn 10 (oLst aNil))
  (sSeq (zfn 11 (oLst aNil))
  (sSeq zd9
  (sSeq (sSet 12 (zaK zak 0 (zaf (eVar 2) aNil)))
  (sSeq (sSet 16 (m2 dIx (eFz (oLst (zaf (eTup (zaf (eIxV 10 (eVar 12)) (zaf (eIxV 11 (eVar 12)) aNil))) (zaf (eTup (zaf (zaK zak 0 (zaf (eVar 7) aNil)) (zaf (zaK zak 0 (zaf (eVar 7) aNil)) aNil))) aNil)))) (mC dInt (zaf (m2 dEq (zaK zak 0 (zaf (eC (.int 4)) aNil)) (eC (.int 0))) aNil))))
  (zjZ (oLst (zaf (eTup (zaf (eC (.str "row")) (zaf (eVar 9) aNil))) (zaf (m2 dAdd (eTup (zaf (eC (.str "clash")) aNil)) (eVar 16)) (zaf (eTup (zaf (eC (.str "low")) (zaf (mC zcJ (zaf (eVar 10) aNil)) aNil))) (zaf (eTup (zaf (eC (.str "high")) (zaf (mC zcJ (zaf (eVar 11) aNil)) aNil))) aNil))))))))))))))))
noncomputable def zce : List D → List D → Option (Sl × List D) := fM 17 zdk
theorem sc__law_things : FnScope ["pool", "line", "k", "sums", "least", "greatest", "mores", "many", "spans", "row", "lows", "highs", "rest", "places", "low", "high", "two"] ["pool", "line"] (zad zbf) := ⟨rfl, rfl, rfl, by decide +kernel, rfl, by decide +kernel, by decide +kernel⟩
theorem zhz (bn : BN K mg) (zaz : FD P w K mg base 3 "_law_least_row" (spP K 1 zaH)) (zat : FD P w K mg base 1 "_law_mores" (spP K 1 zaM)) (zae : FD P w K mg base 1 "_law_pick" (spM K 2 zak)) (zaE : FD P w K mg base 2 "_law_spans" (spP K 1 zaZ)) (zcD : FD P w K mg base 3 "_law_sum_row" (spM K 2 zbW)) (hr : Room 3 (A.deeper (PyProof.Rows.envOfC "_law_things" (zad zbf) s.heap.objs.size f cdv))) :
  SSs (cxOf CX0 P w K mg base ["pool", "line", "k", "sums", "least", "greatest", "mores", "many", "spans", "row", "lows", "highs", "rest", "places", "low", "high", "two"] "_law_things" (zad zbf) f cdv A outer s H E).nox (zao zbf) zdk := by
 unfold zdk zd9 zee zeq zet zej zeo zem zd7
 exact (zah (zgF (zab 1) (zeu rfl (zar (zap 2 sc__law_things.nd) (zar (zap 3 sc__law_things.nd) (zar (zap 4 sc__law_things.nd) (zar (zap 5 sc__law_things.nd) zcK))))))
  (zah (zax 6 (zaI zat hr (zaa (zab 1) zai) (hlen := (zac zam))) sc__law_things.nd)
  (zah (zax 7 (za2 6 bn.len') sc__law_things.nd)
  (zah (zax 8 (zaI zaE hr (zaa (zab 1) zai) (hlen := (zac zam))) sc__law_things.nd)
  (zah (zax 9 (zcx (zbD (zaa (zaI zaz hr (zaa (zab 1) zai) (hlen := (zac zam))) (zaa (zaq 0 zcD hr (zaa (zab 1) zai) (zbC (zac zam))) (zaa (zaI zaz hr (zaa (zab 1) zai) (hlen := (zac zam))) zai)))) (zaq 0 zae hr (zaa zag zai) (zbC (zac zam)))) sc__law_things.nd)
  (zah (zcR 10 (zeE zai) sc__law_things.nd)
  (zah (zcR 11 (zeE zai) sc__law_things.nd)
  (zah (zff PassesOwn.never rfl (zb6 bn.range' (zaa (zab 2) zai)) (zap 12 sc__law_things.nd)
  (zah (zax 13 (SO.se (zmO bn.list' bn.range' (zaa (zab 12) (zaa (zab 7) (zaa (zab 2) zai))))) sc__law_things.nd)
  (zah (zax 14 (zcx (SO.se (zfA [4, 6, 8, 12] 1 ["least", "mores", "spans", "rest", "place"] rfl (zfp (zab 13)) (fun C s H fp => (zap 4 (show (["least", "mores", "spans", "rest", "place"] : List Str).Nodup by decide +kernel))) (fun C s H fp => (zmV (zdt hr.units (zct (zaj 0 (zab 4)) (zaj 1 (zab 4))) (zcx (zaj 2 (zab 3)) zag)))) (fun C s H fp => (zab 4)))) zag) sc__law_things.nd)
  (zah (zax 15 (zcx (SO.se (zfA [5, 6, 8, 12] 1 ["greatest", "mores", "spans", "rest", "place"] rfl (zfp (zab 13)) (fun C s H fp => (zap 4 (show (["greatest", "mores", "spans", "rest", "place"] : List Str).Nodup by decide +kernel))) (fun C s H fp => (zmV (zdt hr.units (zct (zaj 0 (zab 4)) (zaj 1 (zab 4))) (zcx (zaj 2 (zab 3)) zag)))) (fun C s H fp => (zab 4)))) zag) sc__law_things.nd)
  (zah (zfV 10 (zcx (zbD (zaa (zab 14) (zaa (zaj 13 (zaq 0 zae hr (zaa (za2 13 bn.len') zai) (zbC (zac zam)))) zai))) (zix bn.int' (zaa (zie hr.units (zaq 0 zae hr (zaa zag zai) (zbC (zac zam))) zag) zai))))
  (zan (zfV 11 (zcx (zbD (zaa (zab 15) (zaa (zaj 13 (zaq 0 zae hr (zaa (za2 13 bn.len') zai) (zbC (zac zam)))) zai))) (zix bn.int' (zaa (zie hr.units (zaq 0 zae hr (zaa zag zai) (zbC (zac zam))) zag) zai))))))))))
  (zah (zax 12 (zaq 0 zae hr (zaa (zab 2) zai) (zbC (zac zam))) sc__law_things.nd)
  (zah (zax 16 (zcx (SO.se (zeE (zaa (zbD (zaa (zaj 10 (zab 12)) (zaa (zaj 11 (zab 12)) zai))) (zaa (zbD (zaa (zaq 0 zae hr (zaa (zab 7) zai) (zbC (zac zam))) (zaa (zaq 0 zae hr (zaa (zab 7) zai) (zbC (zac zam))) zai))) zai)))) (zix bn.int' (zaa (zie hr.units (zaq 0 zae hr (zaa zag zai) (zbC (zac zam))) zag) zai))) sc__law_things.nd)
  (zan (zhf (zeE (zaa (zbD (zaa zc0 (zaa (zab 9) zai))) (zaa (zaO (zbD (zaa zc0 zai)) (zab 16)) (zaa (zbD (zaa zc0 (zaa (zcw bn.tuple' (zaa (zab 10) zai)) zai))) (zaa (zbD (zaa zc0 (zaa (zcw bn.tuple' (zaa (zab 11) zai)) zai))) zai)))))))))))))))))
theorem zhs {P : Program} {w : World} {K : W.Frag} {mg : Str → Option Value} {base : Heap} {f : Addr} {fd : FuncData} (bn : BN K mg) (zaz : FD P w K mg base 3 "_law_least_row" (spP K 1 zaH)) (zat : FD P w K mg base 1 "_law_mores" (spP K 1 zaM)) (zae : FD P w K mg base 1 "_law_pick" (spM K 2 zak)) (zaE : FD P w K mg base 2 "_law_spans" (spP K 1 zaZ)) (zcD : FD P w K mg base 3 "_law_sum_row" (spM K 2 zbW)) (F : Fun K "_law_things" "_law_things" zbf f fd) : FnOk P w K mg base CX0 4 f fd ["pool", "line"] (spM K 2 zce) :=
 zf6 (N := ["pool", "line", "k", "sums", "least", "greatest", "mores", "many", "spans", "row", "lows", "highs", "rest", "places", "low", "high", "two"]) (ps := ["pool", "line"]) (k := 3) (n := 2) (m := zdk) F sc__law_things rfl (by decide) fun cdv A outer s H E hr => zhz bn zaz zat zae zaE zcD hr
noncomputable abbrev zaF : Stmt := top 39
noncomputable def zbI : MS :=
 (sRet (eTup (zaf (eIxV 1 (eC (.int 0))) (zaf (mC zcJ (zaf (eVar 3) aNil)) aNil))))
noncomputable def za0 : MS :=
 (sSeq (sIf (tTru (m2 dEq (eIxV 1 (eC (.int 0))) (eC (.str "clash"))))
  (sRet (eTup (zaf (eC (.str "clash")) (zaf (eIxV 3 (eC (.int 0))) (zaf (eIxV 3 (eC (.int 1))) aNil)))))
  zcv)
  zbI)
noncomputable def zbl : MS :=
 (sSeq (sIf (zji 3 (tTru (m2 dNe (eVar 3) (eFz (oLst aNil)))))
  (sSeq (sSet 4 (zaK zak 0 (zaf (zcN 3) aNil)))
  (sPut 3 (eVar 4) (m2 dSub (eIxV 3 (eVar 4)) (eVar 2))))
  zcv)
  za0)
noncomputable def zaV : MS :=
 (sSeq (sIf (tTru (m2 dEq (eIxV 1 (eC (.int 0))) (eC (.str "clash"))))
  (zfn 3 (oC za7 (zaf (eCut (eVar 1) (zd2 (eC (.int 1))) pNo) aNil)))
  (zfn 3 (oC za7 (zaf (eIxV 1 (eC (.int 1))) aNil))))
  zbl)
noncomputable def zaA : List D → List D → Option (Sl × List D) := fM 5 zaV
theorem sc__law_from_behind : FnScope ["pool", "thing", "many", "numbers", "at"] ["pool", "thing", "many"] (zad zaF) := ⟨rfl, rfl, rfl, by decide +kernel, rfl, by decide +kernel, by decide +kernel⟩
theorem zf3 (bn : BN K mg) (zae : FD P w K mg base 1 "_law_pick" (spM K 2 zak)) (hr : Room 1 (A.deeper (PyProof.Rows.envOfC "_law_from_behind" (zad zaF) s.heap.objs.size f cdv))) :
  SSs (cxOf CX0 P w K mg base ["pool", "thing", "many", "numbers", "at"] "_law_from_behind" (zad zaF) f cdv A outer s H E).nox (zao zaF) zaV := by
 unfold zaV zbl za0 zbI
 exact (zah (zca (zdt hr.units (zaj 1 zag) zc0)
  (zan (zcR 3 (zg9 bn.list' (zaa (zcX (zab 1) (zbu zag) zfl) zai)) sc__law_from_behind.nd))
  (zan (zcR 3 (zg9 bn.list' (zaa (zaj 1 zag) zai)) sc__law_from_behind.nd)))
  (zah (zca (st_peekF 3 (zgK hr.units (zab 3) (SO.se (zeE zai))))
  (zah (zax 4 (zaq 0 zae hr (zaa (za2 3 bn.len') zai) (zbC (zac zam))) sc__law_from_behind.nd)
  (zan (zgA 3 (zct (zaj 3 (zab 4)) (zab 2)) (zab 4))))
  zaQ)
  (zah (zca (zdt hr.units (zaj 1 zag) zc0)
  (zan (zaL (zbD (zaa zc0 (zaa (zaj 3 zag) (zaa (zaj 3 zag) zai))))))
  zaQ)
  (zan (zaL (zbD (zaa (zaj 1 zag) (zaa (zcw bn.tuple' (zaa (zab 3) zai)) zai))))))))
theorem zfY {P : Program} {w : World} {K : W.Frag} {mg : Str → Option Value} {base : Heap} {f : Addr} {fd : FuncData} (bn : BN K mg) (zae : FD P w K mg base 1 "_law_pick" (spM K 2 zak)) (F : Fun K "_law_from_behind" "_law_from_behind" zaF f fd) : FnOk P w K mg base CX0 2 f fd ["pool", "thing", "many"] (spM K 3 zaA) :=
 zf6 (N := ["pool", "thing", "many", "numbers", "at"]) (ps := ["pool", "thing", "many"]) (k := 1) (n := 3) (m := zaV) F sc__law_from_behind rfl (by decide) fun cdv A outer s H E hr => zf3 bn zae hr
noncomputable abbrev zfw : Stmt := top 40
noncomputable def zf4 : MS :=
 (sSeq (sSet 8 (m2 dEq (zaK zak 2 (zaf (eC (.int 5)) aNil)) (eC (.int 0))))
  (sIf (zks (tTru (m2 dNe (eIxV 4 (eC (.int 0))) (eC (.str "row")))) (tTru (eVar 8)))
  (sSet 4 (zaK zaA 2 (zaf (eVar 4) (zaf (mC dLen (zaf (eIxV 3 (eC (.int 2))) aNil)) aNil))))
  (sIf (tTru (m2 dEq (eIxV 4 (eC (.int 0))) (eC (.str "clash"))))
  (sSeq (sSet 9 (zaK zay 2 (zaf (eCut (eVar 4) (zd2 (eC (.int 1))) pNo) aNil)))
  (sSet 4 (m2 dAdd (eTup (zaf (eC (.str "clash")) aNil)) (eCut (m2 dAdd (eVar 9) (eTup (zaf (eC (.int 0)) (zaf (eC (.int 0)) aNil)))) pNo (zd2 (eC (.int 2)))))))
  (sIf (zks (tTru (m2 dEq (eIxV 4 (eC (.int 0))) (eC (.str "row")))) (zks (tTru (m2 dEq (zaK zak 2 (zaf (eC (.int 2)) aNil)) (eC (.int 0)))) (tTru (m2 dEq (mC dLen (zaf (eIxV 4 (eC (.int 1))) aNil)) (mC dLen (zaf (eIxV 3 (eC (.int 2))) aNil))))))
  (sSet 4 (eTup (zaf (eC (.str "row")) (zaf (zaK zbU 2 (zaf (eVar 3) (zaf (eIxV 4 (eC (.int 1))) aNil))) aNil))))
  (sSet 4 (eTup (zaf (eIxV 4 (eC (.int 0))) (zaf (zaK zay 2 (zaf (eIxV 4 (eC (.int 1))) aNil)) aNil))))))))
noncomputable def zfO : MS :=
 (sSeq (sIf (zks (tTru (m2 dEq (eIxV 4 (eC (.int 0))) (eC (.str "row")))) (tTru (m2 dNe (zbH zaD (zaf (eVar 3) (zaf (eTup (zaf (eC (.str "row")) (zaf (eFz (oC za7 (zaf (eIxV 4 (eC (.int 1))) aNil))) aNil))) aNil))) (eVar 6))))
  (sRet (eC (.bl false)))
  zcv)
  zf4)
noncomputable def zgM : MS :=
 (sSeq (sSet 6 (zbH zas (zaf (eVar 3) (zaf (eVar 4) aNil))))
  (sSeq (sSet 7 (zbH zaD (zaf (eVar 3) (zaf (eVar 4) aNil))))
  (sSeq (sIf (tOrM (zhh (tTru (eIsI "bool" (eVar 7)))) (tOrM (tTru (m2 dNe (eVar 7) (eVar 6))) (tTru (m2 dNe (zbH zaD (zaf (eVar 3) (zaf (eVar 4) aNil))) (eVar 6)))))
  (sRet (eC (.bl false)))
  zcv)
  zfO)))
noncomputable def zic : MS :=
 sFor (iR1 (zaf (eC (.int 3)) aNil)) (gN 5) zgM
noncomputable def ziH : MS :=
 zic
noncomputable def ziA : MS :=
 sFor (iSeq (zaK zce 2 (zaf (eVar 3) aNil))) (gN 4) ziH
noncomputable def zgN : MS :=
 (sSeq (zfn 2 (zhX zdb (zaf (eVar 0) (zaf (eVar 1) aNil))))
  (sSeq (sSet 3 (zaK zc7 2 (zaf (zaK zdc 2 (zaf (eC (.int 24)) (zaf (eC (.int 4)) aNil))) aNil)))
  ziA))
noncomputable def ziE : MS :=
 sFor (iR1 (zaf (mC (d2I max2) (zaf (eC (.int 1)) (zaf (mC (d2I min2) (zaf (zcN 0) (zaf (eC (.int 10)) aNil))) aNil))) aNil)) (gN 1) zgN
noncomputable def zmP : MS :=
 (sSeq ziE
  (sRet (eC (.bl true))))
noncomputable def zju : List D → Option Sl := fP 10 zmP
theorem sc_law : FnScope ["script", "k", "pool", "line", "thing", "turn", "due", "told", "behind", "numbers"] ["script"] (zad zfw) := ⟨rfl, rfl, rfl, by decide +kernel, rfl, by decide +kernel, by decide +kernel⟩
theorem bd_law (bn : BN K mg) (zdZ : FD P w K mg base 2 "_law_bent" (spM K 2 zc7)) (zbF : FD P w K mg base 2 "_law_from_behind" (spM K 3 zaA)) (zdV : FD P w K mg base 3 "_law_line" (spM K 3 zdc)) (zaX : FD P w K mg base 2 "_law_one_otherwise" (spM K 2 zay)) (zae : FD P w K mg base 1 "_law_pick" (spM K 2 zak)) (zd5 : FD P w K mg base 1 "_law_pool" (spP K 2 zdb)) (zcE : FD P w K mg base 2 "_law_shifted" (spM K 3 zbU)) (zcU : FD P w K mg base 4 "_law_things" (spM K 2 zce)) (zbO : FD P w K mg base 4 "_law_told_right" (spP K 2 zas)) (zcc : FD P w K mg base 4 "line_right" (spP K 2 zaD)) (hr : Room 4 (A.deeper (PyProof.Rows.envOfC "law" (zad zfw) s.heap.objs.size f cdv))) :
  SSs (cxOf CX0 P w K mg base ["script", "k", "pool", "line", "thing", "turn", "due", "told", "behind", "numbers"] "law" (zad zfw) f cdv A outer s H E).nox (zao zfw) zmP := by
 unfold zmP ziE zgN ziA ziH zic zgM zfO zf4
 exact (zah (zff PassesOwn.never rfl (zb6 bn.range' (zaa (zj6 rfl bn.max' (zaa zag (zaa (zmK rfl bn.min' (zaa (za2 0 bn.len') (zaa zag zai))) zai))) zai)) (zap 1 sc_law.nd)
  (zah (zcR 2 (zkh zd5 hr (zaa (zab 0) (zaa (zab 1) zai)) (hlen := (zac (zac zam)))) sc_law.nd)
  (zah (zax 3 (zaq 2 zdZ hr (zaa (zaq 2 zdV hr (zaa zag (zaa zag zai)) (zbC (zac (zac zam)))) zai) (zbC (zac zam))) sc_law.nd)
  (zan (zff PassesOwn.never rfl (zfp (zaq 2 zcU hr (zaa (zab 3) zai) (zbC (zac zam)))) (zap 4 sc_law.nd)
  (zan (zff PassesOwn.never rfl (zb6 bn.range' (zaa zag zai)) (zap 5 sc_law.nd)
  (zah (zax 6 (zaI zbO hr (zaa (zab 3) (zaa (zab 4) zai)) (hlen := (zac (zac zam)))) sc_law.nd)
  (zah (zax 7 (zaI zcc hr (zaa (zab 3) (zaa (zab 4) zai)) (hlen := (zac (zac zam)))) sc_law.nd)
  (zah (zca (STw.st (zkq (zgB (zf7 (se_isI "bool" bn.isinstance' bn.bool' (by decide +kernel) (zab 7)))) (zkq (zgK hr.units (zab 7) (zab 6)) (zkM (zgK hr.units (zaI zcc hr (zaa (zab 3) (zaa (zab 4) zai)) (hlen := (zac (zac zam)))) (zab 6))))))
  (zan (zaL zgH))
  zaQ)
  (zah (zca (STw.st (zkW (zdt hr.units (zaj 4 zag) zc0) (zki (zgK hr.units (zaI zcc hr (zaa (zab 3) (zaa (zbD (zaa zc0 (zaa (SO.se (zg9 bn.list' (zaa (zaj 4 zag) zai))) zai))) zai)) (hlen := (zac (zac zam)))) (zab 6)))))
  (zan (zaL zgH))
  zaQ)
  (zah (zax 8 (zie hr.units (zaq 2 zae hr (zaa zag zai) (zbC (zac zam))) zag) sc_law.nd)
  (zan (zca (STw.st (zkW (zgK hr.units (zaj 4 zag) zc0) (zki (zf7 (zab 8)))))
  (zan (zax 4 (zaq 2 zbF hr (zaa (zab 4) (zaa (zmZ bn.len' (zaa (zaj 3 zag) zai)) zai)) (zbC (zac (zac zam)))) sc_law.nd))
  (zan (zca (zdt hr.units (zaj 4 zag) zc0)
  (zah (zax 9 (zaq 2 zaX hr (zaa (zcX (zab 4) (zbu zag) zfl) zai) (zbC (zac zam))) sc_law.nd)
  (zan (zax 4 (zaO (zbD (zaa zc0 zai)) (zcX (zaO (zab 9) (zbD (zaa zag (zaa zag zai)))) zfl (zbu zag))) sc_law.nd)))
  (zan (zca (STw.st (zkW (zdt hr.units (zaj 4 zag) zc0) (zkW (zdt hr.units (zaq 2 zae hr (zaa zag zai) (zbC (zac zam))) zag) (zki (zdt hr.units (zmZ bn.len' (zaa (zaj 4 zag) zai)) (zmZ bn.len' (zaa (zaj 3 zag) zai)))))))
  (zan (zax 4 (zbD (zaa zc0 (zaa (zaq 2 zcE hr (zaa (zab 3) (zaa (zaj 4 zag) zai)) (zbC (zac (zac zam)))) zai))) sc_law.nd))
  (zan (zax 4 (zbD (zaa (zaj 4 zag) (zaa (zaq 2 zaX hr (zaa (zaj 4 zag) zai) (zbC (zac zam))) zai))) sc_law.nd))))))))))))))))))))
  (zan (zaL zgH)))
theorem ok_law {P : Program} {w : World} {K : W.Frag} {mg : Str → Option Value} {base : Heap} {f : Addr} {fd : FuncData} (bn : BN K mg) (zdZ : FD P w K mg base 2 "_law_bent" (spM K 2 zc7)) (zbF : FD P w K mg base 2 "_law_from_behind" (spM K 3 zaA)) (zdV : FD P w K mg base 3 "_law_line" (spM K 3 zdc)) (zaX : FD P w K mg base 2 "_law_one_otherwise" (spM K 2 zay)) (zae : FD P w K mg base 1 "_law_pick" (spM K 2 zak)) (zd5 : FD P w K mg base 1 "_law_pool" (spP K 2 zdb)) (zcE : FD P w K mg base 2 "_law_shifted" (spM K 3 zbU)) (zcU : FD P w K mg base 4 "_law_things" (spM K 2 zce)) (zbO : FD P w K mg base 4 "_law_told_right" (spP K 2 zas)) (zcc : FD P w K mg base 4 "line_right" (spP K 2 zaD)) (F : Fun K "law" "law" zfw f fd) : FnOk P w K mg base CX0 5 f fd ["script"] (spP K 1 zju) :=
 zb9 (N := ["script", "k", "pool", "line", "thing", "turn", "due", "told", "behind", "numbers"]) (ps := ["script"]) (k := 4) (n := 1) (m := zmP) F sc_law rfl (by decide) fun cdv A outer s H E hr => bd_law bn zdZ zbF zdV zaX zae zd5 zcE zcU zbO zcc hr
theorem zgT {P : List Value → Prop} (h : ∀ x0, P [x0]) : ∀ us : List Value, us.length = 1 → P us
 | [x0], _ => h x0
theorem zdx {P : List Value → Prop} (h : ∀ x0 x1, P [x0, x1]) : ∀ us : List Value, us.length = 2 → P us
 | [x0, x1], _ => h x0 x1
theorem zjH {P : List Value → Prop} (h : ∀ x0 x1 x2, P [x0, x1, x2]) : ∀ us : List Value, us.length = 3 → P us
 | [x0, x1, x2], _ => h x0 x1 x2
theorem zmn {P : List Value → Prop} (h : ∀ x0 x1 x2 x3, P [x0, x1, x2, x3]) : ∀ us : List Value, us.length = 4 → P us
 | [x0, x1, x2, x3], _ => h x0 x1 x2 x3
theorem by_us5 {P : List Value → Prop} (h : ∀ x0 x1 x2 x3 x4, P [x0, x1, x2, x3, x4]) : ∀ us : List Value, us.length = 5 → P us
 | [x0, x1, x2, x3, x4], _ => h x0 x1 x2 x3 x4
end
set_option maxHeartbeats 0 in
theorem all_mk {l : W.OpenLaw} {w : World} {K : W.Frag} {h : Heap} {mg : Str → Option Value} {fa f1 f2 f3 f4 f5 f6 f7 f8 f9 f10 f11 f12 f13 f14 f15 f16 f17 f18 f19 f20 f21 f22 f23 f24 f25 f26 f27 f28 f29 f30 f31 f32 f33 f34 f35 : Addr} (X : K.In h) (G : h.Ns mainGlobals mg) (hfa : mg "law" = some (.ref fa))
  {od1 an1 od2 an2 od3 an3 od4 an4 od5 an5 od6 an6 od7 an7 od8 an8 od9 an9 od10 an10 od11 an11 od12 an12 od13 an13 od14 an14 od15 an15 od16 an16 od17 an17 od18 an18 od19 an19 od20 an20 od21 an21 od22 an22 od23 an23 od24 an24 od25 an25 od26 an26 od27 an27 od28 an28 od29 an29 od30 an30 od31 an31 od32 an32 od33 an33 od34 an34 od35 an35 : Option Addr} {sl1 sl2 sl3 sl4 sl5 sl6 sl7 sl8 sl9 sl10 sl11 sl12 sl13 sl14 sl15 sl16 sl17 sl18 sl19 sl20 sl21 sl22 sl23 sl24 sl25 sl26 sl27 sl28 sl29 sl30 sl31 sl32 sl33 sl34 sl35 : Array (Option Value)} {oc1 kV1 dc1 pm1 cd1 ct1 oc2 kV2 dc2 pm2 cd2 ct2 oc3 kV3 dc3 pm3 cd3 ct3 oc4 kV4 dc4 pm4 cd4 ct4 oc5 kV5 dc5 pm5 cd5 ct5 oc6 kV6 dc6 pm6 cd6 ct6 oc7 kV7 dc7 pm7 cd7 ct7 oc8 kV8 dc8 pm8 cd8 ct8 oc9 kV9 dc9 pm9 cd9 ct9 oc10 kV10 dc10 pm10 cd10 ct10 oc11 kV11 dc11 pm11 cd11 ct11 oc12 kV12 dc12 pm12 cd12 ct12 oc13 kV13 dc13 pm13 cd13 ct13 oc14 kV14 dc14 pm14 cd14 ct14 oc15 kV15 dc15 pm15 cd15 ct15 oc16 kV16 dc16 pm16 cd16 ct16 oc17 kV17 dc17 pm17 cd17 ct17 oc18 kV18 dc18 pm18 cd18 ct18 oc19 kV19 dc19 pm19 cd19 ct19 oc20 kV20 dc20 pm20 cd20 ct20 oc21 kV21 dc21 pm21 cd21 ct21 oc22 kV22 dc22 pm22 cd22 ct22 oc23 kV23 dc23 pm23 cd23 ct23 oc24 kV24 dc24 pm24 cd24 ct24 oc25 kV25 dc25 pm25 cd25 ct25 oc26 kV26 dc26 pm26 cd26 ct26 oc27 kV27 dc27 pm27 cd27 ct27 oc28 kV28 dc28 pm28 cd28 ct28 oc29 kV29 dc29 pm29 cd29 ct29 oc30 kV30 dc30 pm30 cd30 ct30 oc31 kV31 dc31 pm31 cd31 ct31 oc32 kV32 dc32 pm32 cd32 ct32 oc33 kV33 dc33 pm33 cd33 ct33 oc34 kV34 dc34 pm34 cd34 ct34 oc35 kV35 dc35 pm35 cd35 ct35 : Value}
  (a1 : W.nsIn K mainGlobals "less_mores" = some (some (.ref f1))) (l1 : K.lookup f1 = some ⟨oc1, od1, .func (W.fnOf "less_mores" "less_mores" (zaB zbx) (zao zbx) (zad zbx) .none kV1 dc1 pm1 an1 cd1 ct1), sl1⟩) (c1 : W.codeIn K cd1 "less_mores" = true) (k1 : W.keepIn K (.ref f1) = true)
  (a2 : W.nsIn K mainGlobals "exchanged_row" = some (some (.ref f2))) (l2 : K.lookup f2 = some ⟨oc2, od2, .func (W.fnOf "exchanged_row" "exchanged_row" (zaB zaW) (zao zaW) (zad zaW) .none kV2 dc2 pm2 an2 cd2 ct2), sl2⟩) (c2 : W.codeIn K cd2 "exchanged_row" = true) (k2 : W.keepIn K (.ref f2) = true)
  (a3 : W.nsIn K mainGlobals "lesser_rows" = some (some (.ref f3))) (l3 : K.lookup f3 = some ⟨oc3, od3, .func (W.fnOf "lesser_rows" "lesser_rows" (zaB zbh) (zao zbh) (zad zbh) .none kV3 dc3 pm3 an3 cd3 ct3), sl3⟩) (c3 : W.codeIn K cd3 "lesser_rows" = true) (k3 : W.keepIn K (.ref f3) = true)
  (a4 : W.nsIn K mainGlobals "mores_of" = some (some (.ref f4))) (l4 : K.lookup f4 = some ⟨oc4, od4, .func (W.fnOf "mores_of" "mores_of" (zaB zcm) (zao zcm) (zad zcm) .none kV4 dc4 pm4 an4 cd4 ct4), sl4⟩) (c4 : W.codeIn K cd4 "mores_of" = true) (k4 : W.keepIn K (.ref f4) = true)
  (a5 : W.nsIn K mainGlobals "low_asks" = some (some (.ref f5))) (l5 : K.lookup f5 = some ⟨oc5, od5, .func (W.fnOf "low_asks" "low_asks" (zaB zcl) (zao zcl) (zad zcl) .none kV5 dc5 pm5 an5 cd5 ct5), sl5⟩) (c5 : W.codeIn K cd5 "low_asks" = true) (k5 : W.keepIn K (.ref f5) = true)
  (a6 : W.nsIn K mainGlobals "high_asks" = some (some (.ref f6))) (l6 : K.lookup f6 = some ⟨oc6, od6, .func (W.fnOf "high_asks" "high_asks" (zaB zbN) (zao zbN) (zad zbN) .none kV6 dc6 pm6 an6 cd6 ct6), sl6⟩) (c6 : W.codeIn K cd6 "high_asks" = true) (k6 : W.keepIn K (.ref f6) = true)
  (a7 : W.nsIn K mainGlobals "line_sums" = some (some (.ref f7))) (l7 : K.lookup f7 = some ⟨oc7, od7, .func (W.fnOf "line_sums" "line_sums" (zaB zbK) (zao zbK) (zad zbK) .none kV7 dc7 pm7 an7 cd7 ct7), sl7⟩) (c7 : W.codeIn K cd7 "line_sums" = true) (k7 : W.keepIn K (.ref f7) = true)
  (a8 : W.nsIn K mainGlobals "chosen_sum" = some (some (.ref f8))) (l8 : K.lookup f8 = some ⟨oc8, od8, .func (W.fnOf "chosen_sum" "chosen_sum" (zaB zbs) (zao zbs) (zad zbs) .none kV8 dc8 pm8 an8 cd8 ct8), sl8⟩) (c8 : W.codeIn K cd8 "chosen_sum" = true) (k8 : W.keepIn K (.ref f8) = true)
  (a9 : W.nsIn K mainGlobals "row_within" = some (some (.ref f9))) (l9 : K.lookup f9 = some ⟨oc9, od9, .func (W.fnOf "row_within" "row_within" (zaB zby) (zao zby) (zad zby) .none kV9 dc9 pm9 an9 cd9 ct9), sl9⟩) (c9 : W.codeIn K cd9 "row_within" = true) (k9 : W.keepIn K (.ref f9) = true)
  (a10 : W.nsIn K mainGlobals "line_holds" = some (some (.ref f10))) (l10 : K.lookup f10 = some ⟨oc10, od10, .func (W.fnOf "line_holds" "line_holds" (zaB zbr) (zao zbr) (zad zbr) .none kV10 dc10 pm10 an10 cd10 ct10), sl10⟩) (c10 : W.codeIn K cd10 "line_holds" = true) (k10 : W.keepIn K (.ref f10) = true)
  (a11 : W.nsIn K mainGlobals "least_right" = some (some (.ref f11))) (l11 : K.lookup f11 = some ⟨oc11, od11, .func (W.fnOf "least_right" "least_right" (zaB zbd) (zao zbd) (zad zbd) .none kV11 dc11 pm11 an11 cd11 ct11), sl11⟩) (c11 : W.codeIn K cd11 "least_right" = true) (k11 : W.keepIn K (.ref f11) = true)
  (a12 : W.nsIn K mainGlobals "clash_right" = some (some (.ref f12))) (l12 : K.lookup f12 = some ⟨oc12, od12, .func (W.fnOf "clash_right" "clash_right" (zaB zbe) (zao zbe) (zad zbe) .none kV12 dc12 pm12 an12 cd12 ct12), sl12⟩) (c12 : W.codeIn K cd12 "clash_right" = true) (k12 : W.keepIn K (.ref f12) = true)
  (a13 : W.nsIn K mainGlobals "one_of_each" = some (some (.ref f13))) (l13 : K.lookup f13 = some ⟨oc13, od13, .func (W.fnOf "one_of_each" "one_of_each" (zaB zbb) (zao zbb) (zad zbb) .none kV13 dc13 pm13 an13 cd13 ct13), sl13⟩) (c13 : W.codeIn K cd13 "one_of_each" = true) (k13 : W.keepIn K (.ref f13) = true)
  (a14 : W.nsIn K mainGlobals "low_right" = some (some (.ref f14))) (l14 : K.lookup f14 = some ⟨oc14, od14, .func (W.fnOf "low_right" "low_right" (zaB zbR) (zao zbR) (zad zbR) .none kV14 dc14 pm14 an14 cd14 ct14), sl14⟩) (c14 : W.codeIn K cd14 "low_right" = true) (k14 : W.keepIn K (.ref f14) = true)
  (a15 : W.nsIn K mainGlobals "high_right" = some (some (.ref f15))) (l15 : K.lookup f15 = some ⟨oc15, od15, .func (W.fnOf "high_right" "high_right" (zaB zbw) (zao zbw) (zad zbw) .none kV15 dc15 pm15 an15 cd15 ct15), sl15⟩) (c15 : W.codeIn K cd15 "high_right" = true) (k15 : W.keepIn K (.ref f15) = true)
  (a16 : W.nsIn K mainGlobals "paper_right" = some (some (.ref f16))) (l16 : K.lookup f16 = some ⟨oc16, od16, .func (W.fnOf "paper_right" "paper_right" (zaB zbg) (zao zbg) (zad zbg) .none kV16 dc16 pm16 an16 cd16 ct16), sl16⟩) (c16 : W.codeIn K cd16 "paper_right" = true) (k16 : W.keepIn K (.ref f16) = true)
  (a17 : W.nsIn K mainGlobals "line_right" = some (some (.ref f17))) (l17 : K.lookup f17 = some ⟨oc17, od17, .func (W.fnOf "line_right" "line_right" (zaB zbt) (zao zbt) (zad zbt) .none kV17 dc17 pm17 an17 cd17 ct17), sl17⟩) (c17 : W.codeIn K cd17 "line_right" = true) (k17 : W.keepIn K (.ref f17) = true)
  (a18 : W.nsIn K mainGlobals "_law_pool" = some (some (.ref f18))) (l18 : K.lookup f18 = some ⟨oc18, od18, .func (W.fnOf "_law_pool" "_law_pool" (zaB zbP) (zao zbP) (zad zbP) .none kV18 dc18 pm18 an18 cd18 ct18), sl18⟩) (c18 : W.codeIn K cd18 "_law_pool" = true) (k18 : W.keepIn K (.ref f18) = true)
  (a19 : W.nsIn K mainGlobals "_law_pick" = some (some (.ref f19))) (l19 : K.lookup f19 = some ⟨oc19, od19, .func (W.fnOf "_law_pick" "_law_pick" (zaB zbG) (zao zbG) (zad zbG) .none kV19 dc19 pm19 an19 cd19 ct19), sl19⟩) (c19 : W.codeIn K cd19 "_law_pick" = true) (k19 : W.keepIn K (.ref f19) = true)
  (a20 : W.nsIn K mainGlobals "_law_wide" = some (some (.ref f20))) (l20 : K.lookup f20 = some ⟨oc20, od20, .func (W.fnOf "_law_wide" "_law_wide" (zaB zbM) (zao zbM) (zad zbM) .none kV20 dc20 pm20 an20 cd20 ct20), sl20⟩) (c20 : W.codeIn K cd20 "_law_wide" = true) (k20 : W.keepIn K (.ref f20) = true)
  (a21 : W.nsIn K mainGlobals "_law_sums" = some (some (.ref f21))) (l21 : K.lookup f21 = some ⟨oc21, od21, .func (W.fnOf "_law_sums" "_law_sums" (zaB zbL) (zao zbL) (zad zbL) .none kV21 dc21 pm21 an21 cd21 ct21), sl21⟩) (c21 : W.codeIn K cd21 "_law_sums" = true) (k21 : W.keepIn K (.ref f21) = true)
  (a22 : W.nsIn K mainGlobals "_law_line" = some (some (.ref f22))) (l22 : K.lookup f22 = some ⟨oc22, od22, .func (W.fnOf "_law_line" "_law_line" (zaB zbQ) (zao zbQ) (zad zbQ) .none kV22 dc22 pm22 an22 cd22 ct22), sl22⟩) (c22 : W.codeIn K cd22 "_law_line" = true) (k22 : W.keepIn K (.ref f22) = true)
  (a23 : W.nsIn K mainGlobals "_law_bent" = some (some (.ref f23))) (l23 : K.lookup f23 = some ⟨oc23, od23, .func (W.fnOf "_law_bent" "_law_bent" (zaB zbT) (zao zbT) (zad zbT) .none kV23 dc23 pm23 an23 cd23 ct23), sl23⟩) (c23 : W.codeIn K cd23 "_law_bent" = true) (k23 : W.keepIn K (.ref f23) = true)
  (a24 : W.nsIn K mainGlobals "_law_mores" = some (some (.ref f24))) (l24 : K.lookup f24 = some ⟨oc24, od24, .func (W.fnOf "_law_mores" "_law_mores" (zaB zbv) (zao zbv) (zad zbv) .none kV24 dc24 pm24 an24 cd24 ct24), sl24⟩) (c24 : W.codeIn K cd24 "_law_mores" = true) (k24 : W.keepIn K (.ref f24) = true)
  (a25 : W.nsIn K mainGlobals "_law_spans" = some (some (.ref f25))) (l25 : K.lookup f25 = some ⟨oc25, od25, .func (W.fnOf "_law_spans" "_law_spans" (zaB zbq) (zao zbq) (zad zbq) .none kV25 dc25 pm25 an25 cd25 ct25), sl25⟩) (c25 : W.codeIn K cd25 "_law_spans" = true) (k25 : W.keepIn K (.ref f25) = true)
  (a26 : W.nsIn K mainGlobals "_law_is_fit" = some (some (.ref f26))) (l26 : K.lookup f26 = some ⟨oc26, od26, .func (W.fnOf "_law_is_fit" "_law_is_fit" (zaB zbi) (zao zbi) (zad zbi) .none kV26 dc26 pm26 an26 cd26 ct26), sl26⟩) (c26 : W.codeIn K cd26 "_law_is_fit" = true) (k26 : W.keepIn K (.ref f26) = true)
  (a27 : W.nsIn K mainGlobals "_law_by_firsts" = some (some (.ref f27))) (l27 : K.lookup f27 = some ⟨oc27, od27, .func (W.fnOf "_law_by_firsts" "_law_by_firsts" (zaB zaS) (zao zaS) (zad zaS) .none kV27 dc27 pm27 an27 cd27 ct27), sl27⟩) (c27 : W.codeIn K cd27 "_law_by_firsts" = true) (k27 : W.keepIn K (.ref f27) = true)
  (a28 : W.nsIn K mainGlobals "_law_least_row" = some (some (.ref f28))) (l28 : K.lookup f28 = some ⟨oc28, od28, .func (W.fnOf "_law_least_row" "_law_least_row" (zaB zaT) (zao zaT) (zad zaT) .none kV28 dc28 pm28 an28 cd28 ct28), sl28⟩) (c28 : W.codeIn K cd28 "_law_least_row" = true) (k28 : W.keepIn K (.ref f28) = true)
  (a29 : W.nsIn K mainGlobals "_law_told_right" = some (some (.ref f29))) (l29 : K.lookup f29 = some ⟨oc29, od29, .func (W.fnOf "_law_told_right" "_law_told_right" (zaB zaN) (zao zaN) (zad zaN) .none kV29 dc29 pm29 an29 cd29 ct29), sl29⟩) (c29 : W.codeIn K cd29 "_law_told_right" = true) (k29 : W.keepIn K (.ref f29) = true)
  (a30 : W.nsIn K mainGlobals "_law_one_otherwise" = some (some (.ref f30))) (l30 : K.lookup f30 = some ⟨oc30, od30, .func (W.fnOf "_law_one_otherwise" "_law_one_otherwise" (zaB zav) (zao zav) (zad zav) .none kV30 dc30 pm30 an30 cd30 ct30), sl30⟩) (c30 : W.codeIn K cd30 "_law_one_otherwise" = true) (k30 : W.keepIn K (.ref f30) = true)
  (a31 : W.nsIn K mainGlobals "_law_shifted" = some (some (.ref f31))) (l31 : K.lookup f31 = some ⟨oc31, od31, .func (W.fnOf "_law_shifted" "_law_shifted" (zaB za6) (zao za6) (zad za6) .none kV31 dc31 pm31 an31 cd31 ct31), sl31⟩) (c31 : W.codeIn K cd31 "_law_shifted" = true) (k31 : W.keepIn K (.ref f31) = true)
  (a32 : W.nsIn K mainGlobals "_law_sum_row" = some (some (.ref f32))) (l32 : K.lookup f32 = some ⟨oc32, od32, .func (W.fnOf "_law_sum_row" "_law_sum_row" (zaB za5) (zao za5) (zad za5) .none kV32 dc32 pm32 an32 cd32 ct32), sl32⟩) (c32 : W.codeIn K cd32 "_law_sum_row" = true) (k32 : W.keepIn K (.ref f32) = true)
  (a33 : W.nsIn K mainGlobals "_law_things" = some (some (.ref f33))) (l33 : K.lookup f33 = some ⟨oc33, od33, .func (W.fnOf "_law_things" "_law_things" (zaB zbf) (zao zbf) (zad zbf) .none kV33 dc33 pm33 an33 cd33 ct33), sl33⟩) (c33 : W.codeIn K cd33 "_law_things" = true) (k33 : W.keepIn K (.ref f33) = true)
  (a34 : W.nsIn K mainGlobals "_law_from_behind" = some (some (.ref f34))) (l34 : K.lookup f34 = some ⟨oc34, od34, .func (W.fnOf "_law_from_behind" "_law_from_behind" (zaB zaF) (zao zaF) (zad zaF) .none kV34 dc34 pm34 an34 cd34 ct34), sl34⟩) (c34 : W.codeIn K cd34 "_law_from_behind" = true) (k34 : W.keepIn K (.ref f34) = true)
  (a35 : W.nsIn K mainGlobals "law" = some (some (.ref f35))) (l35 : K.lookup f35 = some ⟨oc35, od35, .func (W.fnOf "law" "law" (zaB zfw) (zao zfw) (zad zfw) .none kV35 dc35 pm35 an35 cd35 ct35), sl35⟩) (c35 : W.codeIn K cd35 "law" = true) (k35 : W.keepIn K (.ref f35) = true)
  (z0 : W.nsIn K mainGlobals "all" = some none) (z1 : W.nsIn K mainGlobals "any" = some none) (z2 : W.nsIn K mainGlobals "bool" = some none) (z3 : W.nsIn K mainGlobals "enumerate" = some none) (z4 : W.nsIn K mainGlobals "int" = some none) (z5 : W.nsIn K mainGlobals "isinstance" = some none) (z6 : W.nsIn K mainGlobals "len" = some none) (z7 : W.nsIn K mainGlobals "list" = some none) (z8 : W.nsIn K mainGlobals "max" = some none) (z9 : W.nsIn K mainGlobals "min" = some none) (z10 : W.nsIn K mainGlobals "range" = some none) (z11 : W.nsIn K mainGlobals "sum" = some none) (z12 : W.nsIn K mainGlobals "tuple" = some none) (z13 : W.nsIn K mainGlobals "zip" = some none) :
  ∃ fd : FuncData, (∀ (s : Shared) (v : Value), BindsTo s fd ⟨[v], []⟩ [("script", v)]) ∧ ∀ base : Heap, K.In base → base.Ns mainGlobals mg → FnOk l.prog w K mg base CX0 5 fa fd ["script"] (spP K 1 zju) := by
 have e := hfa.symm.trans (W.mg_of X G a35)
 cases e
 have bn : BN K mg := ⟨W.mg_none_of X G z0, W.mg_none_of X G z1, W.mg_none_of X G z2, W.mg_none_of X G z3, W.mg_none_of X G z4, W.mg_none_of X G z5, W.mg_none_of X G z6, W.mg_none_of X G z7, W.mg_none_of X G z8, W.mg_none_of X G z9, W.mg_none_of X G z10, W.mg_none_of X G z11, W.mg_none_of X G z12, W.mg_none_of X G z13⟩
 have T1 := zbm (st := zbx) l1 c1 k1
 have b1 := T1.binds (ps := ["bounds", "mores"]) fun _ _ _ _ _ _ => zdx fun _ _ => rfl
 have T2 := zbm (st := zaW) l2 c2 k2
 have b2 := T2.binds (ps := ["row", "many", "giver", "taker"]) fun _ _ _ _ _ _ => zmn fun _ _ _ _ => rfl
 have T3 := zbm (st := zbh) l3 c3 k3
 have b3 := T3.binds (ps := ["row", "many"]) fun _ _ _ _ _ _ => zdx fun _ _ => rfl
 have T4 := zbm (st := zcm) l4 c4 k4
 have b4 := T4.binds (ps := ["line"]) fun _ _ _ _ _ _ => zgT fun _ => rfl
 have T5 := zbm (st := zcl) l5 c5 k5
 have b5 := T5.binds (ps := ["line"]) fun _ _ _ _ _ _ => zgT fun _ => rfl
 have T6 := zbm (st := zbN) l6 c6 k6
 have b6 := T6.binds (ps := ["line"]) fun _ _ _ _ _ _ => zgT fun _ => rfl
 have T7 := zbm (st := zbK) l7 c7 k7
 have b7 := T7.binds (ps := ["row", "k"]) fun _ _ _ _ _ _ => zdx fun _ _ => rfl
 have T8 := zbm (st := zbs) l8 c8 k8
 have b8 := T8.binds (ps := ["row", "places"]) fun _ _ _ _ _ _ => zdx fun _ _ => rfl
 have T9 := zbm (st := zby) l9 c9 k9
 have b9 := T9.binds (ps := ["row", "least", "greatest"]) fun _ _ _ _ _ _ => zjH fun _ _ _ => rfl
 have T10 := zbm (st := zbr) l10 c10 k10
 have b10 := T10.binds (ps := ["line", "row"]) fun _ _ _ _ _ _ => zdx fun _ _ => rfl
 have T11 := zbm (st := zbd) l11 c11 k11
 have b11 := T11.binds (ps := ["line", "row"]) fun _ _ _ _ _ _ => zdx fun _ _ => rfl
 have T12 := zbm (st := zbe) l12 c12 k12
 have b12 := T12.binds (ps := ["lows", "highs", "many", "a", "b"]) fun _ _ _ _ _ _ => by_us5 fun _ _ _ _ _ => rfl
 have T13 := zbm (st := zbb) l13 c13 k13
 have b13 := T13.binds (ps := ["asks", "many", "places"]) fun _ _ _ _ _ _ => zjH fun _ _ _ => rfl
 have T14 := zbm (st := zbR) l14 c14 k14
 have b14 := T14.binds (ps := ["lows", "many", "total", "places"]) fun _ _ _ _ _ _ => zmn fun _ _ _ _ => rfl
 have T15 := zbm (st := zbw) l15 c15 k15
 have b15 := T15.binds (ps := ["highs", "many", "total", "places"]) fun _ _ _ _ _ _ => zmn fun _ _ _ _ => rfl
 have T16 := zbm (st := zbg) l16 c16 k16
 have b16 := T16.binds (ps := ["lows", "highs", "many", "total", "told"]) fun _ _ _ _ _ _ => by_us5 fun _ _ _ _ _ => rfl
 have T17 := zbm (st := zbt) l17 c17 k17
 have b17 := T17.binds (ps := ["line", "told"]) fun _ _ _ _ _ _ => zdx fun _ _ => rfl
 have T18 := zbm (st := zbP) l18 c18 k18
 have b18 := T18.binds (ps := ["script", "k"]) fun _ _ _ _ _ _ => zdx fun _ _ => rfl
 have T19 := zbm (st := zbG) l19 c19 k19
 have b19 := T19.binds (ps := ["pool", "many"]) fun _ _ _ _ _ _ => zdx fun _ _ => rfl
 have T20 := zbm (st := zbM) l20 c20 k20
 have b20 := T20.binds (ps := ["pool", "way"]) fun _ _ _ _ _ _ => zdx fun _ _ => rfl
 have T21 := zbm (st := zbL) l21 c21 k21
 have b21 := T21.binds (ps := ["row", "k"]) fun _ _ _ _ _ _ => zdx fun _ _ => rfl
 have T22 := zbm (st := zbQ) l22 c22 k22
 have b22 := T22.binds (ps := ["pool", "most", "ways"]) fun _ _ _ _ _ _ => zjH fun _ _ _ => rfl
 have T23 := zbm (st := zbT) l23 c23 k23
 have b23 := T23.binds (ps := ["pool", "line"]) fun _ _ _ _ _ _ => zdx fun _ _ => rfl
 have T24 := zbm (st := zbv) l24 c24 k24
 have b24 := T24.binds (ps := ["line"]) fun _ _ _ _ _ _ => zgT fun _ => rfl
 have T25 := zbm (st := zbq) l25 c25 k25
 have b25 := T25.binds (ps := ["line"]) fun _ _ _ _ _ _ => zgT fun _ => rfl
 have T26 := zbm (st := zbi) l26 c26 k26
 have b26 := T26.binds (ps := ["line", "row"]) fun _ _ _ _ _ _ => zdx fun _ _ => rfl
 have T27 := zbm (st := zaS) l27 c27 k27
 have b27 := T27.binds (ps := ["line", "firsts"]) fun _ _ _ _ _ _ => zdx fun _ _ => rfl
 have T28 := zbm (st := zaT) l28 c28 k28
 have b28 := T28.binds (ps := ["line"]) fun _ _ _ _ _ _ => zgT fun _ => rfl
 have T29 := zbm (st := zaN) l29 c29 k29
 have b29 := T29.binds (ps := ["line", "told"]) fun _ _ _ _ _ _ => zdx fun _ _ => rfl
 have T30 := zbm (st := zav) l30 c30 k30
 have b30 := T30.binds (ps := ["pool", "numbers"]) fun _ _ _ _ _ _ => zdx fun _ _ => rfl
 have T31 := zbm (st := za6) l31 c31 k31
 have b31 := T31.binds (ps := ["pool", "line", "row"]) fun _ _ _ _ _ _ => zjH fun _ _ _ => rfl
 have T32 := zbm (st := za5) l32 c32 k32
 have b32 := T32.binds (ps := ["pool", "line"]) fun _ _ _ _ _ _ => zdx fun _ _ => rfl
 have T33 := zbm (st := zbf) l33 c33 k33
 have b33 := T33.binds (ps := ["pool", "line"]) fun _ _ _ _ _ _ => zdx fun _ _ => rfl
 have T34 := zbm (st := zaF) l34 c34 k34
 have b34 := T34.binds (ps := ["pool", "thing", "many"]) fun _ _ _ _ _ _ => zjH fun _ _ _ => rfl
 have T35 := zbm (st := zfw) l35 c35 k35
 have b35 := T35.binds (ps := ["script"]) fun _ _ _ _ _ _ => zgT fun _ => rfl
 refine ⟨W.fnOf "law" "law" (zaB zfw) (zao zfw) (zad zfw) .none kV35 dc35 pm35 an35 cd35 ct35, fun s v => .of_eq rfl, fun base _ _ => ?_⟩
 have zba : FD l.prog w K mg base 1 "less_mores" (spP K 2 zbA) := ⟨f1, _, _, zih bn  T1, W.mg_of X G a1, k1, b1⟩
 have zcs : FD l.prog w K mg base 1 "exchanged_row" (spP K 4 zbE) := ⟨f2, _, _, zgL bn  T2, W.mg_of X G a2, k2, b2⟩
 have zcV : FD l.prog w K mg base 2 "lesser_rows" (spP K 2 zcf) := ⟨f3, _, _, zhr bn zcs T3, W.mg_of X G a3, k3, b3⟩
 have zbV : FD l.prog w K mg base 1 "mores_of" (spP K 1 zcu) := ⟨f4, _, _, zkl bn  T4, W.mg_of X G a4, k4, b4⟩
 have zeQ : FD l.prog w K mg base 2 "low_asks" (spP K 1 zdF) := ⟨f5, _, _, zku bn zba zbV T5, W.mg_of X G a5, k5, b5⟩
 have zdX : FD l.prog w K mg base 2 "high_asks" (spP K 1 zde) := ⟨f6, _, _, zjh bn zba zbV T6, W.mg_of X G a6, k6, b6⟩
 have zdT : FD l.prog w K mg base 1 "line_sums" (spP K 2 zc5) := ⟨f7, _, _, zjw bn  T7, W.mg_of X G a7, k7, b7⟩
 have zbj : FD l.prog w K mg base 1 "chosen_sum" (spP K 2 zbB) := ⟨f8, _, _, zhZ bn  T8, W.mg_of X G a8, k8, b8⟩
 have zdp : FD l.prog w K mg base 1 "row_within" (spP K 3 zcF) := ⟨f9, _, _, zik bn  T9, W.mg_of X G a9, k9, b9⟩
 have zcH : FD l.prog w K mg base 2 "line_holds" (spP K 2 zbJ) := ⟨f10, _, _, zil bn zdT zdp T10, W.mg_of X G a10, k10, b10⟩
 have zcS : FD l.prog w K mg base 3 "least_right" (spP K 2 zcb) := ⟨f11, _, _, zhp bn zcV zcH T11, W.mg_of X G a11, k11, b11⟩
 have zcZ : FD l.prog w K mg base 1 "clash_right" (spP K 5 zcn) := ⟨f12, _, _, zhn bn  T12, W.mg_of X G a12, k12, b12⟩
 have za3 : FD l.prog w K mg base 1 "one_of_each" (spP K 3 zbc) := ⟨f13, _, _, zhg bn  T13, W.mg_of X G a13, k13, b13⟩
 have zdS : FD l.prog w K mg base 2 "low_right" (spP K 4 zc6) := ⟨f14, _, _, zjp bn zbj za3 T14, W.mg_of X G a14, k14, b14⟩
 have zdq : FD l.prog w K mg base 2 "high_right" (spP K 4 zcy) := ⟨f15, _, _, ziI bn zbj za3 T15, W.mg_of X G a15, k15, b15⟩
 have zcW : FD l.prog w K mg base 3 "paper_right" (spP K 5 zbS) := ⟨f16, _, _, zhi bn zcZ zdq zdS T16, W.mg_of X G a16, k16, b16⟩
 have zcc : FD l.prog w K mg base 4 "line_right" (spP K 2 zaD) := ⟨f17, _, _, zh2 bn zdX zcS zeQ zcW T17, W.mg_of X G a17, k17, b17⟩
 have zd5 : FD l.prog w K mg base 1 "_law_pool" (spP K 2 zdb) := ⟨f18, _, _, ziZ bn  T18, W.mg_of X G a18, k18, b18⟩
 have zae : FD l.prog w K mg base 1 "_law_pick" (spM K 2 zak) := ⟨f19, _, _, zjA bn  T19, W.mg_of X G a19, k19, b19⟩
 have zdh : FD l.prog w K mg base 2 "_law_wide" (spM K 2 zcB) := ⟨f20, _, _, ziP bn zae T20, W.mg_of X G a20, k20, b20⟩
 have zbz : FD l.prog w K mg base 1 "_law_sums" (spP K 2 zbo) := ⟨f21, _, _, zjt bn  T21, W.mg_of X G a21, k21, b21⟩
 have zdV : FD l.prog w K mg base 3 "_law_line" (spM K 3 zdc) := ⟨f22, _, _, zjg bn zae zbz zdh T22, W.mg_of X G a22, k22, b22⟩
 have zdZ : FD l.prog w K mg base 2 "_law_bent" (spM K 2 zc7) := ⟨f23, _, _, zjR bn zae T23, W.mg_of X G a23, k23, b23⟩
 have zat : FD l.prog w K mg base 1 "_law_mores" (spP K 1 zaM) := ⟨f24, _, _, ziq bn  T24, W.mg_of X G a24, k24, b24⟩
 have zaE : FD l.prog w K mg base 2 "_law_spans" (spP K 1 zaZ) := ⟨f25, _, _, ziD bn zat T25, W.mg_of X G a25, k25, b25⟩
 have zc1 : FD l.prog w K mg base 2 "_law_is_fit" (spP K 2 zcj) := ⟨f26, _, _, zhq bn zbz T26, W.mg_of X G a26, k26, b26⟩
 have zaJ : FD l.prog w K mg base 2 "_law_by_firsts" (spP K 2 zaR) := ⟨f27, _, _, zgo bn zat T27, W.mg_of X G a27, k27, b27⟩
 have zaz : FD l.prog w K mg base 3 "_law_least_row" (spP K 1 zaH) := ⟨f28, _, _, zgr bn zaJ zaE T28, W.mg_of X G a28, k28, b28⟩
 have zbO : FD l.prog w K mg base 4 "_law_told_right" (spP K 2 zas) := ⟨f29, _, _, zge bn zc1 zaz zat T29, W.mg_of X G a29, k29, b29⟩
 have zaX : FD l.prog w K mg base 2 "_law_one_otherwise" (spM K 2 zay) := ⟨f30, _, _, zfI bn zae T30, W.mg_of X G a30, k30, b30⟩
 have zcE : FD l.prog w K mg base 2 "_law_shifted" (spM K 3 zbU) := ⟨f31, _, _, zhc bn zae T31, W.mg_of X G a31, k31, b31⟩
 have zcD : FD l.prog w K mg base 3 "_law_sum_row" (spM K 2 zbW) := ⟨f32, _, _, zhe bn zaJ zae zaE T32, W.mg_of X G a32, k32, b32⟩
 have zcU : FD l.prog w K mg base 4 "_law_things" (spM K 2 zce) := ⟨f33, _, _, zhs bn zaz zat zae zaE zcD T33, W.mg_of X G a33, k33, b33⟩
 have zbF : FD l.prog w K mg base 2 "_law_from_behind" (spM K 3 zaA) := ⟨f34, _, _, zfY bn zae T34, W.mg_of X G a34, k34, b34⟩
 exact ok_law bn zdZ zbF zdV zaX zae zd5 zcE zcU zbO zcc T35
theorem walk {l : W.OpenLaw} {q : Program} {loose : List Str} {XP : (Str → Option Value) → Heap → Prop} {YP : World → Heap → Prop} {d : DefRec} {K : Params → W.Frag} (hn : l.most = some 63) (hdf : d.params.defaults = [])
  (hm : ∀ ns : List Int, ns.length ≤ 63 → zju [.scr ns] = some (.val (.bl true)))
  (hY : ∀ (w : World) (h : Heap), YP w h → (K w.params).In h)
  (F : ∀ (w : World) (mg : Str → Option Value) (fa : Addr) (h : Heap), (K w.params).In h → h.Ns mainGlobals mg → mg d.name = some (.ref fa) →
   ∃ fd : FuncData, (∀ (s : Shared) (u : Value), BindsTo s fd ⟨[u], []⟩ [("script", u)]) ∧ ∀ base : Heap, (K w.params).In base → base.Ns mainGlobals mg → FnOk l.prog w (K w.params) mg base CX0 5 fa fd ["script"] (spP (K w.params) 1 zju)) :
  W.WalkO q loose XP YP l.row.toRowW d [] (fun f vs => PySem.call f vs) :=
 L2.walk_of (n := 63) (k := 5) (x := "script") (CX := fun _ => CX0) (sp := fun w => spP (K w.params) 1 zju) hn (by decide) hdf ⟨rfl, by decide, by decide, rfl⟩ hY F
  (fun w H a ns hl _ hS => ⟨H, [.scr ns], .val (.bl true), hm ns hl, rfl, Fz.refl H, .cons ⟨a, rfl, hS⟩ .nil, fun _ _ _ _ _ _ _ rr => rr⟩) fun _ _ _ _ _ z => z
end Prf
set_option Elab.async false
set_option linter.all false
set_option maxRecDepth 100000
set_option exponentiation.threshold 5000
namespace Prf
open PySem L2 M
theorem rep_w (n : Nat) (x : D) : (List.replicate n [x]).flatten = wL n fun _ => x := by
 induction n with
 | zero => rfl
 | succ n ih => rw [List.replicate_succ', List.flatten_append, ih, zf2]; rfl
theorem zms {n : Nat} (a b : Nat → Int) (hn : n ≤ 1000) : Ok (zbA [.tup (wI n a), .lst (wI n b)]) fun x => x = .own (wI n fun p => a p - b p) := by
 simp! only [↓zbA, ↓zd1, ↓zeC, zip2D_w]
 refine ⟨by omega, zbn (fun ρ => ∃ s s', ρ = [s, s']) (fun p => .int (a p - b p)) ⟨_, _, rfl⟩ ?_ ?_⟩
 ·rintro i _ hi ⟨s, s', rfl⟩
  simp! only [↓zeS]
  exact ⟨_, _, rfl⟩
 ·rintro _ ⟨_, _, rfl⟩
  simp! only []
structure Span (f g : Nat → Int) (n m : Nat) (lo hi : Nat → Int) : Prop where
 lm : ∀ j, j < m → ∃ p, p < n ∧ p % m = j ∧ f p = lo j
 lg : ∀ p, p < n → f p ≤ lo (p % m)
 hm : ∀ j, j < m → ∃ p, p < n ∧ p % m = j ∧ g p = hi j
 hg : ∀ p, p < n → hi (p % m) ≤ g p
noncomputable def zfJ (m : Nat) (lo hi : Nat → Int) : List D := wL m fun j => .tup [.int (lo j), .int (hi j)]
theorem zjV (f g : Nat → Int) {n m : Nat} (hm : 0 < m) (hn : m ≤ n) : ∃ lo hi : Nat → Int, Span f g n m lo hi ∧ ∀ j, j < m → zi5 [.lst (ziJ (wI n f) (some (j : Int)) none (some (m : Int)))] = some (.int (lo j)) ∧ ziO [.lst (ziJ (wI n g) (some (j : Int)) none (some (m : Int)))] = some (.int (hi j)) := by
 have h1 : ∀ j, ∃ v, j < m → zi5 [.lst (ziJ (wI n f) (some (j : Int)) none (some (m : Int)))] = some (.int v) ∧ (∃ p, p < n ∧ p % m = j ∧ f p = v) ∧ ∀ p, p < n → p % m = j → f p ≤ v := fun j => by
  by_cases hj : j < m
  ·obtain ⟨v, h⟩ := max_pick f hm hj hn; exact ⟨v, fun _ => h⟩
  ·exact ⟨0, fun h => absurd h hj⟩
 have h2 : ∀ j, ∃ v, j < m → ziO [.lst (ziJ (wI n g) (some (j : Int)) none (some (m : Int)))] = some (.int v) ∧ (∃ p, p < n ∧ p % m = j ∧ g p = v) ∧ ∀ p, p < n → p % m = j → v ≤ g p := fun j => by
  by_cases hj : j < m
  ·obtain ⟨v, h⟩ := min_pick g hm hj hn; exact ⟨v, fun _ => h⟩
  ·exact ⟨0, fun h => absurd h hj⟩
 refine ⟨fun j => (h1 j).choose, fun j => (h2 j).choose, ⟨fun j hj => ((h1 j).choose_spec hj).2.1, fun p hp => ((h1 (p % m)).choose_spec (Nat.mod_lt _ hm)).2.2 p hp rfl, fun j hj => ((h2 j).choose_spec hj).2.1, fun p hp => ((h2 (p % m)).choose_spec (Nat.mod_lt _ hm)).2.2 p hp rfl⟩, fun j hj => ⟨((h1 j).choose_spec hj).1, ((h2 j).choose_spec hj).1⟩⟩
theorem zjT {f g : Nat → Int} {n m : Nat} {lo hi lo' hi' : Nat → Int} (s : Span f g n m lo hi) (t : Span f g n m lo' hi') {j : Nat} (hj : j < m) : lo j = lo' j ∧ hi j = hi' j := by
 obtain ⟨p, h1, h2, h3⟩ := s.lm j hj
 obtain ⟨p', h1', h2', h3'⟩ := t.lm j hj
 obtain ⟨q, k1, k2, k3⟩ := s.hm j hj
 obtain ⟨q', k1', k2', k3'⟩ := t.hm j hj
 have a1 := s.lg p' h1'
 have a2 := t.lg p h1
 have a3 := s.hg q' k1'
 have a4 := t.hg q k1
 rw [h2'] at a1; rw [h2] at a2; rw [k2'] at a3; rw [k2] at a4
 omega
structure Room' (m : Nat) (lo hi : Nat → Int) (t : Int) : Prop where
 le : ∀ j, j < m → lo j ≤ hi j
 low : sumR m lo ≤ t
 high : t ≤ sumR m hi
noncomputable def left (lo hi : Nat → Int) (m : Nat) (t : Int) : Nat → Int
 | 0 => t
 | j + 1 => left lo hi m t j - max2 (lo j) (left lo hi m t j - (sumR m hi - sumR (j + 1) hi))
noncomputable def hd (lo hi : Nat → Int) (m : Nat) (t : Int) (j : Nat) : Int := max2 (lo j) (left lo hi m t j - (sumR m hi - sumR (j + 1) hi))
theorem zhT (lo hi : Nat → Int) (m : Nat) (t : Int) : ∀ j, left lo hi m t j = t - sumR j (hd lo hi m t)
 | 0 => by simp [left, sumR]
 | j + 1 => by rw [sumR, left, zhT lo hi m t j, hd, zhT lo hi m t j]; omega
theorem zj0 (a b : Int) : (max2 a b = a ∨ max2 a b = b) ∧ a ≤ max2 a b ∧ b ≤ max2 a b := by unfold max2; split <;> omega
theorem zkf {lo hi : Nat → Int} {m : Nat} {t : Int} (r : Room' m lo hi t) : ∀ j, j ≤ m → sumR m lo - sumR j lo ≤ left lo hi m t j ∧ left lo hi m t j ≤ sumR m hi - sumR j hi
 | 0, _ => by have := r.low; have := r.high; simp [left, sumR]; omega
 | j + 1, h => by
  have ih := zkf r j (by omega)
  have hj := r.le j (by omega)
  obtain ⟨c, c1, c2⟩ := zj0 (lo j) (left lo hi m t j - (sumR m hi - sumR (j + 1) hi))
  have e : left lo hi m t (j + 1) = left lo hi m t j - max2 (lo j) (left lo hi m t j - (sumR m hi - sumR (j + 1) hi)) := rfl
  rw [e]
  have key : sumR m lo - sumR (j + 1) lo ≤ sumR m hi - sumR (j + 1) hi := by
   obtain ⟨b, rfl⟩ : ∃ b, m = j + 1 + b := ⟨m - (j + 1), by omega⟩
   rw [zdH lo (j + 1) b, zdH hi (j + 1) b]
   have := zgl (f := fun i => lo (j + 1 + i)) (g := fun i => hi (j + 1 + i)) (n := b) fun i hi' => r.le _ (by omega)
   omega
  simp only [sumR] at *
  rcases c with c | c <;> rw [c] at c1 c2 ⊢ <;> omega
theorem hd_in {lo hi : Nat → Int} {m : Nat} {t : Int} (r : Room' m lo hi t) {j : Nat} (hj : j < m) : lo j ≤ hd lo hi m t j ∧ hd lo hi m t j ≤ hi j := by
 have h := zkf r j (by omega)
 have hjj := r.le j hj
 obtain ⟨c, c1, c2⟩ := zj0 (lo j) (left lo hi m t j - (sumR m hi - sumR (j + 1) hi))
 unfold hd
 simp only [sumR] at *
 rcases c with c | c <;> rw [c] at c1 c2 ⊢ <;> omega
theorem hd_sum {lo hi : Nat → Int} {m : Nat} {t : Int} (r : Room' m lo hi t) : sumR m (hd lo hi m t) = t := by
 have h := zkf r m (Nat.le_refl _)
 have e := zhT lo hi m t m
 omega
theorem zk5 {lo hi h' : Nat → Int} {m : Nat} {t : Int} (hh : ∀ j, j < m → lo j ≤ h' j ∧ h' j ≤ hi j) (hs : sumR m h' = t) {j : Nat} (hj : j < m) (he : ∀ i, i < j → hd lo hi m t i = h' i) : hd lo hi m t j ≤ h' j := by
 have e := zhT lo hi m t j
 have e1 : sumR j (hd lo hi m t) = sumR j h' := zdB he
 obtain ⟨b, rfl⟩ : ∃ b, m = j + 1 + b := ⟨m - (j + 1), by omega⟩
 have e2 := zdH h' (j + 1) b
 have e3 := zdH hi (j + 1) b
 have e4 := zgl (f := fun i => h' (j + 1 + i)) (g := fun i => hi (j + 1 + i)) (n := b) fun i hi' => (hh _ (by omega)).2
 have h1 := (hh j hj).1
 unfold hd
 obtain ⟨c, c1, c2⟩ := zj0 (lo j) (left lo hi (j + 1 + b) t j - (sumR (j + 1 + b) hi - sumR (j + 1) hi))
 simp only [sumR] at *
 rcases c with c | c <;> rw [c] <;> omega
noncomputable def zaG (k s n : Nat) (S L G : Nat → Int) : D := .tup [.int k, .tup (wI s S), .tup (wI n L), .tup (wI n G)]
structure Dim (k s n : Nat) : Prop where
 k2 : 2 ≤ k
 k5 : k ≤ 5
 kn : k ≤ n
 n24 : n ≤ 24
 s : n + 1 = s + k
noncomputable def mo (k : Nat) (S : Nat → Int) (p : Nat) : Int := sumR (p / k) fun i => S (p % k + i * k + 1) - S (p % k + i * k)
theorem zkZ {k p : Nat} (S : Nat → Int) (h : p < k) : mo k S p = 0 := by unfold mo; rw [Nat.div_eq_of_lt h]; rfl
theorem zj4 {k : Nat} (hk : 0 < k) (S : Nat → Int) (p : Nat) : mo k S (p + k) = mo k S p + S (p + 1) - S p := by
 unfold mo
 rw [Nat.add_div_right _ hk, Nat.add_mod_right, sumR]
 have e : p % k + p / k * k = p := by have := Nat.mod_add_div p k; rw [Nat.mul_comm]; omega
 rw [e]; omega
theorem zk0 {k s n : Nat} (d : Dim k s n) (S L G : Nat → Int) : Ok (zcu [zaG k s n S L G]) fun x => x = .own (wI n (mo k S)) := by
 obtain ⟨k2, k5, kn, n24, hs⟩ := d
 simp! only [↓zcu, ↓zfh, ↓zfv, zaG, rep_w]
 rw [show ((s : Int) - 1).toNat = s - 1 by omega]
 refine ⟨⟨zaw (by omega) (by omega), by omega⟩, zaw (by omega) (by omega), zeb (fun i ρ => ∃ s3, ρ = [.val (zaG k s n S L G), .val (.tup (wI s S)), .own (wI (k + i) (mo k S)), s3]) ⟨.emp, ?_⟩ ?_ ?_⟩
 ·rw [Nat.add_zero, show wI k (mo k S) = wL k (fun _ => .int 0) from zfR fun p hp => by rw [zkZ S hp]]; rfl
 ·rintro i _ hi ⟨s3, rfl⟩
  simp! only [↓zfu, zau _ (show i < k + i by omega), zau _ (show i + 1 < s by omega), zau _ (show i < s by omega)]
  exact ⟨by omega, _, by rw [show k + (i + 1) = k + i + 1 by omega, show wI (k + i + 1) (mo k S) = _ from zf2 _ _, show mo k S (k + i) = mo k S i + S (i + 1) - S i by rw [Nat.add_comm k i]; exact zj4 (by omega) S i]⟩
 ·rintro _ ⟨s3, rfl⟩
  rw [show k + (s - 1) = n by omega]
  simp! only []
noncomputable abbrev ask (k : Nat) (S B : Nat → Int) (p : Nat) : Int := B p - mo k S p
theorem zmd {k s n : Nat} (d : Dim k s n) (S L G : Nat → Int) : Ok (zdF [zaG k s n S L G]) fun x => x = .own (wI n (ask k S L)) := by
 have n24 := d.n24
 simp! only [↓zdF, ↓zfk, zaG]
 refine (zk0 d S L G).mono ?_
 rintro _ rfl
 simp! only []
 refine (zms L (mo k S) (by omega)).mono ?_
 rintro _ rfl
 simp! only []
theorem zkw {k s n : Nat} (d : Dim k s n) (S L G : Nat → Int) : Ok (zde [zaG k s n S L G]) fun x => x = .own (wI n (ask k S G)) := by
 have n24 := d.n24
 simp! only [↓zde, ↓zeO, zaG]
 refine (zk0 d S L G).mono ?_
 rintro _ rfl
 simp! only []
 refine (zms G (mo k S) (by omega)).mono ?_
 rintro _ rfl
 simp! only []
noncomputable abbrev zfZ (k n : Nat) (S L G lo hi : Nat → Int) : Prop := Span (ask k S L) (ask k S G) n k lo hi
noncomputable def win (k : Nat) (r : Nat → Int) (i : Nat) : Int := sumR k fun j => r (i + j)
structure Fits (k s n : Nat) (S L G r : Nat → Int) : Prop where
 low : ∀ p, p < n → L p ≤ r p
 high : ∀ p, p < n → r p ≤ G p
 sum : ∀ i, i < s → win k r i = S i
theorem zk3 (k : Nat) (r : Nat → Int) (i : Nat) : win k r (i + 1) = win k r i + r (i + k) - r i := by
 unfold win
 have h1 : sumR (k + 1) (fun j => r (i + j)) = sumR k (fun j => r (i + j)) + r (i + k) := rfl
 have h2 : sumR (k + 1) (fun j => r (i + j)) = r i + sumR k (fun j => r (i + 1 + j)) := by
  rw [show k + 1 = 1 + k by omega, zdH]
  simp only [sumR, Nat.add_zero, Int.zero_add]
  congr 1
  exact zdB fun j _ => by rw [Nat.add_assoc]
 omega
theorem zgb {k s n : Nat} (d : Dim k s n) {S L G r : Nat → Int} (f : Fits k s n S L G r) : ∀ p, p < n → r p = r (p % k) + mo k S p := by
 intro p
 induction p using Nat.strongRecOn with
 | _ p ih =>
  intro hp
  by_cases h : p < k
  ·rw [zkZ S h, Nat.mod_eq_of_lt h]; omega
  ·obtain ⟨q, rfl⟩ : ∃ q, p = q + k := ⟨p - k, by omega⟩
   have h1 := ih q (by have := d.k2; omega) (by omega)
   have h2 := f.sum q (by have := d.s; omega)
   have h3 := f.sum (q + 1) (by have := d.s; omega)
   rw [zk3] at h3
   rw [zj4 (by have := d.k2; omega), Nat.add_mod_right]
   omega
theorem zmT {k : Nat} (hk : 0 < k) {n s : Nat} (hs : n + 1 = s + k) (S h : Nat → Int) (h0 : sumR k h = S 0) : ∀ i, i < s → win k (fun p => h (p % k) + mo k S p) i = S i
 | 0, _ => by
  unfold win
  rw [← h0]
  exact zdB fun j hj => by dsimp only; rw [Nat.zero_add, Nat.mod_eq_of_lt hj, zkZ S hj]; omega
 | i + 1, hi => by
  have ih := zmT hk hs S h h0 i (by omega)
  rw [zk3, ih, zj4 hk, Nat.add_mod_right]
  omega
theorem zgO {k s n : Nat} (d : Dim k s n) {S L G lo hi : Nat → Int} (sp : zfZ k n S L G lo hi) {r : Nat → Int} (f : Fits k s n S L G r) : (∀ j, j < k → lo j ≤ r j ∧ r j ≤ hi j) ∧ sumR k r = S 0 := by
 have k2 := d.k2
 have kn := d.kn
 have hs := d.s
 refine ⟨fun j hj => ?_, ?_⟩
 ·obtain ⟨p, h1, h2, h3⟩ := sp.lm j hj
  obtain ⟨q, g1, g2, g3⟩ := sp.hm j hj
  have e1 := zgb d f p h1
  have e2 := zgb d f q g1
  have b1 := f.low p h1
  have b2 := f.high q g1
  rw [h2] at e1; rw [g2] at e2
  unfold ask at h3 g3
  omega
 ·have := f.sum 0 (by omega)
  rw [← this]
  exact zdB fun j _ => by rw [Nat.zero_add]
theorem zmj {k s n : Nat} (d : Dim k s n) {S L G lo hi : Nat → Int} (sp : zfZ k n S L G lo hi) {h : Nat → Int} (hh : ∀ j, j < k → lo j ≤ h j ∧ h j ≤ hi j) (h0 : sumR k h = S 0) : Fits k s n S L G fun p => h (p % k) + mo k S p := by
 have k2 := d.k2
 refine ⟨fun p hp => ?_, fun p hp => ?_, zmT (by omega) d.s S h h0⟩
 ·have h1 := sp.lg p hp
  have h2 := (hh (p % k) (Nat.mod_lt _ (by omega))).1
  unfold ask at h1; omega
 ·have h1 := sp.hg p hp
  have h2 := (hh (p % k) (Nat.mod_lt _ (by omega))).2
  unfold ask at h1; omega
theorem room_iff {k s n : Nat} (d : Dim k s n) {S L G lo hi : Nat → Int} (sp : zfZ k n S L G lo hi) : Room' k lo hi (S 0) ↔ ∃ r, Fits k s n S L G r := by
 constructor
 ·intro rm
  exact ⟨_, zmj d sp (fun j hj => hd_in rm hj) (hd_sum rm)⟩
 ·rintro ⟨r, f⟩
  obtain ⟨h1, h2⟩ := zgO d sp f
  refine ⟨fun j hj => Int.le_trans (h1 j hj).1 (h1 j hj).2, ?_, ?_⟩
  ·rw [← h2]; exact zgl fun j hj => (h1 j hj).1
  ·rw [← h2]; exact zgl fun j hj => (h1 j hj).2
theorem cnt_mod' {p k : Nat} (hk : 0 < k) : cntS ((p % k : Nat) : Int) (p : Int) (k : Int) = p / k := by
 have key : ∀ i, i < cntS ((p % k : Nat) : Int) (p : Int) (k : Int) ↔ i < p / k := fun i => by
  rw [zdu hk, Nat.lt_div_iff_mul_lt hk]
  have e := Nat.mod_add_div p k
  have hm := Nat.mod_lt p hk
  constructor
  ·intro h
   have h' : i * k < p / k * k := by rw [Nat.mul_comm (p / k)]; omega
   have h2 : i < p / k := Nat.lt_of_mul_lt_mul_right h'
   have h3 : (i + 1) * k ≤ p / k * k := Nat.mul_le_mul_right k h2
   rw [Nat.add_mul, Nat.one_mul, Nat.mul_comm (p / k)] at h3
   omega
  ·intro h
   omega
 have h1 := key (cntS ((p % k : Nat) : Int) (p : Int) (k : Int))
 have h2 := key (p / k)
 omega
theorem zh4 (lo st : Int) (n : Nat) : zgW lo st n = wL n fun i => .int (lo + (i : Int) * st) := rfl
theorem zcA {k s n : Nat} (d : Dim k s n) (S L G : Nat → Int) : Ok (zaM [zaG k s n S L G]) fun x => x = .own (wI n (mo k S)) := by
 obtain ⟨k2, k5, kn, n24, hs⟩ := d
 simp! only [↓zaM, ↓zd3, ↓zeK, zaG]
 refine ⟨zaw (by omega) (by omega), zeb (fun i ρ => ∃ s6 s7 s8, ρ = [.val (zaG k s n S L G), .val (.int k), .val (.tup (wI s S)), .val (.tup (wI n L)), .val (.tup (wI n G)), .own (wI i (mo k S)), s6, s7, s8]) ⟨_, _, _, rfl⟩ ?_ ?_⟩
 ·rintro p _ hp ⟨s6, s7, s8, rfl⟩
  have em : (p : Int) % (k : Int) = ((p % k : Nat) : Int) := by push_cast; rfl
  have hm := Nat.mod_lt p (show 0 < k by omega)
  simp! only [↓zeJ, ↓zeH, em, cnt_mod' (show 0 < k by omega), zh4]
  refine ⟨by omega, ⟨⟨⟨zaw (by omega) (by omega), zaw (by omega) (by omega)⟩, by omega⟩, by omega⟩, zeb (fun i ρ => ∃ s8, ρ = [.val (zaG k s n S L G), .val (.int k), .val (.tup (wI s S)), .val (.tup (wI n L)), .val (.tup (wI n G)), .own (wI p (mo k S)), .val (.int p), .val (.int (sumR i fun i => S (p % k + i * k + 1) - S (p % k + i * k))), s8]) ⟨_, rfl⟩ ?_ ?_⟩
  ·rintro i _ hi ⟨s8, rfl⟩
   have e1 : ((p % k : Nat) : Int) + (i : Int) * (k : Int) = ((p % k + i * k : Nat) : Int) := by push_cast; rfl
   have hlt : p % k + i * k + 1 < s := by
    have e := Nat.mod_add_div p k
    have h3 : (i + 1) * k ≤ p / k * k := Nat.mul_le_mul_right k hi
    rw [Nat.add_mul, Nat.one_mul, Nat.mul_comm (p / k)] at h3
    omega
   simp! only [↓zeN, e1, zau _ hlt, zau _ (show p % k + i * k < s by omega)]
   exact ⟨_, by rw [sumR, Int.add_sub_assoc]⟩
  ·rintro _ ⟨s8, rfl⟩
   simp! only []
   exact ⟨by omega, _, _, _, by rw [show wI (p + 1) (mo k S) = _ from zf2 _ _]; rfl⟩
 ·rintro _ ⟨s6, s7, s8, rfl⟩
  simp! only []
theorem zfK {k s n : Nat} (d : Dim k s n) {S L G lo hi : Nat → Int} (sp : zfZ k n S L G lo hi) : Ok (zaZ [zaG k s n S L G]) fun x => x = .own (zfJ k lo hi) := by
 have k2 := d.k2
 have k5 := d.k5
 have kn := d.kn
 have n24 := d.n24
 obtain ⟨lo', hi', sp', e⟩ := zjV (ask k S L) (ask k S G) (show 0 < k by omega) kn
 have el : zfJ k lo' hi' = zfJ k lo hi := zfR fun j hj => by rw [(zjT sp' sp hj).1, (zjT sp' sp hj).2]
 rw [← el]
 simp! only [↓zaZ, ↓zdR, zaG]
 refine (zcA d S L G).mono ?_
 rintro _ rfl
 simp! only [↓zeU]
 refine ⟨zaw (by omega) (by omega), zeb (fun i ρ => ∃ s7 s8 s9, ρ = [.val (zaG k s n S L G), .val (.int k), .val (.tup (wI s S)), .val (.tup (wI n L)), .val (.tup (wI n G)), .val (.lst (wI n (mo k S))), .own (zfJ i lo' hi'), s7, s8, s9]) ⟨_, _, _, rfl⟩ ?_ ?_⟩
 ·rintro j _ hj ⟨s7, s8, s9, rfl⟩
  obtain ⟨e1, e2⟩ := e j hj
  rw [wI, zk9 _ (show 0 < k by omega) (show j < n by omega)] at e1
  rw [wI, zk9 _ (show 0 < k by omega) (show j < n by omega)] at e2
  have hc : cntS (j : Int) (n : Int) (k : Int) ≤ 24 := by
   by_cases c : cntS (j : Int) (n : Int) (k : Int) ≤ 24
   ·exact c
   ·have := (zdu (j := j) (n := n) (show 0 < k by omega)).mp (show 24 < cntS (j : Int) (n : Int) (k : Int) by omega)
    omega
  have sub : ∀ (B : Nat → Int) (Q : List D × R → Prop), (∀ ρ, Q (wL (cntS (j : Int) (n : Int) (k : Int)) (fun i => .int (ask k S B (j + i * k))), ρ)) →
    Ok (zft (zj9 (gN 2) zeR zdm) (wL (cntS (j : Int) (n : Int) (k : Int)) fun i => .int ((j : Int) + (i : Int) * (k : Int))) [.val (.tup (wI n B)), .val (.lst (wI n (mo k S))), .emp]) Q := fun B Q hQ => by
   refine zbn (fun ρ => ∃ z, ρ = [.val (.tup (wI n B)), .val (.lst (wI n (mo k S))), z]) (fun i => .int (ask k S B (j + i * k))) ⟨_, rfl⟩ ?_ ?_
   ·rintro i _ hi ⟨z, rfl⟩
    have hlt := (zdu (show 0 < k by omega)).mp hi
    have e3 : (j : Int) + (i : Int) * (k : Int) = ((j + i * k : Nat) : Int) := by push_cast; rfl
    simp! only [↓zdm, e3, zau _ hlt]
    exact ⟨_, rfl⟩
   ·intro ρ _
    exact hQ ρ
  unfold zi5 at e1
  unfold ziO at e2
  simp! only [↓zeF, ↓zeI, zh4]
  refine ⟨⟨⟨⟨zaw (by omega) (by omega), zaw (by omega) (by omega)⟩, by omega⟩, by omega⟩, by omega, sub L _ fun ρ => ?_⟩
  simp! only [↓zeA, zh4]
  refine ⟨⟨⟨⟨zaw (by omega) (by omega), zaw (by omega) (by omega)⟩, by omega⟩, by omega⟩, by omega, sub G _ fun ρ => ?_⟩
  simp! only [e1, e2, zfJ]
  exact ⟨by omega, _, _, _, by rw [zf2]⟩
 ·rintro _ ⟨s7, s8, s9, rfl⟩
  simp! only []
end Prf
set_option Elab.async false
set_option linter.all false
set_option maxRecDepth 100000
set_option exponentiation.threshold 5000
namespace Prf
open PySem L2 M
noncomputable def Pool (ds : List D) : Prop := ∃ p q : Int, ds = [.int p, .int q] ∧ 0 ≤ q ∧ q < 2147483647
theorem zaC {ds : List D} (h : Pool ds) {m : Int} (h0 : 0 < m) (h1 : m < 2 ^ 250) : Ok (zak ds [.int m]) fun r => ∃ (i : Nat) (ds' : List D), (i : Int) < m ∧ Pool ds' ∧ r = (.val (.int i), ds') := by
 obtain ⟨p, q, rfl, q0, q1⟩ := h
 simp! only [↓zak, ↓zeL]
 refine ⟨fun hp => ?_, fun hp => ?_⟩
 ·have m0 := Int.emod_nonneg p (Int.ne_of_gt h0)
  refine ⟨h0, zmk h0 h1, (p % m).toNat, [.int (p / m), .int q], ?_, ⟨_, _, rfl, q0, q1⟩, ?_⟩
  ·have := Int.emod_lt_of_pos p h0; omega
  ·rw [show (((p % m).toNat : Nat) : Int) = p % m by omega]
 ·simp! only [↓ze9]
  have e1 : 0 ≤ (q * 69621 + 12345) % 2147483647 := Int.emod_nonneg _ (by decide)
  have e2 : (q * 69621 + 12345) % 2147483647 < 2147483647 := Int.emod_lt_of_pos _ (by decide)
  generalize (q * 69621 + 12345) % 2147483647 = z at *
  have m0 := Int.emod_nonneg (z * z % 2147483629 / 64) (Int.ne_of_gt h0)
  refine ⟨zf1 (by omega), zf1 (by omega), by decide +kernel, h0, (z * z % 2147483629 / 64 % m).toNat, [.int p, .int z], ?_, ⟨_, _, rfl, e1, e2⟩, ?_⟩
  ·have := Int.emod_lt_of_pos (z * z % 2147483629 / 64) h0; omega
  ·rw [show (((z * z % 2147483629 / 64 % m).toNat : Nat) : Int) = z * z % 2147483629 / 64 % m by omega]
theorem pool_ok (ns : List Int) (k : Nat) (hk : k < 64) : Ok (zdb [.scr ns, .int k]) fun r => ∃ ds, Pool ds ∧ r = .own ds := by
 have last : ∀ c : Int, Ok (zdO [.val (.scr ns), .val (.int k), .val (.int c)]) fun p => ∃ ds a, Pool ds ∧ p = (.ret (.own ds), a) := fun c => by
  simp! only [↓zdO]
  exact ⟨zf1 (by decide), zf1 (by omega), _, _, ⟨_, _, rfl, Int.emod_nonneg _ (by decide), Int.emod_lt_of_pos _ (by decide)⟩, rfl⟩
 simp! only [↓zdb, ↓zey]
 refine ⟨fun h => ?_, fun h => ?_⟩
 ·rw [List.getElem?_eq_getElem (show k < ns.length by omega)]
  simp! only []
  refine ⟨by decide +kernel, by decide +kernel, by decide +kernel, (last _).mono ?_⟩
  rintro _ ⟨d, a, h, rfl⟩
  simp! only []
  exact ⟨_, h, rfl⟩
 ·refine (last _).mono ?_
  rintro _ ⟨d, a, h, rfl⟩
  simp! only []
  exact ⟨_, h, rfl⟩
theorem zmE {ds : List D} (h : Pool ds) (way : Nat) (hw : way < 4) : Ok (zcB ds [.int way]) fun r => ∃ (x : Int) (ds' : List D), 0 ≤ x ∧ x < 2 ^ 220 ∧ Pool ds' ∧ r = (.val (.int x), ds') := by
 simp! only [↓zcB, ↓zeD]
 refine ⟨fun e => ?_, fun e => ?_⟩
 ·refine (zaC h (m := 2) (by omega) (by omega)).mono ?_
  rintro _ ⟨x, d1, hx, h1, rfl⟩
  simp! only []
  exact ⟨_, _, by omega, by omega, h1, rfl⟩
 simp! only [↓zfd]
 refine ⟨fun e => ?_, fun e => ?_⟩
 ·refine (zaC h (m := 4) (by omega) (by omega)).mono ?_
  rintro _ ⟨x, d1, hx, h1, rfl⟩
  simp! only []
  exact ⟨_, _, by omega, by omega, h1, rfl⟩
 simp! only [↓ze1]
 refine ⟨fun e => ?_, fun e => ?_⟩
 ·refine (zaC h (m := 2) (by omega) (by omega)).mono ?_
  rintro _ ⟨x, d1, hx, h1, rfl⟩
  simp! only []
  refine (zaC h1 (m := 40) (by omega) (by omega)).mono ?_
  rintro _ ⟨y, d2, hy, h2, rfl⟩
  simp! only []
  refine ⟨zf1 (by omega), _, _, Int.mul_nonneg (by omega) (by omega), ?_, h2, rfl⟩
  have := Int.mul_le_mul (a := (x : Int)) (b := (y : Int)) (c := 2) (d := 40) (by omega) (by omega) (by omega) (by omega)
  omega
 simp! only [↓ze8]
 refine (zaC h (m := 9) (by omega) (by omega)).mono ?_
 rintro _ ⟨x, d1, hx, h1, rfl⟩
 simp! only []
 refine (zaC h1 (m := 4) (by omega) (by omega)).mono ?_
 rintro _ ⟨y, d2, hy, h2, rfl⟩
 have hy' : ∃ z : Int, (0 ≤ z ∧ z ≤ 10000000000000000000000000000000000000000000000000000000000) ∧ [D.int 1, D.int 1000, D.int 100000000000000000000, D.int 10000000000000000000000000000000000000000000000000000000000][y]? = some (.int z) := by
  have : y = 0 ∨ y = 1 ∨ y = 2 ∨ y = 3 := by omega
  rcases this with rfl | rfl | rfl | rfl <;> exact ⟨_, by decide, rfl⟩
 obtain ⟨z, hz, ez⟩ := hy'
 simp! only [ez]
 refine ⟨zf1 (by omega), _, _, Int.mul_nonneg (by omega) hz.1, ?_, h2, rfl⟩
 have := Int.mul_le_mul (a := (x : Int)) (b := z) (c := 9) (d := 10000000000000000000000000000000000000000000000000000000000) (by omega) hz.2 hz.1 (by omega)
 omega
theorem zkn (n k : Nat) (r : Nat → Int) (hk : k ≤ n) (hn : n ≤ 1000) : Ok (zbo [.lst (wI n r), .int k]) fun x => x = .val (.tup (wI (n + 1 - k) (win k r))) := by
 have hl : ((n : Int) - (k : Int) + 1).toNat = n + 1 - k := by omega
 simp! only [↓zbo, ↓zdE, ↓zdI, hl]
 refine ⟨zaw (by omega) (by omega), by omega, zbn (fun ρ => ∃ s, ρ = [.val (.lst (wI n r)), .val (.int k), s]) (fun i => .int (win k r i)) ⟨_, rfl⟩ ?_ ?_⟩
 ·rintro i _ hi ⟨s, rfl⟩
  have hc := cut_w (n := n) (a := i) (b := k) (fun j => .int (r j)) (by omega)
  simp! only [↓zdP, hc, zeW, zd4]
  exact ⟨rfl, _, rfl⟩
 ·rintro _ ⟨s, rfl⟩
  simp! only []
structure LOk (k s n : Nat) (L G : Nat → Int) : Prop where
 d : Dim k s n
 le : ∀ p, p < n → L p ≤ G p
 far : ∀ p, p < n → G p - L p < 2 ^ 230
theorem line_ok {ds : List D} (h : Pool ds) (most ways : Nat) (m5 : 5 ≤ most) (m24 : most ≤ 24) (w1 : 1 ≤ ways) (w4 : ways ≤ 4) :
  Ok (zdc ds [.int most, .int ways]) fun r => ∃ (k s n : Nat) (S L G : Nat → Int) (ds' : List D), Pool ds' ∧ LOk k s n L G ∧ n ≤ most ∧ r = (.val (zaG k s n S L G), ds') := by
 simp! only [↓zdc, ↓zeB]
 refine (zaC h (m := 4) (by omega) (by omega)).mono ?_
 rintro _ ⟨x, d1, hx, h1, rfl⟩
 simp! only [show (2 : Int) + (x : Int) = ((2 + x : Nat) : Int) by omega]
 generalize hk : 2 + x = k
 refine (zaC h1 (m := 4) (by omega) (by omega)).mono ?_
 rintro _ ⟨y, d2, hy, h2, rfl⟩
 simp! only []
 refine (zaC h2 (m := (most : Int) - k + 1) (by omega) (by omega)).mono ?_
 rintro _ ⟨z, d3, hz, h3, rfl⟩
 simp! only []
 refine (zaC h3 (m := 4) (by omega) (by omega)).mono ?_
 rintro _ ⟨w, d4, hw, h4, rfl⟩
 have hw' : ∃ n : Nat, (k ≤ n ∧ n ≤ most) ∧ ∃ v : Int, [D.int k, D.int ((k : Int) + y), D.int ((k : Int) + z), D.int most][w]? = some (.int v) ∧ min2 most v = n := by
  have : w = 0 ∨ w = 1 ∨ w = 2 ∨ w = 3 := by omega
  rcases this with rfl | rfl | rfl | rfl
  ·exact ⟨k, by omega, _, rfl, by unfold min2; split <;> omega⟩
  ·exact ⟨min most (k + y), by omega, _, rfl, by unfold min2; split <;> omega⟩
  ·exact ⟨min most (k + z), by omega, _, rfl, by unfold min2; split <;> omega⟩
  ·exact ⟨most, by omega, _, rfl, by unfold min2; split <;> omega⟩
 obtain ⟨n, hn, v, ev, en⟩ := hw'
 simp! only [ev, en]
 refine (zaC h4 (m := 3) (by omega) (by omega)).mono ?_
 rintro _ ⟨u, d5, hu, h5, rfl⟩
 have hu' : ∃ z : Int, [D.int 1, D.int 1, D.int 1000000000000000000000000000000000000000000000000000000000][u]? = some (.int z) := by
  have : u = 0 ∨ u = 1 ∨ u = 2 := by omega
  rcases this with rfl | rfl | rfl <;> exact ⟨_, rfl⟩
 obtain ⟨great, eg⟩ := hu'
 simp! only [eg]
 refine (zaC h5 (m := (ways : Int)) (by omega) (by omega)).mono ?_
 rintro _ ⟨way, d6, hway, h6, rfl⟩
 simp! only [↓zfc]
 refine ⟨zaw (by omega) (by omega), zeb (fun i ρ => ∃ (ds' : List D) (R L G : Nat → Int) (s10 s11 : Sl), Pool ds' ∧ (∀ p, p < i → L p ≤ R p ∧ R p ≤ G p ∧ R p - L p < 2 ^ 220 ∧ G p - R p < 2 ^ 220) ∧ ρ = [.par ds', .val (.int most), .val (.int ways), .val (.int k), .val (.int n), .val (.int great), .val (.int way), .own (wI i R), .own (wI i L), .own (wI i G), s10, s11]) ⟨d6, fun _ => 0, fun _ => 0, fun _ => 0, _, _, h6, fun _ h => by omega, rfl⟩ ?_ ?_⟩
 ·rintro i _ hi ⟨d7, R, L, G, s10, s11, h7, b, rfl⟩
  simp! only [↓ze5]
  refine (zaC h7 (m := 13) (by omega) (by omega)).mono ?_
  rintro _ ⟨a, d8, ha, h8, rfl⟩
  simp! only [zgw]
  refine ⟨zf1 (by omega), by omega, ?_⟩
  generalize ((a : Int) - 6) * great = num
  refine (zmE h8 way (by omega)).mono ?_
  rintro _ ⟨lw, d9, l0, l1, h9, rfl⟩
  simp! only [zgw]
  refine ⟨by omega, ?_⟩
  refine (zmE h9 way (by omega)).mono ?_
  rintro _ ⟨hw, d10, g0, g1, h10, rfl⟩
  simp! only [zgw]
  refine ⟨by omega, d10, _, _, _, _, _, h10, fun p hp => ?_, rfl⟩
  by_cases e : p < i
  ·simp only [e, if_true]; exact b p e
  ·simp only [e, if_false]; omega
 ·rintro _ ⟨d7, R, L, G, s10, s11, h7, b, rfl⟩
  simp! only []
  refine (zkn n k R hn.1 (by omega)).mono ?_
  rintro _ rfl
  simp! only []
  refine ⟨k, n + 1 - k, n, _, L, G, d7, h7, ⟨⟨by omega, by omega, hn.1, by omega, by omega⟩, fun p hp => ?_, fun p hp => ?_⟩, hn.2, rfl⟩
  ·have := b p hp; omega
  ·have := b p hp; omega
theorem put_w {n i : Nat} (f : Nat → Int) (x : Int) (h : i < n) : (wI n f).take i ++ [D.int x] ++ (wI n f).drop (i + 1) = wI n fun j => if j = i then x else f j := by
 rw [← zgj f x h, List.set_eq_take_append_cons_drop]
 simp [za9, h]
theorem drop_w {n i : Nat} (f : Nat → Int) : (wI n f).drop i = wI (n - i) fun j => f (i + j) := by
 apply List.ext_getElem?
 intro j
 rw [List.getElem?_drop]
 by_cases hj : i + j < n
 ·rw [zau _ hj, zau _ (by omega)]
 ·rw [List.getElem?_eq_none (by rw [za9]; omega), List.getElem?_eq_none (by rw [za9]; omega)]
theorem join_w {n i : Nat} (f g : Nat → Int) (h : i ≤ n) : (wI n f).take i ++ (wI (n - i) fun j => g (i + j)) = wI n fun j => if j < i then f j else g j := by
 apply List.ext_getElem?
 intro j
 by_cases hj : j < i
 ·rw [List.getElem?_append_left (by rw [List.length_take, za9]; omega), List.getElem?_take_of_lt hj, zau _ (by omega), zau _ (by omega)]; dsimp only; rw [if_pos hj]
 ·rw [List.getElem?_append_right (by rw [List.length_take, za9]; omega), List.length_take, za9, Nat.min_eq_left h]
  by_cases hn : j < n
  ·rw [zau _ (by omega), zau _ hn]; dsimp only; rw [if_neg hj, show i + (j - i) = j by omega]
  ·rw [List.getElem?_eq_none (by rw [za9]; omega), List.getElem?_eq_none (by rw [za9]; omega)]
section bent
variable {ds : List D} {k s n : Nat} {S L G : Nat → Int} {way at' pl : Nat} {by' : Int} {d1 : D} {Q : Fl × R → Prop}
theorem bent3 (h : Pool ds) (ok : LOk k s n L G) (hQ : ∀ (S L G : Nat → Int) (ds' : List D) (a : List Sl), Pool ds' → LOk k s n L G → Q (.ret (.val (zaG k s n S L G)), .par ds' :: a)) :
  Ok (zdM [.par ds, .val d1, .val (.int k), .val (.tup (wI s S)), .val (.tup (wI n L)), .val (.tup (wI n G)), .val (.int way), .val (.int by'), .val (.int at'), .val (.int pl)]) Q := by
 simp! only [↓zdM]
 exact hQ S L G ds _ h ok
theorem bent4 (h : Pool ds) (ok : LOk k s n L G) (hat : at' < s) (hpl : pl < n) (hQ : ∀ (S L G : Nat → Int) (ds' : List D) (a : List Sl), Pool ds' → LOk k s n L G → Q (.ret (.val (zaG k s n S L G)), .par ds' :: a)) :
  Ok (zdL [.par ds, .val d1, .val (.int k), .val (.tup (wI s S)), .val (.tup (wI n L)), .val (.tup (wI n G)), .val (.int way), .val (.int by'), .val (.int at'), .val (.int pl)]) Q := by
 have hs24 : s ≤ 24 := by have := ok.d.s; have := ok.d.n24; have := ok.d.k2; omega
 simp! only [↓zdL]
 refine ⟨fun _ => ?_, fun _ => bent3 h ok hQ⟩
 simp! only [↓zfb, zfP, zfs, drop_w]
 refine ⟨by omega, zbn (fun ρ => ∃ z, ρ = [.val (.int by'), z]) (fun i => .int (S (at' + i) + by')) ⟨_, rfl⟩ ?_ ?_⟩
 ·rintro i _ hi ⟨z, rfl⟩
  simp! only [↓ze6]
  exact ⟨_, rfl⟩
 ·rintro _ ⟨z, rfl⟩
  have e := join_w S (fun j => S j + by') (show at' ≤ s by omega)
  simp! only [zfP, e, List.length_take]
  exact ⟨by omega, bent3 h ok hQ⟩
theorem bent5 (h : Pool ds) (ok : LOk k s n L G) (hat : at' < s) (hpl : pl < n) (hQ : ∀ (S L G : Nat → Int) (ds' : List D) (a : List Sl), Pool ds' → LOk k s n L G → Q (.ret (.val (zaG k s n S L G)), .par ds' :: a)) :
  Ok (zdK [.par ds, .val d1, .val (.int k), .val (.tup (wI s S)), .val (.tup (wI n L)), .val (.tup (wI n G)), .val (.int way), .val (.int by'), .val (.int at'), .val (.int pl)]) Q := by
 have n24 := ok.d.n24
 simp! only [↓zdK]
 refine ⟨fun _ => ?_, fun _ => bent4 h ok hat hpl hQ⟩
 have c1 : cutD (wI n G) (some ((pl : Int) + 1)) none = (wI n G).drop (pl + 1) := zfs _ (pl + 1)
 simp! only [zfP, c1, zau _ hpl, List.length_take, List.length_drop, put_w G (L pl) hpl]
 refine ⟨by omega, by omega, bent4 h ⟨ok.d, fun p hp => ?_, fun p hp => ?_⟩ hat hpl hQ⟩
 ·have := ok.le p hp; split <;> first | omega | (subst_vars; omega)
 ·have := ok.far p hp; have := ok.le p hp; split <;> first | omega | (subst_vars; omega)
theorem bent6 (h : Pool ds) (ok : LOk k s n L G) (hat : at' < s) (hpl : pl < n) (hQ : ∀ (S L G : Nat → Int) (ds' : List D) (a : List Sl), Pool ds' → LOk k s n L G → Q (.ret (.val (zaG k s n S L G)), .par ds' :: a)) :
  Ok (zdN [.par ds, .val d1, .val (.int k), .val (.tup (wI s S)), .val (.tup (wI n L)), .val (.tup (wI n G)), .val (.int way), .val (.int by'), .val (.int at'), .val (.int pl)]) Q := by
 have n24 := ok.d.n24
 simp! only [↓zdN]
 refine ⟨fun _ => ?_, fun _ => bent5 h ok hat hpl hQ⟩
 have c1 : cutD (wI n L) (some ((pl : Int) + 1)) none = (wI n L).drop (pl + 1) := zfs _ (pl + 1)
 simp! only [zfP, c1, zau _ hpl, List.length_take, List.length_drop, put_w L (G pl) hpl]
 refine ⟨by omega, by omega, bent5 h ⟨ok.d, fun p hp => ?_, fun p hp => ?_⟩ hat hpl hQ⟩
 ·have := ok.le p hp; split <;> first | omega | (subst_vars; omega)
 ·have := ok.far p hp; have := ok.le p hp; split <;> first | omega | (subst_vars; omega)
theorem bent7 (h : Pool ds) (ok : LOk k s n L G) (hat : at' < s) (hpl : pl < n) (hQ : ∀ (S L G : Nat → Int) (ds' : List D) (a : List Sl), Pool ds' → LOk k s n L G → Q (.ret (.val (zaG k s n S L G)), .par ds' :: a)) :
  Ok (zdJ [.par ds, .val d1, .val (.int k), .val (.tup (wI s S)), .val (.tup (wI n L)), .val (.tup (wI n G)), .val (.int way), .val (.int by'), .val (.int at'), .val (.int pl)]) Q := by
 have hs24 : s ≤ 24 := by have := ok.d.s; have := ok.d.n24; have := ok.d.k2; omega
 simp! only [↓zdJ]
 refine ⟨fun _ => ?_, fun _ => bent6 h ok hat hpl hQ⟩
 simp! only [↓ze4]
 refine ⟨by omega, zbn (fun ρ => ∃ z, ρ = [.val (.int by'), z]) (fun i => .int (S i + by')) ⟨_, rfl⟩ ?_ ?_⟩
 ·rintro i _ hi ⟨z, rfl⟩
  simp! only [↓ze0]
  exact ⟨_, rfl⟩
 ·rintro _ ⟨z, rfl⟩
  simp! only []
  exact bent6 h ok hat hpl hQ
end bent
theorem bent_ok {ds : List D} (h : Pool ds) {k s n : Nat} {S L G : Nat → Int} (ok : LOk k s n L G) :
  Ok (zc7 ds [zaG k s n S L G]) fun r => ∃ (S L G : Nat → Int) (ds' : List D), Pool ds' ∧ LOk k s n L G ∧ r = (.val (zaG k s n S L G), ds') := by
 have hs24 : s ≤ 24 := by have := ok.d.s; have := ok.d.n24; have := ok.d.k2; omega
 have hs1 : 1 ≤ s := by have := ok.d.s; have := ok.d.kn; omega
 have n24 := ok.d.n24
 have n1 : 1 ≤ n := by have := ok.d.k2; have := ok.d.kn; omega
 simp! only [↓zc7, ↓zex, zaG]
 refine (zaC h (m := 6) (by omega) (by omega)).mono ?_
 rintro _ ⟨way, d2, hw, h2, rfl⟩
 simp! only []
 refine (zaC h2 (m := 6) (by omega) (by omega)).mono ?_
 rintro _ ⟨y, d3, hy, h3, rfl⟩
 have hy' : ∃ z : Int, [D.int 1, D.int (-1), D.int 2, D.int (-3), D.int 10000000000000000000000000000000000000000000000000000000000, D.int (-10000000000000000000000000000000000000000000000000000000000)][y]? = some (.int z) := by
  have : y = 0 ∨ y = 1 ∨ y = 2 ∨ y = 3 ∨ y = 4 ∨ y = 5 := by omega
  rcases this with rfl | rfl | rfl | rfl | rfl | rfl <;> exact ⟨_, rfl⟩
 obtain ⟨by', ez⟩ := hy'
 simp! only [ez]
 refine (zaC h3 (m := (s : Int)) (by omega) (by omega)).mono ?_
 rintro _ ⟨at', d4, hat, h4, rfl⟩
 simp! only []
 refine (zaC h4 (m := (n : Int)) (by omega) (by omega)).mono ?_
 rintro _ ⟨pl, d5, hpl, h5, rfl⟩
 have c1 : cutD (wI s S) (some ((at' : Int) + 1)) none = (wI s S).drop (at' + 1) := zfs _ (at' + 1)
 simp! only []
 refine ⟨fun _ => ?_, fun _ => bent7 h5 ok (by omega) (by omega) fun S L G d6 a h6 ok => ?_⟩
 ·simp! only [zfP, c1, zau _ (show at' < s by omega), List.length_take, List.length_drop, put_w S _ (show at' < s by omega)]
  refine ⟨by omega, by omega, bent7 h5 ok (by omega) (by omega) fun S L G d6 a h6 ok => ?_⟩
  simp! only []
  exact ⟨S, L, G, d6, h6, ok, rfl⟩
 ·simp! only []
  exact ⟨S, L, G, d6, h6, ok, rfl⟩
end Prf
set_option Elab.async false
set_option linter.all false
set_option maxRecDepth 100000
set_option exponentiation.threshold 5000
namespace Prf
open PySem L2 M
theorem zhV {d1 d2 d3 : D} {m n : Nat} {r L G : Nat → Int} (h1 : Sq d1 m r) (h2 : Sq d2 n L) (h3 : Sq d3 n G) (hn : n ≤ 1000) :
  Ok (zcF [d1, d2, d3]) fun x => ∃ b, x = .val (.bl b) ∧ (b = true ↔ m = n ∧ ∀ p, p < n → L p ≤ r p ∧ r p ≤ G p) := by
 simp! only [↓zcF, ↓zdQ, h1.ln, h2.ln]
 refine ⟨fun h => ⟨false, rfl, by simp; omega⟩, fun h => ?_⟩
 have e : m = n := by omega
 subst e
 simp! only [↓zew, ↓zeT, h1.it, h2.it, h3.it]
 refine ⟨by omega, zbn (fun ρ => ∃ a b c, ρ = [a, b, c]) (fun p => .bl (decide (L p ≤ r p) && decide (r p ≤ G p))) ⟨_, _, _, rfl⟩ ?_ ?_⟩
 ·rintro p _ hp ⟨a, b, c, rfl⟩
  simp! only [↓zeM]
  refine ⟨fun h => ⟨by simp [h], _, _, _, rfl⟩, fun h => ⟨?_, _, _, _, rfl⟩⟩
  rw [decide_eq_false (by omega)]; rfl
 ·rintro _ ⟨a, b, c, rfl⟩
  simp! only [zfm]
  refine ⟨_, rfl, ?_⟩
  rw [all_w]
  simp
theorem zi6 {d : D} {n k : Nat} {r : Nat → Int} (h : Sq d n r) (hk : k ≤ n) (hn : n ≤ 1000) : Ok (zc5 [d, .int k]) fun x => x = .val (.tup (wI (n + 1 - k) (win k r))) := by
 have hl : ((n : Int) - (k : Int) + 1).toNat = n + 1 - k := by omega
 simp! only [↓zc5, ↓zev, ↓ze3, hl, h.ln]
 refine ⟨zaw (by omega) (by omega), by omega, zbn (fun ρ => ∃ s, ρ = [.val d, .val (.int k), s]) (fun i => .int (win k r i)) ⟨_, rfl⟩ ?_ ?_⟩
 ·rintro i _ hi ⟨s, rfl⟩
  have hc := cut_w (n := n) (a := i) (b := k) (fun j => .int (r j)) (by omega)
  obtain ⟨d', e1, e2⟩ := h.ct (some (i : Int)) (some ((i : Int) + (k : Int)))
  rw [hc] at e2
  simp! only [↓ze2, e1, e2, zeW, zd4]
  exact ⟨rfl, _, rfl⟩
 ·rintro _ ⟨s, rfl⟩
  simp! only []
theorem zkY {k s n m : Nat} (d : Dim k s n) {S L G r : Nat → Int} {dr : D} (h : Sq dr m r) :
  Ok (zbJ [zaG k s n S L G, dr]) fun x => ∃ b, x = .val (.bl b) ∧ (b = true ↔ m = n ∧ Fits k s n S L G r) := by
 have n24 := d.n24
 have hs := d.s
 simp! only [↓zbJ, ↓zd0, zaG]
 refine (zhV h (Sq.tup n L) (Sq.tup n G) (by omega)).mono ?_
 rintro _ ⟨b, rfl, hb⟩
 simp! only []
 refine ⟨fun hbt => ?_, fun hbf => ⟨false, rfl, ?_⟩⟩
 ·obtain ⟨e, hin⟩ := hb.mp hbt
  subst e
  refine (zi6 h d.kn (by omega)).mono ?_
  rintro _ rfl
  rw [show m + 1 - k = s by omega]
  simp! only [zml]
  refine ⟨_, rfl, ?_⟩
  rw [eqW_iff]
  exact ⟨fun h => ⟨fun p hp => (hin p hp).1, fun p hp => (hin p hp).2, h⟩, fun h => h.sum⟩
 ·constructor
  ·intro h; cases h
  ·rintro ⟨e, f⟩
   subst e
   rw [hb.mpr ⟨rfl, fun p hp => ⟨f.low p hp, f.high p hp⟩⟩] at hbf
   exact absurd hbf (by decide)
noncomputable def exch (many g t : Nat) (r : Nat → Int) (p : Nat) : Int := r p + if p % many = t then 1 else if p % many = g then -1 else 0
theorem zjb {dr : D} {n many g t : Nat} {r : Nat → Int} (h : Sq dr n r) (hn : n ≤ 1000) (hm : many ≤ 1000) (hg : g < t) (ht : t < many) :
  Ok (zbE [dr, .int many, .int g, .int t]) fun x => x = .val (.tup (wI n (exch many g t r))) := by
 simp! only [↓zbE, ↓zcG, rep_w, show g < many by omega, ht]
 rw [show (wL many fun _ => D.int 0) = wI many fun _ => 0 from rfl, zgj _ _ (show g < many by omega), zgj _ _ ht]
 refine ⟨⟨zaw (by omega) (by omega), by omega⟩, ?_⟩
 simp! only [↓zdr, h.it, zko]
 refine ⟨ht, by omega, zjx (fun i acc ρ => acc = wI i (exch many g t r) ∧ ∃ s s', ρ = [.par (wI many fun j => if j = t then (1 : Int) else if j = g then -1 else 0), .val (.int many), s, s']) ⟨rfl, _, _, rfl⟩ ?_ ?_⟩
 ·rintro p _ _ hp ⟨rfl, s, s', rfl⟩
  have e : (p : Int) % (many : Int) = ((p % many : Nat) : Int) := by push_cast; rfl
  simp! only [↓zds, e, zau _ (Nat.mod_lt p (show 0 < many by omega))]
  exact ⟨by omega, by rw [show wI (p + 1) (exch many g t r) = _ from zf2 _ _]; rfl, _, _, rfl⟩
 ·rintro _ _ ⟨rfl, s, s', rfl⟩
  simp! only []
theorem zlW {dr : D} {n many : Nat} {r : Nat → Int} (h : Sq dr n r) (hn : n ≤ 1000) (hm : many ≤ 24) :
  Ok (zcf [dr, .int many]) fun x => ∃ (c : Nat) (g t : Nat → Nat), c ≤ 1000 ∧ (∀ i, i < c → g i < t i ∧ t i < many) ∧ (∀ a b, a < b → b < many → ∃ x, x < c ∧ g x = a ∧ t x = b) ∧ x = .own (wL c fun i => .tup (wI n (exch many (g i) (t i) r))) := by
 simp! only [↓zcf, ↓zdo, ↓zec]
 refine ⟨zaw (by omega) (by omega), zeb (fun i ρ => ∃ (c : Nat) (g t : Nat → Nat) (s3 s4 : Sl), c ≤ 24 * i ∧ (∀ i, i < c → g i < t i ∧ t i < many) ∧ (∀ a b, a < i → a < b → b < many → ∃ x, x < c ∧ g x = a ∧ t x = b) ∧ ρ = [.val dr, .val (.int many), .own (wL c fun i => .tup (wI n (exch many (g i) (t i) r))), s3, s4]) ⟨0, fun _ => 0, fun _ => 0, _, _, by omega, fun _ h => by omega, fun _ _ h => by omega, rfl⟩ ?_ ?_⟩
 ·rintro i _ hi ⟨c, g, t, s3, s4, hc, hgt, hall, rfl⟩
  simp! only [↓zel, ↓zei, zlX]
  rw [show ((many : Int) - ((i : Int) + 1)).toNat = many - (i + 1) by omega]
  refine ⟨⟨zaw (by omega) (by omega), zaw (by omega) (by omega)⟩, zeb (fun j ρ => ∃ (c' : Nat) (g t : Nat → Nat) (s4 : Sl), c' = c + j ∧ (∀ i, i < c' → g i < t i ∧ t i < many) ∧ (∀ a b, a < i → a < b → b < many → ∃ x, x < c' ∧ g x = a ∧ t x = b) ∧ (∀ b, i < b → b < i + 1 + j → ∃ x, x < c' ∧ g x = i ∧ t x = b) ∧ ρ = [.val dr, .val (.int many), .own (wL c' fun i => .tup (wI n (exch many (g i) (t i) r))), .val (.int i), s4]) ⟨c, g, t, _, by omega, hgt, hall, fun b h1 h2 => by omega, rfl⟩ ?_ ?_⟩
  ·rintro j _ hj ⟨c', g, t, s4, rfl, hgt, hall, hrow, rfl⟩
   have ej : (i : Int) + 1 + (j : Int) = ((i + 1 + j : Nat) : Int) := by omega
   simp! only [↓zef, ej]
   refine (zjb h hn (by omega) (show i < i + 1 + j by omega) (by omega)).mono ?_
   rintro _ rfl
   simp! only [zmu]
   refine ⟨by omega, c + j + 1, fun x => if x < c + j then g x else i, fun x => if x < c + j then t x else i + 1 + j, .val (.int ((i + 1 + j : Nat) : Int)), rfl, fun x hx => ?_, fun a b h1 h2 h3 => ?_, fun b h1 h2 => ?_, ?_⟩
   ·by_cases e : x < c + j
    ·simp only [e, if_true]; exact hgt x e
    ·simp only [e, if_false]; omega
   ·obtain ⟨x, hx, e1, e2⟩ := hall a b h1 h2 h3
    exact ⟨x, by omega, by simp only [hx, if_true]; exact e1, by simp only [hx, if_true]; exact e2⟩
   ·by_cases e : b < i + 1 + j
    ·obtain ⟨x, hx, e1, e2⟩ := hrow b h1 e
     exact ⟨x, by omega, by simp only [hx, if_true]; exact e1, by simp only [hx, if_true]; exact e2⟩
    ·exact ⟨c + j, by omega, by simp, by simp; omega⟩
   ·congr 3
    exact congrArg _ (zfR fun x _ => by dsimp only; split <;> rfl)
  ·rintro _ ⟨c', g, t, s4, rfl, hgt, hall, hrow, rfl⟩
   simp! only []
   refine ⟨_, g, t, _, _, by omega, hgt, fun a b h1 h2 h3 => ?_, rfl⟩
   by_cases e : a < i
   ·exact hall a b e h2 h3
   ·have : a = i := by omega
    subst this
    exact hrow b h2 (by omega)
 ·rintro _ ⟨c, g, t, s3, s4, hc, hgt, hall, rfl⟩
  simp! only []
  exact ⟨c, g, t, by omega, hgt, fun a b h1 h2 => hall a b (by omega) h1 h2, rfl⟩
end Prf
set_option Elab.async false
set_option linter.all false
set_option maxRecDepth 100000
set_option exponentiation.threshold 5000
namespace Prf
open PySem L2 M
theorem ziM {k j : Nat} (hj : j < k) (f : Nat → Int) (v : Int) : sumR k (fun i => if i = j then v else f i) = sumR k f - f j + v := by
 have low : ∀ q, q ≤ j → sumR q (fun i => if i = j then v else f i) = sumR q f := fun q hq => zdB fun i hi => if_neg (by omega)
 induction k with
 | zero => omega
 | succ m ih =>
  show sumR m (fun i => if i = j then v else f i) + (if m = j then v else f m) = sumR m f + f m - f j + v
  by_cases e : m = j
  ·subst e; rw [if_pos rfl, low m (Nat.le_refl _)]; omega
  ·rw [if_neg e, ih (by omega)]; omega
section
variable {k s n : Nat} {S L G lo hi : Nat → Int}
theorem zlG (d : Dim k s n) {r r' : Nat → Int} (e : ∀ p, p < n → r p = r' p) (f : Fits k s n S L G r') : Fits k s n S L G r := by
 have ds := d.s
 refine ⟨fun p hp => by rw [e p hp]; exact f.low p hp, fun p hp => by rw [e p hp]; exact f.high p hp, fun i hi' => ?_⟩
 rw [← f.sum i hi']
 exact zdB fun j hj => e _ (by omega)
theorem zmH (d : Dim k s n) (sp : zfZ k n S L G lo hi) {r : Nat → Int} (f : Fits k s n S L G r) {g t : Nat} (hg : g < k) (ht : t < k) (ne : g ≠ t) (h1 : lo g ≤ r g - 1) (h2 : r t + 1 ≤ hi t) : Fits k s n S L G (exch k g t r) := by
 obtain ⟨hin, hs⟩ := zgO d sp f
 refine zlG d (r' := fun p => (fun j => if j = t then r t + 1 else if j = g then r g - 1 else r j) (p % k) + mo k S p) (fun p hp => ?_) (zmj d sp (h := fun j => if j = t then r t + 1 else if j = g then r g - 1 else r j) (fun j hj => ?_) ?_)
 ·have e := zgb d f p hp
  unfold exch
  dsimp only
  by_cases e1 : p % k = t
  ·rw [if_pos e1, if_pos e1, e, e1]; omega
  ·by_cases e2 : p % k = g
   ·rw [if_neg e1, if_pos e2, if_neg e1, if_pos e2, e, e2]; omega
   ·rw [if_neg e1, if_neg e2, if_neg e1, if_neg e2, e]; omega
 ·have := hin j hj
  by_cases e1 : j = t
  ·subst e1; rw [if_pos rfl]; omega
  ·by_cases e2 : j = g
   ·subst e2; rw [if_neg e1, if_pos rfl]; omega
   ·rw [if_neg e1, if_neg e2]; exact this
 ·rw [ziM ht (fun j => if j = g then r g - 1 else r j), ziM hg, if_neg (Ne.symm ne), hs]; omega
noncomputable def lea (k : Nat) (S lo hi : Nat → Int) (p : Nat) : Int := hd lo hi k (S 0) (p % k) + mo k S p
theorem less_ex (d : Dim k s n) (sp : zfZ k n S L G lo hi) {r : Nat → Int} (f : Fits k s n S L G r) (no : ∀ g t, g < t → t < k → ¬ Fits k s n S L G (exch k g t r)) : ∀ j, j < k → r j = hd lo hi k (S 0) j := by
 obtain ⟨hin, hs⟩ := zgO d sp f
 have rm : Room' k lo hi (S 0) := (room_iff d sp).mpr ⟨r, f⟩
 intro j
 induction j using Nat.strongRecOn with
 | _ j ih =>
  intro hj
  have le := zk5 hin hs hj fun i hi' => (ih i hi' (by omega)).symm
  by_cases e : r j = hd lo hi k (S 0) j
  ·exact e
  exfalso
  have ho := hd_sum rm
  have ex : ∃ t, j < t ∧ t < k ∧ r t < hd lo hi k (S 0) t := by
   refine Classical.byContradiction fun hn => ?_
   have hall : ∀ t, t < k → hd lo hi k (S 0) t ≤ r t := fun t ht => by
    rcases Nat.lt_trichotomy t j with l | l | l
    ·rw [ih t l (by omega)]; exact Int.le_refl _
    ·subst l; exact le
    ·exact Classical.byContradiction fun z => hn ⟨t, l, ht, by omega⟩
   have h1 := zgl (n := k) (f := fun i => if i = j then hd lo hi k (S 0) j + 1 else hd lo hi k (S 0) i) (g := r) fun i hi' => by
    split
    ·rename_i z; subst z; omega
    ·exact hall i hi'
   rw [ziM hj] at h1
   omega
  obtain ⟨t, t1, t2, t3⟩ := ex
  have hdj := hd_in rm hj
  have hdt := hd_in rm t2
  exact no j t t1 t2 (zmH d sp f hj t2 (by omega) (by omega) (by omega))
theorem least_no (d : Dim k s n) (sp : zfZ k n S L G lo hi) {r : Nat → Int} (f : Fits k s n S L G r) (e : ∀ j, j < k → r j = hd lo hi k (S 0) j) {g t : Nat} (hgt : g < t) (ht : t < k) : ¬ Fits k s n S L G (exch k g t r) := fun f' => by
 have kn := d.kn
 obtain ⟨hin, hs⟩ := zgO d sp f'
 have := zk5 hin hs (show g < k by omega) fun i hi' => by
  unfold exch
  rw [Nat.mod_eq_of_lt (show i < k by omega), if_neg (by omega), if_neg (by omega), ← e i (by omega)]; omega
 unfold exch at this
 rw [Nat.mod_eq_of_lt (show g < k by omega), if_neg (by omega), if_pos rfl, e g (by omega)] at this
 omega
end
end Prf
set_option Elab.async false
set_option linter.all false
set_option maxRecDepth 100000
set_option exponentiation.threshold 5000
namespace Prf
open PySem L2 M
section
variable {k s n : Nat} {S L G lo hi : Nat → Int}
theorem zhB (d : Dim k s n) (sp : zfZ k n S L G lo hi) {m : Nat} {r : Nat → Int} {dr : D} (sq : Sq dr m r) :
  Ok (zcb [zaG k s n S L G, dr]) fun x => ∃ b, x = .val (.bl b) ∧ (b = true ↔ m = n ∧ Fits k s n S L G r ∧ ∀ j, j < k → r j = hd lo hi k (S 0) j) := by
 have n24 := d.n24
 have k5 := d.k5
 have kn := d.kn
 simp! only [↓zcb, ↓zdn]
 refine (zkY d (S := S) (L := L) (G := G) sq).mono ?_
 rintro _ ⟨b, rfl, hb⟩
 simp! only []
 refine ⟨fun hbf => ⟨false, rfl, ?_⟩, fun hbt => ?_⟩
 ·constructor
  ·intro z; cases z
  ·rintro ⟨e, f, _⟩
   have : b = true := hb.mpr ⟨e, f⟩
   subst this; exact absurd hbf (by decide)
 have hbt : b = true := by cases b <;> simp_all
 obtain ⟨e, f⟩ := hb.mp hbt
 subst e
 simp! only [↓zek, ↓zd6, zaG]
 refine (zlW sq (by omega) (show k ≤ 24 by omega)).mono ?_
 rintro _ ⟨c, g, t, hc, hgt, hall, rfl⟩
 simp! only []
 have hb' : ∀ i, ∃ b, i < c → Ok (zbJ [zaG k s m S L G, .tup (wI m (exch k (g i) (t i) r))]) fun x => x = .val (.bl b) ∧ (b = true ↔ Fits k s m S L G (exch k (g i) (t i) r)) := fun i => by
  obtain ⟨x, ex, b, rfl, hb⟩ := zkY d (S := S) (L := L) (G := G) (Sq.tup m (exch k (g i) (t i) r))
  exact ⟨b, fun _ => ⟨_, ex, rfl, by rw [hb]; simp⟩⟩
 refine ⟨by omega, zbn (fun ρ => ∃ s', ρ = [.val (zaG k s m S L G), s']) (fun i => .bl (hb' i).choose) ⟨_, rfl⟩ ?_ ?_⟩
 ·rintro i _ hi ⟨s', rfl⟩
  simp! only [↓zer]
  refine ((hb' i).choose_spec hi).mono ?_
  rintro _ ⟨rfl, -⟩
  simp! only []
  exact ⟨_, rfl⟩
 ·rintro _ ⟨s', rfl⟩
  simp! only [zfm]
  refine ⟨_, rfl, ?_⟩
  rw [Bool.not_eq_true', ← Bool.not_eq_true, any_w]
  constructor
  ·intro no
   refine ⟨f, less_ex d sp f fun a b hab hb fx => ?_⟩
   obtain ⟨x, hx, e1, e2⟩ := hall a b hab hb
   obtain ⟨_, _, rfl, hh⟩ := (hb' x).choose_spec hx
   exact no ⟨x, hx, hh.mpr (by rw [e1, e2]; exact fx)⟩
  ·rintro ⟨_, el⟩ ⟨i, hi, e⟩
   obtain ⟨x, ex, rfl, hh⟩ := (hb' i).choose_spec hi
   obtain ⟨h1, h2⟩ := hgt i hi
   exact least_no d sp f el h1 h2 (hh.mp e)
end
end Prf
set_option Elab.async false
set_option linter.all false
set_option maxRecDepth 100000
set_option exponentiation.threshold 5000
namespace Prf
open PySem L2 M
theorem zfz {p : Prop} (h : ¬ p) : ∃ z, Sl.val (D.bl false) = Sl.val (D.bl z) ∧ (z = true ↔ p) := ⟨false, rfl, ⟨fun z => (by cases z), fun z => absurd z h⟩⟩
theorem clash_ok {n m : Nat} (f g : Nat → Int) (hm : 0 < m) (a b : Int) :
  Ok (zcn [.lst (wI n f), .lst (wI n g), .int m, .int a, .int b]) fun x => ∃ z, x = .val (.bl z) ∧ (z = true ↔ (0 ≤ a ∧ a < n) ∧ (0 ≤ b ∧ b < n) ∧ a % (m : Int) = b % (m : Int) ∧ g b.toNat < f a.toNat) := by
 have low : 0 ≤ a → a < (n : Int) → 0 ≤ b → b < (n : Int) → a % (m : Int) = b % (m : Int) → ∀ Q : Fl × R → Prop, (∀ z : Bool, (z = true ↔ (0 ≤ a ∧ a < n) ∧ (0 ≤ b ∧ b < n) ∧ a % (m : Int) = b % (m : Int) ∧ g b.toNat < f a.toNat) → ∀ ρ, Q (.ret (.val (.bl z)), ρ)) → Ok (zc2 [.val (.lst (wI n f)), .val (.lst (wI n g)), .val (.int m), .val (.int a), .val (.int b)]) Q := by
  intro a0 a1 b0 b1 e Q hQ
  obtain ⟨a', rfl⟩ : ∃ a' : Nat, a = (a' : Int) := ⟨a.toNat, by omega⟩
  obtain ⟨b', rfl⟩ : ∃ b' : Nat, b = (b' : Int) := ⟨b.toNat, by omega⟩
  simp! only [↓zc2, zau _ (show a' < n by omega), zau _ (show b' < n by omega)]
  refine hQ _ ?_ _
  rw [decide_eq_true_eq]
  exact ⟨fun z => ⟨⟨a0, a1⟩, ⟨b0, b1⟩, e, z⟩, fun z => z.2.2.2⟩
 simp! only [↓zcn, ↓zdv]
 refine ⟨fun a0 => ⟨fun a1 => zfz (by simp at a1; omega), fun a1 => ⟨fun b0 => ⟨fun b1 => zfz (by simp at b1; omega), fun b1 => ⟨by omega, by omega, fun e => zfz fun z => e z.2.2.1, fun e => low a0 (by simpa using a1) b0 (by simpa using b1) e _ ?_⟩⟩, fun b0 => zfz (by omega)⟩⟩, fun a0 => zfz (by omega)⟩
 intro z hz ρ
 simp! only []
 exact ⟨z, rfl, hz⟩
theorem zfX {n m c : Nat} (f : Nat → Int) (pl : Nat → Int) (hm : 0 < m) (hc : c ≤ 1000) :
  Ok (zbc [.lst (wI n f), .int m, .tup (wI c pl)]) fun x => ∃ z, x = .val (.bl z) ∧ (z = true ↔ c = m ∧ ∀ j, j < m → (0 ≤ pl j ∧ pl j < n) ∧ pl j % (m : Int) = (j : Int)) := by
 simp! only [↓zbc, ↓zdi]
 refine ⟨fun h => ⟨false, rfl, by simp; omega⟩, fun h => ?_⟩
 have e : c = m := by omega
 subst e
 simp! only [↓zes, ↓zea, zko]
 refine ⟨by omega, zbn (fun ρ => ∃ s s', ρ = [.val (.lst (wI n f)), .val (.int c), s, s']) (fun j => .bl (decide ((0 ≤ pl j ∧ pl j < (n : Int)) ∧ pl j % (c : Int) = (j : Int)))) ⟨_, _, rfl⟩ ?_ ?_⟩
 ·rintro j _ hj ⟨s, s', rfl⟩
  simp! only [↓zeh]
  refine ⟨fun h0 => ⟨fun h1 => ⟨by omega, ?_, _, _, rfl⟩, fun h1 => ⟨?_, _, _, rfl⟩⟩, fun h0 => ⟨?_, _, _, rfl⟩⟩
  ·congr 2
   by_cases e : pl j % (c : Int) = (j : Int)
   ·rw [beq_iff_eq.mpr e, decide_eq_true ⟨⟨h0, h1⟩, e⟩]
   ·rw [beq_eq_false_iff_ne.mpr e, decide_eq_false fun z => e z.2]
  ·rw [decide_eq_false fun z => by omega]
  ·rw [decide_eq_false fun z => by omega]
 ·rintro _ ⟨s, s', rfl⟩
  simp! only [zfm]
  refine ⟨_, rfl, ?_⟩
  rw [all_w]
  simp
theorem zjy {n c : Nat} (f : Nat → Int) (pl : Nat → Int) (hc : c ≤ 1000) (hp : ∀ j, j < c → 0 ≤ pl j ∧ pl j < (n : Int)) :
  Ok (zbB [.lst (wI n f), .tup (wI c pl)]) fun x => x = .val (.int (sumR c fun j => f (pl j).toNat)) := by
 simp! only [↓zbB, ↓zdW, ↓zeG]
 refine ⟨by omega, zbn (fun ρ => ∃ s, ρ = [.val (.lst (wI n f)), s]) (fun j => .int (f (pl j).toNat)) ⟨_, rfl⟩ ?_ ?_⟩
 ·rintro j _ hj ⟨s, rfl⟩
  have hj' := hp j hj
  obtain ⟨q, eq⟩ : ∃ q : Nat, pl j = (q : Int) := ⟨(pl j).toNat, by omega⟩
  rw [eq]
  simp! only [↓zeV, zau _ (show q < n by omega)]
  exact ⟨_, rfl⟩
 ·rintro _ ⟨s, rfl⟩
  simp! only [zeW, zd4]
theorem zja {n m c : Nat} (f : Nat → Int) (pl : Nat → Int) (t : Int) (hm : 0 < m) (hm' : m ≤ 1000) (hc : c ≤ 1000) :
  Ok (zc6 [.lst (wI n f), .int m, .int t, .tup (wI c pl)]) fun x => ∃ z, x = .val (.bl z) ∧ (z = true ↔ (c = m ∧ ∀ j, j < m → (0 ≤ pl j ∧ pl j < n) ∧ pl j % (m : Int) = (j : Int)) ∧ t < sumR m fun j => f (pl j).toNat) := by
 simp! only [↓zc6, ↓zeP]
 refine (zfX f pl hm hc).mono ?_
 rintro _ ⟨z, rfl, hz⟩
 simp! only []
 refine ⟨fun h => ?_, fun h => zfz fun y => ?_⟩
 ·obtain ⟨e, hall⟩ := hz.mp h
  subst e
  refine (zjy f pl hc fun j hj => (hall j hj).1).mono ?_
  rintro _ rfl
  simp! only []
  refine ⟨_, rfl, ?_⟩
  rw [decide_eq_true_eq]
  exact ⟨fun y => ⟨hall, y⟩, fun y => y.2⟩
 ·rw [hz.mpr y.1] at h; cases h
theorem zhY {n m c : Nat} (f : Nat → Int) (pl : Nat → Int) (t : Int) (hm : 0 < m) (hm' : m ≤ 1000) (hc : c ≤ 1000) :
  Ok (zcy [.lst (wI n f), .int m, .int t, .tup (wI c pl)]) fun x => ∃ z, x = .val (.bl z) ∧ (z = true ↔ (c = m ∧ ∀ j, j < m → (0 ≤ pl j ∧ pl j < n) ∧ pl j % (m : Int) = (j : Int)) ∧ (sumR m fun j => f (pl j).toNat) < t) := by
 simp! only [↓zcy, ↓zdU]
 refine (zfX f pl hm hc).mono ?_
 rintro _ ⟨z, rfl, hz⟩
 simp! only []
 refine ⟨fun h => ?_, fun h => zfz fun y => ?_⟩
 ·obtain ⟨e, hall⟩ := hz.mp h
  subst e
  refine (zjy f pl hc fun j hj => (hall j hj).1).mono ?_
  rintro _ rfl
  simp! only []
  refine ⟨_, rfl, ?_⟩
  rw [decide_eq_true_eq]
  exact ⟨fun y => ⟨hall, y⟩, fun y => y.2⟩
 ·rw [hz.mpr y.1] at h; cases h
end Prf
set_option Elab.async false
set_option linter.all false
set_option maxRecDepth 100000
set_option exponentiation.threshold 5000
namespace Prf
open PySem L2 M
section
variable {k s n : Nat} {S L G lo hi : Nat → Int}
theorem zjN (d : Dim k s n) (sp : zfZ k n S L G lo hi) {m : Nat} {r : Nat → Int} {dr : D} (sq : Sq dr m r) :
  Ok (zaD [zaG k s n S L G, .tup [.str "row", dr]]) fun x => ∃ b, x = .val (.bl b) ∧ (b = true ↔ m = n ∧ Fits k s n S L G r ∧ ∀ j, j < k → r j = hd lo hi k (S 0) j) := by
 simp! only [↓zaD, ↓zb8, beq_self_eq_true]
 refine (zhB d sp sq).mono ?_
 rintro _ ⟨b, rfl, h⟩
 simp! only []
 exact ⟨b, rfl, h⟩
theorem zjW (d : Dim k s n) (a b : Int) :
  Ok (zaD [zaG k s n S L G, .tup [.str "clash", .int a, .int b]]) fun x => ∃ z, x = .val (.bl z) ∧ (z = true ↔ (0 ≤ a ∧ a < n) ∧ (0 ≤ b ∧ b < n) ∧ a % (k : Int) = b % (k : Int) ∧ ask k S G b.toNat < ask k S L a.toNat) := by
 have k2 := d.k2
 have s1 : 0 < s := by have := d.s; have := d.kn; omega
 simp! only [↓zaD, ↓zb8, show (("clash" : Str) == "row") = false by decide +kernel, ↓zcC]
 refine (zmd d S L G).mono ?_
 rintro _ rfl
 simp! only []
 refine (zkw d S L G).mono ?_
 rintro _ rfl
 simp! only [zaG, zau _ s1, ↓zbS, ↓zck, beq_self_eq_true]
 refine (clash_ok (n := n) (m := k) (ask k S L) (ask k S G) (by omega) a b).mono ?_
 rintro _ ⟨z, rfl, hz⟩
 simp! only []
 exact ⟨z, rfl, hz⟩
theorem zmh (d : Dim k s n) {c : Nat} (hc : c ≤ 1000) (pl : Nat → Int) :
  Ok (zaD [zaG k s n S L G, .tup [.str "low", .tup (wI c pl)]]) fun x => ∃ z, x = .val (.bl z) ∧ (z = true ↔ (c = k ∧ ∀ j, j < k → (0 ≤ pl j ∧ pl j < n) ∧ pl j % (k : Int) = (j : Int)) ∧ S 0 < sumR k fun j => ask k S L (pl j).toNat) := by
 have k2 := d.k2
 have k5 := d.k5
 have s1 : 0 < s := by have := d.s; have := d.kn; omega
 simp! only [↓zaD, ↓zb8, show (("low" : Str) == "row") = false by decide +kernel, ↓zcC]
 refine (zmd d S L G).mono ?_
 rintro _ rfl
 simp! only []
 refine (zkw d S L G).mono ?_
 rintro _ rfl
 simp! only [zaG, zau _ s1, ↓zbS, ↓zck, show (("low" : Str) == "clash") = false by decide +kernel, ↓zc3, beq_self_eq_true]
 refine (zja (n := n) (m := k) (ask k S L) pl (S 0) (by omega) (by omega) hc).mono ?_
 rintro _ ⟨z, rfl, hz⟩
 simp! only []
 exact ⟨z, rfl, hz⟩
theorem zly (d : Dim k s n) {c : Nat} (hc : c ≤ 1000) (pl : Nat → Int) :
  Ok (zaD [zaG k s n S L G, .tup [.str "high", .tup (wI c pl)]]) fun x => ∃ z, x = .val (.bl z) ∧ (z = true ↔ (c = k ∧ ∀ j, j < k → (0 ≤ pl j ∧ pl j < n) ∧ pl j % (k : Int) = (j : Int)) ∧ (sumR k fun j => ask k S G (pl j).toNat) < S 0) := by
 have k2 := d.k2
 have k5 := d.k5
 have s1 : 0 < s := by have := d.s; have := d.kn; omega
 simp! only [↓zaD, ↓zb8, show (("high" : Str) == "row") = false by decide +kernel, ↓zcC]
 refine (zmd d S L G).mono ?_
 rintro _ rfl
 simp! only []
 refine (zkw d S L G).mono ?_
 rintro _ rfl
 simp! only [zaG, zau _ s1, ↓zbS, ↓zck, show (("high" : Str) == "clash") = false by decide +kernel, ↓zc3, show (("high" : Str) == "low") = false by decide +kernel, ↓zeg, beq_self_eq_true]
 refine (zhY (n := n) (m := k) (ask k S G) pl (S 0) (by omega) (by omega) hc).mono ?_
 rintro _ ⟨z, rfl, hz⟩
 simp! only []
 exact ⟨z, rfl, hz⟩
end
end Prf
set_option Elab.async false
set_option linter.all false
set_option maxRecDepth 100000
set_option exponentiation.threshold 5000
namespace Prf
open PySem L2 M
theorem ziY (n k : Nat) (r : Nat → Int) (hk : k ≤ n) (hn : n ≤ 1000) : Ok (zbo [.tup (wI n r), .int k]) fun x => x = .val (.tup (wI (n + 1 - k) (win k r))) := by
 have hl : ((n : Int) - (k : Int) + 1).toNat = n + 1 - k := by omega
 simp! only [↓zbo, ↓zdE, ↓zdI, hl]
 refine ⟨zaw (by omega) (by omega), by omega, zbn (fun ρ => ∃ s, ρ = [.val (.tup (wI n r)), .val (.int k), s]) (fun i => .int (win k r i)) ⟨_, rfl⟩ ?_ ?_⟩
 ·rintro i _ hi ⟨s, rfl⟩
  have hc := cut_w (n := n) (a := i) (b := k) (fun j => .int (r j)) (by omega)
  simp! only [↓zdP, hc, zeW, zd4]
  exact ⟨rfl, _, rfl⟩
 ·rintro _ ⟨s, rfl⟩
  simp! only []
section
variable {k s n : Nat} {S L G lo hi : Nat → Int}
theorem zlj (d : Dim k s n) {m : Nat} (hm : m ≤ 1000) (r : Nat → Int) : Ok (zcj [zaG k s n S L G, .tup (wI m r)]) fun x => ∃ b, (b = true ↔ m = n ∧ Fits k s n S L G r) ∧ x = .val (.bl b) := by
 have n24 := d.n24
 have ds := d.s
 simp! only [↓zcj, ↓zdl, zaG]
 refine ⟨fun h => ⟨false, ?_, rfl⟩, fun h => ?_⟩
 ·constructor
  ·intro z; cases z
  ·rintro ⟨e, _⟩; omega
 have e : m = n := by omega
 subst e
 simp! only [↓zd8, ↓zep]
 refine ⟨zaw (by omega) (by omega), by omega, zbn (fun ρ => ∃ z, ρ = [.val (.tup (wI m L)), .val (.tup (wI m r)), .val (.tup (wI m G)), z]) (fun p => .bl (decide (L p ≤ r p) && decide (r p ≤ G p))) ⟨_, rfl⟩ ?_ ?_⟩
 ·rintro p _ hp ⟨z, rfl⟩
  simp! only [↓zen, zau _ hp]
  refine ⟨fun h => ⟨by simp [h], _, rfl⟩, fun h => ⟨?_, _, rfl⟩⟩
  rw [decide_eq_false (by omega)]; rfl
 ·rintro _ ⟨z, rfl⟩
  have al : (((List.range m).map fun p => decide (L p ≤ r p) && decide (r p ≤ G p)).all id = true) ↔ ∀ p, p < m → L p ≤ r p ∧ r p ≤ G p := by simp
  simp! only [zfm m fun p => decide (L p ≤ r p) && decide (r p ≤ G p)]
  refine ⟨fun h => ⟨false, ?_, rfl⟩, fun h => ?_⟩
  ·constructor
   ·intro z; cases z
   ·intro f
    rw [al.mpr fun p hp => ⟨f.low p hp, f.high p hp⟩] at h
    exact absurd h (by decide)
  ·have hin := al.mp (by simpa using h)
   simp! only [↓zed]
   refine (ziY m k r d.kn (by omega)).mono ?_
   rintro _ rfl
   rw [show m + 1 - k = s by omega]
   simp! only [zml]
   refine ⟨_, ?_, rfl⟩
   rw [eqW_iff]
   exact ⟨fun h => ⟨fun p hp => (hin p hp).1, fun p hp => (hin p hp).2, h⟩, fun h => h.sum⟩
end
theorem zgD {k s n : Nat} (d : Dim k s n) (S L G h : Nat → Int) : Ok (zaR [zaG k s n S L G, .lst (wI k h)]) fun x => x = .val (.tup (wI n fun p => h (p % k) + mo k S p)) := by
 have k2 := d.k2
 have n24 := d.n24
 simp! only [↓zaR, ↓zcp]
 refine (zcA d S L G).mono ?_
 rintro _ rfl
 simp! only [↓zdf]
 refine ⟨zaw (by omega) (by omega), by omega, zbn (fun ρ => ∃ z, ρ = [.val (.lst (wI k h)), .val (zaG k s n S L G), .val (.lst (wI n (mo k S))), z]) (fun p => .int (h (p % k) + mo k S p)) ⟨_, rfl⟩ ?_ ?_⟩
 ·rintro p _ hp ⟨z, rfl⟩
  have e : (p : Int) % (k : Int) = ((p % k : Nat) : Int) := by push_cast; rfl
  simp! only [↓zc4, zaG, e, zau _ hp, zau _ (Nat.mod_lt p (show 0 < k by omega))]
  exact ⟨by omega, _, rfl⟩
 ·rintro _ ⟨z, rfl⟩
  simp! only []
theorem take_w (n i : Nat) (f : Nat → D) (h : i ≤ n) : (wL n f).take i = wL i f := by
 apply List.ext_getElem?
 intro j
 by_cases hj : j < i
 ·rw [List.getElem?_take_of_lt hj, zau _ (by omega), zau _ hj]
 ·rw [List.getElem?_eq_none (by simp [za9]; omega), List.getElem?_eq_none (by rw [za9]; omega)]
theorem cut_neg1 (n : Nat) (f : Nat → D) : cutD (wL (n + 1) f) none (some (-1)) = wL n f := by
 unfold cutD
 have e : HT.sIx (wL (n + 1) f).length (wL (n + 1) f).length (some (-1)) = n := by
  rw [za9]
  show (if (-1 : Int) < 0 then (-1 + ((n + 1 : Nat) : Int)).toNat else min (-1 : Int).toNat (n + 1)) = n
  rw [if_pos (by decide)]; omega
 rw [e, HT.zii, List.drop_zero, Nat.sub_zero, take_w _ _ _ (by omega)]
theorem zlv {ds : List D} (hp : Pool ds) {k s n : Nat} (d : Dim k s n) (S L G : Nat → Int) : Ok (zbW ds [zaG k s n S L G]) fun x => ∃ (r : Nat → Int) (ds' : List D), Pool ds' ∧ x = (.val (.tup (wI n r)), ds') := by
 have k2 := d.k2
 have k5 := d.k5
 have hs := d.s
 have kn := d.kn
 obtain ⟨lo, hi, sp, -⟩ := zjV (ask k S L) (ask k S G) (show 0 < k by omega) d.kn
 obtain ⟨k', rfl⟩ : ∃ k', k = k' + 1 := ⟨k - 1, by omega⟩
 simp! only [↓zbW, ↓zcT, ↓zdG]
 refine (zfK d sp).mono ?_
 rintro _ rfl
 simp! only [zfJ]
 refine ⟨by omega, zjx (fun i acc ρ => ∃ (f : Nat → Int) (ds' : List D) (s s' : Sl), Pool ds' ∧ acc = wI i f ∧ ρ = [.par ds', s, s']) ⟨fun _ => 0, ds, .emp, .emp, hp, rfl, rfl⟩ ?_ ?_⟩
 ·rintro i _ _ hi ⟨f, d1, z, z', h1, rfl, rfl⟩
  simp! only [↓zdD]
  refine (zaC h1 (m := 3) (by omega) (by omega)).mono ?_
  rintro _ ⟨t, d2, ht, h2, rfl⟩
  simp! only []
  exact ⟨_, d2, _, _, h2, zgw i f _, rfl⟩
 ·rintro _ _ ⟨f, d1, z, z', h1, rfl, rfl⟩
  simp! only [zaG, zau _ (show 0 < s by omega), cut_neg1, zeW, zk7, zgj _ _ (show k' < k' + 1 by omega)]
  refine (zgD d S L G _).mono ?_
  rintro _ rfl
  simp! only []
  exact ⟨_, d1, h1, rfl⟩
theorem drop_wD {n i : Nat} (f : Nat → D) : (wL n f).drop i = wL (n - i) fun j => f (i + j) := by
 apply List.ext_getElem?
 intro j
 rw [List.getElem?_drop]
 by_cases h : i + j < n
 ·rw [zau _ h, zau _ (by omega)]
 ·rw [List.getElem?_eq_none (by rw [za9]; omega), List.getElem?_eq_none (by rw [za9]; omega)]
theorem zis (j : Nat) (h : Nat → Int) (x : Int) : atI (wI j h ++ [D.int x]) (-1) = some (.int x) := by
 have l1 : (wI j h ++ [D.int x]).length = j + 1 := by rw [List.length_append, za9]; rfl
 unfold atI
 rw [l1, zk7]
 show (wI j h ++ [D.int x])[j]? = _
 rw [List.getElem?_append_right (by rw [za9]; exact Nat.le_refl _), za9, Nat.sub_self]; rfl
section
variable {k s n : Nat} {S L G lo hi : Nat → Int}
theorem zfB (d : Dim k s n) (sp : zfZ k n S L G lo hi) : Ok (zaH [zaG k s n S L G]) fun x => x = .val (.tup (wI n (lea k S lo hi))) := by
 have k2 := d.k2
 have k5 := d.k5
 have s1 : 0 < s := by have := d.s; have := d.kn; omega
 simp! only [↓zaH, ↓zcq]
 refine (zfK d sp).mono ?_
 rintro _ rfl
 simp! only [zaG, zau _ s1, ↓zda, zfJ, zko]
 refine zeb (fun j ρ => ∃ (a4 a5 a6 a7 : Sl), ρ = [.val (zaG k s n S L G), .val (.lst (zfJ k lo hi)), .val (.int (left lo hi k (S 0) j)), .own (wI j (hd lo hi k (S 0))), a4, a5, a6, a7]) ⟨_, _, _, _, rfl⟩ ?_ ?_
 ·rintro j _ hj ⟨a4, a5, a6, a7, rfl⟩
  have cd : cutD (zfJ k lo hi) (some ((j : Int) + 1)) none = zfJ (k - (j + 1)) (fun i => lo (j + 1 + i)) fun i => hi (j + 1 + i) := by
   rw [show (some ((j : Int) + 1)) = some ((j + 1 : Nat) : Int) from rfl, zfs]; unfold zfJ; rw [drop_wD]
  have sl : (zfJ (k - (j + 1)) (fun i => lo (j + 1 + i)) fun i => hi (j + 1 + i)).length = k - (j + 1) := za9 _ _
  have es : (sumR (k - (j + 1)) fun i => hi (j + 1 + i)) = sumR k hi - sumR (j + 1) hi := by
   have := zdH hi (j + 1) (k - (j + 1))
   rw [show j + 1 + (k - (j + 1)) = k by omega] at this
   omega
  simp! only [↓zc9, ↓zc8, cd]
  refine ⟨by omega, zbn (fun ρ => ∃ s s', ρ = [s, s']) (fun i => .int (hi (j + 1 + i))) ⟨_, _, rfl⟩ ?_ ?_⟩
  ·rintro i _ _ ⟨s, s', rfl⟩
   simp! only [↓zdd]
   exact ⟨_, _, rfl⟩
  rintro _ ⟨_, _, rfl⟩
  simp! only [zeW, zd4, es, zis]
  exact ⟨by omega, _, _, _, _, by rw [show wI (j + 1) (hd lo hi k (S 0)) = _ from zf2 _ _]; rfl⟩
 ·rintro _ ⟨a4, a5, a6, a7, rfl⟩
  simp! only []
  refine (zgD d S L G (hd lo hi k (S 0))).mono ?_
  rintro _ rfl
  simp! only []
  rfl
theorem zkK (d : Dim k s n) (sp : zfZ k n S L G lo hi) {m : Nat} (hm : m ≤ 1000) (r : Nat → Int) :
  Ok (zas [zaG k s n S L G, .tup [.str "row", .tup (wI m r)]]) fun x => ∃ b, x = .val (.bl b) ∧ (b = true ↔ m = n ∧ Fits k s n S L G r ∧ ∀ j, j < k → r j = hd lo hi k (S 0) j) := by
 have k2 := d.k2
 have kn := d.kn
 simp! only [↓zas, ↓zaY, zaG]
 refine (zcA d S L G).mono ?_
 rintro _ rfl
 simp! only [beq_self_eq_true]
 refine (zlj d hm r).mono ?_
 rintro _ ⟨b, hb, rfl⟩
 simp! only []
 refine ⟨fun h => ?_, fun h => ⟨false, rfl, ?_⟩⟩
 ·obtain ⟨e, f⟩ := hb.mp h
  subst e
  refine (zfB d sp).mono ?_
  rintro _ rfl
  simp! only [zml]
  refine ⟨_, rfl, ?_⟩
  rw [eqW_iff]
  constructor
  ·intro z
   refine ⟨f, fun j hj => ?_⟩
   rw [z j (by omega)]
   unfold lea
   rw [Nat.mod_eq_of_lt hj, zkZ S hj, Int.add_zero]
  ·rintro ⟨_, z⟩ p hp
   rw [zgb d f p hp, z _ (Nat.mod_lt _ (by omega))]
   rfl
 ·constructor
  ·intro z; cases z
  ·rintro ⟨e, f, _⟩
   rw [hb.mpr ⟨e, f⟩] at h; cases h
end
end Prf
set_option Elab.async false
set_option linter.all false
set_option maxRecDepth 100000
set_option exponentiation.threshold 5000
namespace Prf
open PySem L2 M
section
variable {k s n : Nat} {S L G lo hi : Nat → Int}
theorem zlQ {a b : Int} {m : Nat} (hm : 0 < m) : (a - b) % (m : Int) = 0 ↔ a % (m : Int) = b % (m : Int) := Int.emod_eq_emod_iff_emod_sub_eq_zero.symm
theorem zlD (d : Dim k s n) (a b : Int) :
  Ok (zas [zaG k s n S L G, .tup [.str "clash", .int a, .int b]]) fun x => ∃ z, x = .val (.bl z) ∧ (z = true ↔ (0 ≤ a ∧ a < n) ∧ (0 ≤ b ∧ b < n) ∧ a % (k : Int) = b % (k : Int) ∧ ask k S G b.toNat < ask k S L a.toNat) := by
 have k2 := d.k2
 have cd : cutD [D.str "clash", .int a, .int b] (some 1) none = [.int a, .int b] := rfl
 simp! only [↓zas, ↓zaY, zaG]
 refine (zcA d S L G).mono ?_
 rintro _ rfl
 simp! only [show (("clash" : Str) == "row") = false by decide +kernel, ↓zbk, beq_self_eq_true, cd]
 have low : 0 ≤ a → a < (n : Int) → 0 ≤ b → b < (n : Int) → a % (k : Int) = b % (k : Int) → ∀ (Q : Fl × R → Prop) (ρ0 : R), (∀ z : Bool, (z = true ↔ (0 ≤ a ∧ a < n) ∧ (0 ≤ b ∧ b < n) ∧ a % (k : Int) = b % (k : Int) ∧ ask k S G b.toNat < ask k S L a.toNat) → ∀ ρ, Q (.ret (.val (.bl z)), ρ)) → ∀ a0 a1 a2 a3 a7 a10 : Sl, Ok (zb3 [a0, a1, a2, a3, .val (.tup (wI n L)), .val (.tup (wI n G)), .val (.lst (wI n (mo k S))), a7, .val (.int a), .val (.int b), a10]) Q := by
  intro a0 a1 b0 b1 e Q _ hQ c0 c1 c2 c3 c7 c10
  obtain ⟨a', rfl⟩ : ∃ a' : Nat, a = (a' : Int) := ⟨a.toNat, by omega⟩
  obtain ⟨b', rfl⟩ : ∃ b' : Nat, b = (b' : Int) := ⟨b.toNat, by omega⟩
  simp! only [↓zb3, zau _ (show a' < n by omega), zau _ (show b' < n by omega)]
  refine hQ _ ?_ _
  rw [decide_eq_true_eq]
  exact ⟨fun z => ⟨⟨a0, a1⟩, ⟨b0, b1⟩, e, z⟩, fun z => z.2.2.2⟩
 refine ⟨fun a0 => ⟨fun a1 => zfz (by simp at a1; omega), fun a1 => ⟨fun b0 => ⟨fun b1 => zfz (by simp at b1; omega), fun b1 => ⟨by omega, fun e => zfz fun z => e ((zlQ (by omega)).mpr z.2.2.1), fun e => low a0 (by simpa using a1) b0 (by simpa using b1) ((zlQ (by omega)).mp e) _ [] ?_ _ _ _ _ _ _⟩⟩, fun b0 => zfz (by omega)⟩⟩, fun a0 => zfz (by omega)⟩
 intro z hz ρ
 simp! only []
 exact ⟨z, rfl, hz⟩
end
end Prf
set_option Elab.async false
set_option linter.all false
set_option maxRecDepth 100000
set_option exponentiation.threshold 5000
namespace Prf
open PySem L2 M
theorem dNe_wl (s : Nat) (a b : Nat → Int) : dNe (.lst (wI s a)) (.lst (wI s b)) = some (.bl (!eqW s a b)) := by
 have p1 : Pl 1 (.lst (wI s a)) := zkU (pl_w fun c => zjM 0 _)
 have p2 : Pl 1 (.lst (wI s b)) := zkU (pl_w fun c => zjM 0 _)
 unfold dNe
 rw [p1.1, p2.1, decide_eq_true (Nat.le_trans p1.2 (by decide : 1 ≤ 50))]
 simp only [Bool.and_self, if_true, eqB]
 rw [zjr, zjr, zgQ]; rfl
section
variable {k s n : Nat} {S L G lo hi : Nat → Int}
theorem told_low (d : Dim k s n) {c : Nat} (hc : c ≤ 1000) (pl : Nat → Int) :
  Ok (zas [zaG k s n S L G, .tup [.str "low", .tup (wI c pl)]]) fun x => ∃ z, x = .val (.bl z) ∧ (z = true ↔ (c = k ∧ ∀ j, j < k → (0 ≤ pl j ∧ pl j < n) ∧ pl j % (k : Int) = (j : Int)) ∧ S 0 < sumR k fun j => ask k S L (pl j).toNat) := by
 have k2 := d.k2
 have k5 := d.k5
 have s1 : 0 < s := by have := d.s; have := d.kn; omega
 simp! only [↓zas, ↓zaY, zaG]
 refine (zcA d S L G).mono ?_
 rintro _ rfl
 simp! only [show (("low" : Str) == "row") = false by decide +kernel, show (("low" : Str) == "clash") = false by decide +kernel, ↓zbk, ↓zbX]
 refine ⟨fun h => zfz (by omega), fun h => ?_⟩
 have e : c = k := by omega
 subst e
 simp! only [↓zb2]
 refine ⟨by omega, zbn (fun ρ => ∃ z, ρ = [.val (.int n), z]) (fun j => .bl (decide (0 ≤ pl j ∧ pl j < (n : Int)))) ⟨_, rfl⟩ ?_ ?_⟩
 ·rintro j _ hj ⟨z, rfl⟩
  simp! only [↓zb1]
  refine ⟨fun h0 => ⟨?_, _, rfl⟩, fun h0 => ⟨?_, _, rfl⟩⟩
  ·congr 2
   by_cases e : pl j < (n : Int)
   ·rw [decide_eq_true e, decide_eq_true ⟨h0, e⟩]
   ·rw [decide_eq_false e, decide_eq_false fun z => e z.2]
  ·rw [decide_eq_false fun z => by omega]
 rintro _ ⟨z, rfl⟩
 have al : (((List.range c).map fun i => decide (0 ≤ pl i ∧ pl i < (n : Int))).all id = true) ↔ ∀ j, j < c → 0 ≤ pl j ∧ pl j < (n : Int) := by simp
 simp! only [zfm]
 refine ⟨fun h => zfz fun z => ?_, fun h => ?_⟩
 ·rw [al.mpr fun j hj => (z.1 j hj).1] at h; exact absurd h (by decide)
 have hin := al.mp (by simpa using h)
 simp! only [↓zb0, ↓zb4]
 refine ⟨by omega, zbn (fun ρ => ∃ z, ρ = [.val (.int c), z]) (fun j => .int (pl j % (c : Int))) ⟨_, rfl⟩ ?_ ?_⟩
 ·rintro j _ hj ⟨z, rfl⟩
  simp! only [↓zbY]
  exact ⟨by omega, _, rfl⟩
 rintro _ ⟨z, rfl⟩
 have ne : dNe (.lst (wL c fun j => D.int (pl j % (c : Int)))) (.lst (wL c fun i => D.int (i : Nat))) = some (.bl (!eqW c (fun j => pl j % (c : Int)) fun i => (i : Nat))) := dNe_wl c (fun j => pl j % (c : Int)) fun i => (i : Nat)
 simp! only [ne]
 refine ⟨zaw (by omega) (by omega), by omega, fun h => zfz fun z => ?_, fun h => ?_⟩
 ·rw [eqW_iff.mpr fun j hj => (z.1 j hj).2] at h; exact absurd h (by decide)
 have hmod := eqW_iff.mp (show eqW c (fun j => pl j % (c : Int)) (fun i => (i : Nat)) = true by simpa using h)
 simp! only [↓zbZ, beq_self_eq_true, ↓zcM]
 refine ⟨by omega, zbn (fun ρ => ∃ z, ρ = [.val (.tup (wI n L)), .val (.lst (wI n (mo c S))), z]) (fun j => .int (ask c S L (pl j).toNat)) ⟨_, rfl⟩ ?_ ?_⟩
 ·rintro j _ hj ⟨z, rfl⟩
  have hj' := hin j hj
  obtain ⟨q, eq⟩ : ∃ q : Nat, pl j = (q : Int) := ⟨(pl j).toNat, by omega⟩
  rw [eq]
  simp! only [↓zcL, zau _ (show q < n by omega)]
  exact ⟨_, rfl⟩
 rintro _ ⟨z, rfl⟩
 simp! only [zeW, zd4, zau _ s1]
 refine ⟨_, rfl, ?_⟩
 rw [decide_eq_true_eq]
 exact ⟨fun z => ⟨fun j hj => ⟨hin j hj, hmod j hj⟩, z⟩, fun z => z.2⟩
theorem zmI (d : Dim k s n) {c : Nat} (hc : c ≤ 1000) (pl : Nat → Int) :
  Ok (zas [zaG k s n S L G, .tup [.str "high", .tup (wI c pl)]]) fun x => ∃ z, x = .val (.bl z) ∧ (z = true ↔ (c = k ∧ ∀ j, j < k → (0 ≤ pl j ∧ pl j < n) ∧ pl j % (k : Int) = (j : Int)) ∧ (sumR k fun j => ask k S G (pl j).toNat) < S 0) := by
 have k2 := d.k2
 have k5 := d.k5
 have s1 : 0 < s := by have := d.s; have := d.kn; omega
 simp! only [↓zas, ↓zaY, zaG]
 refine (zcA d S L G).mono ?_
 rintro _ rfl
 simp! only [show (("high" : Str) == "row") = false by decide +kernel, show (("high" : Str) == "clash") = false by decide +kernel, ↓zbk, ↓zbX]
 refine ⟨fun h => zfz (by omega), fun h => ?_⟩
 have e : c = k := by omega
 subst e
 simp! only [↓zb2]
 refine ⟨by omega, zbn (fun ρ => ∃ z, ρ = [.val (.int n), z]) (fun j => .bl (decide (0 ≤ pl j ∧ pl j < (n : Int)))) ⟨_, rfl⟩ ?_ ?_⟩
 ·rintro j _ hj ⟨z, rfl⟩
  simp! only [↓zb1]
  refine ⟨fun h0 => ⟨?_, _, rfl⟩, fun h0 => ⟨?_, _, rfl⟩⟩
  ·congr 2
   by_cases e : pl j < (n : Int)
   ·rw [decide_eq_true e, decide_eq_true ⟨h0, e⟩]
   ·rw [decide_eq_false e, decide_eq_false fun z => e z.2]
  ·rw [decide_eq_false fun z => by omega]
 rintro _ ⟨z, rfl⟩
 have al : (((List.range c).map fun i => decide (0 ≤ pl i ∧ pl i < (n : Int))).all id = true) ↔ ∀ j, j < c → 0 ≤ pl j ∧ pl j < (n : Int) := by simp
 simp! only [zfm]
 refine ⟨fun h => zfz fun z => ?_, fun h => ?_⟩
 ·rw [al.mpr fun j hj => (z.1 j hj).1] at h; exact absurd h (by decide)
 have hin := al.mp (by simpa using h)
 simp! only [↓zb0, ↓zb4]
 refine ⟨by omega, zbn (fun ρ => ∃ z, ρ = [.val (.int c), z]) (fun j => .int (pl j % (c : Int))) ⟨_, rfl⟩ ?_ ?_⟩
 ·rintro j _ hj ⟨z, rfl⟩
  simp! only [↓zbY]
  exact ⟨by omega, _, rfl⟩
 rintro _ ⟨z, rfl⟩
 have ne : dNe (.lst (wL c fun j => D.int (pl j % (c : Int)))) (.lst (wL c fun i => D.int (i : Nat))) = some (.bl (!eqW c (fun j => pl j % (c : Int)) fun i => (i : Nat))) := dNe_wl c (fun j => pl j % (c : Int)) fun i => (i : Nat)
 simp! only [ne]
 refine ⟨zaw (by omega) (by omega), by omega, fun h => zfz fun z => ?_, fun h => ?_⟩
 ·rw [eqW_iff.mpr fun j hj => (z.1 j hj).2] at h; exact absurd h (by decide)
 have hmod := eqW_iff.mp (show eqW c (fun j => pl j % (c : Int)) (fun i => (i : Nat)) = true by simpa using h)
 simp! only [↓zbZ, show (("high" : Str) == "low") = false by decide +kernel, ↓zcO, ↓zcP]
 refine ⟨by omega, zbn (fun ρ => ∃ z, ρ = [.val (.tup (wI n G)), .val (.lst (wI n (mo c S))), z]) (fun j => .int (ask c S G (pl j).toNat)) ⟨_, rfl⟩ ?_ ?_⟩
 ·rintro j _ hj ⟨z, rfl⟩
  have hj' := hin j hj
  obtain ⟨q, eq⟩ : ∃ q : Nat, pl j = (q : Int) := ⟨(pl j).toNat, by omega⟩
  rw [eq]
  simp! only [↓zcQ, zau _ (show q < n by omega)]
  exact ⟨_, rfl⟩
 rintro _ ⟨z, rfl⟩
 simp! only [zeW, zd4, zau _ s1]
 refine ⟨_, rfl, ?_⟩
 rw [decide_eq_true_eq]
 exact ⟨fun z => ⟨fun j hj => ⟨hin j hj, hmod j hj⟩, z⟩, fun z => z.2⟩
end
end Prf
set_option Elab.async false
set_option linter.all false
set_option maxRecDepth 100000
set_option exponentiation.threshold 5000
namespace Prf
open PySem L2 M
theorem ints_wI (l : List Int) : l.map D.int = wI l.length fun i => l.getD i 0 := by
 apply List.ext_getElem?
 intro j
 by_cases h : j < l.length
 ·rw [zau _ h, List.getElem?_map, List.getElem?_eq_getElem h]
  simp [List.getD, h]
 ·rw [List.getElem?_eq_none (by rw [List.length_map]; omega), List.getElem?_eq_none (by rw [za9]; omega)]
theorem zma (n : Nat) (r : Nat → Int) : wI n r = ((List.range n).map r).map D.int := by
 unfold wI wL
 rw [List.map_map]; rfl
section
variable {k s n : Nat} {S L G lo hi : Nat → Int}
theorem zlE {ds : List D} (hp : Pool ds) (d : Dim k s n) (r : Nat → Int) : Ok (zbU ds [zaG k s n S L G, .tup (wI n r)]) fun x => ∃ (r' : Nat → Int) (ds' : List D), Pool ds' ∧ x = (.val (.tup (wI n r')), ds') := by
 have k2 := d.k2
 have k5 := d.k5
 have n24 := d.n24
 simp! only [↓zbU, ↓zcY, zaG]
 refine (zaC hp (m := (k : Int)) (by omega) (by omega)).mono ?_
 rintro _ ⟨one, d1, h1, hp1, rfl⟩
 simp! only []
 refine (zaC hp1 (m := (k : Int) - 1) (by omega) (by omega)).mono ?_
 rintro _ ⟨t, d2, h2, hp2, rfl⟩
 simp! only []
 refine ⟨by omega, ?_⟩
 refine (zaC hp2 (m := 6) (by omega) (by omega)).mono ?_
 rintro _ ⟨w, d3, h3, hp3, rfl⟩
 obtain ⟨v, ev⟩ : ∃ v : Int, dIx (.tup [.int 1, .int (-1), .int 2, .int 3, .int 40, .int 10000000000000000000000000000000000000000000000000000000000]) (.int (w : Nat)) = some (.int v) := by
  match w, h3 with
  | 0, _ => exact ⟨_, rfl⟩
  | 1, _ => exact ⟨_, rfl⟩
  | 2, _ => exact ⟨_, rfl⟩
  | 3, _ => exact ⟨_, rfl⟩
  | 4, _ => exact ⟨_, rfl⟩
  | 5, _ => exact ⟨_, rfl⟩
 simp! only [ev, ↓zdz]
 have e1 : ∀ p : Nat, (p : Int) % (k : Int) = ((p % k : Nat) : Int) := fun p => by push_cast; rfl
 refine ⟨zaw (by omega) (by omega), zeb (fun i ρ => ∃ (f : Nat → Int) (z : Sl), ρ = [.par d3, .val (zaG k s n S L G), .val (.tup (wI n r)), .val (.int one), .val (.int (((one : Int) + 1 + t) % (k : Int))), .val (.int v), .own (wI n f), z]) ⟨r, _, rfl⟩ ?_ ?_⟩
 ·rintro i _ hi ⟨f, z, rfl⟩
  have fin : ∀ f : Nat → Int, Ok (zcI [.par d3, .val (zaG k s n S L G), .val (.tup (wI n r)), .val (.int one), .val (.int (((one : Int) + 1 + t) % (k : Int))), .val (.int v), .own (wI n f), .val (.int (i : Nat))]) fun p => p.1 = .next ∧ ∃ (f : Nat → Int) (z : Sl), p.2 = [.par d3, .val (zaG k s n S L G), .val (.tup (wI n r)), .val (.int one), .val (.int (((one : Int) + 1 + t) % (k : Int))), .val (.int v), .own (wI n f), z] := fun f => by
   simp! only [↓zcI, zaG]
   refine ⟨by omega, fun _ => ?_, fun _ => ?_⟩
   ·simp! only [zau _ hi, hi, zgj _ _ hi]
    exact ⟨_, _, rfl⟩
   ·exact ⟨f, _, rfl⟩
  simp! only [↓zdC, zaG]
  refine ⟨by omega, fun _ => ?_, fun _ => ?_⟩
  ·simp! only [zau _ hi, hi, zgj _ _ hi]
   refine (fin _).mono ?_
   rintro ⟨_, _⟩ ⟨rfl, f', z', rfl⟩
   exact ⟨f', z', rfl⟩
  ·refine (fin f).mono ?_
   rintro ⟨_, _⟩ ⟨rfl, f', z', rfl⟩
   exact ⟨f', z', rfl⟩
 ·rintro _ ⟨f, z, rfl⟩
  simp! only []
  exact ⟨f, d3, hp3, rfl⟩
theorem zfH {ds : List D} (hp : Pool ds) (hn : n ≤ 900) (r : Nat → Int) : Ok (zay ds [.tup (wI n r)]) fun x => ∃ (m : Nat) (r' : Nat → Int) (ds' : List D), m ≤ n + 1 ∧ Pool ds' ∧ x = (.val (.tup (wI m r')), ds') := by
 have ti : ∀ l : List Int, l.length ≤ n + 1 → ∃ (m : Nat) (r' : Nat → Int), m ≤ n + 1 ∧ l.map D.int = wI m r' := fun l h => ⟨l.length, _, h, ints_wI l⟩
 simp! only [↓zay, ↓zbp]
 refine (zaC hp (m := 8) (by omega) (by omega)).mono ?_
 rintro _ ⟨way, d1, h1, hp1, rfl⟩
 simp! only []
 refine (zaC hp1 (m := (n : Int) + 1) (by omega) (by omega)).mono ?_
 rintro _ ⟨at', d2, h2, hp2, rfl⟩
 simp! only []
 refine (zaC hp2 (m := 6) (by omega) (by omega)).mono ?_
 rintro _ ⟨w, d3, h3, hp3, rfl⟩
 obtain ⟨v, ev⟩ : ∃ v : Int, dIx (.tup [.int 1, .int (-1), .int 2, .int (-2), .int 100000000000000000000000000000000000000000000000000000000000, .int (-100000000000000000000000000000000000000000000000000000000000)]) (.int (w : Nat)) = some (.int v) := by
  match w, h3 with
  | 0, _ => exact ⟨_, rfl⟩
  | 1, _ => exact ⟨_, rfl⟩
  | 2, _ => exact ⟨_, rfl⟩
  | 3, _ => exact ⟨_, rfl⟩
  | 4, _ => exact ⟨_, rfl⟩
  | 5, _ => exact ⟨_, rfl⟩
 have c1 : cutD (wI n r) none (some (at' : Int)) = (wI n r).take at' := zfP _ at'
 have c2 : cutD (wI n r) (some (at' : Int)) none = (wI n r).drop at' := zfs _ at'
 have c3 : cutD (wI n r) (some ((at' : Int) + 1)) none = (wI n r).drop (at' + 1) := zfs _ (at' + 1)
 have ln : (wI n r).length = n := za9 _ _
 simp! only [ev, c1, c3]
 refine ⟨fun _ => ?_, fun _ => ?_⟩
 ·simp! only [c1, c3, List.length_take, List.length_drop, ln]
  refine ⟨by omega, ?_⟩
  obtain ⟨m, r', hm, e⟩ := ti (((List.range n).map r).take at' ++ ((List.range n).map r).drop (at' + 1)) (by rw [List.length_append, List.length_take, List.length_drop, List.length_map, List.length_range]; omega)
  refine ⟨m, r', d3, hm, hp3, ?_⟩
  rw [← e, zma, List.map_append, List.map_take, List.map_drop]
 simp! only [↓zch, c1, c2]
 refine ⟨fun _ => ?_, fun _ => ?_⟩
 ·simp! only [c1, c2, List.length_take, List.length_drop, ln]
  refine ⟨by omega, by omega, ?_⟩
  obtain ⟨m, r', hm, e⟩ := ti (((List.range n).map r).take at' ++ [v] ++ ((List.range n).map r).drop at') (by rw [List.length_append, List.length_append, List.length_take, List.length_drop, List.length_map, List.length_range]; show _ + 1 + _ ≤ _; omega)
  refine ⟨m, r', d3, hm, hp3, ?_⟩
  rw [← e, zma, List.map_append, List.map_append, List.map_take, List.map_drop]; rfl
 simp! only [↓zcg]
 refine ⟨fun _ => ?_, fun ne => ?_⟩
 ·exact ⟨n, r, d3, by omega, hp3, rfl⟩
 have hat : at' < n := by omega
 simp! only [↓zci]
 refine ⟨fun _ => ?_, fun _ => ?_⟩
 ·refine (zaC hp3 (m := (n : Int)) (by omega) (by omega)).mono ?_
  rintro _ ⟨o, d4, h4, hp4, rfl⟩
  have ho : o < n := by omega
  simp! only [zau _ hat, zau _ ho, ↓ok_gS, hat, ho, zgj _ _ hat, zgj _ _ ho]
  exact ⟨n, _, d4, by omega, hp4, rfl⟩
 ·simp! only [↓zcd, c1, c3, zau _ hat, List.length_take, List.length_drop, ln]
  refine ⟨by omega, by omega, n, (fun j => if j = at' then r at' + v else r j), d3, by omega, hp3, ?_⟩
  rw [put_w r _ hat]
end
end Prf
set_option Elab.async false
set_option linter.all false
set_option maxRecDepth 100000
set_option exponentiation.threshold 5000
namespace Prf
open PySem L2 M
inductive Thing (m : Nat) : D → Prop
 | row (c : Nat) (h : c ≤ m) (r : Nat → Int) : Thing m (.tup [.str "row", .tup (wI c r)])
 | clash (a b : Int) : Thing m (.tup [.str "clash", .int a, .int b])
 | low (c : Nat) (h : c ≤ m) (r : Nat → Int) : Thing m (.tup [.str "low", .tup (wI c r)])
 | high (c : Nat) (h : c ≤ m) (r : Nat → Int) : Thing m (.tup [.str "high", .tup (wI c r)])
theorem both {o o' : Option Sl} {p : Prop} (h : Ok o fun x => ∃ z, x = .val (.bl z) ∧ (z = true ↔ p)) (h' : Ok o' fun x => ∃ z, x = .val (.bl z) ∧ (z = true ↔ p)) : ∃ b, Ok o (fun x => x = .val (.bl b)) ∧ Ok o' fun x => x = .val (.bl b) := by
 obtain ⟨_, e, z, rfl, hz⟩ := h
 obtain ⟨_, e', z', rfl, hz'⟩ := h'
 have : z = z' := by
  cases z <;> cases z' <;> simp_all
 subst this
 exact ⟨z, ⟨_, e, rfl⟩, ⟨_, e', rfl⟩⟩
section
variable {k s n : Nat} {S L G lo hi : Nat → Int}
theorem agree (d : Dim k s n) (sp : zfZ k n S L G lo hi) {t : D} (h : Thing 1000 t) : ∃ b, Ok (zaD [zaG k s n S L G, t]) (fun x => x = .val (.bl b)) ∧ Ok (zas [zaG k s n S L G, t]) fun x => x = .val (.bl b) := by
 cases h with
 | row c hc r => exact both (zjN d sp (Sq.tup c r)) (zkK d sp hc r)
 | clash a b => exact both (zjW d a b) (zlD d a b)
 | low c hc r => exact both (zmh d hc r) (told_low d hc r)
 | high c hc r => exact both (zly d hc r) (zmI d hc r)
theorem zlx (d : Dim k s n) (sp : zfZ k n S L G lo hi) {c : Nat} (hc : c ≤ 1000) (r : Nat → Int) : ∃ b, Ok (zaD [zaG k s n S L G, .tup [.str "row", .lst (wI c r)]]) (fun x => x = .val (.bl b)) ∧ Ok (zas [zaG k s n S L G, .tup [.str "row", .tup (wI c r)]]) fun x => x = .val (.bl b) :=
 both (zjN d sp (Sq.lst c r)) (zkK d sp hc r)
end
end Prf
set_option Elab.async false
set_option linter.all false
set_option maxRecDepth 100000
set_option exponentiation.threshold 5000
namespace Prf
open PySem L2 M
theorem zkX {c : Nat} {e : Nat → Int} {p : Nat → Prop} [DecidablePred p] (h : ∃ i, i < c ∧ p i) : ∃ i, i < c ∧ ((List.range c).filterMap fun i => if p i then some (D.int (e i)) else none)[0]? = some (.int (e i)) := by
 cases hf : (List.range c).filterMap (fun i => if p i then some (D.int (e i)) else none) with
 | nil =>
  obtain ⟨i, hi, hp⟩ := h
  have := List.filterMap_eq_nil_iff.mp hf i (List.mem_range.mpr hi)
  simp [hp] at this
 | cons a l =>
  have : a ∈ (List.range c).filterMap (fun i => if p i then some (D.int (e i)) else none) := by rw [hf]; exact List.mem_cons_self
  obtain ⟨i, hi, e'⟩ := List.mem_filterMap.mp this
  refine ⟨i, List.mem_range.mp hi, ?_⟩
  by_cases hp : p i
  ·rw [if_pos hp] at e'; simp at e'; simp [← e']
  ·rw [if_neg hp] at e'; cases e'
theorem zjO {ds : List D} (hp : Pool ds) : zj2 (.par ds) (.par ds) = true := by
 obtain ⟨p, q, rfl, -, -⟩ := hp
 exact like_par [p, q]
section
variable {k s n : Nat} {S L G lo hi : Nat → Int}
theorem zm0 {ds : List D} (hp : Pool ds) (d : Dim k s n) (sp : zfZ k n S L G lo hi) : Ok (zce ds [zaG k s n S L G]) fun x => ∃ (r : Nat → Int) (a b : Int) (u v : Nat → Int) (ds' : List D), Pool ds' ∧ x = (.own [.tup [.str "row", .tup (wI n r)], .tup [.str "clash", .int a, .int b], .tup [.str "low", .tup (wI k u)], .tup [.str "high", .tup (wI k v)]], ds') := by
 have k2 := d.k2
 have k5 := d.k5
 have kn := d.kn
 have n24 := d.n24
 simp! only [↓zce, ↓zdk, zaG]
 refine (zcA d S L G).mono ?_
 rintro _ rfl
 simp! only []
 refine (zfK d sp).mono ?_
 rintro _ rfl
 simp! only []
 refine (zfB d sp).mono ?_
 rintro _ rfl
 simp! only []
 refine (zlv hp d S L G).mono ?_
 rintro _ ⟨r1, d1, hp1, rfl⟩
 simp! only []
 refine (zfB d sp).mono ?_
 rintro _ rfl
 simp! only []
 refine (zaC hp1 (m := 3) (by omega) (by omega)).mono ?_
 rintro _ ⟨w, d2, hw, hp2, rfl⟩
 obtain ⟨r, er⟩ : ∃ r : Nat → Int, [D.tup (wI n (lea k S lo hi)), D.tup (wI n r1), D.tup (wI n (lea k S lo hi))][w]? = some (.tup (wI n r)) := by
  match w, hw with
  | 0, _ => exact ⟨_, rfl⟩
  | 1, _ => exact ⟨_, rfl⟩
  | 2, _ => exact ⟨_, rfl⟩
 simp! only [er, ↓zd9]
 refine ⟨zaw (by omega) (by omega), zeb (fun i ρ => ∃ (u v : Nat → Int) (ds : List D) (a12 a13 a14 a15 : Sl), Pool ds ∧ ρ = [.par ds, .val (zaG k s n S L G), .val (.int k), .val (.tup (wI s S)), .val (.tup (wI n L)), .val (.tup (wI n G)), .val (.lst (wI n (mo k S))), .val (.int n), .val (.lst (zfJ k lo hi)), .val (.tup (wI n r)), .own (wI i u), .own (wI i v), a12, a13, a14, a15, .emp]) ⟨fun _ => 0, fun _ => 0, d2, _, _, _, _, hp2, rfl⟩ ?_ ?_⟩
 ·rintro j _ hj ⟨u, v, e0, a12, a13, a14, a15, h0, rfl⟩
  have hc : cntS (j : Int) (n : Int) (k : Int) ≤ 24 := by
   by_cases c : cntS (j : Int) (n : Int) (k : Int) ≤ 24
   ·exact c
   ·have := (zdu (j := j) (n := n) (show 0 < k by omega)).mp (show 24 < cntS (j : Int) (n : Int) (k : Int) by omega)
    omega
  have hc0 : 0 < cntS (j : Int) (n : Int) (k : Int) := (zdu (j := j) (n := n) (show 0 < k by omega)).mpr (by omega)
  generalize ec : cntS (j : Int) (n : Int) (k : Int) = c at *
  have lt : ∀ i, i < c → j + i * k < n := fun i hi => (zdu (show 0 < k by omega)).mp (by rw [ec]; exact hi)
  have at' : ∀ p, p < n → p % k = j → ∃ i, i < c ∧ j + i * k = p := fun p hp e => by
   have := Nat.mod_add_div p k
   refine ⟨p / k, ?_, by rw [Nat.mul_comm]; omega⟩
   rw [← ec]
   exact (zdu (show 0 < k by omega)).mpr (by rw [Nat.mul_comm]; omega)
  have ex : ∀ (i : Nat), (j : Int) + (i : Int) * (k : Int) = ((j + i * k : Nat) : Int) := fun i => by push_cast; rfl
  simp! only [↓zee, ec, zh4, ↓zeo, zaG]
  refine ⟨⟨⟨⟨zaw (by omega) (by omega), zaw (by omega) (by omega)⟩, by omega⟩, by omega⟩, by omega, by omega, zjz (fun ρ => ∃ z, ρ = [.val (.tup (wI n L)), .val (.lst (wI n (mo k S))), .val (.lst (zfJ k lo hi)), .val (.int j), z]) (fun i => if ask k S L (j + i * k) = lo j then some (D.int ((j + i * k : Nat) : Int)) else none) ⟨_, rfl⟩ ?_ ?_⟩
  ·rintro i _ hi ⟨z, rfl⟩
   simp! only [↓zem, ↓zd7, ex, zau _ (lt i hi), zfJ, zau _ hj]
   exact ⟨fun h => ⟨(if_pos h).symm, _, rfl⟩, fun h => ⟨(if_neg h).symm, _, rfl⟩⟩
  rintro _ ⟨z, rfl⟩
  obtain ⟨i1, hi1, e1⟩ := zkX (e := fun i => ((j + i * k : Nat) : Int)) (p := fun i => ask k S L (j + i * k) = lo j) (c := c) (by
   obtain ⟨p, h1, h2, h3⟩ := sp.lm j hj
   obtain ⟨i, h4, h5⟩ := at' p h1 h2
   exact ⟨i, h4, by rw [h5]; exact h3⟩)
  simp! only [e1, ↓zeq]
  refine ⟨by omega, zjz (fun ρ => ∃ z, ρ = [.val (.tup (wI n G)), .val (.lst (wI n (mo k S))), .val (.lst (zfJ k lo hi)), .val (.int j), z]) (fun i => if ask k S G (j + i * k) = hi j then some (D.int ((j + i * k : Nat) : Int)) else none) ⟨_, rfl⟩ ?_ ?_⟩
  ·rintro i _ hi' ⟨z, rfl⟩
   simp! only [↓zet, ↓zej, ex, zau _ (lt i hi'), zfJ, zau _ hj]
   exact ⟨fun h => ⟨(if_pos h).symm, _, rfl⟩, fun h => ⟨(if_neg h).symm, _, rfl⟩⟩
  rintro _ ⟨z, rfl⟩
  obtain ⟨i2, hi2, e2⟩ := zkX (e := fun i => ((j + i * k : Nat) : Int)) (p := fun i => ask k S G (j + i * k) = hi j) (c := c) (by
   obtain ⟨p, h1, h2, h3⟩ := sp.hm j hj
   obtain ⟨i, h4, h5⟩ := at' p h1 h2
   exact ⟨i, h4, by rw [h5]; exact h3⟩)
  simp! only [e2]
  have two : ∀ (a b : Int) (t : Nat), ∃ x : Int, atI [D.int a, D.int b] (if (t : Int) = 0 then 1 else 0) = some (.int x) := fun a b t => by by_cases h : (t : Int) = 0 <;> simp only [h] <;> exact ⟨_, rfl⟩
  refine (zaC h0 (m := (c : Int)) (by omega) (by omega)).mono ?_
  rintro _ ⟨t1, d3, ht1, hp3, rfl⟩
  simp! only [zau _ (show t1 < c by omega)]
  refine (zaC hp3 (m := 4) (by omega) (by omega)).mono ?_
  rintro _ ⟨t2, d4, ht2, hp4, rfl⟩
  obtain ⟨x1, ex1⟩ := two ((j + i1 * k : Nat) : Int) ((j : Int) + (t1 : Int) * (k : Int)) t2
  simp! only [ex1]
  refine ⟨by omega, ?_⟩
  refine (zaC hp4 (m := (c : Int)) (by omega) (by omega)).mono ?_
  rintro _ ⟨t3, d5, ht3, hp5, rfl⟩
  simp! only [zau _ (show t3 < c by omega)]
  refine (zaC hp5 (m := 4) (by omega) (by omega)).mono ?_
  rintro _ ⟨t4, d6, ht4, hp6, rfl⟩
  obtain ⟨x2, ex2⟩ := two ((j + i2 * k : Nat) : Int) ((j : Int) + (t3 : Int) * (k : Int)) t4
  simp! only [ex2]
  exact ⟨by omega, _, _, d6, _, _, _, _, hp6, by rw [zgw, zgw]⟩
 ·rintro _ ⟨u, v, e0, a12, a13, a14, a15, h0, rfl⟩
  simp! only []
  refine (zaC h0 (m := (k : Int)) (by omega) (by omega)).mono ?_
  rintro _ ⟨t1, d3, ht1, hp3, rfl⟩
  simp! only [zau _ (show t1 < k by omega)]
  refine (zaC hp3 (m := (n : Int)) (by omega) (by omega)).mono ?_
  rintro _ ⟨t2, d4, ht2, hp4, rfl⟩
  simp! only []
  refine (zaC hp4 (m := (n : Int)) (by omega) (by omega)).mono ?_
  rintro _ ⟨t3, d5, ht3, hp5, rfl⟩
  simp! only []
  refine (zaC hp5 (m := 4) (by omega) (by omega)).mono ?_
  rintro _ ⟨t4, d6, ht4, hp6, rfl⟩
  obtain ⟨x, y, exy⟩ : ∃ x y : Int, atI [D.tup [D.int (u t1), D.int (v t1)], D.tup [D.int t2, D.int t3]] (if (t4 : Int) = 0 then 1 else 0) = some (.tup [.int x, .int y]) := by
   by_cases h : (t4 : Int) = 0 <;> simp only [h] <;> exact ⟨_, _, rfl⟩
  simp! only [exy]
  exact ⟨_, _, _, _, _, d6, hp6, rfl⟩
theorem zjU {ds : List D} (hp : Pool ds) {m : Nat} (hm : m ≤ 1000) (q : Int) {t : D} (h : Thing m t) : Ok (zaA ds [t, .int q]) fun x => ∃ t' ds', Thing m t' ∧ Pool ds' ∧ x = (.val t', ds') := by
 have cl : ∀ a b : Int, cutD [D.str "clash", D.int a, D.int b] (some 1) none = [D.int a, D.int b] := fun a b => rfl
 have tail : ∀ (nm : Str) (c : Nat) (r : Nat → Int) (ds : List D), Pool ds → c ≤ m → (nm == "clash") = false → (∀ r', Thing m (.tup [.str nm, .tup (wI c r')])) → Ok (zbl [.par ds, .val (.tup [.str nm, .tup (wI c r)]), .val (.int q), .own (wI c r), .emp]) fun p => ∃ t' ds' a, p = (.ret (.val t'), .par ds' :: a) ∧ Thing m t' ∧ Pool ds' := by
  intro nm c r ds hp hc nn ht
  have ne : dNe (.lst (wI c r)) (.lst []) = some (.bl (!decide (c = 0))) := by
   have p1 : Pl 1 (.lst (wI c r)) := zkU (pl_w fun c => zjM 0 _)
   have p2 : Pl 1 (.lst []) := zkU (fun d hd => by cases hd)
   unfold dNe
   rw [p1.1, p2.1, decide_eq_true (Nat.le_trans p1.2 (by decide : 1 ≤ 50))]
   simp only [Bool.and_self, if_true, eqB]
   rw [zjr, show ([] : List D) = (([] : List Int).map D.int) from rfl, zgQ]
   cases c with
   | zero => rfl
   | succ c => rw [List.range_succ_eq_map]; rfl
  have hl := zjO hp
  simp! only [↓zbl]
  refine zkH (ds := wI c r) rfl (by simp only [List.set_cons_succ, List.set_cons_zero, List.zip_cons_cons, List.zip_nil_right, List.all_cons, List.all_nil, hl, zkQ, zk1, Bool.and_self]) ?_
  simp! only [ne]
  refine ⟨fun h => ?_, fun h => ?_⟩
  ·have c0 : c ≠ 0 := by intro e; subst e; exact absurd h (by decide)
   refine (zaC hp (m := (c : Int)) (by omega) (by omega)).mono ?_
   rintro _ ⟨a, d1, ha, hp1, rfl⟩
   have hac : a < c := by omega
   simp! only [zau _ hac, zgj _ _ hac, hac, nn, ↓za0, ↓zbI]
   exact ⟨_, _, _, rfl, ht _, hp1⟩
  ·simp! only [nn, ↓za0, ↓zbI]
   exact ⟨_, _, _, rfl, ht _, hp⟩
 cases h with
 | row c hc r =>
  simp! only [↓zaA, ↓zaV, show (("row" : Str) == "clash") = false by decide +kernel]
  refine (tail "row" c r ds hp hc (by decide +kernel) fun r' => .row c hc r').mono ?_
  rintro _ ⟨t', ds', a, rfl, h1, h2⟩
  simp! only []
  exact ⟨_, _, h1, h2, rfl⟩
 | clash a b =>
  have ne : dNe (.lst [D.int a, D.int b]) (.lst []) = some (.bl true) := rfl
  simp! only [↓zaA, ↓zaV, beq_self_eq_true, cl, ↓zbl]
  have hl := zjO hp
  refine zkH (ds := [D.int a, D.int b]) rfl (by simp only [List.set_cons_succ, List.set_cons_zero, List.zip_cons_cons, List.zip_nil_right, List.all_cons, List.all_nil, hl, zkQ, zk1, Bool.and_self]) ?_
  simp! only [ne]
  refine (zaC hp (m := 2) (by omega) (by omega)).mono ?_
  rintro _ ⟨w, d1, hw, hp1, rfl⟩
  match w, hw with
  | 0, _ =>
   simp! only [↓za0, beq_self_eq_true]
   exact ⟨_, _, .clash _ _, hp1, rfl⟩
  | 1, _ =>
   simp! only [↓za0, beq_self_eq_true]
   exact ⟨_, _, .clash _ _, hp1, rfl⟩
 | low c hc r =>
  simp! only [↓zaA, ↓zaV, show (("low" : Str) == "clash") = false by decide +kernel]
  refine (tail "low" c r ds hp hc (by decide +kernel) fun r' => .low c hc r').mono ?_
  rintro _ ⟨t', ds', a, rfl, h1, h2⟩
  simp! only []
  exact ⟨_, _, h1, h2, rfl⟩
 | high c hc r =>
  simp! only [↓zaA, ↓zaV, show (("high" : Str) == "clash") = false by decide +kernel]
  refine (tail "high" c r ds hp hc (by decide +kernel) fun r' => .high c hc r').mono ?_
  rintro _ ⟨t', ds', a, rfl, h1, h2⟩
  simp! only []
  exact ⟨_, _, h1, h2, rfl⟩
end
end Prf
set_option Elab.async false
set_option linter.all false
set_option maxRecDepth 100000
set_option exponentiation.threshold 5000
namespace Prf
open PySem L2 M
theorem Thing.mono {m m' : Nat} (h : m ≤ m') {t : D} (x : Thing m t) : Thing m' t := by
 cases x with
 | row c hc r => exact .row c (by omega) r
 | clash a b => exact .clash a b
 | low c hc r => exact .low c (by omega) r
 | high c hc r => exact .high c (by omega) r
theorem neB (b : Bool) : dNe (.bl b) (.bl b) = some (.bl false) := by cases b <;> rfl
theorem zke (a b : Str) : dNe (.str a) (.str b) = some (.bl (!(a == b))) := by
 have : eqB (.str a) (.str b) = (a == b) := by simp [eqB]
 unfold dNe; simp [noS, depth, this]
theorem zmv (a b : Int) : cutD [D.str "clash", D.int a, D.int b] (some 1) none = [D.int a, D.int b] := rfl
section
variable {k s n : Nat} {S L G lo hi : Nat → Int}
theorem turn_ok (ns : List Int) (c : Int) {ds : List D} (hp : Pool ds) (d : Dim k s n) (sp : zfZ k n S L G lo hi) {m : Nat} (hm : m ≤ 900) {t : D} (h : Thing m t) (a5 a6 a7 a8 a9 : Sl) :
  Ok (zgM [.val (.scr ns), .val (.int c), .own ds, .val (zaG k s n S L G), .val t, a5, a6, a7, a8, a9]) fun p => ∃ (t' : D) (ds' : List D) (b5 b6 b7 b8 b9 : Sl), Thing (m + 1) t' ∧ Pool ds' ∧ p = (.next, [.val (.scr ns), .val (.int c), .own ds', .val (zaG k s n S L G), .val t', b5, b6, b7, b8, b9]) := by
 obtain ⟨b, hr, ht⟩ := agree d sp (h.mono (show m ≤ 1000 by omega))
 simp! only [↓zgM]
 refine ht.mono ?_
 rintro _ rfl
 simp! only []
 refine hr.mono ?_
 rintro _ rfl
 simp! only [neB]
 refine ⟨by decide +kernel, fun z => absurd z (by decide +kernel), fun _ => ?_⟩
 refine hr.mono ?_
 rintro _ rfl
 simp! only [neB]
 have n24 := d.n24
 have lh : ∀ (nm : Str) (c0 : Nat) (r : Nat → Int), c0 ≤ m → (nm == "clash") = false → (nm == "row") = false → (∀ m, ∀ c0, c0 ≤ m → ∀ r, Thing m (.tup [.str nm, .tup (wI c0 r)])) → Ok (zfO [.val (.scr ns), .val (.int c), .own ds, .val (zaG k s n S L G), .val (.tup [.str nm, .tup (wI c0 r)]), a5, .val (.bl b), .val (.bl b), a8, a9]) fun p => ∃ (t' : D) (ds' : List D) (b5 b6 b7 b8 b9 : Sl), Thing (m + 1) t' ∧ Pool ds' ∧ p = (.next, [.val (.scr ns), .val (.int c), .own ds', .val (zaG k s n S L G), .val t', b5, b6, b7, b8, b9]) := by
  intro nm c0 r hc0 n1 n2 th
  simp! only [↓zfO, n2, ↓zf4]
  refine (zaC hp (m := 5) (by omega) (by omega)).mono ?_
  rintro _ ⟨w, d1, hw, hp1, rfl⟩
  simp! only [zke, n2, zaG]
  refine ⟨fun _ => ?_, fun _ => ?_⟩
  ·refine (zjU hp1 (m := m) (by omega) _ (th m c0 hc0 r)).mono ?_
   rintro _ ⟨t', d2, ht', hp2, rfl⟩
   simp! only []
   exact ⟨_, _, _, _, _, _, _, ht'.mono (by omega), hp2, rfl⟩
  ·have n1' : nm ≠ "clash" := fun e => by subst e; exact absurd n1 (by decide +kernel)
   have n2' : nm ≠ "row" := fun e => by subst e; exact absurd n2 (by decide +kernel)
   refine ⟨fun z => absurd z n1', fun _ => ?_⟩
   refine (zfH hp1 (show c0 ≤ 900 by omega) r).mono ?_
   rintro _ ⟨m', r', d2, hm', hp2, rfl⟩
   simp! only []
   exact ⟨_, _, _, _, _, _, _, th _ _ (by omega) r', hp2, rfl⟩
 cases h with
 | row c0 hc0 r =>
  obtain ⟨b', hr', ht'⟩ := zlx d sp (show c0 ≤ 1000 by omega) r
  have eb : b' = b := by
   obtain ⟨_, e1, rfl⟩ := ht
   obtain ⟨_, e2, e3⟩ := ht'
   rw [e1] at e2; cases e2; cases e3; rfl
  subst eb
  simp! only [↓zfO, beq_self_eq_true, ↓zf4]
  refine hr'.mono ?_
  rintro _ rfl
  simp! only [neB]
  refine (zaC hp (m := 5) (by omega) (by omega)).mono ?_
  rintro _ ⟨w, d1, hw, hp1, rfl⟩
  simp! only [zke, show (("row" : Str) == "clash") = false by decide +kernel, beq_self_eq_true]
  have last : ∀ d1, Pool d1 → Ok (zay d1 [.tup (wI c0 r)]) fun x => ∃ (m' : Nat) (r' : Nat → Int) (ds' : List D), m' ≤ m + 1 ∧ Pool ds' ∧ x = (.val (.tup (wI m' r')), ds') := fun d1 hp1 => (zfH hp1 (show c0 ≤ 900 by omega) r).mono fun x ⟨m', r', d2, h1, h2, h3⟩ => ⟨m', r', d2, by omega, h2, h3⟩
  refine (zaC hp1 (m := 2) (by omega) (by omega)).mono ?_
  rintro _ ⟨w2, d2, hw2, hp2, rfl⟩
  simp! only [zaG]
  refine ⟨fun _ => ⟨fun e => ?_, fun _ => ?_⟩, fun _ => ?_⟩
  ·have e' : c0 = n := by omega
   subst e'
   refine (zlE hp2 d r).mono ?_
   rintro _ ⟨r', d3, hp3, rfl⟩
   simp! only []
   exact ⟨_, _, _, _, _, _, _, .row _ (by omega) r', hp3, rfl⟩
  ·refine (last d2 hp2).mono ?_
   rintro _ ⟨m', r', d3, hm', hp3, rfl⟩
   simp! only []
   exact ⟨_, _, _, _, _, _, _, .row _ hm' r', hp3, rfl⟩
  ·refine (last d2 hp2).mono ?_
   rintro _ ⟨m', r', d3, hm', hp3, rfl⟩
   simp! only []
   exact ⟨_, _, _, _, _, _, _, .row _ hm' r', hp3, rfl⟩
 | clash x y =>
  simp! only [↓zfO, show (("clash" : Str) == "row") = false by decide +kernel, ↓zf4]
  refine (zaC hp (m := 5) (by omega) (by omega)).mono ?_
  rintro _ ⟨w, d1, hw, hp1, rfl⟩
  simp! only [zke, show (("clash" : Str) == "row") = false by decide +kernel, zaG]
  refine ⟨fun _ => ?_, fun _ => ?_⟩
  ·refine (zjU hp1 (m := m) (by omega) _ (.clash x y)).mono ?_
   rintro _ ⟨t', d2, ht', hp2, rfl⟩
   simp! only []
   exact ⟨_, _, _, _, _, _, _, ht'.mono (by omega), hp2, rfl⟩
  ·simp! only [beq_self_eq_true, zmv]
   have e : [D.int x, D.int y] = wI 2 fun i => if i = 0 then x else y := rfl
   rw [e]
   refine ⟨?_, fun z => absurd trivial z⟩
   refine (zfH hp1 (show 2 ≤ 900 by omega) _).mono ?_
   rintro _ ⟨m', r', d2, hm', hp2, rfl⟩
   obtain ⟨x', y', exy⟩ : ∃ x' y' : Int, cutD (wI m' r' ++ [D.int 0, D.int 0]) none (some 2) = [.int x', .int y'] := by
    match m', hm' with
    | 0, _ => exact ⟨_, _, rfl⟩
    | 1, _ => exact ⟨_, _, rfl⟩
    | 2, _ => exact ⟨_, _, rfl⟩
    | 3, _ => exact ⟨_, _, rfl⟩
   simp! only [exy]
   exact ⟨by omega, _, _, _, _, _, _, _, .clash x' y', hp2, rfl⟩
 | low c0 hc0 r => exact lh "low" c0 r hc0 (by decide +kernel) (by decide +kernel) fun m c0 hc0 r => .low c0 hc0 r
 | high c0 hc0 r => exact lh "high" c0 r hc0 (by decide +kernel) (by decide +kernel) fun m c0 hc0 r => .high c0 hc0 r
end
theorem one_ok (ns : List Int) (c : Nat) (hc : c < 64) (a2 a3 a4 a5 a6 a7 a8 a9 : Sl) : Ok (zgN [.val (.scr ns), .val (.int c), a2, a3, a4, a5, a6, a7, a8, a9]) fun x => ∃ b2 b3 b4 b5 b6 b7 b8 b9, x = (.next, [.val (.scr ns), .val (.int c), b2, b3, b4, b5, b6, b7, b8, b9]) := by
 simp! only [↓zgN]
 refine (pool_ok ns c hc).mono ?_
 rintro _ ⟨ds, h1, rfl⟩
 simp! only []
 refine (line_ok h1 24 4 (by omega) (by omega) (by omega) (by omega)).mono ?_
 rintro _ ⟨k, s, n, S, L, G, d2, h2, ok, hn, rfl⟩
 simp! only []
 refine (bent_ok h2 ok).mono ?_
 rintro _ ⟨S, L, G, d3, h3, ok, rfl⟩
 have k2 := ok.d.k2
 have k5 := ok.d.k5
 have n24 := ok.d.n24
 obtain ⟨lo, hi, sp, -⟩ := zjV (ask k S L) (ask k S G) (show 0 < k by omega) ok.d.kn
 simp! only [↓ziA]
 refine (zm0 h3 ok.d sp).mono ?_
 rintro _ ⟨r, a, b, u, v, d4, h4, rfl⟩
 simp! only []
 have hT : ∀ t ∈ [D.tup [D.str "row", D.tup (wI n r)], D.tup [D.str "clash", D.int a, D.int b], D.tup [D.str "low", D.tup (wI k u)], D.tup [D.str "high", D.tup (wI k v)]], Thing 24 t := by
  intro t ht
  simp only [List.mem_cons, List.not_mem_nil, or_false] at ht
  rcases ht with rfl | rfl | rfl | rfl
  ·exact .row n n24 r
  ·exact .clash a b
  ·exact .low k (by omega) u
  ·exact .high k (by omega) v
 generalize [D.tup [D.str "row", D.tup (wI n r)], D.tup [D.str "clash", D.int a, D.int b], D.tup [D.str "low", D.tup (wI k u)], D.tup [D.str "high", D.tup (wI k v)]] = ts at hT
 rw [show ts = ts.map id from (List.map_id ts).symm]
 refine ok_for (fun i ρ => ∃ ds b4 b5 b6 b7 b8 b9, Pool ds ∧ ρ = [.val (.scr ns), .val (.int c), .own ds, .val (zaG k s n S L G), b4, b5, b6, b7, b8, b9]) ⟨_, _, _, _, _, _, _, h4, rfl⟩ ?_ ?_
 ·rintro i t _ hi ⟨d5, b4, b5, b6, b7, b8, b9, h5, rfl⟩
  have ht := hT t (List.mem_of_getElem? hi)
  simp! only [id_eq, ↓ziH, ↓zic]
  refine ⟨zaw (by omega) (by omega), zeb (fun i ρ => ∃ t ds b5 b6 b7 b8 b9, Thing (24 + i) t ∧ Pool ds ∧ ρ = [.val (.scr ns), .val (.int c), .own ds, .val (zaG k s n S L G), .val t, b5, b6, b7, b8, b9]) ⟨t, _, _, _, _, _, _, ht, h5, rfl⟩ ?_ ?_⟩
  ·rintro i _ hi ⟨t, d6, b5, b6, b7, b8, b9, ht, h6, rfl⟩
   simp! only []
   refine (turn_ok ns c h6 ok.d sp (m := 24 + i) (by omega) ht _ _ _ _ _).mono ?_
   rintro _ ⟨t', d7, b5, b6, b7, b8, b9, ht', h7, rfl⟩
   exact ⟨_, _, _, _, _, _, _, ht', h7, rfl⟩
  ·rintro _ ⟨t, d6, b5, b6, b7, b8, b9, ht, h6, rfl⟩
   simp! only []
   exact ⟨_, _, _, _, _, _, _, h6, rfl⟩
 ·rintro _ ⟨d5, b4, b5, b6, b7, b8, b9, h5, rfl⟩
  exact ⟨_, _, _, _, _, _, _, _, rfl⟩
theorem math (ns : List Int) (hl : ns.length ≤ 63) : zju [.scr ns] = some (.val (.bl true)) := by
 have : Ok (zju [.scr ns]) fun r => r = .val (.bl true) := by
  have hm : ∃ m : Nat, m ≤ 10 ∧ max2 1 (min2 (ns.length : Int) 10) = (m : Int) := by
   unfold max2 min2
   exact ⟨(if (if (10 : Int) < (ns.length : Int) then 10 else (ns.length : Int)) > 1 then (if (10 : Int) < (ns.length : Int) then 10 else (ns.length : Int)) else 1).toNat, by split <;> split <;> omega, by split <;> split <;> omega⟩
  obtain ⟨m, hm10, em⟩ := hm
  simp! only [↓zju, ↓zmP, ↓ziE, em]
  refine ⟨zaw (by omega) (by omega), zeb (fun i ρ => ∃ a1 a2 a3 a4 a5 a6 a7 a8 a9, ρ = [.val (.scr ns), a1, a2, a3, a4, a5, a6, a7, a8, a9]) ⟨_, _, _, _, _, _, _, _, _, rfl⟩ ?_ ?_⟩
  ·rintro i _ hi ⟨a1, a2, a3, a4, a5, a6, a7, a8, a9, rfl⟩
   simp! only []
   refine (one_ok ns i (by omega) _ _ _ _ _ _ _ _).mono ?_
   rintro _ ⟨b2, b3, b4, b5, b6, b7, b8, b9, rfl⟩
   exact ⟨_, _, _, _, _, _, _, _, _, rfl⟩
  ·rintro _ ⟨a1, a2, a3, a4, a5, a6, a7, a8, a9, rfl⟩
   simp! only []
 obtain ⟨_, e, rfl⟩ := this
 exact e
end Prf
noncomputable def PySem.W.Fast.tw5787488528856546227 : Nat := 0
noncomputable def PySem.W.Fast.tw10730083946413353680 : Nat := 0
noncomputable def PySem.W.Fast.tw13858914969520879834 : Nat := 0
noncomputable def PySem.W.Fast.tw14242345395688690866 : Nat := 0
noncomputable def PySem.W.Fast.tw9458934733266990463 : Nat := 0
noncomputable def PySem.W.Fast.tw14762887407694139713 : Nat := 0
noncomputable def PySem.W.Fast.tw8697390326433054375 : Nat := 0
noncomputable def PySem.W.Fast.tw2819806997320426196 : Nat := 0
open PySem PySem.W PyProof.Rows
set_option maxRecDepth 100000 in
set_option maxHeartbeats 0 in
theorem PySem.Challenge.cw_tellsum_k11_lines_judged_holds : PySem.Challenge.rw_tellsum_k11_lines_judged.Holds := by
 w_on; o_law; k_head; (case hw => w_witness2)
 k_fill
 refine Prf.walk (l := PySem.Challenge.rw_tellsum_k11_lines_judged) rfl rfl Prf.math (fun w h Y => W.kIn_of Y) ?F
 case F =>
  intro w mg fa h KX G hmg
  refine' Prf.all_mk KX G hmg ?a1 ?l1 ?c1 ?k1 ?a2 ?l2 ?c2 ?k2 ?a3 ?l3 ?c3 ?k3 ?a4 ?l4 ?c4 ?k4 ?a5 ?l5 ?c5 ?k5 ?a6 ?l6 ?c6 ?k6 ?a7 ?l7 ?c7 ?k7 ?a8 ?l8 ?c8 ?k8 ?a9 ?l9 ?c9 ?k9 ?a10 ?l10 ?c10 ?k10 ?a11 ?l11 ?c11 ?k11 ?a12 ?l12 ?c12 ?k12 ?a13 ?l13 ?c13 ?k13 ?a14 ?l14 ?c14 ?k14 ?a15 ?l15 ?c15 ?k15 ?a16 ?l16 ?c16 ?k16 ?a17 ?l17 ?c17 ?k17 ?a18 ?l18 ?c18 ?k18 ?a19 ?l19 ?c19 ?k19 ?a20 ?l20 ?c20 ?k20 ?a21 ?l21 ?c21 ?k21 ?a22 ?l22 ?c22 ?k22 ?a23 ?l23 ?c23 ?k23 ?a24 ?l24 ?c24 ?k24 ?a25 ?l25 ?c25 ?k25 ?a26 ?l26 ?c26 ?k26 ?a27 ?l27 ?c27 ?k27 ?a28 ?l28 ?c28 ?k28 ?a29 ?l29 ?c29 ?k29 ?a30 ?l30 ?c30 ?k30 ?a31 ?l31 ?c31 ?k31 ?a32 ?l32 ?c32 ?k32 ?a33 ?l33 ?c33 ?k33 ?a34 ?l34 ?c34 ?k34 ?a35 ?l35 ?c35 ?k35 ?z0 ?z1 ?z2 ?z3 ?z4 ?z5 ?z6 ?z7 ?z8 ?z9 ?z10 ?z11 ?z12 ?z13
  (case a1 => k_is)
  (case l1 => k_is)
  (case c1 => k_is)
  (case k1 => k_is)
  (case a2 => k_is)
  (case l2 => k_is)
  (case c2 => k_is)
  (case k2 => k_is)
  (case a3 => k_is)
  (case l3 => k_is)
  (case c3 => k_is)
  (case k3 => k_is)
  (case a4 => k_is)
  (case l4 => k_is)
  (case c4 => k_is)
  (case k4 => k_is)
  (case a5 => k_is)
  (case l5 => k_is)
  (case c5 => k_is)
  (case k5 => k_is)
  (case a6 => k_is)
  (case l6 => k_is)
  (case c6 => k_is)
  (case k6 => k_is)
  (case a7 => k_is)
  (case l7 => k_is)
  (case c7 => k_is)
  (case k7 => k_is)
  (case a8 => k_is)
  (case l8 => k_is)
  (case c8 => k_is)
  (case k8 => k_is)
  (case a9 => k_is)
  (case l9 => k_is)
  (case c9 => k_is)
  (case k9 => k_is)
  (case a10 => k_is)
  (case l10 => k_is)
  (case c10 => k_is)
  (case k10 => k_is)
  (case a11 => k_is)
  (case l11 => k_is)
  (case c11 => k_is)
  (case k11 => k_is)
  (case a12 => k_is)
  (case l12 => k_is)
  (case c12 => k_is)
  (case k12 => k_is)
  (case a13 => k_is)
  (case l13 => k_is)
  (case c13 => k_is)
  (case k13 => k_is)
  (case a14 => k_is)
  (case l14 => k_is)
  (case c14 => k_is)
  (case k14 => k_is)
  (case a15 => k_is)
  (case l15 => k_is)
  (case c15 => k_is)
  (case k15 => k_is)
  (case a16 => k_is)
  (case l16 => k_is)
  (case c16 => k_is)
  (case k16 => k_is)
  (case a17 => k_is)
  (case l17 => k_is)
  (case c17 => k_is)
  (case k17 => k_is)
  (case a18 => k_is)
  (case l18 => k_is)
  (case c18 => k_is)
  (case k18 => k_is)
  (case a19 => k_is)
  (case l19 => k_is)
  (case c19 => k_is)
  (case k19 => k_is)
  (case a20 => k_is)
  (case l20 => k_is)
  (case c20 => k_is)
  (case k20 => k_is)
  (case a21 => k_is)
  (case l21 => k_is)
  (case c21 => k_is)
  (case k21 => k_is)
  (case a22 => k_is)
  (case l22 => k_is)
  (case c22 => k_is)
  (case k22 => k_is)
  (case a23 => k_is)
  (case l23 => k_is)
  (case c23 => k_is)
  (case k23 => k_is)
  (case a24 => k_is)
  (case l24 => k_is)
  (case c24 => k_is)
  (case k24 => k_is)
  (case a25 => k_is)
  (case l25 => k_is)
  (case c25 => k_is)
  (case k25 => k_is)
  (case a26 => k_is)
  (case l26 => k_is)
  (case c26 => k_is)
  (case k26 => k_is)
  (case a27 => k_is)
  (case l27 => k_is)
  (case c27 => k_is)
  (case k27 => k_is)
  (case a28 => k_is)
  (case l28 => k_is)
  (case c28 => k_is)
  (case k28 => k_is)
  (case a29 => k_is)
  (case l29 => k_is)
  (case c29 => k_is)
  (case k29 => k_is)
  (case a30 => k_is)
  (case l30 => k_is)
  (case c30 => k_is)
  (case k30 => k_is)
  (case a31 => k_is)
  (case l31 => k_is)
  (case c31 => k_is)
  (case k31 => k_is)
  (case a32 => k_is)
  (case l32 => k_is)
  (case c32 => k_is)
  (case k32 => k_is)
  (case a33 => k_is)
  (case l33 => k_is)
  (case c33 => k_is)
  (case k33 => k_is)
  (case a34 => k_is)
  (case l34 => k_is)
  (case c34 => k_is)
  (case k34 => k_is)
  (case a35 => k_is)
  (case l35 => k_is)
  (case c35 => k_is)
  (case k35 => k_is)
  (case z0 => k_is)
  (case z1 => k_is)
  (case z2 => k_is)
  (case z3 => k_is)
  (case z4 => k_is)
  (case z5 => k_is)
  (case z6 => k_is)
  (case z7 => k_is)
  (case z8 => k_is)
  (case z9 => k_is)
  (case z10 => k_is)
  (case z11 => k_is)
  (case z12 => k_is)
  (case z13 => k_is)
