import PyProof.Rows.All
import Wide.All
import OpenK.AllK
import Wide.FinOn
import Lean
import PyProof.EqAt
import PyProof.EqKinds
import PyProof.TupleCall
import PySem.Challenge.RW_pathask_k15_refusals_apart
set_option Elab.async false
set_option linter.all false
set_option maxRecDepth 100000
/-! THE HAND LAYER, for ints, bools, texts, own classes, DICTS (int and text keys), calls, loops. Paste it whole ahead of your own text; what your proof does not reach may be deleted. -/
namespace L2
open PySem PySem.Spec PyProof.Rows

/-- a key: an int or a str -/
noncomputable abbrev Key := Sum Int Str
noncomputable def keyIs : Key → Value → Bool
  | .inl k, v => Value.isInt k v
  | .inr x, v => Value.isStrOf x v
noncomputable def keyH (w : World) : Key → Int
  | .inl k => hashInt k
  | .inr x => hashStr w x
theorem keyIs_shape : ∀ {k : Key} {v : Value}, keyIs k v = true → (∃ i t, k = Sum.inl i ∧ v = Value.int i t) ∨ (∃ x t, k = Sum.inr x ∧ v = Value.str x t)
  | .inl i, v, h => by
    obtain ⟨t, e⟩ := Value.isInt_shape (k := i) (v := v) h
    exact .inl ⟨i, t, rfl, e⟩
  | .inr x, v, h => by
    obtain ⟨t, e⟩ := Value.isStrOf_shape (x := x) (v := v) h
    exact .inr ⟨x, t, rfl, e⟩
theorem keyIs_int (i : Int) (t : Tok) : keyIs (.inl i) (.int i t) = true := by simp [keyIs, Value.isInt]
theorem keyIs_str (x : Str) (t : Tok) : keyIs (.inr x) (.str x t) = true := by simp [keyIs, Value.isStrOf]
theorem key_ll (a b : Int) : decide ((Sum.inl a : Key) = Sum.inl b) = (a == b) := by
  by_cases e : a = b
  · subst e; simp
  · have h : ¬ (Sum.inl a : Key) = Sum.inl b := fun q => e (Sum.inl.inj q)
    rw [decide_eq_false h]
    exact (beq_eq_false_iff_ne.mpr e).symm
theorem key_rr (a b : Str) : decide ((Sum.inr a : Key) = Sum.inr b) = decide (a = b) := by
  by_cases e : a = b
  · subst e; simp
  · have h : ¬ (Sum.inr a : Key) = Sum.inr b := fun q => e (Sum.inr.inj q)
    rw [decide_eq_false h, decide_eq_false e]
theorem key_lr (a : Int) (b : Str) : decide ((Sum.inl a : Key) = Sum.inr b) = false := decide_eq_false (fun q => nomatch q)
theorem key_rl (a : Str) (b : Int) : decide ((Sum.inr a : Key) = Sum.inl b) = false := decide_eq_false (fun q => nomatch q)

noncomputable def mixKind (prog : Program) (w : World) : PySem.KeyKind prog w Key where
  is := keyIs
  hash := keyH w
  inj := fun v a b ha hb => by
    rcases keyIs_shape ha with ⟨i, t, rfl, rfl⟩ | ⟨x, t, rfl, rfl⟩
    · rcases keyIs_shape hb with ⟨j, u, rfl, e⟩ | ⟨y, u, rfl, e⟩
      · injection e with e1 _; rw [e1]
      · exact nomatch e
    · rcases keyIs_shape hb with ⟨j, u, rfl, e⟩ | ⟨y, u, rfl, e⟩
      · exact nomatch e
      · injection e with e1 _; rw [e1]
  byValue := fun k v h => by
    rcases keyIs_shape h with ⟨i, t, rfl, rfl⟩ | ⟨x, t, rfl, rfl⟩ <;> rfl
  pyHash := fun hv h => by
    rcases keyIs_shape hv with ⟨i, t, rfl, rfl⟩ | ⟨x, t, rfl, rfl⟩
    · exact wpAny_pyHash_int h
    · exact wpAny_pyHash_str h
  eqBool := fun hu hv h => by
    rcases keyIs_shape hu with ⟨i, t, rfl, rfl⟩ | ⟨x, t, rfl, rfl⟩
    · rcases keyIs_shape hv with ⟨j, u, rfl, rfl⟩ | ⟨y, u, rfl, rfl⟩
      · rw [key_ll] at h; exact wpAny_eqBool_int h
      · rw [key_lr] at h; exact SeqAt.EqAt.int_str i t y u _ _ _ _ h
    · rcases keyIs_shape hv with ⟨j, u, rfl, rfl⟩ | ⟨y, u, rfl, rfl⟩
      · rw [key_rl] at h; exact SeqAt.EqAt.str_int x t j u _ _ _ _ h
      · rw [key_rr] at h; exact wpAny_eqBool_str h
  «strs» := fun k x t v h => by
    rcases keyIs_shape h with ⟨i, u, rfl, e⟩ | ⟨y, u, rfl, e⟩
    · exact nomatch e
    · injection e with e1 _
      subst e1
      cases v <;> rfl

theorem mixKind_int (prog : Program) (w : World) (i : Int) (t : Tok) : (mixKind prog w).is (.inl i) (.int i t) = true := keyIs_int i t
theorem mixKind_str (prog : Program) (w : World) (x : Str) (t : Tok) : (mixKind prog w).is (.inr x) (.str x t) = true := keyIs_str x t
end L2

namespace L2
open PySem PySem.Spec PyProof.Rows

/-- a value, without the heap -/
inductive V where
  | non | bl (b : Bool) | int (i : Int) | str (x : Str) | byt (b : Array UInt8) | flt (b : UInt64) | ref (a : Addr) | ty (n : String)
  deriving DecidableEq

noncomputable def RelV : V → Value → Prop
  | .non, u => u = Value.none
  | .bl b, u => u = Value.bool b
  | .int i, u => ∃ t, u = Value.int i t
  | .str x, u => ∃ t, u = Value.str x t
  | .byt b, u => ∃ t, u = Value.bytes b t
  | .flt b, u => ∃ t, u = Value.float b t
  | .ref a, u => u = Value.ref a
  | .ty n, u => u = Value.type n

noncomputable abbrev Vals : List V → List Value → Prop := Paired RelV
theorem Vals.length {xs : List V} {us : List Value} (r : Vals xs us) : xs.length = us.length := Paired.length r
theorem Vals.get : ∀ {xs : List V} {us : List Value} {i : Nat} {x : V}, Vals xs us → xs[i]? = some x → ∃ u, us[i]? = some u ∧ RelV x u
  | _, _, _, _, .nil, e => by simp at e
  | _, _, 0, _, .cons r _, e => by simp at e; subst e; exact ⟨_, rfl, r⟩
  | _, _, i + 1, x, .cons _ t, e => by
    obtain ⟨u, h1, h2⟩ := Vals.get (i := i) (x := x) t (by simpa using e)
    exact ⟨u, by simpa using h1, h2⟩
theorem Vals.append : ∀ {xs ys : List V} {us ws : List Value}, Vals xs us → Vals ys ws → Vals (xs ++ ys) (us ++ ws)
  | _, _, _, _, .nil, s => s
  | _, _, _, _, .cons r t, s => .cons r (Vals.append t s)
theorem Vals.take : ∀ {xs : List V} {us : List Value} (n : Nat), Vals xs us → Vals (xs.take n) (us.take n)
  | _, _, 0, _ => .nil
  | _, _, _ + 1, .nil => .nil
  | _, _, n + 1, .cons r t => .cons r (Vals.take n t)
theorem Vals.drop : ∀ {xs : List V} {us : List Value} (n : Nat), Vals xs us → Vals (xs.drop n) (us.drop n)
  | _, _, 0, r => r
  | _, _, _ + 1, .nil => .nil
  | _, _, n + 1, .cons _ t => Vals.drop n t
noncomputable def RelO : Option V → Option Value → Prop
  | some v, some u => RelV v u
  | none, none => True
  | _, _ => False
noncomputable def KV {κ : Type} : List (κ × V) → List (κ × Value) → Prop := Paired fun (p : κ × V) (q : κ × Value) => p.1 = q.1 ∧ RelV p.2 q.2

/-- a key of a dict (00_mix): an int or a text -/
noncomputable def kV : Key → V
  | .inl i => .int i
  | .inr x => .str x

/-- what stands at a tracked address -/
inductive HO where
  /-- a list -/
  | lst (xs : List V)
  /-- a tuple (never changes) -/
  | tup (xs : List V)
  /-- a dict whose keys are ints and texts; one whose keys are tuples of ints and texts (the empty one is both) -/
  | dK (kvs : List (Key × V)) | dT (kvs : List (List Key × V))
  /-- a set of ints: its members, its size -/
  | set (S : Int → Bool) (n : Nat)
  /-- an instance of the class at C, its dict at dx, its attributes -/
  | ins (C dx : Addr) (fs : List (Str × V))
  /-- the dict of the instance at x -/
  | own (x : Addr)
  /-- the dict of an exception -/
  | xd (fs : List (Str × V))
  /-- a bound method, f of x -/
  | met (f x : Addr)
  /-- a range object lo, lo + 1, .. below hi -/
  | rng (lo hi : Int)
  /-- a thing that is known to the object (the script; a dict while a loop walks it): read, never written while it is so -/
  | frz (o : Obj) (u : HO)
  /-- a code object's table -/
  | tbl (ps : Array Value)
  /-- any other thing, by what is true of its one object (a def of one's own: SetO a S n := HO.ext fun h => ..) -/
  | ext (φ : Heap → Prop)

noncomputable abbrev Hp := Addr → Option HO
noncomputable def upd (H : Hp) (a : Addr) (o : HO) : Hp := fun b => if b = a then some o else H b
theorem upd_same {H : Hp} {a : Addr} {o : HO} : upd H a o a = some o := by unfold upd; rw [if_pos rfl]
theorem upd_ne {H : Hp} {a b : Addr} {o : HO} (h : b ≠ a) : upd H a o b = H b := by unfold upd; rw [if_neg h]
/-- two objects of different content stand apart -/
theorem ne_of {H : Hp} {a b : Addr} {o u : HO} (h : H a = some o) (h' : H b = some u) (d : o ≠ u) : a ≠ b := by
  intro e; subst e; rw [h] at h'; exact d (Option.some.inj h')
theorem ne_of_none {H : Hp} {a b : Addr} {o : HO} (h : H a = some o) (h' : H b = none) : a ≠ b := by
  intro e; subst e; rw [h] at h'; cases h'

section
variable (P : Program) (w : World)
noncomputable def ObjOk (H : Hp) (h : Heap) (a : Addr) : HO → Prop
  | .lst xs => xs.length ≤ sizeLine ∧ ∃ (its : List Value) (n : Nat), Vals xs its ∧ h.get? a = some { cls := .type "list", data := .seq its.toArray n }
  | .tup xs => xs.length ≤ sizeLine ∧ ∃ its : List Value, Vals xs its ∧ IsTup h a its.toArray
  | .dK kvs => kvs.length ≤ sizeLine ∧ (a == sysModules) = false ∧ ∃ vs, KV kvs vs ∧ h.DictOf (mixKind P w) a vs
  | .dT kvs => kvs.length ≤ sizeLine ∧ (a == sysModules) = false ∧ ∃ xs : List (List Key × Addr × Value),
      Paired (fun (p : List Key × V) (q : List Key × Addr × Value) => p.1 = q.1 ∧ H q.2.1 = some (.tup (p.1.map kV)) ∧ RelV p.2 q.2.2) kvs xs ∧
      ∃ o es ep, h.get? a = some o ∧ o.ExactDict ∧ o.data = .dict es ep ∧ es.toList = xs.map (entryOfKey (tupleKind (mixKind P w))) ∧ (xs.map (·.1)).Nodup
  | .set S n => h.SetOf (intKind P w) a S n
  | .ins C dx fs => H dx = some (.own a) ∧ fs.length ≤ 1000 ∧ dx ≠ a ∧ h.get? a = some (PySem.W.instObj C dx) ∧
      ∃ mA, h.Ns1 dx mA ∧ (∀ f, RelO (fs.lookup f) (mA f)) ∧ PySem.Within mA (fs.map (·.1))
  | .own _ => ∃ o, h.get? a = some o
  | .xd fs => ∃ mA, h.Ns1 a mA ∧ ∀ f, RelO (fs.lookup f) (mA f)
  | .rng lo hi => ∃ t u v, h.get? a = some { cls := .type "range", data := .fields #[.int lo t, .int hi u, .int 1 v] }
  | .frz o u => h.get? a = some o ∧ ObjOk H h a u
  | .tbl ps => h.get? a = some { cls := .none, data := .fields ps }
  | .met f x => h.get? a = some (PySem.W.methodObj (.ref f) (.ref x))
  | .ext φ => φ h ∧ (∃ o, h.get? a = some o) ∧ ∀ h1 h2 : Heap, φ h1 → (∀ o, h1.get? a = some o → h2.get? a = some o) → φ h2
/-- the abstract heap is held -/
noncomputable def HOk (H : Hp) (h : Heap) : Prop := ∀ a o, H a = some o → ObjOk P w H h a o
end

section
variable {P : Program} {w : World} {H H' : Hp} {h h' : Heap} {a : Addr} {o : HO}
theorem ObjOk.lt (x : ObjOk P w H h a o) : a < h.objs.size := by
  cases o with
  | lst xs => obtain ⟨_, _, _, _, e⟩ := x; exact Heap.lt_size e
  | tup xs => obtain ⟨_, _, _, p⟩ := x; exact p.lt
  | dK kvs => obtain ⟨_, _, _, _, o, _, _, e, _⟩ := x; exact Heap.lt_size e
  | dT kvs => obtain ⟨_, _, _, _, o, _, _, e, _⟩ := x; exact Heap.lt_size e
  | set S n => obtain ⟨o, _, _, _, e, _⟩ := x; exact Heap.lt_size e
  | ins C dx fs => obtain ⟨_, _, _, e, _⟩ := x; exact Heap.lt_size e
  | own y => obtain ⟨_, e⟩ := x; exact Heap.lt_size e
  | xd fs => obtain ⟨_, ⟨_, _, _, e, _⟩, _⟩ := x; exact Heap.lt_size e
  | rng lo hi => obtain ⟨_, _, _, e⟩ := x; exact Heap.lt_size e
  | frz ob u => obtain ⟨e, _⟩ := x; exact Heap.lt_size e
  | tbl ps => exact Heap.lt_size (show h.get? a = some _ from x)
  | met f y => exact Heap.lt_size (show h.get? a = some _ from x)
  | ext φ => obtain ⟨_, ⟨_, e⟩, _⟩ := x; exact Heap.lt_size e
theorem Paired.mapP {α β : Type} {F G : α → β → Prop} : ∀ {l₁ : List α} {l₂ : List β}, Paired F l₁ l₂ → (∀ a b, F a b → G a b) → Paired G l₁ l₂
  | _, _, .nil, _ => .nil
  | _, _, .cons r t, f => .cons (f _ _ r) (Paired.mapP t f)
/-- what an object's description leans on: its own object, its own dict, the tuples -/
theorem ObjOk.stay (x : ObjOk P w H h a o) (k : ∀ b u, (b = a ∨ H b = some (.own a)) → h.get? b = some u → h'.get? b = some u)
    (ho : ∀ b, H b = some (.own a) → H' b = some (.own a)) (ht : ∀ b xs, H b = some (.tup xs) → H' b = some (.tup xs)) : ObjOk P w H' h' a o := by
  induction o with
  | lst xs => obtain ⟨z, its, n, r, e⟩ := x; exact ⟨z, its, n, r, k _ _ (.inl rfl) e⟩
  | tup xs => obtain ⟨z, its, r, ob, e, c⟩ := x; exact ⟨z, its, r, ob, k _ _ (.inl rfl) e, c⟩
  | dK kvs => obtain ⟨z, y, vs, r, ob, es, ep, e, c⟩ := x; exact ⟨z, y, vs, r, ob, es, ep, k _ _ (.inl rfl) e, c⟩
  | dT kvs =>
    obtain ⟨z, y, xs, r, ob, es, ep, e, c⟩ := x
    exact ⟨z, y, xs, Paired.mapP r fun p q z => ⟨z.1, ht _ _ z.2.1, z.2.2⟩, ob, es, ep, k _ _ (.inl rfl) e, c⟩
  | set S n => obtain ⟨ob, es, ep, t, e, c⟩ := x; exact ⟨ob, es, ep, t, k _ _ (.inl rfl) e, c⟩
  | ins C dx fs =>
    obtain ⟨d, z, ne, e, mA, ⟨od, es, ep, e2, c⟩, r⟩ := x
    exact ⟨ho _ d, z, ne, k _ _ (.inl rfl) e, mA, ⟨od, es, ep, k _ _ (.inr d) e2, c⟩, r⟩
  | own y => obtain ⟨ob, e⟩ := x; exact ⟨ob, k _ _ (.inl rfl) e⟩
  | xd fs => obtain ⟨mA, ⟨od, es, ep, e, c⟩, r⟩ := x; exact ⟨mA, ⟨od, es, ep, k _ _ (.inl rfl) e, c⟩, r⟩
  | rng lo hi => obtain ⟨t, u, v, e⟩ := x; exact ⟨t, u, v, k _ _ (.inl rfl) e⟩
  | frz ob u ih => obtain ⟨e, q⟩ := x; exact ⟨k _ _ (.inl rfl) e, ih q⟩
  | tbl ps =>
    have e : h.get? a = some { cls := .none, data := .fields ps } := x
    show h'.get? a = some { cls := .none, data := .fields ps }
    exact k a _ (.inl rfl) e
  | met f y =>
    have e : h.get? a = some (PySem.W.methodObj (.ref f) (.ref y)) := x
    show h'.get? a = some (PySem.W.methodObj (.ref f) (.ref y))
    exact k a _ (.inl rfl) e
  | ext φ => obtain ⟨p, ⟨o, e⟩, st⟩ := x; exact ⟨st _ _ p fun o q => k _ _ (.inl rfl) q, ⟨o, k _ _ (.inl rfl) e⟩, st⟩
theorem HOk.lt (x : HOk P w H h) (e : H a = some o) : a < h.objs.size := (x a o e).lt
theorem HOk.fresh (x : HOk P w H h) (e : h.objs.size ≤ a) : H a = none := by
  cases q : H a with
  | none => rfl
  | some u => exact absurd (Nat.lt_of_lt_of_le (x.lt q) e) (Nat.lt_irrefl _)
/-- every object of the heap is kept -/
theorem HOk.kept (x : HOk P w H h) (k : ∀ b u, h.get? b = some u → h'.get? b = some u) : HOk P w H h' := fun a o e =>
  (x a o e).stay (fun b u _ q => k b u q) (fun _ q => q) fun _ _ q => q
/-- a new object is laid and tracked -/
theorem HOk.laid (x : HOk P w H h) (k : ∀ b u, h.get? b = some u → h'.get? b = some u) (hp : h.objs.size ≤ a) (new : ObjOk P w (upd H a o) h' a o) : HOk P w (upd H a o) h' := fun b u e => by
  have hn := x.fresh hp
  by_cases hb : b = a
  · subst hb; rw [upd_same] at e; cases e; exact new
  · rw [upd_ne hb] at e
    exact (x b u e).stay (fun c v _ q => k c v q) (fun c q => by rw [upd_ne (ne_of_none q hn)]; exact q) fun c xs q => by rw [upd_ne (ne_of_none q hn)]; exact q
end

/-- what may be read as u: it is u, or a known u -/
noncomputable def Rd (H : Hp) (a : Addr) (u : HO) : Prop := H a = some u ∨ ∃ o, H a = some (.frz o u)
theorem Rd.ok {P : Program} {w : World} {H : Hp} {h : Heap} {a : Addr} {u : HO} (r : Rd H a u) (x : HOk P w H h) : ObjOk P w H h a u := by
  rcases r with r | ⟨o, r⟩
  · exact x a u r
  · obtain ⟨_, q⟩ := x a _ r
    exact q
/-- what may be written -/
noncomputable def Mut : Option HO → Prop
  | some (.lst _) => True
  | some (.dK _) => True
  | some (.dT _) => True
  | some (.set _ _) => True
  | some (.ins _ _ _) => True
  | some (.ext _) => True
  | _ => False
section
variable {P : Program} {w : World} {H : Hp} {h h' : Heap} {x e : Addr} {o' : HO}
/-- the object at e is changed: x itself, or the dict of the instance x -/
theorem HOk.write (ok : HOk P w H h) (mu : Mut (H x)) (he : e = x ∨ H e = some (.own x)) (k : ∀ b u, b ≠ e → h.get? b = some u → h'.get? b = some u) (heo : ∃ u, h'.get? e = some u)
    (new : ObjOk P w (upd H x o') h' x o') : HOk P w (upd H x o') h' := fun b u q => by
  have nown : ∀ c y, H c = some (.own y) → c ≠ x := fun c y r z => by subst z; rw [r] at mu; exact mu
  have ntup : ∀ c xs, H c = some (.tup xs) → c ≠ x := fun c xs r z => by subst z; rw [r] at mu; exact mu
  by_cases hb : b = x
  · subst hb; rw [upd_same] at q; cases q; exact new
  · rw [upd_ne hb] at q
    by_cases hbe : b = e
    · have q' : H b = some (.own x) := by
        rcases he with z | z
        · exact absurd (hbe.trans z) hb
        · rw [hbe]; exact z
      rw [q] at q'; cases q'
      obtain ⟨v, hv⟩ := heo
      exact ⟨v, by rw [hbe]; exact hv⟩
    · refine (ok b u q).stay (fun c v hc r => k c v ?_ r) (fun c r => by rw [upd_ne (nown c b r)]; exact r) fun c xs r => by rw [upd_ne (ntup c xs r)]; exact r
      rcases hc with rfl | hc
      · exact hbe
      · rintro rfl
        rcases he with z | z
        · exact nown c b hc z
        · rw [hc] at z; cases z; exact hb rfl
end

/-! ### kept unless tracked; of the frames at fs (the callers') the slots may change (an exception that passes writes there); of the records at ex (iterators) nothing is said -/
structure Un (fs ex : List Addr) (H H' : Hp) (h h' : Heap) : Prop where
  keep : ∀ b o, h.get? b = some o → H b = none → b ∉ fs → b ∉ ex → h'.get? b = some o
  slot : ∀ b o, h.get? b = some o → H b = none → b ∈ fs → b ∉ ex → ∃ sl, h'.get? b = some { o with slots := sl }
  free : ∀ b o, h.get? b = some o → H b = none → b ∉ ex → H' b = none
  there : ∀ b o, h.get? b = some o → b ∉ ex → ∃ o', h'.get? b = some o'
  tups : ∀ b xs, H b = some (.tup xs) → H' b = some (.tup xs)
  frzs : ∀ b o u, H b = some (.frz o u) → H' b = some (.frz o u)
  tbls : ∀ b ps, H b = some (.tbl ps) → ∃ more, H' b = some (.tbl (ps ++ more))
section
variable {fs fs' ex ex' : List Addr} {H H1 H2 : Hp} {h h1 h2 h' : Heap} {a x e : Addr} {o : HO}
theorem Un.any (u : Un fs ex H H1 h h1) {b : Addr} {ob : Obj} (q : h.get? b = some ob) (n : H b = none) (hx : b ∉ ex) : ∃ sl, h1.get? b = some { ob with slots := sl } := by
  by_cases hb : b ∈ fs
  · exact u.slot b ob q n hb hx
  · exact ⟨ob.slots, u.keep b ob q n hb hx⟩
theorem Un.kept (k : ∀ b u, h.get? b = some u → h'.get? b = some u) : Un fs ex H H h h' :=
  ⟨fun b ob q _ _ _ => k b ob q, fun b ob q _ _ _ => ⟨ob.slots, k b ob q⟩, fun _ _ _ n _ => n, fun b ob q _ => ⟨ob, k b ob q⟩, fun _ _ q => q, fun _ _ _ q => q, fun _ ps q => ⟨#[], by rw [q]; simp⟩⟩
theorem Un.refl : Un fs ex H H h h := Un.kept fun _ _ q => q
theorem Un.laid (k : ∀ b u, h.get? b = some u → h'.get? b = some u) (hp : h.objs.size ≤ a) (hn : H a = none) : Un fs ex H (upd H a o) h h' where
  keep := fun b u q _ _ _ => k b u q
  slot := fun b u q _ _ _ => ⟨u.slots, k b u q⟩
  free := fun b u q n _ => by rw [upd_ne (Nat.ne_of_lt (Nat.lt_of_lt_of_le (Heap.lt_size q) hp))]; exact n
  there := fun b u q _ => ⟨u, k b u q⟩
  tups := fun b xs q => by rw [upd_ne (ne_of_none q hn)]; exact q
  frzs := fun b u xs q => by rw [upd_ne (ne_of_none q hn)]; exact q
  tbls := fun b ps q => ⟨#[], by rw [upd_ne (ne_of_none q hn), q]; simp⟩
theorem Un.write (mu : Mut (H x)) (he : e = x ∨ H e = some (.own x)) (k : ∀ b u, b ≠ e → h.get? b = some u → h'.get? b = some u) (heo : ∃ u, h'.get? e = some u) : Un fs ex H (upd H x o) h h' := by
  have hx : ∀ b, H b = none → b ≠ x := fun b n z => by subst z; rw [n] at mu; exact mu
  have hb : ∀ b, H b = none → b ≠ e := fun b n z => by
    subst z
    rcases he with r | r
    · exact hx b n r
    · rw [n] at r; cases r
  have hm : ∀ b u, H b = some u → ¬ Mut (some u) → b ≠ x := fun b u q nm z => by subst z; rw [q] at mu; exact nm mu
  refine ⟨fun b u q n _ _ => k b u (hb b n) q, fun b u q n _ _ => ⟨u.slots, k b u (hb b n) q⟩, fun b u q n _ => by rw [upd_ne (hx b n)]; exact n, fun b u q _ => ?_,
    fun b xs q => by rw [upd_ne (hm b _ q fun z => z)]; exact q, fun b u xs q => by rw [upd_ne (hm b _ q fun z => z)]; exact q, fun b ps q => ⟨#[], by rw [upd_ne (hm b _ q fun z => z), q]; simp⟩⟩
  by_cases hbe : b = e
  · subst hbe; exact heo
  · exact ⟨u, k b u hbe q⟩
end

/-! ### the heap without what is tracked -/
noncomputable def trk (h : Heap) (H : Hp) : List Addr := (List.range h.objs.size).filter fun a => (H a).isSome
noncomputable def hidT (h : Heap) (H : Hp) : Heap := PySem.W.hideAll h (trk h H)
theorem hidT_size (h : Heap) (H : Hp) : (hidT h H).objs.size = h.objs.size := PySem.W.hideAll_size _ _
theorem hidT_get {h : Heap} {H : Hp} {b : Addr} {o : Obj} (e : h.get? b = some o) (n : H b = none) : (hidT h H).get? b = some o :=
  PySem.W.hideAll_get _ e fun hm => by
    have q : (H b).isSome = true := (List.mem_filter.mp hm).2
    rw [n] at q; simp at q
theorem of_hidT {h : Heap} {H : Hp} {b : Addr} {o : Obj} (e : (hidT h H).get? b = some o) : h.get? b = some o ∧ H b = none := by
  have e' : h.get? b = some o := PySem.W.of_hideAll (trk h H) e
  refine ⟨e', ?_⟩
  cases q : H b with
  | none => rfl
  | some x =>
    have hm : b ∈ trk h H := List.mem_filter.mpr ⟨List.mem_range.mpr (Heap.lt_size e'), by simp [q]⟩
    have z : (hidT h H).get? b = none := PySem.W.hideAll_none (trk h H) hm
    rw [z] at e; cases e

/-! ### OpenK's ledger, filled with every new object but one -/
noncomputable def allNews (g h : Heap) (L : Addr) : List (Addr × Obj) := (List.range h.objs.size).filterMap fun a => if a = L ∨ (g.get? a).isSome = true then none else (h.get? a).map fun o => (a, o)
noncomputable def rest (g h : Heap) (L d : Addr) : List (Addr × Obj) := (allNews g h L).filter fun p => decide (p.1 ≠ d)
end L2

namespace L2
open PySem PySem.Spec PyProof.Rows

/-- the module's facts, over the base: the heap at the law's entry without what is tracked there -/
structure Mod (K : PySem.W.Frag) (mg : Str → Option Value) (base : Heap) : Prop where
  kin : K.In base
  glob : base.Ns mainGlobals mg
  blt : ∃ mb, base.Ns builtinsNs mb ∧ ∀ x : Str, x ≠ "__name__" → mb x = bootBuiltins x
  nolimit : base.NoLimit

/-- the context: a def's body (or a comprehension's block) running. base: fixed through the whole law; s₀, H₀: the entry; outer: the frames whose slots others may change (a def's callers); stack: all frames that run;
   ex: iterators that were made ahead of the entry and are walked here (a comprehension's); fn: the names whose cells were made at the entry (a def: all; a comprehension's block: its own); calm: not within an except suite; pn: pins that every state bears; xe: what is wanted of an exception that leaves the code -/
structure Cx where
  prog : Program
  w : World
  K : PySem.W.Frag
  mg : Str → Option Value
  base : Heap
  A : Around
  N : List Str
  s₀ : Shared
  H₀ : Hp
  env : Env
  outer : List Env
  stack : List Env
  ex : List Addr
  fn : Str → Bool
  calm : Bool
  pn : List (Addr × Obj)
  xe : Value → Shared → Prop
/-- the callers' frames -/
noncomputable def frs (l : List Env) : List Addr := l.filterMap (·.frame)
noncomputable abbrev Cx.fs (X : Cx) : List Addr := frs X.outer

noncomputable def Vis (sc : Scope) (x : Str) : Prop := sc.names.lookup x = some .local ∨ sc.names.lookup x = some .cell ∨ sc.names.lookup x = some .free
noncomputable def Loc (sc : Scope) (x : Str) : Prop := sc.names.lookup x = some .local ∨ sc.names.lookup x = some .cell
noncomputable def Look (env : Env) (h : Heap) (m : Str → Option Value) (x : Str) (u : Value) : Prop :=
  (env.kindOf x = some .local ∧ m x = some u) ∨ ((env.kindOf x = some .cell ∨ env.kindOf x = some .free) ∧ ∃ c, env.cells.lookup x = some c ∧ h.IsCell c (some u))

structure Cx.Ok (X : Cx) : Prop where
  mod : Mod X.K X.mg X.base
  kind : X.env.scope.kind = .function
  glob : X.env.globals = mainGlobals
  blt : X.env.builtins = builtinsNs
  above : X.s₀.heap.objs.size ≤ X.env.locals
  inj : ∀ x y c, X.env.cells.lookup x = some c → X.env.cells.lookup y = some c → x = y
  has : ∀ x, (X.env.kindOf x = some .cell ∨ X.env.kindOf x = some .free) → ∃ c, X.env.cells.lookup x = some c
  cab : ∀ x c, X.fn x = true → X.env.cells.lookup x = some c → X.s₀.heap.objs.size ≤ c
  hd : X.calm = true → X.A.handled = none
  frames : X.A.frames = some X.stack
  stk : X.stack = X.outer ∨ (X.stack = X.env :: X.outer ∧ X.env.frame = some X.env.locals)
  exf : ∀ b ∈ X.ex, b ≠ X.env.locals ∧ ∀ x c, X.env.cells.lookup x = some c → c ≠ b
  bs : ∀ b o, X.base.get? b = some o → X.s₀.heap.get? b = some o ∧ X.H₀ b = none
  bsz : X.base.objs.size ≤ X.s₀.heap.objs.size
  noex : ∀ b o, X.base.get? b = some o → b ∉ X.ex
  exfs : ∀ b ∈ X.ex, b ∉ X.fs
  funs : X.s₀.heap.FunFrames X.base X.outer
  frf : ∀ b ∈ X.fs, X.H₀ b = none

structure Inv (X : Cx) (pins : List (Addr × Obj)) (σ : List (Option V)) (H : Hp) (s : Shared) : Prop where
  ok : X.Ok
  os : s.os = X.s₀.os
  bare : AllBare s.gens
  base : Un X.fs X.ex X.H₀ H X.s₀.heap s.heap
  loc : ∃ m, s.heap.Ns X.env.locals m ∧ ∀ (i : Nat) (x : Str) (v : V), X.N[i]? = some x → σ[i]? = some (some v) → Vis X.env.scope x → ∃ u, RelV v u ∧ Look X.env s.heap m x u
  cell : ∀ x c, X.env.cells.lookup x = some c → ∃ v, s.heap.IsCell c v
  free : H X.env.locals = none
  freeC : ∀ x c, X.env.cells.lookup x = some c → H c = none
  pin : ∀ p ∈ X.pn ++ pins, s.heap.get? p.1 = some p.2 ∧ H p.1 = none ∧ p.1 ≠ X.env.locals ∧ p.1 ∉ X.fs ∧ ∀ v, p.2.data ≠ .cell v
  hok : HOk X.prog X.w H s.heap
  len : σ.length = X.N.length

section
variable {X : Cx} {pins : List (Addr × Obj)} {σ : List (Option V)} {H H' : Hp} {s : Shared} {h' : Heap}

theorem Cx.Ok.nofr (ok : X.Ok) {b : Addr} {o : Obj} (e : X.base.get? b = some o) : b ∉ X.fs := fun hb => by
  have := (ok.funs.mem hb).1
  rw [e] at this; cases this
theorem Inv.bs (I : Inv X pins σ H s) : ∀ b o, X.base.get? b = some o → s.heap.get? b = some o ∧ H b = none := fun b o e =>
  ⟨I.base.keep b o (I.ok.bs b o e).1 (I.ok.bs b o e).2 (I.ok.nofr e) (I.ok.noex b o e), I.base.free b o (I.ok.bs b o e).1 (I.ok.bs b o e).2 (I.ok.noex b o e)⟩
theorem Inv.bk (I : Inv X pins σ H s) : ∀ b o, X.base.get? b = some o → s.heap.get? b = some o := fun b o e => (I.bs b o e).1
theorem Inv.mod (I : Inv X pins σ H s) : Mod X.K X.mg X.base := I.ok.mod
theorem Inv.kIn (I : Inv X pins σ H s) : X.K.In s.heap := I.ok.mod.kin.keeps I.bk
theorem Inv.lt (I : Inv X pins σ H s) : X.env.locals < s.heap.objs.size := let ⟨_, hn, _⟩ := I.loc; hn.lt
theorem Inv.sz (I : Inv X pins σ H s) : X.s₀.heap.objs.size ≤ s.heap.objs.size := Nat.le_trans I.ok.above (Nat.le_of_lt I.lt)
theorem Inv.nofs (I : Inv X pins σ H s) {a : Addr} (h : s.heap.objs.size ≤ a) : a ∉ X.fs := fun hb => by
  obtain ⟨_, o, ho, _⟩ := I.ok.funs.mem hb
  exact absurd (Nat.lt_of_lt_of_le (Heap.lt_size ho) (Nat.le_trans I.sz h)) (Nat.lt_irrefl _)
theorem Inv.cne (I : Inv X pins σ H s) : ∀ x c, X.env.cells.lookup x = some c → c ≠ X.env.locals := fun x c e z => by
  obtain ⟨v, o, ho, hd⟩ := I.cell x c e
  obtain ⟨m, ⟨o', es, ep, ho', hd', _⟩, _⟩ := I.loc
  rw [z, ho'] at ho; cases ho; rw [hd'] at hd; cases hd
theorem Inv.funs (I : Inv X pins σ H s) : s.heap.FunFrames X.base X.outer := by
  have all : ∀ (l : List Env), (∀ b ∈ frs l, b ∈ X.fs) → X.s₀.heap.FunFrames X.base l → s.heap.FunFrames X.base l := by
    intro l
    induction l with
    | nil => intro _ _; trivial
    | cons env r ih =>
      intro hs hl
      obtain ⟨hk, ⟨L, o, hf, hn, ho, hd⟩, hr⟩ := hl
      have hL : L ∈ X.fs := hs L (by unfold frs; rw [List.filterMap_cons, hf]; exact List.mem_cons_self)
      obtain ⟨sl, e⟩ := I.base.slot L o ho (I.ok.frf L hL) hL fun z => I.ok.exfs L z hL
      exact ⟨hk, ⟨L, _, hf, hn, e, hd⟩, ih (fun b hb => hs b (by unfold frs; rw [List.filterMap_cons, hf]; exact List.mem_cons_of_mem _ hb)) hr⟩
  exact all X.outer (fun _ hb => hb) I.ok.funs

/-- the frames that run, for a call -/
theorem Inv.stack (I : Inv X pins σ H s) : s.heap.FunFrames X.base X.stack := by
  rcases I.ok.stk with e | ⟨e, hf⟩
  · rw [e]; exact I.funs
  · rw [e]
    obtain ⟨m, hn, _⟩ := I.loc
    refine .cons (by rw [I.ok.kind]; decide) hf hn ?_ I.funs
    exact Heap.get?_none_of_le (Nat.le_trans I.ok.bsz I.ok.above)
theorem Inv.stkSub (I : Inv X pins σ H s) : ∀ b ∈ frs X.stack, b ∈ X.env.locals :: X.fs := fun b hb => by
  rcases I.ok.stk with e | ⟨e, hf⟩
  · rw [e] at hb; exact List.mem_cons_of_mem _ hb
  · rw [e] at hb
    unfold frs at hb
    rw [List.filterMap_cons, hf] at hb
    exact hb
theorem Inv.stkFree (I : Inv X pins σ H s) : ∀ b ∈ frs X.stack, H b = none := fun b hb => by
  rcases List.mem_cons.mp (I.stkSub b hb) with e | hb
  · rw [e]; exact I.free
  · obtain ⟨_, o, ho, _⟩ := I.ok.funs.mem hb
    exact I.base.free b o ho (I.ok.frf b hb) fun z => I.ok.exfs b z hb

/-- THE STEP: the untracked objects but the frame and the records at ch are kept (the callers' frames up to slots), the frame's map is kept, the new abstract heap is held -/
theorem Inv.step {g' : Array GenState} {t' : Nat} {d' : Drawn} {ch : List Addr} (I : Inv X pins σ H s)
    (hch : ∀ b ∈ ch, (b ∈ X.ex ∨ X.s₀.heap.objs.size ≤ b) ∧ b ≠ X.env.locals ∧ (∀ x c, X.env.cells.lookup x = some c → c ≠ b) ∧ ∀ p ∈ X.pn ++ pins, p.1 ≠ b)
    (keep : ∀ b o, b ≠ X.env.locals → b ∉ X.fs → b ∉ ch → s.heap.get? b = some o → H b = none → h'.get? b = some o)
    (slot : ∀ b o, b ≠ X.env.locals → b ∈ X.fs → b ∉ ch → s.heap.get? b = some o → H b = none → ∃ sl, h'.get? b = some { o with slots := sl }) (free : ∀ b o, b ∉ ch → s.heap.get? b = some o → H b = none → H' b = none)
    (there : ∀ b o, b ∉ ch → s.heap.get? b = some o → ∃ o', h'.get? b = some o')
    (tups : ∀ b xs, H b = some (.tup xs) → H' b = some (.tup xs)) (frzs : ∀ b o u, H b = some (.frz o u) → H' b = some (.frz o u)) (tbls : ∀ b ps, H b = some (.tbl ps) → ∃ more, H' b = some (.tbl (ps ++ more)))
    (ns : ∀ m, s.heap.Ns X.env.locals m → h'.Ns X.env.locals m) (hok : HOk X.prog X.w H' h') (hg : AllBare g') :
    Inv X pins σ H' { s with heap := h', gens := g', drawn := d', toks := t' } := by
  have neL : ∀ b o, X.s₀.heap.get? b = some o → b ≠ X.env.locals := fun b o e => Nat.ne_of_lt (Nat.lt_of_lt_of_le (Heap.lt_size e) I.ok.above)
  have neC : ∀ b o, X.s₀.heap.get? b = some o → b ∉ X.ex → b ∉ ch := fun b o e hx hb => by
    rcases (hch b hb).1 with z | z
    · exact hx z
    · exact absurd (Nat.lt_of_lt_of_le (Heap.lt_size e) z) (Nat.lt_irrefl _)
  have cellK : ∀ x c, X.env.cells.lookup x = some c → ∀ v, s.heap.IsCell c v → h'.IsCell c v := fun x c e v ⟨o, ho, hd⟩ => by
    have nch : c ∉ ch := fun z => (hch c z).2.2.1 x c e rfl
    by_cases hc : c ∈ X.fs
    · obtain ⟨sl, q⟩ := slot c o (I.cne x c e) hc nch ho (I.freeC x c e)
      exact ⟨_, q, hd⟩
    · exact ⟨o, keep c o (I.cne x c e) hc nch ho (I.freeC x c e), hd⟩
  refine ⟨I.ok, I.os, hg, ⟨fun b o e n hb hx => ?_, fun b o e n hb hx => ?_, fun b o e n hx => ?_, fun b o e hx => ?_, fun b xs e => tups b xs (I.base.tups b xs e), fun b o xs e => frzs b o xs (I.base.frzs b o xs e), fun b ps e => ?_⟩, ?_, fun x c e => ?_, ?_, fun x c e => ?_, fun p hp => ?_, hok, I.len⟩
  · exact keep b o (neL b o e) hb (neC b o e hx) (I.base.keep b o e n hb hx) (I.base.free b o e n hx)
  · obtain ⟨sl, e1⟩ := I.base.slot b o e n hb hx
    obtain ⟨sl', e2⟩ := slot b _ (neL b o e) hb (neC b o e hx) e1 (I.base.free b o e n hx)
    exact ⟨sl', e2⟩
  · obtain ⟨o', e1⟩ := I.base.there b o e hx
    exact free b o' (neC b o e hx) e1 (I.base.free b o e n hx)
  · obtain ⟨o', e1⟩ := I.base.there b o e hx
    exact there b o' (neC b o e hx) e1
  · obtain ⟨m1, e1⟩ := I.base.tbls b ps e
    obtain ⟨m2, e2⟩ := tbls b _ e1
    exact ⟨m1 ++ m2, by rw [e2, Array.append_assoc]⟩
  · obtain ⟨m, hn, hl⟩ := I.loc
    refine ⟨m, ns m hn, fun i x v e1 e2 e3 => ?_⟩
    obtain ⟨u, r, l⟩ := hl i x v e1 e2 e3
    refine ⟨u, r, ?_⟩
    rcases l with l | ⟨k, c, e, z⟩
    · exact .inl l
    · exact .inr ⟨k, c, e, cellK x c e _ z⟩
  · obtain ⟨v, z⟩ := I.cell x c e
    exact ⟨v, cellK x c e v z⟩
  · obtain ⟨m, ⟨o, _, _, ho, _⟩, _⟩ := I.loc
    exact free _ o (fun z => (hch _ z).2.1 rfl) ho I.free
  · obtain ⟨v, o, ho, hd⟩ := I.cell x c e
    exact free c o (fun z => (hch c z).2.2.1 x c e rfl) ho (I.freeC x c e)
  · obtain ⟨e, n, ne, nf, d⟩ := I.pin p hp
    have nch : p.1 ∉ ch := fun z => (hch p.1 z).2.2.2 p hp rfl
    exact ⟨keep p.1 p.2 ne nf nch e n, free p.1 p.2 nch e n, ne, nf, d⟩
/-- .. where the frame's own object is kept too -/
theorem Inv.un {t' : Nat} (I : Inv X pins σ H s) (u : Un X.fs [] H H' s.heap h') (hok : HOk X.prog X.w H' h') : Inv X pins σ H' { s with heap := h', toks := t' } := by
  obtain ⟨m, ⟨o, es, ep, ho, r⟩, _⟩ := id I.loc
  obtain ⟨sl, hL⟩ := u.any ho I.free (by simp)
  exact I.step (g' := s.gens) (d' := s.drawn) (ch := []) (fun _ z => nomatch z) (fun b o _ hb _ e n => u.keep b o e n hb (by simp)) (fun b o _ hb _ e n => u.slot b o e n hb (by simp)) (fun b o _ e n => u.free b o e n (by simp)) (fun b o _ e => u.there b o e (by simp)) u.tups u.frzs u.tbls (fun m' hm => by
    obtain ⟨o', es', ep', ho', r'⟩ := hm
    rw [ho] at ho'; cases ho'
    exact ⟨_, es', ep', hL, r'⟩) hok I.bare
/-- behind a call (or a comprehension's block): the slots of this frame may have changed too, the records at ch may have turned -/
theorem Inv.call {g' : Array GenState} {t' : Nat} {d' : Drawn} {ch : List Addr} (I : Inv X pins σ H s) (u : Un (frs X.stack) ch H H' s.heap h') (hok : HOk X.prog X.w H' h') (hg : AllBare g')
    (hch : ∀ b ∈ ch, (b ∈ X.ex ∨ X.s₀.heap.objs.size ≤ b) ∧ b ≠ X.env.locals ∧ (∀ x c, X.env.cells.lookup x = some c → c ≠ b) ∧ ∀ p ∈ X.pn ++ pins, p.1 ≠ b) :
    Inv X pins σ H' { s with heap := h', gens := g', drawn := d', toks := t' } := by
  obtain ⟨m, ⟨o, es, ep, ho, r⟩, _⟩ := id I.loc
  obtain ⟨sl, hL⟩ := u.any ho I.free fun z => (hch _ z).2.1 rfl
  exact I.step (ch := ch) hch (fun b o hL hb hc e n => u.keep b o e n (fun z => (List.mem_cons.mp (I.stkSub b z)).elim hL hb) hc) (fun b o _ _ hc e n => u.any e n hc) (fun b o hc e n => u.free b o e n hc) (fun b o hc e => u.there b o e hc) u.tups u.frzs u.tbls (fun m' hm => by
    obtain ⟨o', es', ep', ho', r'⟩ := hm
    rw [ho] at ho'; cases ho'
    exact ⟨_, es', ep', hL, r'⟩) hok hg
/-- an untracked record of ours (an iterator) has turned -/
theorem Inv.turned {t' : Nat} {it : Addr} (I : Inv X pins σ H s) (k : ∀ b o, b ≠ it → s.heap.get? b = some o → h'.get? b = some o) (hn : H it = none) (hL : it ≠ X.env.locals)
    (h1 : it ∈ X.ex ∨ X.s₀.heap.objs.size ≤ it) (h2 : ∀ x c, X.env.cells.lookup x = some c → c ≠ it) (h3 : ∀ p ∈ X.pn ++ pins, p.1 ≠ it) : Inv X pins σ H { s with heap := h', toks := t' } := by
  have nit : ∀ b u, H b = some u → b ≠ it := fun b u e z => by rw [z, hn] at e; cases e
  refine I.step (g' := s.gens) (d' := s.drawn) (ch := [it]) (fun b hb => ?_) (fun b o _ _ hc e _ => k b o (fun z => hc (by simp [z])) e) (fun b o _ _ hc e _ => ⟨o.slots, k b o (fun z => hc (by simp [z])) e⟩) (fun _ _ _ _ n => n)
    (fun b o hc e => ⟨o, k b o (fun z => hc (by simp [z])) e⟩) (fun _ _ e => e) (fun _ _ _ e => e) (fun b ps e => ⟨#[], by rw [e]; simp⟩) (fun m hm => ?_) (fun b u e => ?_) I.bare
  · have e : b = it := by simpa using hb
    subst e
    exact ⟨h1, hL, h2, h3⟩
  · obtain ⟨o, es, ep, ho, r⟩ := hm
    exact ⟨o, es, ep, k _ o (Ne.symm hL) ho, r⟩
  · refine (I.hok b u e).stay (fun c v hc q => k c v ?_ q) (fun _ q => q) fun _ _ q => q
    rcases hc with z | z
    · rw [z]; exact nit b u e
    · exact nit c _ z
theorem Inv.tok (I : Inv X pins σ H s) (t : Nat) : Inv X pins σ H { s with toks := t } := I.un (h' := s.heap) (t' := t) Un.refl I.hok
/-- all objects kept -/
theorem Inv.kept {t' : Nat} (I : Inv X pins σ H s) (k : ∀ b u, s.heap.get? b = some u → h'.get? b = some u) : Inv X pins σ H { s with heap := h', toks := t' } := I.un (Un.kept k) (I.hok.kept k)
/-- a new object laid and tracked -/
theorem Inv.laid {a : Addr} {o : HO} {t' : Nat} (I : Inv X pins σ H s) (k : ∀ b u, s.heap.get? b = some u → h'.get? b = some u) (hp : s.heap.objs.size ≤ a) (new : ObjOk X.prog X.w (upd H a o) h' a o) :
    Inv X pins σ (upd H a o) { s with heap := h', toks := t' } := I.un (Un.laid k hp (I.hok.fresh hp)) (I.hok.laid k hp new)
/-- an object written -/
theorem Inv.write {x e : Addr} {o : HO} {t' : Nat} (I : Inv X pins σ H s) (mu : Mut (H x)) (he : e = x ∨ H e = some (.own x)) (k : ∀ b u, b ≠ e → s.heap.get? b = some u → h'.get? b = some u) (heo : ∃ u, h'.get? e = some u)
    (new : ObjOk X.prog X.w (upd H x o) h' x o) : Inv X pins σ (upd H x o) { s with heap := h', toks := t' } := I.un (Un.write mu he k heo) (I.hok.write mu he k heo new)
theorem Inv.pins_of {pins' : List (Addr × Obj)} (I : Inv X pins σ H s) (h : ∀ p ∈ pins', s.heap.get? p.1 = some p.2 ∧ H p.1 = none ∧ p.1 ≠ X.env.locals ∧ p.1 ∉ X.fs ∧ ∀ v, p.2.data ≠ .cell v) : Inv X pins' σ H s :=
  ⟨I.ok, I.os, I.bare, I.base, I.loc, I.cell, I.free, I.freeC, fun p hp => (List.mem_append.mp hp).elim (fun z => I.pin p (List.mem_append_left _ z)) (h p), I.hok, I.len⟩

theorem nodup_ix {N : List Str} (hN : N.Nodup) {i j : Nat} {x : Str} (a : N[i]? = some x) (b : N[j]? = some x) : i = j := by
  obtain ⟨h1, e1⟩ := List.getElem?_eq_some_iff.mp a
  obtain ⟨h2, e2⟩ := List.getElem?_eq_some_iff.mp b
  exact (List.getElem_inj hN).mp (e1.trans e2.symm)

/-- a name is stored; what changed -/
theorem store_ok2 {M : Model} {A : Around} {E : Value → Shared → Prop} {i : Nat} {x : Str} {v : V} {u : Value} {Q : Unit → Shared → Prop} (I : Inv X pins σ H s) (hN : X.N.Nodup) (hi : X.N[i]? = some x) (hx : Loc X.env.scope x) (r : RelV v u)
    (h : ∀ s', Inv X pins (σ.set i (some v)) H s' → (∃ a, Heap.SameBut a s.heap s'.heap ∧ (a = X.env.locals ∨ X.env.cells.lookup x = some a)) → Q () s') (hf : X.fn x = true ∨ X.env.scope.names.lookup x = some .local := by first | exact .inl rfl | exact .inr rfl | assumption) : wpAny M A (storeName X.env x u) Q E s := by
  obtain ⟨m, hn, hl⟩ := id I.loc
  have hcls : (X.env.scope.kind == .class || (X.env.scope.kind == .module && X.env.locals != X.env.globals)) = false := by rw [I.ok.kind]; rfl
  have hiσ : i < σ.length := by rw [I.len]; exact (List.getElem?_eq_some_iff.mp hi).1
  have cne := I.cne
  have tracked : ∀ {a : Addr} {h' : Heap}, (∃ o, s.heap.get? a = some o ∧ H a = none) → Heap.SameBut a s.heap h' → HOk X.prog X.w H h' := fun {a h'} ha hs b ob e => by
    obtain ⟨_, _, hfree⟩ := ha
    refine (I.hok b ob e).stay (fun c w' hc q => (hs.2 c ?_).trans q) (fun _ q => q) fun _ _ q => q
    rintro rfl
    rcases hc with rfl | hc
    · rw [hfree] at e; cases e
    · rw [hfree] at hc; cases hc
  rcases hx with hk | hk
  · refine wpAny_storeName_local hk hn (fun h' hn' hs => ?_) hcls
    obtain ⟨oL, _, _, hoL, _⟩ := id hn
    refine h _ ⟨I.ok, I.os, I.bare, ⟨fun b o e n hb hx => ?_, fun b o e n hb hx => ?_, I.base.free, fun b o e hx => ?_, I.base.tups, I.base.frzs, I.base.tbls⟩, ⟨_, hn', fun j y v' e1 e2 e3 => ?_⟩, fun y c e => ?_, I.free, I.freeC, fun p hp => ?_, tracked ⟨oL, hoL, I.free⟩ hs, by simpa using I.len⟩ ⟨_, hs, .inl rfl⟩
    · exact (hs.2 b (Nat.ne_of_lt (Nat.lt_of_lt_of_le (Heap.lt_size e) I.ok.above))).trans (I.base.keep b o e n hb hx)
    · obtain ⟨sl, e1⟩ := I.base.slot b o e n hb hx
      exact ⟨sl, (hs.2 b (Nat.ne_of_lt (Nat.lt_of_lt_of_le (Heap.lt_size e) I.ok.above))).trans e1⟩
    · obtain ⟨o', e1⟩ := I.base.there b o e hx
      exact ⟨o', (hs.2 b (Nat.ne_of_lt (Nat.lt_of_lt_of_le (Heap.lt_size e) I.ok.above))).trans e1⟩
    · by_cases hj : j = i
      · subst hj
        rw [hi] at e1; cases e1
        rw [List.getElem?_set_self hiσ] at e2
        cases e2
        exact ⟨u, r, .inl ⟨hk, by simp⟩⟩
      · rw [List.getElem?_set_ne (Ne.symm hj)] at e2
        obtain ⟨u', r', q⟩ := hl j y v' e1 e2 e3
        refine ⟨u', r', ?_⟩
        rcases q with ⟨k, e⟩ | ⟨k, c, e, z⟩
        · refine .inl ⟨k, ?_⟩
          have : y ≠ x := fun e => hj (nodup_ix hN e1 (e ▸ hi))
          simp [this, e]
        · exact .inr ⟨k, c, e, z.sameBut hs (cne y c e)⟩
    · obtain ⟨w', z⟩ := I.cell y c e
      exact ⟨w', z.sameBut hs (cne y c e)⟩
    · obtain ⟨e, n, ne, nf, d⟩ := I.pin p hp
      exact ⟨(hs.2 p.1 ne).trans e, n, ne, nf, d⟩
  · have hfn : X.fn x = true := by
      rcases hf with z | z
      · exact z
      · rw [z] at hk; cases hk
    obtain ⟨c, hc⟩ := I.ok.has x (.inl hk)
    obtain ⟨w', z⟩ := I.cell x c hc
    refine wpAny_storeName_cell I.ok.kind hk hc z (fun h' hc' hs => ?_)
    obtain ⟨oc, hoc, hocd⟩ := id z
    refine h { s with heap := h' } ⟨I.ok, I.os, I.bare, ⟨fun b o e n hb hx => ?_, fun b o e n hb hx => ?_, I.base.free, fun b o e hx => ?_, I.base.tups, I.base.frzs, I.base.tbls⟩, ⟨m, hn.sameBut hs (Ne.symm (cne x c hc)), fun j y v' e1 e2 e3 => ?_⟩, fun y c' e => ?_, I.free, I.freeC, fun p hp => ?_, tracked ⟨oc, hoc, I.freeC x c hc⟩ hs, by simpa using I.len⟩ ⟨c, hs, .inr hc⟩
    · exact (hs.2 b (Nat.ne_of_lt (Nat.lt_of_lt_of_le (Heap.lt_size e) (I.ok.cab x c hfn hc)))).trans (I.base.keep b o e n hb hx)
    · obtain ⟨sl, e1⟩ := I.base.slot b o e n hb hx
      exact ⟨sl, (hs.2 b (Nat.ne_of_lt (Nat.lt_of_lt_of_le (Heap.lt_size e) (I.ok.cab x c hfn hc)))).trans e1⟩
    · obtain ⟨o', e1⟩ := I.base.there b o e hx
      exact ⟨o', (hs.2 b (Nat.ne_of_lt (Nat.lt_of_lt_of_le (Heap.lt_size e) (I.ok.cab x c hfn hc)))).trans e1⟩
    · by_cases hj : j = i
      · subst hj
        rw [hi] at e1; cases e1
        rw [List.getElem?_set_self hiσ] at e2
        cases e2
        exact ⟨u, r, .inr ⟨.inl hk, c, hc, hc'⟩⟩
      · rw [List.getElem?_set_ne (Ne.symm hj)] at e2
        obtain ⟨u', r', q⟩ := hl j y v' e1 e2 e3
        refine ⟨u', r', ?_⟩
        rcases q with q | ⟨k, c', e, z'⟩
        · exact .inl q
        · refine .inr ⟨k, c', e, z'.sameBut hs ?_⟩
          rintro rfl
          exact hj (nodup_ix hN e1 (I.ok.inj _ _ _ e hc ▸ hi))
    · by_cases hcc : c' = c
      · subst hcc; exact ⟨_, hc'⟩
      · obtain ⟨w2, z2⟩ := I.cell y c' e
        exact ⟨w2, z2.sameBut hs hcc⟩
    · obtain ⟨e, n, ne, nf, d⟩ := I.pin p hp
      refine ⟨(hs.2 p.1 ?_).trans e, n, ne, nf, d⟩
      intro q
      rw [q, hoc] at e
      have q' : oc = p.2 := Option.some.inj e
      exact d w' (by rw [← q']; exact hocd)
theorem store_ok {M : Model} {A : Around} {E : Value → Shared → Prop} {i : Nat} {x : Str} {v : V} {u : Value} {Q : Unit → Shared → Prop} (I : Inv X pins σ H s) (hN : X.N.Nodup) (hi : X.N[i]? = some x) (hx : Loc X.env.scope x) (r : RelV v u)
    (h : ∀ s', Inv X pins (σ.set i (some v)) H s' → Q () s') (hf : X.fn x = true ∨ X.env.scope.names.lookup x = some .local := by first | exact .inl rfl | exact .inr rfl | assumption) : wpAny M A (storeName X.env x u) Q E s :=
  store_ok2 I hN hi hx r (fun s' I' _ => h s' I') hf
/-- behind a call or a block, the state as it is -/
theorem Inv.call' {s' : Shared} {ch : List Addr} (I : Inv X pins σ H s) (ho : s'.os = s.os) (u : Un (frs X.stack) ch H H' s.heap s'.heap) (hok : HOk X.prog X.w H' s'.heap) (hg : AllBare s'.gens)
    (hch : ∀ b ∈ ch, (b ∈ X.ex ∨ X.s₀.heap.objs.size ≤ b) ∧ b ≠ X.env.locals ∧ (∀ x c, X.env.cells.lookup x = some c → c ≠ b) ∧ ∀ p ∈ X.pn ++ pins, p.1 ≠ b) : Inv X pins σ H' s' := by
  obtain ⟨h', g', d', t', o'⟩ := s'
  have e : o' = s.os := ho
  subst e
  exact I.call (g' := g') (t' := t') (d' := d') u hok hg hch
end

/-! ### the judgements -/
/-- an exception: its class, its own dict's address (where it has one), the abstract heap behind it -/
noncomputable abbrev XK := Value → Option Addr → Hp → Prop
noncomputable abbrev St := List (Option V)
noncomputable abbrev VK := V → Hp → Prop
/-- an expression's reading; a test's; an argument list's -/
noncomputable abbrev TE := St → Hp → VK → Prop
noncomputable abbrev TT := St → Hp → (Bool → Hp → Prop) → Prop
noncomputable abbrev TA := St → Hp → (List V → Hp → Prop) → Prop
/-- what is wanted behind a statement -/
structure Ends where
  nx : St → Hp → Prop
  rt : VK
  bk : St → Hp → Prop := fun _ _ => False
  ct : St → Hp → Prop := fun _ _ => False
noncomputable abbrev TS := Ends → St → Hp → Prop

noncomputable def EP (X : Cx) (pins : List (Addr × Obj)) (σ : St) (Q : VK) (u : Value) (s' : Shared) : Prop := ∃ v H', Inv X pins σ H' s' ∧ RelV v u ∧ Q v H'
noncomputable def TP (X : Cx) (pins : List (Addr × Obj)) (σ : St) (Q : Bool → Hp → Prop) (b : Bool) (s' : Shared) : Prop := ∃ H', Inv X pins σ H' s' ∧ Q b H'
noncomputable def AP (X : Cx) (pins : List (Addr × Obj)) (σ : St) (Q : List V → Hp → Prop) (us : List Value) (s' : Shared) : Prop := ∃ vs H', Inv X pins σ H' s' ∧ Vals vs us ∧ Q vs H'
noncomputable def SP (X : Cx) (pins : List (Addr × Obj)) (D : Ends) (f : Flow) (s' : Shared) : Prop :=
  match f with
  | .next => ∃ σ' H', Inv X pins σ' H' s' ∧ D.nx σ' H'
  | .brk => ∃ σ' H', Inv X pins σ' H' s' ∧ D.bk σ' H'
  | .cont => ∃ σ' H', Inv X pins σ' H' s' ∧ D.ct σ' H'
  | .ret u => ∃ v σ' H', Inv X pins σ' H' s' ∧ RelV v u ∧ D.rt v H'

noncomputable def PE (X : Cx) (e : Expr) (t : TE) : Prop :=
  ∀ (pins : List (Addr × Obj)) (s : Shared) (σ : St) (H : Hp) (Q : VK), Inv X pins σ H s → t σ H Q → wpAny (model X.prog X.w) X.A (eval e X.env) (EP X pins σ Q) X.xe s
noncomputable def PT (X : Cx) (e : Expr) (t : TT) : Prop :=
  ∀ (pins : List (Addr × Obj)) (s : Shared) (σ : St) (H : Hp) (Q : Bool → Hp → Prop), Inv X pins σ H s → t σ H Q → wpAny (model X.prog X.w) X.A (isTrue e X.env (eval e X.env)) (TP X pins σ Q) X.xe s
/-- a test whatever its 'whole' is (and, or) -/
noncomputable def PW (X : Cx) (e : Expr) (t : TT) : Prop :=
  ∀ (whole : Sem Value) (pins : List (Addr × Obj)) (s : Shared) (σ : St) (H : Hp) (Q : Bool → Hp → Prop), Inv X pins σ H s → t σ H Q → wpAny (model X.prog X.w) X.A (isTrue e X.env whole) (TP X pins σ Q) X.xe s
theorem PW.pt {X : Cx} {e : Expr} {t : TT} (h : PW X e t) : PT X e t := h _
/-- an argument list (no star), from the left -/
noncomputable def PA (X : Cx) (es : List Expr) (t : TA) : Prop :=
  ∀ (pos : Pos) (pins : List (Addr × Obj)) (s : Shared) (σ : St) (H : Hp) (Q : List V → Hp → Prop), Inv X pins σ H s → t σ H Q → wpAny (model X.prog X.w) X.A (spliced (backTo pos (starEach es X.env))) (AP X pins σ Q) X.xe s
noncomputable def PS (X : Cx) (st : Stmt) (t : TS) : Prop :=
  ∀ (pins : List (Addr × Obj)) (s : Shared) (σ : St) (H : Hp) (D : Ends), Inv X pins σ H s → t D σ H → wpAny (model X.prog X.w) X.A (exec st X.env) (SP X pins D) X.xe s
noncomputable def PSs (X : Cx) (st : List Stmt) (t : TS) : Prop :=
  ∀ (pins : List (Addr × Obj)) (s : Shared) (σ : St) (H : Hp) (D : Ends), Inv X pins σ H s → t D σ H → wpAny (model X.prog X.w) X.A (execs st X.env) (SP X pins D) X.xe s
/-- weaken the end -/
theorem thn {α : Type} {t : Sem α} {Q Q' : α → Shared → Prop} {M : Model} {A : Around} {E : Value → Shared → Prop} {s : Shared} (h : wpAny M A t Q E s) (hQ : ∀ a s, Q a s → Q' a s) : wpAny M A t Q' E s := wpAny_mono h hQ fun _ _ x => x
end L2

namespace L2
open PySem PySem.Spec PyProof.Rows
section
variable {X : Cx}

/-! ### names and constants -/
noncomputable def tVar (i : Nat) : TE := fun σ H Q => ∃ v, σ[i]? = some (some v) ∧ Q v H
noncomputable def tC (v : V) : TE := fun _ H Q => Q v H
theorem pe_var {i : Nat} {x : Str} {pos : Pos} (hN : X.N[i]? = some x) (hv : Vis X.env.scope x) (hd : (x == ("__debug__" : Str)) = false := by decide) (hcd : (x == ("__classdict__" : Str)) = false := by decide) : PE X (.Name x pos) (tVar i) := by
  intro pins s σ H Q I h
  obtain ⟨v, e, h⟩ := h
  obtain ⟨m, hn, hl⟩ := I.loc
  obtain ⟨u, r, l⟩ := hl i x v hN e hv
  have fin : EP X pins σ Q u s := ⟨v, H, I, r, h⟩
  rcases l with ⟨hk, hm⟩ | ⟨hk, c, hc, hcell⟩
  · exact wpAny_Name (wpAny_loadName_local I.ok.kind hk hn hm fin) hd
  · rcases hk with hk | hk
    · exact wpAny_Name (wpAny_loadName_cell I.ok.kind hk hc hcell fin) hd
    · exact wpAny_Name (wpAny_loadName_free I.ok.kind hk hc hcell fin hcd) hd
theorem pe_int {i j pos} : PE X (.Constant (.int i) j pos) (tC (.int i)) := fun _ _ _ H _ I h => wpAny_Constant_int ⟨.int i, H, I.tok _, ⟨_, rfl⟩, h⟩
theorem pe_bl {b j pos} : PE X (.Constant (.bool b) j pos) (tC (.bl b)) := fun _ _ _ H _ I h => Constant_bool ⟨.bl b, H, I, rfl, h⟩
theorem pe_str {x j pos} : PE X (.Constant (.str x) j pos) (tC (.str x)) := fun _ _ _ H _ I h => Calls.Constant_str ⟨.str x, H, I.tok _, ⟨_, rfl⟩, h⟩

/-- a global name of the def -/
noncomputable def Gl (X : Cx) (x : Str) : Prop := X.env.kindOf x = some .globalImplicit
theorem ld_glob {E : Value → Shared → Prop} {pins : List (Addr × Obj)} {s : Shared} {σ : St} {H : Hp} {x : Str} {u : Value} {pos : Pos} {Q : Value → Shared → Prop} (I : Inv X pins σ H s) (hg : Gl X x) (hm : X.mg x = some u) (h : Q u s)
    (hd : (x == ("__debug__" : Str)) = false := by decide) : wpAny (model X.prog X.w) X.A (eval (.Name x pos) X.env) Q E s :=
  Calls.Name_function_global I.ok.kind hg (Calls.loadGlobal_global (by rw [I.ok.glob]; exact I.mod.glob.keeps I.bk) hm h) hd
theorem ld_blt {E : Value → Shared → Prop} {pins : List (Addr × Obj)} {s : Shared} {σ : St} {H : Hp} {x : Str} {u : Value} {pos : Pos} {Q : Value → Shared → Prop} (I : Inv X pins σ H s) (hg : Gl X x) (hm : X.mg x = none) (hv : bootBuiltins x = some u) (h : Q u s)
    (hn : x ≠ "__name__" := by decide) (hd : (x == ("__debug__" : Str)) = false := by decide) : wpAny (model X.prog X.w) X.A (eval (.Name x pos) X.env) Q E s := by
  obtain ⟨mb, h1, h2⟩ := I.mod.blt
  exact Calls.Name_function_global I.ok.kind hg (Calls.loadGlobal_builtin (by rw [I.ok.glob]; exact I.mod.glob.keeps I.bk) hm (by rw [I.ok.blt]; exact h1.keeps I.bk) ((h2 x hn).trans hv) h) hd
/-- a module's constant, a class, a function, as a value -/
theorem pe_glob {x : Str} {v : V} {u : Value} {pos : Pos} (hg : Gl X x) (hm : X.mg x = some u) (r : RelV v u) (hd : (x == ("__debug__" : Str)) = false := by decide) : PE X (.Name x pos) (tC v) :=
  fun _ _ _ H _ I h => ld_glob I hg hm ⟨v, H, I, r, h⟩ hd
theorem pe_bltn {x : Str} {v : V} {u : Value} {pos : Pos} (hg : Gl X x) (hm : X.mg x = none) (hv : bootBuiltins x = some u) (r : RelV v u) (hn : x ≠ "__name__" := by decide) (hd : (x == ("__debug__" : Str)) = false := by decide) : PE X (.Name x pos) (tC v) :=
  fun _ _ _ H _ I h => ld_blt I hg hm hv ⟨v, H, I, r, h⟩ hn hd

/-! ### arithmetic -/
variable {a b : Expr} {ta tb : TE} {pos : Pos}
/-! ### comparisons -/
/-- a comparison as a value, as a test -/
noncomputable def tB (t : TE) : TT := fun σ H Q => t σ H fun x H1 => ∃ c, x = .bl c ∧ Q c H1
/-- an expression whose value is a bool, as a test -/
theorem pt_val {e : Expr} {t : TE} (h : PE X e t) (he : ∀ whole, isTrue e X.env whole = (do let v ← whole; standAt e.pos; holding [v] (truthy v)) := by intro _; rfl) : PT X e (tB t) := by
  intro pins s σ H Q I hw
  refine isTrue_plain (thn (h pins s σ H _ I hw) fun v s1 ⟨x, H1, I1, r1, q1⟩ => ?_) (he _)
  obtain ⟨d, rfl, q⟩ := q1
  cases r1
  exact wpAny_truthy_bool ⟨H1, I1, q⟩

/-! ### and, or, not -/
variable {tA tB' : TT} {rest : List Expr}
noncomputable def tOr (t u : TT) : TT := fun σ H Q => t σ H fun c H1 => if c = true then Q true H1 else u σ H1 Q
noncomputable def tNot (t : TT) : TT := fun σ H Q => t σ H fun c H1 => Q (!c) H1
theorem pw_or1 (ha : PT X a tA) : PW X (.BoolOp .Or [a] pos) tA := by
  intro wh pins s σ H Q I h
  refine isTrue_or (thn (ha pins s σ H Q I h) fun c s1 e => ?_)
  cases c with
  | false => exact isTrue_or_nil e
  | true => exact e
theorem pw_or (ha : PT X a tA) (hb : PW X (.BoolOp .Or (b :: rest) pos) tB') : PW X (.BoolOp .Or (a :: b :: rest) pos) (tOr tA tB') := by
  intro wh pins s σ H Q I h
  refine isTrue_or (thn (ha pins s σ H _ I h) fun c s1 hh_ => ?_)
  obtain ⟨H1, I1, q1⟩ := hh_
  cases c with
  | true => exact ⟨H1, I1, q1⟩
  | false => exact hb wh pins s1 σ H1 Q I1 q1
theorem pt_not (ha : PT X a tA) : PT X (.UnaryOp .Not a pos) (tNot tA) := by
  intro pins s σ H Q I h
  exact isTrue_not (ha pins s σ H (fun c H1 => Q (!c) H1) I h)
end
end L2

namespace L2
open PySem PySem.Spec PyProof.Rows

/-! ### a list, a tuple that is read: tracked, frozen, or an object of the module -/
noncomputable def SqL (K : PySem.W.Frag) (H : Hp) (a : Addr) (xs : List V) : Prop :=
  Rd H a (.lst xs) ∨
    ∃ (o : Obj) (its : Array Value) (n : Nat), K.lookup a = some o ∧ o.cls = .type "list" ∧ o.dict = none ∧ o.data = .seq its n ∧ its.size ≤ sizeLine ∧ Vals xs its.toList
noncomputable def SqT (K : PySem.W.Frag) (H : Hp) (a : Addr) (xs : List V) : Prop :=
  Rd H a (.tup xs) ∨
    ∃ (o : Obj) (its : Array Value) (n : Nat), K.lookup a = some o ∧ o.cls = .type "tuple" ∧ o.data = .seq its n ∧ its.size ≤ sizeLine ∧ Vals xs its.toList
section
variable {X : Cx} {pins : List (Addr × Obj)} {σ : St} {H : Hp} {s : Shared} {a : Addr} {xs ys : List V}
theorem SqL.of {K : PySem.W.Frag} (h : H a = some (.lst xs)) : SqL K H a xs := .inl (.inl h)
theorem SqT.of {K : PySem.W.Frag} (h : H a = some (.tup xs)) : SqT K H a xs := .inl (.inl h)
theorem Inv.list (I : Inv X pins σ H s) (h : SqL X.K H a xs) : ∃ its : List Value, Vals xs its ∧ PlainL s.heap a its.toArray ∧ xs.length ≤ sizeLine := by
  rcases h with h | ⟨o, its, n, hk, hc, hd, hs, hz, r⟩
  · obtain ⟨z, its, n, r, e⟩ := h.ok I.hok
    exact ⟨its, r, ⟨_, n, e, rfl, rfl, rfl⟩, z⟩
  · refine ⟨its.toList, r, ⟨o, n, I.kIn a o hk, hc, hd, by simpa using hs⟩, ?_⟩
    have e := r.length
    simp only [Array.length_toList] at e
    omega
theorem Inv.tuple (I : Inv X pins σ H s) (h : SqT X.K H a xs) : ∃ its : List Value, Vals xs its ∧ IsTup s.heap a its.toArray ∧ xs.length ≤ sizeLine := by
  rcases h with h | ⟨o, its, n, hk, hc, hs, hz, r⟩
  · obtain ⟨z, its, r, p⟩ := h.ok I.hok
    exact ⟨its, r, p, z⟩
  · refine ⟨its.toList, r, ⟨o, I.kIn a o hk, hc, n, by simpa using hs⟩, ?_⟩
    have e := r.length
    simp only [Array.length_toList] at e
    omega
end

/-! ### another wish about exceptions -/
noncomputable abbrev Cx.wish (X : Cx) (E : Value → Shared → Prop) : Cx := { X with xe := E }
/-- no exception leaves -/
noncomputable abbrev Cx.nox (X : Cx) : Cx := X.wish fun _ _ => False
theorem Cx.Ok.wish {X : Cx} (ok : X.Ok) (E : Value → Shared → Prop) : (X.wish E).Ok :=
  ⟨ok.mod, ok.kind, ok.glob, ok.blt, ok.above, ok.inj, ok.has, ok.cab, ok.hd, ok.frames, ok.stk, ok.exf, ok.bs, ok.bsz, ok.noex, ok.exfs, ok.funs, ok.frf⟩
theorem Cx.Ok.unwish {X : Cx} {E : Value → Shared → Prop} (ok : (X.wish E).Ok) : X.Ok :=
  ⟨ok.mod, ok.kind, ok.glob, ok.blt, ok.above, ok.inj, ok.has, ok.cab, ok.hd, ok.frames, ok.stk, ok.exf, ok.bs, ok.bsz, ok.noex, ok.exfs, ok.funs, ok.frf⟩
section
variable {X : Cx} {pins : List (Addr × Obj)} {σ : St} {H : Hp} {s : Shared} {E : Value → Shared → Prop}
theorem Inv.wish (I : Inv X pins σ H s) (E : Value → Shared → Prop) : Inv (X.wish E) pins σ H s := ⟨I.ok.wish E, I.os, I.bare, I.base, I.loc, I.cell, I.free, I.freeC, I.pin, I.hok, I.len⟩
theorem Inv.unwish (I : Inv (X.wish E) pins σ H s) : Inv X pins σ H s := ⟨I.ok.unwish, I.os, I.bare, I.base, I.loc, I.cell, I.free, I.freeC, I.pin, I.hok, I.len⟩
theorem SP.unwish {D : Ends} {f : Flow} {s' : Shared} (h : SP (X.wish E) pins D f s') : SP X pins D f s' := by
  cases f with
  | next => obtain ⟨σ', H', I, q⟩ := h; exact ⟨σ', H', I.unwish, q⟩
  | brk => obtain ⟨σ', H', I, q⟩ := h; exact ⟨σ', H', I.unwish, q⟩
  | cont => obtain ⟨σ', H', I, q⟩ := h; exact ⟨σ', H', I.unwish, q⟩
  | ret u => obtain ⟨v, σ', H', I, r, q⟩ := h; exact ⟨v, σ', H', I.unwish, r, q⟩
theorem PSs.nox {st : List Stmt} {t : TS} (h : PSs X.nox st t) : PSs X st t := fun pins s σ H D I hw =>
  wpAny_mono (h pins s σ H D (I.wish _) hw) (fun _ _ q => q.unwish) fun _ _ z => False.elim z
end

/-! ### blocks and small statements -/
section
variable {X : Cx} {st : Stmt} {rest : List Stmt} {t u : TS} {e : Expr} {te : TE} {pos : Pos}
noncomputable def tNext : TS := fun D σ H => D.nx σ H
noncomputable def tSeq (t u : TS) : TS := fun D σ H => t { D with nx := u D } σ H
theorem pss_nil : PSs X [] tNext := fun _ _ σ H _ I h => wpAny_execs_nil ⟨σ, H, I, h⟩
theorem pss_cons (h1 : PS X st t) (h2 : PSs X rest u) : PSs X (st :: rest) (tSeq t u) := by
  intro pins s σ H D I h
  refine wpAny_execs_cons (thn (h1 pins s σ H { D with nx := u D } I h) fun f s1 q => ?_)
  cases f with
  | next =>
    obtain ⟨σ', H', I', q⟩ := q
    exact h2 pins s1 σ' H' D I' q
  | ret v => exact q
  | brk => exact q
  | cont => exact q
theorem pss_one (h1 : PS X st t) : PSs X [st] t := by
  intro pins s σ H D I h
  refine wpAny_execs_cons (thn (h1 pins s σ H D I h) fun f s1 q => ?_)
  cases f with
  | next => exact wpAny_execs_nil q
  | ret v => exact q
  | brk => exact q
  | cont => exact q
/-- in a def's body nothing is shown -/
theorem Inv.quiet {pins : List (Addr × Obj)} {σ : St} {H : Hp} {s : Shared} (I : Inv X pins σ H s) : interactive X.env = false := by simp [interactive, I.ok.kind]
/-- an expression whose value is dropped -/
noncomputable def tDrop (te : TE) : TS := fun D σ H => te σ H fun _ H1 => D.nx σ H1
theorem ps_expr (he : PE X e te) (hs : swapsWith e none pos.line X.env = pure false := by rfl) : PS X (.Expr e pos) (tDrop te) := by
  intro pins s σ H D I h
  exact wpAny_Expr_any (thn (he pins s σ H _ I h) fun v s1 ⟨x, H1, I1, r1, q1⟩ => ⟨σ, H1, I1, q1⟩) I.quiet hs
noncomputable def tRet (te : TE) : TS := fun D σ H => te σ H D.rt
theorem ps_ret (he : PE X e te) : PS X (.Return (some e) pos) (tRet te) := by
  intro pins s σ H D I h
  exact wpAny_Return_some (thn (he pins s σ H _ I h) fun v s1 ⟨x, H1, I1, r1, q1⟩ => ⟨x, σ, H1, I1, r1, q1⟩)
noncomputable def tIfS (c : TT) (t u : TS) : TS := fun D σ H => c σ H fun b H1 => if b = true then t D σ H1 else u D σ H1
theorem ps_if {c : Expr} {a b : List Stmt} {tc : TT} (hc : PT X c tc) (ha : PSs X a t) (hb : PSs X b u) : PS X (.If c a b pos) (tIfS tc t u) := by
  intro pins s σ H D I h
  refine wpAny_If (thn (hc pins s σ H _ I h) fun d s1 hh_ => ?_)
  obtain ⟨H1, I1, q1⟩ := hh_
  cases d with
  | true => exact ha pins s1 σ H1 D I1 q1
  | false => exact hb pins s1 σ H1 D I1 q1
end

/-! ### targets -/
noncomputable abbrev TG := V → St → Hp → (St → Hp → Prop) → Prop
noncomputable def PG (X : Cx) (target : Expr) (t : TG) : Prop :=
  ∀ (pins : List (Addr × Obj)) (s : Shared) (σ : St) (H : Hp) (v : V) (u : Value) (Q : St → Hp → Prop), Inv X pins σ H s → RelV v u → t v σ H Q →
    wpAny (model X.prog X.w) X.A (assign target X.env u) (fun _ s' => ∃ σ' H', Inv X pins σ' H' s' ∧ Q σ' H') X.xe s
section
variable {X : Cx} {pos : Pos}
noncomputable def gName (i : Nat) : TG := fun v σ H Q => Q (σ.set i (some v)) H
theorem pg_name {i : Nat} {x : Str} (hN : X.N.Nodup) (hi : X.N[i]? = some x) (hx : Loc X.env.scope x) (hf : X.fn x = true ∨ X.env.scope.names.lookup x = some .local := by first | exact .inl rfl | exact .inr rfl | assumption) : PG X (.Name x pos) (gName i) := by
  intro pins s σ H v u Q I r h
  exact wpAny_assign_Name (store_ok I hN hi hx r (fun s' I' => ⟨_, H, I', h⟩) hf)
/-- target = value -/
noncomputable def tAsg (te : TE) (g : TG) : TS := fun D σ H => te σ H fun x H1 => g x σ H1 D.nx
/-- name = value -/
theorem ps_set {i : Nat} {x : Str} {e : Expr} {te : TE} {pos' : Pos} (hN : X.N.Nodup) (hi : X.N[i]? = some x) (hx : Loc X.env.scope x) (he : PE X e te) (hs : swapsWith e (some (.Name x pos')) pos.line X.env = pure false := by rfl) (hf : X.fn x = true ∨ X.env.scope.names.lookup x = some .local := by first | exact .inl rfl | exact .inr rfl | assumption) :
    PS X (.Assign [.Name x pos'] e pos) (tAsg te (gName i)) := by
  intro pins s σ H D I h
  refine wpAny_Assign_Name (thn (he pins s σ H _ I h) fun v s1 ⟨y, H1, I1, r1, q1⟩ => ?_) hs
  exact store_ok I1 hN hi hx r1 (fun s2 I2 => ⟨_, H1, I2, q1⟩) hf
end

/-! ### while -/
section
variable {X : Cx} {pos : Pos}
end

/-! ### what a loop or a comprehension walks -/
/-- at turn i: it yields x (the heap may grow), or it stops -/
structure It where
  go : Nat → Hp → Prop
  yld : Nat → Hp → V → Hp → Prop
  stop : Nat → Hp → Prop
/-- the iterator's own objects may turn: they are not the frame's, not pinned, younger than the entry (or a comprehension's own) -/
noncomputable def FpOk (X : Cx) (pins : List (Addr × Obj)) (H : Hp) (b : Addr) : Prop :=
  H b = none ∧ b ≠ X.env.locals ∧ b ∉ X.fs ∧ (b ∈ X.ex ∨ X.s₀.heap.objs.size ≤ b) ∧ (∀ x c, X.env.cells.lookup x = some c → c ≠ b) ∧ ∀ p ∈ X.pn ++ pins, p.1 ≠ b
theorem Inv.fpOk {X : Cx} {pins : List (Addr × Obj)} {σ : St} {H H' : Hp} {s : Shared} {b : Addr} (I : Inv X pins σ H s) (hb : s.heap.objs.size ≤ b) (hn : H' b = none) : FpOk X pins H' b := by
  refine ⟨hn, Nat.ne_of_gt (Nat.lt_of_lt_of_le I.lt hb), I.nofs hb, .inr (Nat.le_trans I.sz hb), fun x c e z => ?_, fun p hp z => ?_⟩
  · obtain ⟨v, q⟩ := I.cell x c e
    exact absurd (Nat.lt_of_lt_of_le q.lt (by rw [z]; exact hb)) (Nat.lt_irrefl _)
  · exact absurd (Nat.lt_of_lt_of_le (Heap.lt_size (I.pin p hp).1) (by rw [z]; exact hb)) (Nat.lt_irrefl _)
structure Turn (P : Program) (w : World) (K : PySem.W.Frag) (tg : Expr) (J : It) (fp : List Addr) (it : Addr) (tn : Nat → Heap → Prop) : Prop where
  mem : it ∈ fp
  obj : ∀ i h, tn i h → ∀ b ∈ fp, ∃ o, h.get? b = some o ∧ ∀ v, o.data ≠ .cell v
  keep : ∀ i h h', tn i h → (∀ b ∈ fp, ∀ o, h.get? b = some o → h'.get? b = some o) → tn i h'
  item : ∀ (X : Cx), X.prog = P → X.w = w → X.K = K → X.calm = true → ∀ (i : Nat) (pins : List (Addr × Obj)) (s : Shared) (σ : St) (H : Hp) (E : Value → Shared → Prop), Inv X pins σ H s → (∀ b ∈ fp, FpOk X pins H b) → tn i s.heap → J.go i H →
    wpAny (model P w) X.A (pyNext (.ref it)) (fun r s1 => ∃ u, r = some u ∧
      wpAny (model P w) X.A (letOwnedTupleGo tg (.ref it) u) (fun _ s2 => ∃ x H', Inv X pins σ H' s2 ∧ RelV x u ∧ J.yld i H x H' ∧ tn (i + 1) s2.heap ∧ ∀ b ∈ fp, H' b = none) E s1) E s
  done : ∀ (X : Cx), X.prog = P → X.w = w → X.K = K → X.calm = true → ∀ (i : Nat) (pins : List (Addr × Obj)) (s : Shared) (σ : St) (H : Hp) (E : Value → Shared → Prop), Inv X pins σ H s → (∀ b ∈ fp, FpOk X pins H b) → tn i s.heap → J.stop i H →
    wpAny (model P w) X.A (pyNext (.ref it)) (fun r s1 => r = none ∧ Inv X pins σ H s1) E s
  self : ∀ (A : Around) (i : Nat) (s : Shared) (Q : Value → Shared → Prop) (E : Value → Shared → Prop), tn i s.heap → Q (.ref it) s → wpAny (model P w) A (pyIter (.ref it)) Q E s
noncomputable abbrev TI := St → Hp → (It → Hp → Prop) → Prop
/-- an iterator has come -/
noncomputable def PIE (X : Cx) (pins : List (Addr × Obj)) (σ : St) (tg : Expr) (R : It → Hp → Prop) (itv : Value) (s2 : Shared) : Prop :=
  ∃ (it : Addr) (fp : List Addr) (tn : Nat → Heap → Prop) (J : It) (H' : Hp), itv = .ref it ∧ Inv X pins σ H' s2 ∧ Turn X.prog X.w X.K tg J fp it tn ∧ tn 0 s2.heap ∧ (∀ b ∈ fp, FpOk X pins H' b) ∧ R J H'
noncomputable def PI (X : Cx) (tg iter : Expr) (wi : TI) : Prop :=
  ∀ (pins : List (Addr × Obj)) (s : Shared) (σ : St) (H : Hp) (R : It → Hp → Prop), Inv X pins σ H s → wi σ H R →
    wpAny (model X.prog X.w) X.A (eval iter X.env) (fun v s1 => wpAny (model X.prog X.w) X.A (pyIter v) (PIE X pins σ tg R) X.xe s1) X.xe s

/-- the step ahead of the store is nothing for an iterator that keeps no tuple -/
theorem go_of {M : Model} {A : Around} {E : Value → Shared → Prop} {s : Shared} {tg : Expr} {it : Addr} {u : Value} {o : Obj} {n : String} {vs : Array Value} {Q : Unit → Shared → Prop} (ho : s.heap.get? it = some o) (hc : o.cls = .type n) (hd : o.data = .fields vs)
    (hn : ["enumerate", "zip", "dict_itemiterator", "dict_reverseitemiterator", "odict_iterator", "itertools.zip_longest", "itertools.pairwise"].contains n = false) (hQ : Q () s) : wpAny M A (letOwnedTupleGo tg (.ref it) u) Q E s := by
  unfold letOwnedTupleGo
  cases tg <;> first
    | exact wpAny_pure hQ
    | (cases u <;> first
        | exact wpAny_pure hQ
        | (refine wpAny_bind (wpAny_load ho ?_)
           rw [hc, hd]
           show wpAny M A (if (["enumerate", "zip", "dict_itemiterator", "dict_reverseitemiterator", "odict_iterator", "itertools.zip_longest", "itertools.pairwise"].contains n && vs[0]? == some (rawInt _)) = true then _ else _) Q E s
           rw [if_neg (by intro h; rw [hn, Bool.false_and] at h; cases h)]
           exact wpAny_pure hQ))

/-- lo, lo + 1, .. (n of them) -/
noncomputable def Itr (lo : Int) (n : Nat) : It := ⟨fun i _ => i < n, fun i H x H' => H' = H ∧ x = .int (lo + i), fun i _ => n ≤ i⟩
theorem turn_range {P : Program} {w : World} {K : PySem.W.Frag} {tg : Expr} (it : Addr) (lo : Int) (n : Nat) : Turn P w K tg (Itr lo n) [it] it (fun i h => IsRangeIter h it (lo + (i : Nat) * 1) ((n : Int) - (i : Nat)) 1) where
  mem := by simp
  obj := fun i h st b hb => by
    have e : b = it := by simpa using hb
    subst e
    exact ⟨_, st, fun v z => by
      have z' : Data.fields _ = Data.cell v := z
      cases z'⟩
  keep := fun i h h' st k => k it (by simp) _ st
  item := by
    intro X hP hw hK hc i pins s σ H E I hf st hg
    subst hP hw hK
    obtain ⟨f0, f1, f2, f3, f4, f5⟩ := hf it (by simp)
    have W := Walks.range (prog := X.prog) (w := X.w) (I.ok.hd hc) it lo 1 n
    refine W.item i s _ _ hg st fun v h' tk hv st' kk => ?_
    obtain ⟨t, rfl⟩ := hv
    have I1 : Inv X pins σ H { s with heap := h', toks := tk } := I.turned (fun b o hb e => kk b o (by simpa using hb) e) f0 f1 f3 f4 f5
    refine ⟨_, rfl, go_of (s := { s with heap := h', toks := tk }) (n := "range_iterator") st' rfl rfl (by decide) ⟨.int (lo + i), H, I1, ⟨t, ?_⟩, ⟨rfl, rfl⟩, st', fun b hb => (hf b hb).1⟩⟩
    rw [Int.mul_one]
  done := by
    intro X hP hw hK hc i pins s σ H E I hf st hg
    subst hP hw hK
    obtain ⟨f0, f1, f2, f3, f4, f5⟩ := hf it (by simp)
    exact wpAny_pyNext_range_end (I.ok.hd hc) st (by have : n ≤ i := hg; omega) fun h' eb => ⟨rfl, I.turned (t' := s.toks) (fun b o hb e => eb b o hb e) f0 f1 f3 f4 f5⟩
  self := fun _ _ _ _ _ st h => wpAny_pyIter_rangeiter st h
end L2

namespace L2
open PySem PySem.Spec PyProof.Rows
section
variable {X : Cx} {tg : Expr}
/-- a range object just made, walked -/
theorem range_it {pins : List (Addr × Obj)} {σ : St} {H : Hp} {s : Shared} {R : It → Hp → Prop} {E : Value → Shared → Prop} {lo hi : Int} {t u v : Tok} {tk : Nat} (I : Inv X pins σ H s) (h1 : -(2 ^ 62) ≤ lo) (h2 : lo < 2 ^ 62) (h3 : -(2 ^ 62) ≤ hi) (h4 : hi < 2 ^ 62)
    (q : R (Itr lo (hi - lo).toNat) H) : wpAny (model X.prog X.w) X.A (pyIter (.ref s.heap.objs.size)) (PIE X pins σ tg R) E { s with heap := s.heap.push { cls := .type "range", data := .fields #[.int lo t, .int hi u, .int 1 v] }, toks := tk } := by
  refine wpAny_pyIter_range (IsRange.new ..) (small_one h1 h2 h3 h4) ?_
  have I1 : Inv X pins σ H { s with heap := s.heap.push { cls := .type "range", data := .fields #[.int lo t, .int hi u, .int 1 v] }, toks := tk } := I.kept fun b o e => Heap.get?_push_of_some _ e
  refine ⟨(s.heap.push { cls := .type "range", data := .fields #[.int lo t, .int hi u, .int 1 v] }).objs.size, [(s.heap.push { cls := .type "range", data := .fields #[.int lo t, .int hi u, .int 1 v] }).objs.size], _, _, H, rfl,
    I1.kept (t' := tk) fun b o e => Heap.get?_push_of_some _ e, turn_range _ lo (hi - lo).toNat, ?_, fun b hb => ?_, q⟩
  · have e1 : lo + ((0 : Nat) : Int) * 1 = lo := by simp
    have e2 : (((hi - lo).toNat : Nat) : Int) - ((0 : Nat) : Int) = Builtin.Range.rangeSize lo hi 1 := by rw [rangeSize_one]; split <;> omega
    show IsRangeIter _ _ (lo + ((0 : Nat) : Int) * 1) ((((hi - lo).toNat : Nat) : Int) - ((0 : Nat) : Int)) 1
    rw [e1, e2]
    exact Heap.get?_push_size _ rfl
  · have e : b = (s.heap.push { cls := .type "range", data := .fields #[.int lo t, .int hi u, .int 1 v] }).objs.size := by simpa using hb
    subst e
    exact I1.fpOk (Nat.le_refl _) (I1.hok.fresh (Nat.le_refl _))
noncomputable def iRng1 (ta : TA) : TI := fun σ H R => ta σ H fun vs H1 => ∃ j : Int, vs = [.int j] ∧ -(2 ^ 62) ≤ j ∧ j < 2 ^ 62 ∧ R (Itr 0 j.toNat) H1
theorem pi_range1 {a : Expr} {ta : TA} {p pos : Pos} (hg : Gl X "range") (hm : X.mg "range" = none) (ha : PA X [a] ta) (hs : starEach [a] X.env = [(false, eval a X.env)] := by rfl) : PI X tg (.Call (.Name "range" p) [a] [] pos) (iRng1 ta) := by
  intro pins s σ H R I h
  refine Call_ (ld_blt I hg hm boot_range (PyProof.Rows.callWith_type1 (thn (ha pos pins s σ H _ I h) fun us s1 ⟨vs, H1, I1, r1, q1⟩ => ?_) hs rfl))
  obtain ⟨j, e, q1, q2, q⟩ := q1
  subst e
  cases r1 with
  | cons r rr =>
    cases rr
    obtain ⟨t, rfl⟩ := r
    exact call_range_1 (range_it I1 (by omega) (by omega) q1 q2 (by simpa using q))
/-! ### for -/
/-- W: the invariant by the turn and a measure; N: what the body is to reach -/
noncomputable def tFor (wi : TI) (g : TG) (tb : TS) : TS := fun D σ H => wi σ H fun J H1 => ∃ W : Nat → Nat → St → Hp → Prop, (∃ m, W 0 m σ H1) ∧ ∀ i m σ H, W i m σ H →
  (J.stop i H ∧ D.nx σ H) ∨ (J.go i H ∧ ∃ N : St → Hp → Prop, (∀ σ' H', N σ' H' → ∃ m', m' < m ∧ W (i + 1) m' σ' H') ∧ ∀ x H', J.yld i H x H' → g x σ H' fun σ2 H2 => tb { D with nx := N, ct := N, bk := D.nx } σ2 H2)
/-- the records at fp as they stand -/
noncomputable def pinsAt (fp : List Addr) (h : Heap) : List (Addr × Obj) := fp.filterMap fun b => (h.get? b).map fun o => (b, o)
theorem mem_pinsAt {fp : List Addr} {h : Heap} {b : Addr} {o : Obj} (hb : b ∈ fp) (e : h.get? b = some o) : (b, o) ∈ pinsAt fp h := List.mem_filterMap.mpr ⟨b, hb, by rw [e]; rfl⟩
theorem of_pinsAt {fp : List Addr} {h : Heap} {p : Addr × Obj} (hp : p ∈ pinsAt fp h) : p.1 ∈ fp ∧ h.get? p.1 = some p.2 := by
  obtain ⟨b, hb, e⟩ := List.mem_filterMap.mp hp
  cases q : h.get? b with
  | none => rw [q] at e; cases e
  | some o =>
    rw [q] at e
    have e' : (b, o) = p := Option.some.inj e
    subst e'
    exact ⟨hb, q⟩
theorem Inv.pinned {pins : List (Addr × Obj)} {σ : St} {H : Hp} {s : Shared} {fp : List Addr} (I : Inv X pins σ H s) (hf : ∀ b ∈ fp, FpOk X pins H b) (ho : ∀ b ∈ fp, ∃ o, s.heap.get? b = some o ∧ ∀ v, o.data ≠ .cell v) : Inv X (pins ++ pinsAt fp s.heap) σ H s :=
  I.pins_of fun p hp => (List.mem_append.mp hp).elim (fun z => I.pin p (List.mem_append_right _ z)) fun z => by
    obtain ⟨hb, e⟩ := of_pinsAt z
    obtain ⟨f0, f1, f2, _⟩ := hf p.1 hb
    obtain ⟨o, e', d⟩ := ho p.1 hb
    rw [e] at e'; cases e'
    exact ⟨e, f0, f1, f2, d⟩
theorem Inv.unpinned {pins pl : List (Addr × Obj)} {σ : St} {H : Hp} {s : Shared} (I : Inv X (pins ++ pl) σ H s) : Inv X pins σ H s := I.pins_of fun p hp => I.pin p (List.mem_append_right _ (List.mem_append_left _ hp))
theorem ps_for {iter : Expr} {body : List Stmt} {wi : TI} {g : TG} {tb : TS} {pos : Pos} (hp : PassesOwn (model X.prog X.w) X.A X.env X.xe) (hc : X.calm = true) (hi : PI X tg iter wi) (hg : PG X tg g) (hb : PSs X body tb)
    (hs : ∀ x, foldedSetIterable iter X.env x = pure x := by intro _; rfl) : PS X (.For tg iter body [] pos) (tFor wi g tb) := by
  intro pins s σ H D I h
  refine wpAny_For (thn (hi pins s σ H _ I h) fun v s1 h1 => thn h1 fun itv s2 h2 => ?_) hs
  obtain ⟨it, fp, tn, J, H2, e, I2, T, st2, f2, W, ⟨m0, w0⟩, turn⟩ := h2
  subst e
  -- what stays true of the iterator's objects through the loop
  have stat : ∀ {H' : Hp}, (∀ b ∈ fp, H' b = none) → ∀ b ∈ fp, FpOk X pins H' b := fun hn b hb => ⟨hn b hb, (f2 b hb).2⟩
  refine codeAny_forLoop_any (fun n s' => ∃ i σ' H', Inv X pins σ' H' s' ∧ tn i s'.heap ∧ (∀ b ∈ fp, H' b = none) ∧ W i n σ' H') ?_ m0 ⟨0, σ, H2, I2, st2, fun b hb => (f2 b hb).1, w0⟩
  rintro n s3 ⟨i, σ3, H3, I3, st3, fr3, w3⟩
  rcases turn i n σ3 H3 w3 with ⟨stop, qn⟩ | ⟨go, N, hN, step⟩
  · refine wpAny_passesOwn hp (thn (T.done X rfl rfl rfl hc i pins s3 σ3 H3 X.xe I3 (stat fr3) st3 stop) fun r s4 hh_ => ?_)
    obtain ⟨hr, I4⟩ := hh_
    subst hr
    exact wpAny_execs_nil ⟨σ3, H3, I4, qn⟩
  · refine wpAny_passesOwn hp (thn (T.item X rfl rfl rfl hc i pins s3 σ3 H3 X.xe I3 (stat fr3) st3 go) fun r s4 hh_ => ?_)
    obtain ⟨u, hr, h4⟩ := hh_
    subst hr
    refine wpAny_passesOwn hp (thn h4 fun _ s5 hh_ => ?_)
    obtain ⟨x, H5, I5, r5, y5, st5, fr5⟩ := hh_
    have I5' := I5.pinned (stat fr5) (T.obj _ _ st5)
    refine wpAny_passesOwn hp (thn (hg _ s5 σ3 H5 x u _ I5' r5 (step x H5 y5)) fun _ s6 hh_ => ?_)
    obtain ⟨σ6, H6, I6, q6⟩ := hh_
    refine wpAny_passesOwn hp (thn (hb _ s6 σ6 H6 _ I6 q6) fun f s7 q7 => ?_)
    have again : ∀ {σ7 : St} {H7 : Hp}, Inv X (pins ++ pinsAt fp s5.heap) σ7 H7 s7 → N σ7 H7 → ∃ m, m < n ∧ ∃ i σ' H', Inv X pins σ' H' s7 ∧ tn i s7.heap ∧ (∀ b ∈ fp, H' b = none) ∧ W i m σ' H' := fun {σ7 H7} I7 n7 => by
      obtain ⟨m', hm, w7⟩ := hN σ7 H7 n7
      refine ⟨m', hm, i + 1, σ7, H7, I7.unpinned, T.keep _ _ _ st5 fun b hb o e => (I7.pin (b, o) (List.mem_append_right _ (List.mem_append_right _ (mem_pinsAt hb e)))).1, fun b hb => ?_, w7⟩
      obtain ⟨o, e, d⟩ := T.obj _ _ st5 b hb
      exact (I7.pin (b, o) (List.mem_append_right _ (List.mem_append_right _ (mem_pinsAt hb e)))).2.1
    cases f with
    | next => obtain ⟨σ7, H7, I7, n7⟩ := q7; exact again I7 n7
    | cont => obtain ⟨σ7, H7, I7, n7⟩ := q7; exact again I7 n7
    | brk => obtain ⟨σ7, H7, I7, q7⟩ := q7; exact ⟨σ7, H7, I7.unpinned, q7⟩
    | ret v => obtain ⟨x7, σ7, H7, I7, r7, q7⟩ := q7; exact ⟨x7, σ7, H7, I7.unpinned, r7, q7⟩
end

/-! ### the forms one uses -/
theorem for_range {lo : Int} {n : Nat} {g : TG} {tb : TS} {D : Ends} {σ : St} {H : Hp} (Pv : Nat → St → Hp → Prop) (h0 : Pv 0 σ H)
    (hs : ∀ i σ H, i < n → Pv i σ H → g (.int (lo + i)) σ H fun σ2 H2 => tb { D with nx := Pv (i + 1), ct := Pv (i + 1), bk := D.nx } σ2 H2) (hd : ∀ σ H, Pv n σ H → D.nx σ H) :
    ∃ W : Nat → Nat → St → Hp → Prop, (∃ m, W 0 m σ H) ∧ ∀ i m σ H, W i m σ H →
      ((Itr lo n).stop i H ∧ D.nx σ H) ∨ ((Itr lo n).go i H ∧ ∃ N : St → Hp → Prop, (∀ σ' H', N σ' H' → ∃ m', m' < m ∧ W (i + 1) m' σ' H') ∧ ∀ x H', (Itr lo n).yld i H x H' → g x σ H' fun σ2 H2 => tb { D with nx := N, ct := N, bk := D.nx } σ2 H2) := by
  refine ⟨fun i m σ H => m = n - i ∧ i ≤ n ∧ Pv i σ H, ⟨n, by simp, Nat.zero_le _, h0⟩, ?_⟩
  rintro i m σ H ⟨rfl, hi, p⟩
  by_cases hlt : i < n
  · refine .inr ⟨hlt, Pv (i + 1), fun σ' H' p' => ⟨n - (i + 1), by omega, rfl, hlt, p'⟩, fun x H' y => ?_⟩
    obtain ⟨e, y⟩ := y
    subst e y
    exact hs i σ _ hlt p
  · have e : i = n := by omega
    subst e
    exact .inl ⟨Nat.le_refl _, hd σ H p⟩
end L2

namespace L2
open PySem PySem.Spec PyProof.Rows

noncomputable abbrev R2 := V → V → Hp → VK → Prop
/-- a two-place operation on values: f is binaryOp op, inplaceOp op or compareOp op -/
noncomputable def OpR (X : Cx) (f : Value → Value → Sem Value) (r : R2) : Prop :=
  ∀ (pins : List (Addr × Obj)) (s : Shared) (σ : St) (H : Hp) (x y : V) (v u : Value) (Q : VK), Inv X pins σ H s → RelV x v → RelV y u → r x y H Q →
    wpAny (model X.prog X.w) X.A (f v u) (EP X pins σ Q) X.xe s
/-- a call of a value that is known (a builtin, a type) with values -/
noncomputable def CallR (X : Cx) (f : Value) (r : List V → Hp → VK → Prop) : Prop :=
  ∀ (pins : List (Addr × Obj)) (s : Shared) (σ : St) (H : Hp) (xs : List V) (us : List Value) (Q : VK), Inv X pins σ H s → Vals xs us → r xs H Q →
    wpAny (model X.prog X.w) X.A (call f us) (EP X pins σ Q) X.xe s
noncomputable def tOp (r : R2) (ta tb : TE) : TE := fun σ H Q => ta σ H fun x H1 => tb σ H1 fun y H2 => r x y H2 Q
/-- ints in, under C, and a value out -/
noncomputable def rI (C : Int → Int → Prop) (g : Int → Int → V) : R2 := fun x y H Q => ∃ i j, x = .int i ∧ y = .int j ∧ C i j ∧ Q (g i j) H
noncomputable def rI0 (g : Int → Int → V) : R2 := fun x y H Q => ∃ i j, x = .int i ∧ y = .int j ∧ Q (g i j) H
section
variable {X : Cx} {a b c : Expr} {ta tb tc : TE} {pos : Pos}

theorem binT (ha : PE X a ta) (hb : PE X b tb) {pins : List (Addr × Obj)} {s : Shared} {σ : St} {H : Hp} {R : V → V → Hp → Prop} (I : Inv X pins σ H s)
    (h : ta σ H fun x H1 => tb σ H1 fun y H2 => R x y H2) {Q : Value → Shared → Prop} {f : Value → Value → Sem Value}
    (hf : ∀ v u s2 x y H2, Inv X pins σ H2 s2 → RelV x v → RelV y u → R x y H2 → wpAny (model X.prog X.w) X.A (f v u) Q X.xe s2) :
    wpAny (model X.prog X.w) X.A (eval a X.env) (fun v s₁ => wpAny (model X.prog X.w) X.A (eval b X.env) (fun u s₂ => wpAny (model X.prog X.w) X.A (f v u) Q X.xe s₂) X.xe s₁) X.xe s := by
  refine thn (ha pins s σ H _ I h) fun v s1 hh_ => ?_
  obtain ⟨x, H1, I1, r1, q1⟩ := hh_
  refine thn (hb pins s1 σ H1 _ I1 q1) fun u s2 hh_ => ?_
  obtain ⟨y, H2, I2, r2, q2⟩ := hh_
  exact hf v u s2 x y H2 I2 r1 r2 q2

theorem pe_op {op : Operator} {r : R2} (ho : OpR X (binaryOp op) r) (ha : PE X a ta) (hb : PE X b tb) : PE X (.BinOp a op b pos) (tOp r ta tb) := by
  intro pins s σ H Q I h
  exact wpAny_BinOp (binT ha hb I h fun v u s2 x y H2 I2 rx ry q => ho pins s2 σ H2 x y v u Q I2 rx ry q)
/-! ### ints -/
theorem opI {f : Value → Value → Sem Value} {C : Int → Int → Prop} {g : Int → Int → Int}
    (rule : ∀ (i j : Int) (t u : Tok) (s : Shared) (Q : Value → Shared → Prop) (E : Value → Shared → Prop), C i j → Q (.int (g i j) s.toks) { s with toks := s.toks + 1 } → wpAny (model X.prog X.w) X.A (f (.int i t) (.int j u)) Q E s) :
    OpR X f (rI C fun i j => .int (g i j)) := by
  intro pins s σ H x y v u Q I rx ry h
  obtain ⟨i, j, rfl, rfl, hc, q⟩ := h
  obtain ⟨t, rfl⟩ := rx
  obtain ⟨t', rfl⟩ := ry
  exact rule i j t t' s _ _ hc ⟨.int (g i j), H, I.tok _, ⟨_, rfl⟩, q⟩
theorem opI0 {f : Value → Value → Sem Value} {g : Int → Int → Int}
    (rule : ∀ (i j : Int) (t u : Tok) (s : Shared) (Q : Value → Shared → Prop) (E : Value → Shared → Prop), Q (.int (g i j) s.toks) { s with toks := s.toks + 1 } → wpAny (model X.prog X.w) X.A (f (.int i t) (.int j u)) Q E s) :
    OpR X f (rI0 fun i j => .int (g i j)) := by
  intro pins s σ H x y v u Q I rx ry h
  obtain ⟨i, j, rfl, rfl, q⟩ := h
  obtain ⟨t, rfl⟩ := rx
  obtain ⟨t', rfl⟩ := ry
  exact rule i j t t' s _ _ ⟨.int (g i j), H, I.tok _, ⟨_, rfl⟩, q⟩
theorem opB0 {f : Value → Value → Sem Value} {g : Int → Int → Bool}
    (rule : ∀ (i j : Int) (t u : Tok) (s : Shared) (Q : Value → Shared → Prop) (E : Value → Shared → Prop), Q (.bool (g i j)) s → wpAny (model X.prog X.w) X.A (f (.int i t) (.int j u)) Q E s) :
    OpR X f (rI0 fun i j => .bl (g i j)) := by
  intro pins s σ H x y v u Q I rx ry h
  obtain ⟨i, j, rfl, rfl, q⟩ := h
  obtain ⟨t, rfl⟩ := rx
  obtain ⟨t', rfl⟩ := ry
  exact rule i j t t' s _ _ ⟨.bl (g i j), H, I, rfl, q⟩

noncomputable def CDiv (i j : Int) : Prop := 0 < j ∧ j < 1073741824
noncomputable def CPow (i j : Int) : Prop := 0 ≤ j ∧ j ≤ 1000000 ∧ i.natAbs < 2 ^ 64
noncomputable def CMul (i j : Int) : Prop := (-(2 ^ 64) < i ∧ i < 2 ^ 64) ∨ (-(2 ^ 64) < j ∧ j < 2 ^ 64)
theorem CMul.ok {i j : Int} (h : CMul i j) : IntMulOk i j := by
  rcases h with ⟨h1, h2⟩ | ⟨h1, h2⟩
  · exact .of_left (intBits_le_64 h1 h2)
  · exact .of_right (intBits_le_64 h1 h2)
theorem op_add : OpR X (binaryOp .Add) (rI0 fun i j => .int (i + j)) := opI0 fun _ _ _ _ _ _ _ q => add_int q
theorem op_sub : OpR X (binaryOp .Sub) (rI0 fun i j => .int (i - j)) := opI0 fun _ _ _ _ _ _ _ q => sub_int q
theorem op_mul : OpR X (binaryOp .Mult) (rI CMul fun i j => .int (i * j)) := opI fun _ _ _ _ _ _ _ hc q => mul_int q hc.ok
/-- // by a positive divisor -/
theorem op_fdiv : OpR X (binaryOp .FloorDiv) (rI CDiv fun i j => .int (i / j)) := opI fun i j _ _ _ _ _ hc q => by
  have h1 : (0 : Int) < j := hc.1
  have h2 : j < 1073741824 := hc.2
  exact floordiv_int (by omega) (by rw [Int.fdiv_eq_ediv_of_nonneg i (by omega)]; exact q) (.inl (PyProof.noPylong_small (by omega)))
/-- % by a positive divisor of any size -/
theorem op_mod : OpR X (binaryOp .Mod) (rI (fun _ j => 0 < j) fun i j => .int (i % j)) := opI fun i j _ _ _ _ _ hc q => by
  have h1 : (0 : Int) < j := hc
  exact mod_int' (by omega) (by rw [Int.fmod_eq_emod_of_nonneg i (by omega)]; exact q)
theorem op_pow : OpR X (binaryOp .Pow) (rI CPow fun i j => .int (i ^ j.toNat)) := opI fun _ _ _ _ _ _ _ hc q => pow_int_small hc.1 hc.2.1 hc.2.2 q
/-! ### bools among ints: n += (a < b) -/
end

/-! ### comparisons -/
/-- the scalars that == tells apart as data does -/
noncomputable def scal : V → V → Bool
  | .non, .non => true | .non, .int _ => true | .int _, .non => true | .non, .bl _ => true | .bl _, .non => true | .non, .str _ => true | .str _, .non => true
  | .int _, .int _ => true | .bl _, .bl _ => true | .str _, .str _ => true | .byt _, .byt _ => true
  | .int _, .str _ => true | .str _, .int _ => true | .bl _, .str _ => true | .str _, .bl _ => true
  | _, _ => false
noncomputable def rEq : R2 := fun x y H Q => scal x y = true ∧ Q (.bl (decide (x = y))) H
noncomputable def rNe : R2 := fun x y H Q => scal x y = true ∧ Q (.bl (!decide (x = y))) H

theorem dec_int {i j : Int} : decide (V.int i = V.int j) = (i == j) := by
  rw [Bool.eq_iff_iff]
  simp
theorem dec_bl {i j : Bool} : decide (V.bl i = V.bl j) = (i == j) := by
  rw [Bool.eq_iff_iff]
  simp
theorem dec_str {i j : Str} : decide (V.str i = V.str j) = (i == j) := by
  rw [Bool.eq_iff_iff]
  simp
theorem dec_byt {i j : Array UInt8} : decide (V.byt i = V.byt j) = (i.toList == j.toList) := by
  rw [Bool.eq_iff_iff]
  cases i
  cases j
  simp

section
variable {X : Cx} {a b c : Expr} {ta tb tc : TE} {pos : Pos}
theorem fin_bl {pins : List (Addr × Obj)} {σ : St} {H : Hp} {s : Shared} {Q : VK} {k k' : Bool} (I : Inv X pins σ H s) (q : Q (.bl k) H) (e : k = k') : EP X pins σ Q (.bool k') s := by
  subst e
  exact ⟨.bl k, H, I, rfl, q⟩
theorem op_eq : OpR X (compareOp .Eq) rEq := by
  intro pins s σ H x y v u Q I rx ry h
  obtain ⟨hs, q⟩ := h
  cases x with
  | non =>
    cases rx
    cases y with
    | non => cases ry; exact PySem.EqNone.eq_none_none (fin_bl I q (by simp))
    | bl j => cases ry; exact PySem.EqNone.eq_none_bool (fin_bl I q (by simp))
    | int j => obtain ⟨t', rfl⟩ := ry; exact PySem.EqNone.eq_none_int (fin_bl I q (by simp))
    | str j => obtain ⟨t', rfl⟩ := ry; exact PySem.EqNone.eq_none_str (fin_bl I q (by simp))
    | _ => exact absurd (show false = true from hs) Bool.false_ne_true
  | bl i =>
    cases rx
    cases y with
    | non => cases ry; exact PySem.EqNone.eq_bool_none (fin_bl I q (by simp))
    | bl j => cases ry; exact eq_bool (fin_bl I q dec_bl)
    | str j => obtain ⟨t', rfl⟩ := ry; exact PySem.EqMixed.eq_bool_str (fin_bl I q (by simp))
    | _ => exact absurd (show false = true from hs) Bool.false_ne_true
  | int i =>
    obtain ⟨t, rfl⟩ := rx
    cases y with
    | non => cases ry; exact PySem.EqNone.eq_int_none (fin_bl I q (by simp))
    | int j => obtain ⟨t', rfl⟩ := ry; exact eq_int (fin_bl I q dec_int)
    | str j => obtain ⟨t', rfl⟩ := ry; exact PySem.EqMixed.eq_int_str (fin_bl I q (by simp))
    | _ => exact absurd (show false = true from hs) Bool.false_ne_true
  | str i =>
    obtain ⟨t, rfl⟩ := rx
    cases y with
    | non => cases ry; exact PySem.EqNone.eq_str_none (fin_bl I q (by simp))
    | bl j => cases ry; exact PySem.EqMixed.eq_str_bool (fin_bl I q (by simp))
    | int j => obtain ⟨t', rfl⟩ := ry; exact PySem.EqMixed.eq_str_int (fin_bl I q (by simp))
    | str j => obtain ⟨t', rfl⟩ := ry; exact eq_str (fin_bl I q dec_str)
    | _ => exact absurd (show false = true from hs) Bool.false_ne_true
  | byt i =>
    obtain ⟨t, rfl⟩ := rx
    cases y with
    | byt j => obtain ⟨t', rfl⟩ := ry; exact PySem.W.eq_bytes (fin_bl I q dec_byt)
    | _ => exact absurd (show false = true from hs) Bool.false_ne_true
  | _ => cases y <;> exact absurd (show false = true from hs) Bool.false_ne_true
theorem op_ne : OpR X (compareOp .NotEq) rNe := by
  intro pins s σ H x y v u Q I rx ry h
  obtain ⟨hs, q⟩ := h
  cases x with
  | non =>
    cases rx
    cases y with
    | non => cases ry; exact PySem.EqNone.ne_none_none (fin_bl I q (by simp))
    | bl j => cases ry; exact PySem.EqNone.ne_none_bool (fin_bl I q (by simp))
    | int j => obtain ⟨t', rfl⟩ := ry; exact PySem.EqNone.ne_none_int (fin_bl I q (by simp))
    | str j => obtain ⟨t', rfl⟩ := ry; exact PySem.EqNone.ne_none_str (fin_bl I q (by simp))
    | _ => exact absurd (show false = true from hs) Bool.false_ne_true
  | bl i =>
    cases rx
    cases y with
    | non => cases ry; exact PySem.EqNone.ne_bool_none (fin_bl I q (by simp))
    | bl j => cases ry; exact ne_bool (fin_bl I q (congrArg not dec_bl))
    | str j => obtain ⟨t', rfl⟩ := ry; exact PySem.EqMixed.ne_bool_str (fin_bl I q (by simp))
    | _ => exact absurd (show false = true from hs) Bool.false_ne_true
  | int i =>
    obtain ⟨t, rfl⟩ := rx
    cases y with
    | non => cases ry; exact PySem.EqNone.ne_int_none (fin_bl I q (by simp))
    | int j => obtain ⟨t', rfl⟩ := ry; exact ne_int (fin_bl I q (congrArg not dec_int))
    | str j => obtain ⟨t', rfl⟩ := ry; exact PySem.EqMixed.ne_int_str (fin_bl I q (by simp))
    | _ => exact absurd (show false = true from hs) Bool.false_ne_true
  | str i =>
    obtain ⟨t, rfl⟩ := rx
    cases y with
    | non => cases ry; exact PySem.EqNone.ne_str_none (fin_bl I q (by simp))
    | bl j => cases ry; exact PySem.EqMixed.ne_str_bool (fin_bl I q (by simp))
    | int j => obtain ⟨t', rfl⟩ := ry; exact PySem.EqMixed.ne_str_int (fin_bl I q (by simp))
    | str j => obtain ⟨t', rfl⟩ := ry; exact ne_str (fin_bl I q (congrArg not dec_str))
    | _ => exact absurd (show false = true from hs) Bool.false_ne_true
  | byt i =>
    obtain ⟨t, rfl⟩ := rx
    cases y with
    | byt j => obtain ⟨t', rfl⟩ := ry; exact PySem.W.ne_bytes (fin_bl I q (congrArg not dec_byt))
    | _ => exact absurd (show false = true from hs) Bool.false_ne_true
  | _ => cases y <;> exact absurd (show false = true from hs) Bool.false_ne_true

theorem op_lt : OpR X (compareOp .Lt) (rI0 fun i j => .bl (decide (i < j))) := opB0 fun _ _ _ _ _ _ _ q => lt_int q
theorem op_gt : OpR X (compareOp .Gt) (rI0 fun i j => .bl (decide (j < i))) := opB0 fun _ _ _ _ _ _ _ q => gt_int q
theorem nomark (b : Expr) {op : CmpOp} (h : op ≠ .In := by decide) (h2 : op ≠ .NotIn := by decide) : behindInMarks op b = false := by
  have e1 : (op == CmpOp.In) = false := by cases op <;> first | rfl | exact absurd rfl h
  have e2 : (op == CmpOp.NotIn) = false := by cases op <;> first | rfl | exact absurd rfl h2
  cases b <;> simp [behindInMarks, e1, e2]
/-- a reading of a value as a test -/
noncomputable def tTest (t : TE) : TT := fun σ H Q => t σ H fun x H' => ∃ k, x = .bl k ∧ Q k H'
theorem pt_cmpR {op : CmpOp} {r : R2} (ho : OpR X (compareOp op) r) (ha : PE X a ta) (hb : PE X b tb) (hm : behindInMarks op b = false) : PT X (.Compare a [op] [b] pos) (tTest (tOp r ta tb)) := by
  intro pins s σ H Q I h
  refine wpAny_isTrue_Compare1 (thn (ha pins s σ H _ I h) fun v s1 ⟨x, H1, I1, r1, q1⟩ => thn (hb pins s1 σ H1 _ I1 q1) fun u s2 ⟨y, H2, I2, r2, q2⟩ =>
    thn (ho pins s2 σ H2 x y v u _ I2 r1 r2 q2) fun c s3 ⟨z, H3, I3, r3, k, e, q3⟩ => ?_) hm
  subst e
  cases r3
  exact wpAny_truthy_bool ⟨H3, I3, q3⟩
/-! ### truth -/
theorem line63 : (sizeLine : Nat) < 2 ^ 63 := by rw [sizeLine_eq]; decide
/-! ### strs and bytes -/
theorem op_add_str : OpR X (binaryOp .Add) (fun x y H Q => ∃ i j, x = .str i ∧ y = .str j ∧ i.length + j.length ≤ sizeLine ∧ Q (.str (i ++ j)) H) := by
  intro pins s σ H x y v u Q I rx ry h
  obtain ⟨i, j, rfl, rfl, hz, q⟩ := h
  obtain ⟨t, rfl⟩ := rx
  obtain ⟨t', rfl⟩ := ry
  exact add_str (fun t' tk => ⟨.str (i ++ j), H, I.tok _, ⟨_, rfl⟩, q⟩) hz
/-! ### scalar builtins, by CallR -/
theorem vals1 {x : V} {us : List Value} (r : Vals [x] us) : ∃ u, us = [u] ∧ RelV x u := by
  cases r with
  | cons r1 r2 => cases r2; exact ⟨_, rfl, r1⟩
theorem vals2 {x y : V} {us : List Value} (r : Vals [x, y] us) : ∃ u w', us = [u, w'] ∧ RelV x u ∧ RelV y w' := by
  cases r with
  | cons r1 r2 =>
    cases r2 with
    | cons r3 r4 => cases r4; exact ⟨_, _, rfl, r1, r3⟩
theorem call_max2 (hc : X.calm = true) : CallR X (.builtin "max") (fun xs H Q => ∃ i j, xs = [.int i, .int j] ∧ Q (.int (if j > i then j else i)) H) := by
  intro pins s σ H xs us Q I r h
  obtain ⟨i, j, rfl, q⟩ := h
  obtain ⟨u, w', rfl, ⟨t, rfl⟩, ⟨t', rfl⟩⟩ := vals2 r
  refine max_two_ints (I.ok.hd hc) fun h' tk k => ⟨_, H, I.kept k, ?_, q⟩
  by_cases hj : j > i
  · rw [if_pos hj, if_pos hj]; exact ⟨_, rfl⟩
  · rw [if_neg hj, if_neg hj]; exact ⟨_, rfl⟩
/-- len of a str, a bytes, a list, a tuple -/
noncomputable def LenV (K : PySem.W.Frag) (x : V) (H : Hp) (n : Nat) : Prop :=
  match x with
  | .str y => y.length ≤ sizeLine ∧ n = y.length
  | .byt y => y.size ≤ sizeLine ∧ n = y.size
  | .ref p => (∃ xs, SqL K H p xs ∧ n = xs.length) ∨ ∃ xs, SqT K H p xs ∧ n = xs.length
  | _ => False
theorem call_len : CallR X (.builtin "len") (fun xs H Q => ∃ x n, xs = [x] ∧ LenV X.K x H n ∧ Q (.int n) H) := by
  intro pins s σ H xs us Q I r h
  obtain ⟨x, n, rfl, e, q⟩ := h
  obtain ⟨u, rfl, rx⟩ := vals1 r
  have hl := line63
  have hs : sizeLine = 16777216 := sizeLine_eq
  cases x with
  | str y =>
    obtain ⟨t, rfl⟩ := rx
    obtain ⟨hy, e'⟩ : y.length ≤ sizeLine ∧ n = y.length := e
    subst e'
    exact len_str (by omega) ⟨.int _, H, I.tok _, ⟨_, rfl⟩, q⟩
  | byt y =>
    obtain ⟨t, rfl⟩ := rx
    obtain ⟨hy, e'⟩ : y.size ≤ sizeLine ∧ n = y.size := e
    subst e'
    exact PySem.W.len_bytes (by omega) ⟨.int _, H, I.tok _, ⟨_, rfl⟩, q⟩
  | ref p =>
    cases rx
    have e' : (∃ xs, SqL X.K H p xs ∧ n = xs.length) ∨ ∃ xs, SqT X.K H p xs ∧ n = xs.length := e
    rcases e' with ⟨xs, hx, e'⟩ | ⟨xs, hx, e'⟩
    · subst e'
      obtain ⟨its, r', pl, hz⟩ := I.list hx
      have hlen := r'.length
      exact Calls.call_len_list pl.isList (by simp only [List.size_toArray]; omega) ⟨.int xs.length, H, I.tok _, ⟨_, by simp only [List.size_toArray]; rw [hlen]⟩, q⟩
    · subst e'
      obtain ⟨its, r', pl, hz⟩ := I.tuple hx
      have hlen := r'.length
      exact len_tuple pl (by simp only [List.size_toArray]; omega) ⟨.int xs.length, H, I.tok _, ⟨_, by simp only [List.size_toArray]; rw [hlen]⟩, q⟩
  | _ => exact (show False from e).elim
end
end L2

namespace L2
open PySem PySem.Spec PyProof.Rows

/-! ### an instance, its attributes a map -/
theorem lookIn_ns {h : Heap} {dx : Addr} {mA : Str → Option Value} (n : h.Ns1 dx mA) : ∃ od, h.get? dx = some od ∧ ∀ name, PySem.W.lookIn name od = some (mA name) := by
  obtain ⟨o, es, ep, ho, hd, hk, _, hm⟩ := n
  refine ⟨o, ho, fun name => ?_⟩
  have e := hm name
  unfold nsFind findBy at e
  rw [← Array.find?_toList] at e
  unfold PySem.W.lookIn
  rw [hd]
  dsimp only
  split
  · rename_i y q
    rw [q] at e
    exact congrArg some e
  · rename_i q
    rw [q] at e
    have a : es.toList.any (·.refKey) = false := by
      rw [List.any_eq_false]
      intro y hy
      obtain ⟨z, t, hkey⟩ := hk y (Array.mem_toList_iff.mp hy)
      simp [DictEntry.refKey, hkey]
    have a' : ¬ es.toList.any (·.refKey) = true := by rw [a]; exact Bool.false_ne_true
    rw [if_neg a']
    exact congrArg some e

section
variable {prog : Program} {w : World} {A : Around} {E : Value → Shared → Prop} {s : Shared} {K : PySem.W.Frag} {x dx C f : Addr} {mA : Str → Option Value} {name : Str} {v : Value}

end

/-! ### the attributes as a list of pairs -/
noncomputable def putF (f : Str) (v : V) : List (Str × V) → List (Str × V)
  | [] => [(f, v)]
  | (g, x) :: r => if g = f then (g, v) :: r else (g, x) :: putF f v r
theorem lookup_putF (f g : Str) (v : V) : ∀ fs : List (Str × V), (putF f v fs).lookup g = if g = f then some v else fs.lookup g
  | [] => by
    show List.lookup g [(f, v)] = _
    by_cases h : g = f
    · have hb : (g == f) = true := beq_iff_eq.mpr h
      simp only [List.lookup, hb, if_pos h]
    · have hb : (g == f) = false := beq_eq_false_iff_ne.mpr h
      simp only [List.lookup, hb, if_neg h]
  | (k, x) :: r => by
    have ih := lookup_putF f g v r
    rw [show putF f v ((k, x) :: r) = (if k = f then (k, v) :: r else (k, x) :: putF f v r) from rfl]
    by_cases hk : k = f
    · rw [if_pos hk]
      by_cases h : g = k
      · have hb : (g == k) = true := beq_iff_eq.mpr h
        simp only [List.lookup, hb, if_pos (h.trans hk)]
      · have hb : (g == k) = false := beq_eq_false_iff_ne.mpr h
        simp only [List.lookup, hb, if_neg (fun e : g = f => h (e.trans hk.symm))]
    · rw [if_neg hk]
      by_cases h : g = k
      · have hb : (g == k) = true := beq_iff_eq.mpr h
        simp only [List.lookup, hb, if_neg (fun e : g = f => hk (h.symm.trans e))]
      · have hb : (g == k) = false := beq_eq_false_iff_ne.mpr h
        simp only [List.lookup, hb]
        exact ih
theorem keys_putF (f : Str) (v : V) : ∀ fs : List (Str × V), f ∈ (putF f v fs).map (·.1) ∧ ∀ g, g ∈ fs.map (·.1) → g ∈ (putF f v fs).map (·.1)
  | [] => ⟨by simp [putF], fun g h => by simp at h⟩
  | (k, x) :: r => by
    obtain ⟨i1, i2⟩ := keys_putF f v r
    rw [show putF f v ((k, x) :: r) = (if k = f then (k, v) :: r else (k, x) :: putF f v r) from rfl]
    by_cases hk : k = f
    · rw [if_pos hk]
      subst hk
      exact ⟨by simp, fun g h => by simpa using h⟩
    · rw [if_neg hk]
      refine ⟨?_, fun g h => ?_⟩
      · rw [List.map_cons]
        exact List.mem_cons_of_mem _ i1
      · rw [List.map_cons] at h ⊢
        rcases List.mem_cons.mp h with e | e
        · exact List.mem_cons.mpr (.inl e)
        · exact List.mem_cons_of_mem _ (i2 g e)
theorem length_putF (f : Str) (v : V) : ∀ fs : List (Str × V), (putF f v fs).length ≤ fs.length + 1
  | [] => by simp [putF]
  | (k, x) :: r => by
    have ih := length_putF f v r
    rw [show putF f v ((k, x) :: r) = (if k = f then (k, v) :: r else (k, x) :: putF f v r) from rfl]
    by_cases hk : k = f
    · rw [if_pos hk, List.length_cons, List.length_cons]; omega
    · rw [if_neg hk, List.length_cons, List.length_cons]; omega

theorem RelO.some_of {v : V} {o : Option Value} (r : RelO (some v) o) : ∃ u, o = some u ∧ RelV v u := by
  cases o with
  | none => exact (show False from r).elim
  | some u => exact ⟨u, rfl, r⟩
theorem handed_of {v : V} {u : Value} (r : RelV v u) : PySem.W.handedIn u = true := by
  cases v with
  | non => cases (show u = Value.none from r); rfl
  | bl b => cases (show u = Value.bool b from r); rfl
  | int i => obtain ⟨t, e⟩ := (show ∃ t, u = Value.int i t from r); cases e; rfl
  | str x => obtain ⟨t, e⟩ := (show ∃ t, u = Value.str x t from r); cases e; rfl
  | byt b => obtain ⟨t, e⟩ := (show ∃ t, u = Value.bytes b t from r); cases e; rfl
  | flt b => obtain ⟨t, e⟩ := (show ∃ t, u = Value.float b t from r); cases e; rfl
  | ref a => cases (show u = Value.ref a from r); rfl
  | ty n => cases (show u = Value.type n from r); rfl

section
variable {P : Program} {w : World} {H H' : Hp} {h h' : Heap} {a C dx : Addr} {fs fs' : List (Str × V)}
end

/-! ### what of the text a class must have -/
section
variable {X : Cx} {pins : List (Addr × Obj)} {σ : St} {H : Hp} {s : Shared} {a C dx : Addr} {fs : List (Str × V)} {f : Str} {v : V} {A : Around} {E : Value → Shared → Prop}

/-- e.f where nothing but the object is asked: through attributeBase (super) and the last hold -/
theorem attr_of {prog : Program} {w : World} {env : Env} {e : Expr} {f : Str} {pos : Pos} {s : Shared} {Q : Value → Shared → Prop} (hb : attributeBase e f env (eval e env) = eval e env)
    (h : wpAny (model prog w) A (eval e env) (fun o s₁ => wpAny (model prog w) A (getAttr o f true) Q E s₁) E s) : wpAny (model prog w) A (eval (.Attribute e f pos) env) Q E s :=
  Attribute_any_ h (by rw [arm_eval_Attribute, hb])
end

/-! ### readings and rules -/
section
variable {X : Cx} {o e value : Expr} {f : Str} {pos pos' tpos : Pos} {ta tv : TE}
end

/-! ### isinstance -/
section
variable {X : Cx} {pins : List (Addr × Obj)} {σ : St} {H : Hp} {s : Shared} {A : Around} {E : Value → Shared → Prop} {Q : Value → Shared → Prop} {c : Value} {b : Bool}
end
end L2

namespace L2
open PySem PySem.Spec PyProof.Rows

/-! ### room -/
structure Room (k : Nat) (A : Around) : Prop where
  hd : A.handled = none
  dp : A.depth + 3 * k + 5 < recursionLimit
  un : A.units + 16 * k + 200 < cLine
  gd : A.guards = some []
theorem Room.mono {j k : Nat} {A : Around} (r : Room k A) (h : j ≤ k) : Room j A := ⟨r.hd, by have := r.dp; omega, by have := r.un; omega, r.gd⟩
theorem Room.deeper {k : Nat} {A : Around} (r : Room (k + 1) A) (env : Env) : Room k (A.deeper env) :=
  ⟨r.hd, by have := r.dp; show A.depth + 1 + 3 * k + 5 < _; omega, by have := r.un; show A.units + 3 + 16 * k + 200 < _; omega, r.gd⟩
theorem make_depth {A : Around} {C : Addr} {us : List Value} {kw : List (Str × Value)} : (A.under (.builtin "type.__call__" ⟨.ref C :: us, kw⟩)).depth = A.depth + 1 := by
  first | rfl | simp [Around.under, Code.weight, Code.isCreation, Code.isGuard, Code.isCaller, Code.frames, Code.isFrame, guardIds]
theorem make_units {A : Around} {C : Addr} {us : List Value} {kw : List (Str × Value)} : (A.under (.builtin "type.__call__" ⟨.ref C :: us, kw⟩)).units = A.units + 1 := by
  first | rfl | simp [Around.under, Code.cUnits, Code.frames, Code.isFrame]
theorem Room.make {k : Nat} {A : Around} (r : Room (k + 1) A) (C : Addr) (us : List Value) (kw : List (Str × Value)) : Room k (A.under (.builtin "type.__call__" ⟨.ref C :: us, kw⟩)) :=
  ⟨r.hd, by have := r.dp; rw [make_depth]; omega, by have := r.un; rw [make_units]; omega, r.gd⟩
theorem Room.depth {k : Nat} {A : Around} (r : Room k A) : A.depth < recursionLimit := by have := r.dp; omega
theorem Room.units {k : Nat} {A : Around} (r : Room k A) : A.units + 64 < cLine := by have := r.un; omega
/-! ### argument lists and displays -/
noncomputable def tNil : TA := fun _ H Q => Q [] H
noncomputable def tCons (ta : TE) (tr : TA) : TA := fun σ H Q => ta σ H fun x H1 => tr σ H1 fun xs H2 => Q (x :: xs) H2
section
variable {X : Cx} {e : Expr} {es : List Expr} {te : TE} {t : TA} {pos : Pos}
theorem pa_nil : PA X [] tNil := fun _ _ _ _ H Q I h => Calls.spliced_nil ⟨[], H, I, .nil, h⟩
theorem pa_cons (ha : PE X e te) (hr : PA X es t) (hs : starEach (e :: es) X.env = (false, eval e X.env) :: starEach es X.env := by rfl) : PA X (e :: es) (tCons te t) := by
  intro pos pins s σ H Q I h
  rw [hs]
  show wpAny _ _ (spliced ((false, eval e X.env) :: backTo pos (starEach es X.env))) _ _ s
  refine Calls.spliced_cons (thn (ha pins s σ H _ I h) fun u s1 hh_ => ?_)
  obtain ⟨x, H1, I1, r1, q1⟩ := hh_
  exact thn (hr pos pins s1 σ H1 _ I1 q1) fun us s2 ⟨xs, H2, I2, r2, q2⟩ => ⟨x :: xs, H2, I2, .cons r1 r2, q2⟩

/-- a tuple, a list of written items -/
noncomputable def tTup (t : TA) : TE := fun σ H Q => t σ H fun xs H1 => xs.length ≤ sizeLine ∧ ∀ p, H1 p = none → Q (.ref p) (upd H1 p (.tup xs))
noncomputable def tLst (t : TA) : TE := fun σ H Q => t σ H fun xs H1 => xs.length ≤ sizeLine ∧ ∀ p, H1 p = none → Q (.ref p) (upd H1 p (.lst xs))
theorem pe_tup {x1} (h : PA X es t) : PE X (.Tuple es x1 pos) (tTup t) := by
  intro pins s σ H Q I hq
  refine wpAny_Tuple_spliced (thn (h pos pins s σ H _ I hq) fun us s1 ⟨xs, H1, I1, r, z, q⟩ => ⟨by rw [← r.length]; exact z, ?_⟩)
  have hf : H1 s1.heap.objs.size = none := I1.hok.fresh (Nat.le_refl _)
  refine ⟨.ref s1.heap.objs.size, upd H1 s1.heap.objs.size (.tup xs), I1.laid (t' := s1.toks) (fun b u e => Heap.get?_push_of_some _ e) (Nat.le_refl _) ?_, rfl, q _ hf⟩
  exact ⟨z, us, r, ⟨_, Heap.get?_push_size _ rfl, rfl, _, rfl⟩⟩
theorem pe_lst (h : PA X es t) : PE X (.List es pos) (tLst t) := by
  intro pins s σ H Q I hq
  refine wpAny_List_spliced (thn (h pos pins s σ H _ I hq) fun us s1 ⟨xs, H1, I1, r, z, q⟩ => ⟨by rw [← r.length]; exact z, ?_⟩)
  have hf : H1 s1.heap.objs.size = none := I1.hok.fresh (Nat.le_refl _)
  refine ⟨.ref s1.heap.objs.size, upd H1 s1.heap.objs.size (.lst xs), I1.laid (t' := s1.toks) (fun b u e => Heap.get?_push_of_some _ e) (Nat.le_refl _) ?_, rfl, q _ hf⟩
  exact ⟨z, us, 0, r, Heap.get?_push_size _ rfl⟩
end

/-! ### what a def promises -/
/-- a def's promise: the bound arguments in the parameters' order, the heap, the wanted end, the wanted exception -/
noncomputable abbrev Sp := List V → Hp → VK → XK → Prop
/-- how an exception lies behind a call (file 08 gives it): the callers' frames, abstract heap and state ahead of the call, the wish, the exception, the state -/
noncomputable abbrev CXT := List Env → Hp → Shared → XK → Value → Shared → Prop

/-- the state at a call -/
structure Env0 (P : Program) (w : World) (K : PySem.W.Frag) (mg : Str → Option Value) (base : Heap) (A : Around) (outer : List Env) (s : Shared) (H : Hp) : Prop where
  frames : A.frames = some outer
  mod : Mod K mg base
  bs : ∀ b o, base.get? b = some o → s.heap.get? b = some o ∧ H b = none
  bsz : base.objs.size ≤ s.heap.objs.size
  funs : s.heap.FunFrames base outer
  frf : ∀ b ∈ frs outer, H b = none
  hok : HOk P w H s.heap
  bare : AllBare s.gens
/-- a call's end -/
noncomputable def CE (outer : List Env) (P : Program) (w : World) (H : Hp) (s : Shared) (Q : VK) (u : Value) (s' : Shared) : Prop :=
  ∃ v H', s'.os = s.os ∧ AllBare s'.gens ∧ Un (frs outer) [] H H' s.heap s'.heap ∧ HOk P w H' s'.heap ∧ RelV v u ∧ Q v H'
noncomputable def CR (CX : CXT) (outer : List Env) (P : Program) (w : World) (H : Hp) (s : Shared) (Q : VK) (E : XK) (r : Result) (s' : Shared) : Prop :=
  match r with
  | .ok (.ret u) => CE outer P w H s Q u s'
  | .ok _ => False
  | .error e => CX outer H s E e s'
structure FnOk (P : Program) (w : World) (K : PySem.W.Frag) (mg : Str → Option Value) (base : Heap) (CX : CXT) (k : Nat) (f : Addr) (fd : FuncData) (ps : List Str) (sp : Sp) : Prop where
  len : ∀ vs H Q E, sp vs H Q E → vs.length = ps.length
  run : ∀ (A : Around) (outer : List Env) (s : Shared) (H : Hp) (args : Args) (us : List Value) (vs : List V) (Q : VK) (E : XK), Room k A → Env0 P w K mg base A outer s H → BindsTo s fd args (ps.zip us) → Vals vs us → sp vs H Q E →
    codeAny (model P w) A (.call (.ref f) args) (CR CX outer P w H s Q E) s
theorem Env0.make {P : Program} {w : World} {K : PySem.W.Frag} {mg : Str → Option Value} {base : Heap} {A : Around} {outer : List Env} {s : Shared} {H : Hp} (e : Env0 P w K mg base A outer s H) (C : Addr) (us : List Value) (kw : List (Str × Value)) :
    Env0 P w K mg base (A.under (.builtin "type.__call__" ⟨.ref C :: us, kw⟩)) outer s H := ⟨by first | exact e.frames | (simpa [Around.under, Code.envs, Code.isFrame, pushEnvs] using e.frames), e.mod, e.bs, e.bsz, e.funs, e.frf, e.hok, e.bare⟩
section
variable {X : Cx} {pins : List (Addr × Obj)} {σ : St} {H : Hp} {s s' : Shared}
/-- from a body: what a callee wants -/
theorem Inv.env0 (I : Inv X pins σ H s) : Env0 X.prog X.w X.K X.mg X.base X.A X.stack s H :=
  ⟨I.ok.frames, I.ok.mod, I.bs, Nat.le_trans I.ok.bsz I.sz, I.stack, I.stkFree, I.hok, I.bare⟩
/-- behind a call -/
theorem Inv.after {Q : VK} {u : Value} (I : Inv X pins σ H s) (h : CE X.stack X.prog X.w H s Q u s') : EP X pins σ Q u s' := by
  obtain ⟨v, H', os, bare, un, hok, r, q⟩ := h
  obtain ⟨hh, g, d, t, os'⟩ := s'
  obtain rfl : os' = s.os := os
  exact ⟨v, H', I.call (h' := hh) (g' := g) (d' := d) (t' := t) (ch := []) un hok bare (fun b z => absurd z (by simp)), r, q⟩
end

/-! ### calls -/
/-- f(..): the written arguments, then the defaults dvs; E: what is wanted of an exception -/
noncomputable def tCall (sp : Sp) (dvs : List V) (E : XK) (t : TA) : TE := fun σ H Q => t σ H fun vs H1 => sp (vs ++ dvs) H1 Q E
/-- how the parameters are bound: us the positional arguments, kw the keywords' values by name, ds the defaults that fill up -/
noncomputable def Binds (K : PySem.W.Frag) (fd : FuncData) (ps : List Str) (ds : List Value) : Prop :=
  ∀ (s : Shared) (us : List Value), K.In s.heap → (us ++ ds).length = ps.length → BindsTo s fd ⟨us, []⟩ (ps.zip (us ++ ds))
/-- every parameter is given -/
theorem Binds.all {K : PySem.W.Frag} {fd : FuncData} {ps : List Str} (h : ∀ us : List Value, us.length = ps.length → bindArgs fd ⟨us, []⟩ = pure (ps.zip us)) : Binds K fd ps [] := fun s us _ hl => by
  rw [List.append_nil] at hl ⊢
  exact .of_eq (h us hl)

/-- an exception of a callee reaches what this body wants of exceptions -/
noncomputable def Passes (CX : CXT) (X : Cx) (E : XK) : Prop := ∀ (pins : List (Addr × Obj)) (σ : St) (H : Hp) (s : Shared) (e : Value) (s' : Shared), Inv X pins σ H s → CX X.stack H s E e s' → X.xe e s'

section
variable {X : Cx} {CX : CXT} {k : Nat} {f C : Addr} {fd : FuncData} {ps : List Str} {sp : Sp} {dvs : List V} {ds : List Value} {E : XK} {x m : Str} {p pos apos : Pos} {e o : Expr} {es : List Expr} {ta : TE} {t : TA}

/-- the callee runs -/
theorem run_fn {pins : List (Addr × Obj)} {σ : St} {H : Hp} {s : Shared} {Q : VK} {us : List Value} {vs : List V} (F : FnOk X.prog X.w X.K X.mg X.base CX k f fd ps sp) (hr : Room k X.A) (hb : Binds X.K fd ps ds) (hd : Vals dvs ds) (hx : Passes CX X E)
    (I : Inv X pins σ H s) (r : Vals vs us) (h : sp (vs ++ dvs) H Q E) : wpAny (model X.prog X.w) X.A (call (.ref f) us) (EP X pins σ Q) X.xe s := by
  have r2 : Vals (vs ++ dvs) (us ++ ds) := r.append hd
  have hl : (us ++ ds).length = ps.length := by rw [← r2.length]; exact F.len _ _ _ _ h
  refine wpAny_call (codeAny_mono (F.run X.A X.stack s H ⟨us, []⟩ (us ++ ds) (vs ++ dvs) Q E hr I.env0 (hb s us I.kIn hl) r2 h) fun r s' hq => ?_)
  cases r with
  | error e => exact hx pins σ H s e s' I hq
  | ok fl =>
    cases fl with
    | ret u => exact I.after hq
    | next => exact False.elim hq
    | brk => exact False.elim hq
    | cont => exact False.elim hq

theorem pe_call (F : FnOk X.prog X.w X.K X.mg X.base CX k f fd ps sp) (hr : Room k X.A) (hg : Gl X x) (hm : X.mg x = some (.ref f)) (hk : PySem.W.keepIn X.K (.ref f) = true) (hb : Binds X.K fd ps ds) (hd : Vals dvs ds) (hx : Passes CX X E)
    (ha : PA X (e :: es) t) (hdb : (x == ("__debug__" : Str)) = false := by decide) (he : starEach (e :: es) X.env = (false, eval e X.env) :: starEach es X.env := by rfl) (hpl : (backTo pos (starEach es X.env)).any (·.1) = false := by rfl) :
    PE X (.Call (.Name x p) (e :: es) [] pos) (tCall sp dvs E t) := by
  intro pins s σ H Q I h
  refine wpAny_Call_Name_kw (ld_glob I hg hm ?_ hdb)
  refine PySem.W.callWith_K (h₀ := X.base) I.ok.mod.kin hk (thn (ha pos pins s σ H _ I h) fun us s1 ⟨vs, H1, I1, r, q⟩ => ⟨I1.kIn, ?_⟩) he hpl
  exact run_fn F hr hb hd hx I1 r q
end

/-! ### keywords -/
section
variable {X : Cx} {CX : CXT} {k : Nat} {f C : Addr} {fd : FuncData} {ps ks : List Str} {sp : Sp} {E : XK} {x m : Str} {p pos apos kpos : Pos} {e o : Expr} {es : List Expr} {kws : List Keyword} {te ta : TE} {t tk : TA} {nm : Option Str}
variable {g : List Value → List Value → List Value} {gV : List V → List V → List V}
end

/-! ### a def's body keeps its promise -/
/-- names: the parameters first -/
structure FnScope (N P : List Str) (sc : Scope) : Prop where
  kind : sc.kind = .function
  co : sc.isCoroutine = false
  gen : sc.isGenerator = false
  nd : N.Nodup
  pre : N.take P.length = P
  par : ∀ x ∈ P, sc.names.lookup x = some .local ∨ sc.names.lookup x = some .cell
  nofree : ∀ y ∈ sc.names, y.2 ≠ .free

theorem bindL_out {kindOf : Str → Option NameKind} {x : Str} : ∀ {binds : List (Str × Value)} {m : Str → Option Value}, (∀ v, (x, v) ∉ binds) → bindL kindOf binds m x = m x
  | [], _, _ => rfl
  | (n, v) :: r, m, h => by
    unfold bindL
    rw [bindL_out fun w hw => h w (List.mem_cons_of_mem _ hw)]
    split
    · have : x ≠ n := by rintro rfl; exact h v List.mem_cons_self
      simp [this]
    · rfl
theorem bindC_out {kindOf : Str → Option NameKind} {x : Str} : ∀ {binds : List (Str × Value)} {m : Str → Option Value}, (∀ v, (x, v) ∉ binds) → bindC kindOf binds m x = m x
  | [], _, _ => rfl
  | (n, v) :: r, m, h => by
    unfold bindC
    rw [bindC_out fun w hw => h w (List.mem_cons_of_mem _ hw)]
    split
    · rfl
    · have : x ≠ n := by rintro rfl; exact h v List.mem_cons_self
      simp [this]
theorem bindL_get {kindOf : Str → Option NameKind} {x : Str} {v : Value} : ∀ {P : List Str} {vs : List Value} {i : Nat} {m : Str → Option Value}, P.Nodup → P[i]? = some x → vs[i]? = some v → kindOf x = some .local →
    bindL kindOf (P.zip vs) m x = some v
  | [], _, _, _, _, h, _, _ => by simp at h
  | _ :: _, [], _, _, _, _, h, _ => by simp at h
  | p :: P, w :: vs, 0, m, nd, h1, h2, hk => by
    simp at h1 h2; subst h1; subst h2
    show bindL kindOf ((p, w) :: P.zip vs) m p = _
    unfold bindL
    rw [bindL_out fun v hv => (List.nodup_cons.mp nd).1 (List.of_mem_zip hv).1, if_pos hk]
    simp
  | p :: P, w :: vs, i + 1, m, nd, h1, h2, hk => by
    show bindL kindOf ((p, w) :: P.zip vs) m x = _
    unfold bindL
    exact bindL_get (i := i) (List.nodup_cons.mp nd).2 (by simpa using h1) (by simpa using h2) hk
theorem bindC_get {kindOf : Str → Option NameKind} {x : Str} {v : Value} : ∀ {P : List Str} {vs : List Value} {i : Nat} {m : Str → Option Value}, P.Nodup → P[i]? = some x → vs[i]? = some v → kindOf x ≠ some .local →
    bindC kindOf (P.zip vs) m x = some v
  | [], _, _, _, _, h, _, _ => by simp at h
  | _ :: _, [], _, _, _, _, h, _ => by simp at h
  | p :: P, w :: vs, 0, m, nd, h1, h2, hk => by
    simp at h1 h2; subst h1; subst h2
    show bindC kindOf ((p, w) :: P.zip vs) m p = _
    unfold bindC
    rw [bindC_out fun v hv => (List.nodup_cons.mp nd).1 (List.of_mem_zip hv).1, if_neg hk]
    simp
  | p :: P, w :: vs, i + 1, m, nd, h1, h2, hk => by
    show bindC kindOf ((p, w) :: P.zip vs) m x = _
    unfold bindC
    exact bindC_get (i := i) (List.nodup_cons.mp nd).2 (by simpa using h1) (by simpa using h2) hk

/-- the names' values at the entry -/
noncomputable def start (N : List Str) (vs : List V) : St := vs.map some ++ List.replicate (N.length - vs.length) none

/-- the context of a def's body, at its entry; an exception leaves the frame, then lies as CX says -/
noncomputable def cxOf (CX : CXT) (P : Program) (w : World) (K : PySem.W.Frag) (mg : Str → Option Value) (base : Heap) (N : List Str) (qual : Str) (scope : Scope) (f : Addr) (cd : Value) (A : Around) (outer : List Env) (s : Shared) (H : Hp) (E : XK) : Cx where
  prog := P
  w := w
  K := K
  mg := mg
  base := base
  A := A.deeper (envOfC qual scope s.heap.objs.size f cd)
  N := N
  s₀ := s
  H₀ := H
  env := envOfC qual scope s.heap.objs.size f cd
  outer := outer
  stack := envOfC qual scope s.heap.objs.size f cd :: outer
  ex := []
  calm := true
  fn := fun _ => true
  pn := []
  xe := fun e s' => wpAny (model P w) (A.deeper (envOfC qual scope s.heap.objs.size f cd)) (leaving (envOfC qual scope s.heap.objs.size f cd) e) (fun _ s'' => CX outer H s E e s'') (fun e' s'' => CX outer H s E e' s'') s'

theorem cell_has {sc : Scope} {n : Nat} {x : Str} (h : sc.names.lookup x = some .cell) : ∃ c, (cellsFrom n sc.names []).lookup x = some c := by
  have q := PySem.W.cellsFrom_some sc.names n [] (.inl h)
  exact Option.isSome_iff_exists.mp q

theorem inv_start {CX : CXT} {P : Program} {w : World} {K : PySem.W.Frag} {mg : Str → Option Value} {base : Heap} {N ps : List Str} {qual : Str} {scope : Scope} {f : Addr} {cd : Value} {A : Around} {outer : List Env} {s s1 : Shared} {H : Hp} {E : XK} {us : List Value} {vs : List V}
    (S : FnScope N ps scope) (hd : A.handled = none) (e0 : Env0 P w K mg base A outer s H) (hl : vs.length = ps.length) (r : Vals vs us)
    (x : InCallC s s.heap.objs.size (bindL (envOfC qual scope s.heap.objs.size f cd).kindOf (ps.zip us) fun _ => none) (cellsFrom (s.heap.objs.size + 1) scope.names []) (bindC (envOfC qual scope s.heap.objs.size f cd).kindOf (ps.zip us) fun _ => none) s1) :
    Inv (cxOf CX P w K mg base N qual scope f cd A outer s H E) [] (start N vs) H s1 := by
  have hpl : ps.length ≤ N.length := by have := congrArg List.length S.pre; rw [List.length_take] at this; omega
  obtain ⟨h1, tk, rfl, hk⟩ := x.done
  have noA : ∀ b : Addr, b ∉ (cxOf CX P w K mg base N qual scope f cd A outer s H E).ex := fun b z => absurd (show b ∈ ([] : List Addr) from z) (by simp)
  refine ⟨⟨e0.mod, S.kind, rfl, rfl, Nat.le_refl _, fun y z c h1 h2 => ?_, fun y hy => ?_, fun y c _ h => ?_, fun _ => hd, Around.frames_deeper e0.frames, .inr ⟨rfl, rfl⟩, fun b z => absurd z (noA b), e0.bs, e0.bsz, fun b _ _ => noA b, fun b z => absurd z (noA b), e0.funs, e0.frf⟩,
    rfl, e0.bare, Un.kept hk, ⟨_, x.toInCall.ns, fun i y v h1 h2 h3 => ?_⟩, fun y c h => ⟨_, x.cell y c h⟩, e0.hok.fresh (Nat.le_refl _), fun y c h => ?_, fun p hp => absurd (show p ∈ ([] : List (Addr × Obj)) from hp) (by simp), e0.hok.kept hk, ?_⟩
  · exact name_of_addr x.apart (PySem.mem_of_lookup h1) (PySem.mem_of_lookup h2)
  · have hy : scope.names.lookup y = some .cell ∨ scope.names.lookup y = some .free := hy
    rcases hy with hy | hy
    · exact cell_has hy
    · exact absurd rfl (S.nofree _ (PySem.mem_of_lookup hy))
  · exact Nat.le_of_lt (x.above y c (PySem.mem_of_lookup h))
  · have hi : i < vs.length := by
      unfold start at h2
      by_cases hi : i < vs.length
      · exact hi
      · rw [List.getElem?_append_right (by simpa using hi)] at h2
        rw [List.getElem?_replicate] at h2
        split at h2 <;> cases h2
    have ha : vs[i]? = some v := by
      unfold start at h2
      rw [List.getElem?_append_left (by simpa using hi), List.getElem?_map] at h2
      cases e : vs[i]? with
      | none => rw [e] at h2; cases h2
      | some a => rw [e] at h2; cases h2; rfl
    obtain ⟨u, hu, rv⟩ := r.get ha
    have hp : ps[i]? = some y := by
      rw [← S.pre, List.getElem?_take_of_lt (by omega)]; exact h1
    have ndP : ps.Nodup := by rw [← S.pre]; exact S.nd.sublist (List.take_sublist _ _)
    refine ⟨u, rv, ?_⟩
    rcases S.par y (List.mem_of_getElem? hp) with k | k
    · exact .inl ⟨k, bindL_get ndP hp hu k⟩
    · obtain ⟨c, e⟩ := cell_has (n := s.heap.objs.size + 1) k
      refine .inr ⟨.inl k, c, e, ?_⟩
      have q := x.cell y c e
      rw [bindC_get ndP hp hu (by show scope.names.lookup y ≠ _; rw [k]; decide)] at q
      exact q
  · exact e0.hok.fresh (Nat.le_of_lt (x.above y c (PySem.mem_of_lookup h)))
  · unfold start
    show _ = N.length
    rw [List.length_append, List.length_map, List.length_replicate]
    omega

/-- THE RULE: a def (or a method) of the text, by its body. The body's reading t is chosen for each entry; it is run at the parameters' values -/
theorem fn_of {CX : CXT} {P : Program} {w : World} {K : PySem.W.Frag} {mg : Str → Option Value} {base : Heap} {k : Nat} {f : Addr} {name qual : Str} {params : Arguments} {body : List Stmt} {scope : Scope} {dV kV doc pm cdv ct oc : Value} {an od : Option Addr}
    {osl : Array (Option Value)} {N ps : List Str} {sp : Sp} (lk : K.lookup f = some ⟨oc, od, .func (PySem.W.fnOf name qual params body scope dV kV doc pm an cdv ct), osl⟩) (hcd : PySem.W.codeIn K cdv qual = true) (S : FnScope N ps scope)
    (len : ∀ vs H Q E, sp vs H Q E → vs.length = ps.length)
    (hbody : ∀ (A : Around) (outer : List Env) (s : Shared) (H : Hp) (vs : List V) (Q : VK) (E : XK), Room k (A.deeper (envOfC qual scope s.heap.objs.size f cdv)) → sp vs H Q E →
      ∃ t, PSs (cxOf CX P w K mg base N qual scope f cdv A outer s H E) body t ∧ t { nx := fun _ H' => Q .non H', rt := Q } (start N vs) H) :
    FnOk P w K mg base CX (k + 1) f (PySem.W.fnOf name qual params body scope dV kV doc pm an cdv ct) ps sp := by
  refine ⟨len, fun A outer s H args us vs Q E hr e0 hb r hsp => ?_⟩
  have hl := len _ _ _ _ hsp
  have KX : K.In s.heap := e0.mod.kin.keeps fun b o e => (e0.bs b o e).1
  have lim : s.heap.NoLimit := e0.mod.nolimit.keeps fun b o e => (e0.bs b o e).1
  have hkind : ∀ y ∈ ps.zip us, scope.names.lookup y.1 = some .local ∨ (scope.names.lookup y.1 = some .cell ∧ ((cellsFrom (s.heap.objs.size + 1) scope.names []).lookup y.1).isSome = true) := fun ⟨n, v⟩ hy => by
    rcases S.par n (List.of_mem_zip hy).1 with q | q
    · exact .inl q
    · exact .inr ⟨q, PySem.W.cellsFrom_some _ _ _ (.inl q)⟩
  refine codeAny_call_function hr.depth (KX _ _ lk) rfl S.co S.gen rfl (PySem.W.codeRec_of KX hcd) (hb _ _ _ _ ?_)
  refine wpAny_newFunctionEnv_cells S.kind hkind fun env he s1 x => ?_
  subst he
  refine ⟨lim.keeps x.toInCall.keep, codeAny_func ?_⟩
  obtain ⟨t, ht, hq⟩ := hbody A outer s H vs Q E (hr.deeper _) hsp
  have I : Inv (cxOf CX P w K mg base N qual scope f cdv A outer s H E) [] (start N vs) H s1 := inv_start S hr.hd e0 hl r x
  refine wpAny_mono (ht [] s1 (start N vs) H _ I hq) (fun fl s' hs => ?_) fun e s' hs => hs
  have fin : ∀ {σ' : St} {H' : Hp} {v : V} {u : Value}, Inv (cxOf CX P w K mg base N qual scope f cdv A outer s H E) [] σ' H' s' → RelV v u → Q v H' → CE outer P w H s Q u s' :=
    fun {σ' H' v u} J rv q => ⟨v, H', J.os, J.bare, J.base, J.hok, rv, q⟩
  cases fl with
  | ret u =>
    obtain ⟨v, σ', H', J, rv, q⟩ := hs
    exact fin J rv q
  | next =>
    obtain ⟨σ', H', J, q⟩ := hs
    exact fin (v := V.non) (u := Value.none) J rfl q
  | brk =>
    obtain ⟨_, _, _, q⟩ := hs
    exact False.elim q
  | cont =>
    obtain ⟨_, _, _, q⟩ := hs
    exact False.elim q
end L2

namespace L2
open PySem PySem.Spec PyProof.Rows
section
variable {X : Cx} {x : Str} {p pos : Pos} {e : Expr} {es : List Expr} {t : TA} {id T : String} {r : List V → Hp → VK → Prop}

noncomputable def tCB (r : List V → Hp → VK → Prop) (t : TA) : TE := fun σ H Q => t σ H fun vs H1 => r vs H1 Q
/-- f(e, ..), f a built-in function -/
theorem pe_callB (hc : CallR X (.builtin id) r) (hg : Gl X x) (hm : X.mg x = none) (hv : bootBuiltins x = some (.builtin id)) (ha : PA X (e :: es) t) (hn : x ≠ "__name__" := by decide) (hdb : (x == ("__debug__" : Str)) = false := by decide)
    (he : starEach (e :: es) X.env = (false, eval e X.env) :: starEach es X.env := by rfl) (hpl : (backTo pos (starEach es X.env)).any (·.1) = false := by rfl) : PE X (.Call (.Name x p) (e :: es) [] pos) (tCB r t) := by
  intro pins s σ H Q I h
  refine wpAny_Call_Name_kw (ld_blt I hg hm hv ?_ hn hdb)
  exact PyProof.Rows.callWith_builtin1 (thn (ha pos pins s σ H _ I h) fun us s1 ⟨vs, H1, I1, r1, q1⟩ => hc pins s1 σ H1 vs us Q I1 r1 q1) he hpl
/-- T(e, ..), T a built-in type -/
theorem pe_callTy (hc : CallR X (.type T) r) (hg : Gl X x) (hm : X.mg x = none) (hv : bootBuiltins x = some (.type T)) (ha : PA X (e :: es) t) (hn : x ≠ "__name__" := by decide) (hdb : (x == ("__debug__" : Str)) = false := by decide)
    (he : starEach (e :: es) X.env = (false, eval e X.env) :: starEach es X.env := by rfl) (hpl : (backTo pos (starEach es X.env)).any (·.1) = false := by rfl) : PE X (.Call (.Name x p) (e :: es) [] pos) (tCB r t) := by
  intro pins s σ H Q I h
  refine wpAny_Call_Name_kw (ld_blt I hg hm hv ?_ hn hdb)
  exact PyProof.Rows.callWith_type1 (thn (ha pos pins s σ H _ I h) fun us s1 ⟨vs, H1, I1, r1, q1⟩ => hc pins s1 σ H1 vs us Q I1 r1 q1) he hpl
end
end L2

namespace L2
open PySem PySem.Spec PyProof.Rows

/-! ### lists of pairs as tables -/
section
variable {κ : Type} [DecidableEq κ]
noncomputable def valV (kvs : List (κ × V)) (k : κ) : Option V := (kvs.find? fun kv => decide (kv.1 = k)).map (·.2)
/-- in its place, or at the end -/
noncomputable def putK (kvs : List (κ × V)) (k : κ) (v : V) : List (κ × V) :=
  if (kvs.any fun kv => decide (kv.1 = k)) = true then kvs.map (fun kv => if kv.1 = k then (kv.1, v) else kv) else kvs ++ [(k, v)]
theorem valV_pos {p : κ × V} {r : List (κ × V)} {k : κ} (e : p.1 = k) : valV (p :: r) k = some p.2 := by simp [valV, List.find?_cons, e]
theorem valV_neg {p : κ × V} {r : List (κ × V)} {k : κ} (e : ¬ p.1 = k) : valV (p :: r) k = valV r k := by simp [valV, List.find?_cons, e]
theorem valV_any (k : κ) : ∀ kvs : List (κ × V), (kvs.any fun kv => decide (kv.1 = k)) = (valV kvs k).isSome
  | [] => rfl
  | p :: r => by
    rw [List.any_cons]
    by_cases e : p.1 = k
    · simp only [valV_pos e, decide_eq_true e, Bool.true_or, Option.isSome_some]
    · rw [valV_neg e, decide_eq_false e, Bool.false_or]; exact valV_any k r
theorem length_putK (kvs : List (κ × V)) (k : κ) (v : V) : (putK kvs k v).length ≤ kvs.length + 1 := by
  unfold putK
  split
  · rw [List.length_map]; omega
  · rw [List.length_append, List.length_cons, List.length_nil]; omega
theorem RelO.isSome_eq {o : Option V} {u : Option Value} (r : RelO o u) : o.isSome = u.isSome := by
  cases o with
  | none => cases u with
    | none => rfl
    | some _ => exact (show False from r).elim
  | some _ => cases u with
    | none => exact (show False from r).elim
    | some _ => rfl
/-- raw tables of the same keys -/
theorem KV.val {kvs : List (κ × V)} {vs : List (κ × Value)} (r : KV kvs vs) (k : κ) : RelO (valV kvs k) (valueAt vs k) := by
  unfold KV at r
  induction r with
  | nil => exact True.intro
  | @cons p q ps qs h t ih =>
    obtain ⟨h1, h2⟩ := h
    by_cases e : p.1 = k
    · have e' : q.1 = k := h1.symm.trans e
      have b : valueAt (q :: qs) k = some q.2 := by simp [valueAt, List.find?_cons, e']
      rw [valV_pos e, b]; exact h2
    · have e' : ¬ q.1 = k := fun z => e (h1.trans z)
      have b : valueAt (q :: qs) k = valueAt qs k := by simp [valueAt, List.find?_cons, e']
      rw [valV_neg e, b]; exact ih
theorem KV.any {kvs : List (κ × V)} {vs : List (κ × Value)} (r : KV kvs vs) (k : κ) : (kvs.any fun kv => decide (kv.1 = k)) = vs.any fun kv => decide (kv.1 = k) := by
  unfold KV at r
  induction r with
  | nil => rfl
  | cons h t ih => rw [List.any_cons, List.any_cons, ih, h.1]
theorem KV.repl {kvs : List (κ × V)} {vs : List (κ × Value)} (r : KV kvs vs) (k : κ) {y : V} {u : Value} (ry : RelV y u) :
    KV (kvs.map fun kv => if kv.1 = k then (kv.1, y) else kv) (vs.map fun kv => if kv.1 = k then (kv.1, u) else kv) := by
  unfold KV at r ⊢
  induction r with
  | nil => exact .nil
  | @cons p q ps qs h t ih =>
    rw [List.map_cons, List.map_cons]
    refine .cons ?_ ih
    obtain ⟨h1, h2⟩ := h
    by_cases e : p.1 = k
    · rw [if_pos e, if_pos (h1.symm.trans e)]; exact ⟨h1, ry⟩
    · rw [if_neg e, if_neg (fun z => e (h1.trans z))]; exact ⟨h1, h2⟩
theorem KV.put {kvs : List (κ × V)} {vs : List (κ × Value)} (r : KV kvs vs) (k : κ) {y : V} {u : Value} (ry : RelV y u) : KV (putK kvs k y) (stored vs k u) := by
  unfold putK stored
  rw [r.any k]
  by_cases e : (vs.any fun kv => decide (kv.1 = k)) = true
  · rw [if_pos e, if_pos e]; exact r.repl k ry
  · rw [if_neg e, if_neg e]; exact Paired.snoc r ⟨rfl, ry⟩
theorem KV.length {kvs : List (κ × V)} {vs : List (κ × Value)} (r : KV kvs vs) : kvs.length = vs.length := Paired.length r
end


/-! ### a tracked dict, its keys ints and texts or tuples of these -/
theorem kV_is {P : Program} {w : World} {k : Key} {u : Value} (r : RelV (kV k) u) : (mixKind P w).is k u = true := by
  cases k with
  | inl i => obtain ⟨t, e⟩ := (show ∃ t, u = Value.int i t from r); subst e; exact mixKind_int P w i t
  | inr x => obtain ⟨t, e⟩ := (show ∃ t, u = Value.str x t from r); subst e; exact mixKind_str P w x t
theorem items_are {P : Program} {w : World} : ∀ {ks : List Key} {us : List Value}, Vals (ks.map kV) us → ItemsAre (mixKind P w) ks us
  | [], _, r => by rw [List.map_nil] at r; cases r; exact .nil
  | k :: ks, _, r => by
    rw [List.map_cons] at r
    cases r with
    | cons h t => exact .cons (kV_is h) (items_are t)

/-- raw entries of a dict with tuple keys -/
noncomputable abbrev KT (H : Hp) : List (List Key × V) → List (List Key × Addr × Value) → Prop := Paired fun p q => p.1 = q.1 ∧ H q.2.1 = some (.tup (p.1.map kV)) ∧ RelV p.2 q.2.2
theorem KT.val {H : Hp} {kvs : List (List Key × V)} {xs : List (List Key × Addr × Value)} (r : KT H kvs xs) (k : List Key) : RelO (valV kvs k) ((atKey xs k).map (·.2)) := by
  induction r with
  | nil => exact True.intro
  | @cons p q ps qs h t ih =>
    obtain ⟨h1, _, h2⟩ := h
    by_cases e : p.1 = k
    · have e' : q.1 = k := h1.symm.trans e
      have b : atKey (q :: qs) k = some q.2 := by simp [atKey, List.find?_cons, e']
      rw [valV_pos e, b]; exact h2
    · have e' : ¬ q.1 = k := fun z => e (h1.trans z)
      have b : atKey (q :: qs) k = atKey qs k := by simp [atKey, List.find?_cons, e']
      rw [valV_neg e, b]; exact ih
theorem KT.repl {H : Hp} {kvs : List (List Key × V)} {xs : List (List Key × Addr × Value)} (r : KT H kvs xs) (k : List Key) {y : V} {u : Value} (ry : RelV y u) :
    KT H (kvs.map fun kv => if kv.1 = k then (kv.1, y) else kv) (xs.map (putAt k u)) := by
  induction r with
  | nil => exact .nil
  | @cons p q ps qs h t ih =>
    rw [List.map_cons, List.map_cons]
    refine .cons ?_ ih
    obtain ⟨h1, h2, h3⟩ := h
    unfold putAt
    by_cases e : p.1 = k
    · rw [if_pos e, if_pos (h1.symm.trans e)]; exact ⟨h1, h2, ry⟩
    · rw [if_neg e, if_neg (fun z => e (h1.trans z))]; exact ⟨h1, h2, h3⟩
theorem KT.put {H : Hp} {kvs : List (List Key × V)} {xs : List (List Key × Addr × Value)} (r : KT H kvs xs) (k : List Key) {b : Addr} {y : V} {u : Value} (hb : H b = some (.tup (k.map kV))) (ry : RelV y u) :
    KT H (putK kvs k y) (storedH xs k b u) := by
  have e : (kvs.any fun kv => decide (kv.1 = k)) = (atKey xs k).isSome := by
    rw [valV_any, (r.val k).isSome_eq, Option.isSome_map]
  unfold putK storedH
  rw [e]
  by_cases q : (atKey xs k).isSome = true
  · rw [if_pos q, if_pos q]; exact r.repl k ry
  · rw [if_neg q, if_neg q]; exact Paired.snoc r ⟨rfl, hb, ry⟩
theorem KT.keeps {H H' : Hp} {kvs : List (List Key × V)} {xs : List (List Key × Addr × Value)} (r : KT H kvs xs) (ht : ∀ b ys, H b = some (.tup ys) → H' b = some (.tup ys)) : KT H' kvs xs :=
  Paired.mapP r fun _ _ z => ⟨z.1, ht _ _ z.2.1, z.2.2⟩

section
variable {P : Program} {w : World} {H : Hp} {h : Heap} {a : Addr}
theorem rd_of {u : HO} (ok : HOk P w H h) (e : Rd H a u) : ObjOk P w H h a u := e.ok ok
theorem dk_rd {kvs : List (Key × V)} (ok : HOk P w H h) (e : Rd H a (.dK kvs)) : kvs.length ≤ sizeLine ∧ (a == sysModules) = false ∧ ∃ vs, KV kvs vs ∧ h.DictOf (mixKind P w) a vs :=
  show ObjOk P w H h a (.dK kvs) from rd_of ok e
theorem dk_of {kvs : List (Key × V)} (ok : HOk P w H h) (e : H a = some (.dK kvs)) : kvs.length ≤ sizeLine ∧ (a == sysModules) = false ∧ ∃ vs, KV kvs vs ∧ h.DictOf (mixKind P w) a vs := dk_rd ok (.inl e)
/-- a tracked tuple of ints and texts is a key -/
theorem key_of {ks : List Key} (ok : HOk P w H h) (e : H a = some (.tup (ks.map kV))) : (tupleKind (mixKind P w)).is h ks a := by
  obtain ⟨_, its, r, o, h1, h2, n, h3⟩ := (show ObjOk P w H h a (.tup (ks.map kV)) from ok a _ e)
  exact ⟨o, its.toArray, n, h1, h2, h3, by simpa using items_are r⟩
theorem dt_rd {kvs : List (List Key × V)} (ok : HOk P w H h) (e : Rd H a (.dT kvs)) : kvs.length ≤ sizeLine ∧ (a == sysModules) = false ∧
    ∃ xs, KT H kvs xs ∧ h.DictOfH (tupleKind (mixKind P w)) a xs := by
  obtain ⟨z, y, xs, r, o, es, ep, h1, h2, h3, h4, h5⟩ := (show ObjOk P w H h a (.dT kvs) from rd_of ok e)
  refine ⟨z, y, xs, r, o, es, ep, h1, h2, h3, h4, fun x hx => ?_, h5⟩
  have all : ∀ {l : List (List Key × V)} {m : List (List Key × Addr × Value)}, KT H l m → ∀ x ∈ m, (tupleKind (mixKind P w)).is h x.1 x.2.1 := by
    intro l m q
    induction q with
    | nil => intro x hx; exact nomatch hx
    | @cons p q ps qs hq t ih =>
      intro x hx
      rcases List.mem_cons.mp hx with e | hx
      · subst e
        exact key_of ok (by rw [← hq.1]; exact hq.2.1)
      · exact ih x hx
  exact all r x hx
theorem dt_of {kvs : List (List Key × V)} (ok : HOk P w H h) (e : H a = some (.dT kvs)) : kvs.length ≤ sizeLine ∧ (a == sysModules) = false ∧
    ∃ xs, KT H kvs xs ∧ h.DictOfH (tupleKind (mixKind P w)) a xs := dt_rd ok (.inl e)
end

/-- what the dict at a holds at the key y -/
noncomputable def DGet (H : Hp) (a : Addr) (y : V) (r : Option V) : Prop :=
  (∃ kvs k, Rd H a (.dK kvs) ∧ y = kV k ∧ r = valV kvs k) ∨ ∃ kvs k b, Rd H a (.dT kvs) ∧ y = .ref b ∧ H b = some (.tup (k.map kV)) ∧ r = valV kvs k
/-- the heap behind a[y] = v -/
noncomputable def DPut (H : Hp) (a : Addr) (y v : V) (H' : Hp) : Prop :=
  (∃ kvs k, H a = some (.dK kvs) ∧ y = kV k ∧ kvs.length < sizeLine ∧ H' = upd H a (.dK (putK kvs k v))) ∨
  ∃ kvs k b, H a = some (.dT kvs) ∧ y = .ref b ∧ H b = some (.tup (k.map kV)) ∧ kvs.length < sizeLine ∧ H' = upd H a (.dT (putK kvs k v))
theorem DGet.k {H : Hp} {a : Addr} {kvs : List (Key × V)} {k : Key} (e : H a = some (.dK kvs)) : DGet H a (kV k) (valV kvs k) := .inl ⟨kvs, k, .inl e, rfl, rfl⟩
theorem DPut.k {H : Hp} {a : Addr} {kvs : List (Key × V)} {k : Key} {v : V} (e : H a = some (.dK kvs)) (hl : kvs.length < sizeLine) : DPut H a (kV k) v (upd H a (.dK (putK kvs k v))) := .inl ⟨kvs, k, e, rfl, hl, rfl⟩
section
variable {X : Cx} {pins : List (Addr × Obj)} {σ : St} {H : Hp} {s : Shared} {a : Addr} {y v : V} {u r : Value} {o : Option V} {A : Around} {E : Value → Shared → Prop}

theorem Inv.big (I : Inv X pins σ H s) : sysModules < s.heap.objs.size := by
  have h : mainGlobals < s.heap.objs.size := (I.mod.glob.keeps I.bk).lt
  exact Nat.lt_trans (by decide) h

/-- d[y], there -/
theorem d_getItem {Q : Value → Shared → Prop} (hu : A.units + 1 < cLine) (I : Inv X pins σ H s) (g : DGet H a y (some v)) (ry : RelV y u) (h : ∀ w' s', Inv X pins σ H s' → RelV v w' → Q w' s') :
    wpAny (model X.prog X.w) A (getItem (.ref a) u) Q E s := by
  rcases g with ⟨kvs, k, e, ey, l⟩ | ⟨kvs, k, b, e, ey, eb, l⟩
  · subst ey
    obtain ⟨z, hd, vs, rel, dd⟩ := dk_rd I.hok e
    obtain ⟨w', hw, rw'⟩ := RelO.some_of (v := v) (o := valueAt vs k) (by rw [l]; exact rel.val k)
    exact wpAny_getItem_of (kV_is ry) dd.mapOf hw (h w' _ (I.tok _) rw')
  · subst ey
    cases (show u = Value.ref b from ry)
    obtain ⟨z, hd, xs, rel, dd⟩ := dt_rd I.hok e
    obtain ⟨w', hw, rw'⟩ := RelO.some_of (v := v) (o := (atKey xs k).map (·.2)) (by rw [l]; exact rel.val k)
    obtain ⟨p, hp, hp2⟩ := Option.map_eq_some_iff.mp hw
    refine wpAny_getItem_heap (tupleKind_room_in1 hu) (key_of I.hok eb) dd hp ?_
    rw [hp2]
    exact h w' _ (I.tok _) rw'
/-- a dict's object is replaced -/
theorem d_write {h' : Heap} {t' : Nat} {ob : HO} (I : Inv X pins σ H s) (mu : Mut (H a)) (hs : Heap.SameBut a s.heap h') (he : ∃ q, h'.get? a = some q) (new : ObjOk X.prog X.w (upd H a ob) h' a ob) :
    Inv X pins σ (upd H a ob) { s with heap := h', toks := t' } :=
  I.write (x := a) (e := a) mu (.inl rfl) (fun b q hb z => (hs.2 b hb).trans z) he new
theorem dk_new {P : Program} {w : World} {H' : Hp} {h' : Heap} {kvs : List (Key × V)} {vs : List (Key × Value)} (z : kvs.length ≤ sizeLine) (hd : (a == sysModules) = false) (rel : KV kvs vs) (dd : h'.DictOf (mixKind P w) a vs) :
    ObjOk P w H' h' a (.dK kvs) := ⟨z, hd, vs, rel, dd⟩
/-- d[y] = v -/
theorem d_setItem {H' : Hp} {Q : Unit → Shared → Prop} (hu : A.units + 1 < cLine) (I : Inv X pins σ H s) (g : DPut H a y v H') (ry : RelV y u) (rv : RelV v r) (h : ∀ s', Inv X pins σ H' s' → Q () s') :
    wpAny (model X.prog X.w) A (setItem (.ref a) u r) Q E s := by
  rcases g with ⟨kvs, k, e, ey, l, eH⟩ | ⟨kvs, k, b, e, ey, eb, l, eH⟩
  · subst ey eH
    obtain ⟨z, hd, vs, rel, dd⟩ := dk_of I.hok e
    have hz : vs.length ≤ sizeLine := by rw [← rel.length]; exact z
    have hl : (putK kvs k v).length ≤ sizeLine := by have := length_putK kvs k v; omega
    refine wpAny_setItem_pairs (hsz := hz) (kV_is ry) dd fun h' dd' hs => h _ ?_
    have he : ∃ q, h'.get? a = some q := let ⟨q, _, _, hq, _⟩ := dd'; ⟨q, hq⟩
    exact d_write I (by rw [e]; exact True.intro) hs he (dk_new hl hd (rel.put k rv) dd')
  · subst ey eH
    cases (show u = Value.ref b from ry)
    obtain ⟨z, hd, xs, rel, dd⟩ := dt_of I.hok e
    have hz : xs.length ≤ sizeLine := by rw [← Paired.length rel]; exact z
    have hl : (putK kvs k v).length ≤ sizeLine := by have := length_putK kvs k v; omega
    refine wpAny_setItem_heap (hsz := hz) (tupleKind_room_in1 hu) (key_of I.hok eb) dd fun h' dd' hs => h _ ?_
    obtain ⟨q, es, ep, hq, h2, h3, h4, _, h5⟩ := dd'
    refine d_write I (by rw [e]; exact True.intro) hs ⟨q, hq⟩ ⟨hl, hd, _, (rel.put k eb rv).keeps fun c ys ec => ?_, q, es, ep, hq, h2, h3, h4, h5⟩
    rw [upd_ne (ne_of ec e (fun z => nomatch z))]
    exact ec
end

section
variable {X : Cx} {pins : List (Addr × Obj)} {σ : St} {H : Hp} {s : Shared} {a : Addr} {kvs : List (Key × V)} {k : Key} {u : Value} {A : Around} {E : Value → Shared → Prop}
end


/-! ### readings and rules -/
/-- the element of a subscription, not a slice -/
noncomputable def NoSl (i : Expr) : Prop := ∀ ov iv, subscripted i false ov iv = operate [ov, iv] (getItem ov iv)
theorem subD_of {prog : Program} {w : World} {A : Around} {E : Value → Shared → Prop} {s : Shared} {env : Env} {value slice : Expr} {pos : Pos} {T id : String} {Q : Value → Shared → Prop}
    (hl : typeLookup (.type T) "__getitem__" = pure (some (.builtin id))) (hs : NoSl slice)
    (h : wpAny (model prog w) A (eval value env) (fun o s₁ => wpAny (model prog w) A (eval slice env) (fun i s₂ => s₂.TypeIs o T ∧ wpAny (model prog w) A (getItem o i) Q E s₂) E s₁) E s) :
    wpAny (model prog w) A (eval (.Subscript value slice pos) env) Q E s := by
  refine Subscript_ (wpAny_mono h (fun o s₁ h₁ => wpAny_mono h₁ (fun i s₂ h₂ => ?_) fun _ _ x => x) fun _ _ x => x)
  obtain ⟨hT, h₂⟩ := h₂
  unfold subscriptTail
  refine wpAny_bind ?_
  rw [getitemInPython_of_ne hT.not_modules]
  refine wpAny_bind (wpAny_specialOf hT hl ?_)
  have fin : wpAny (model prog w) A (subscripted slice false o i) (fun r s₃ => wpAny (model prog w) A (letTemporaryGo value o r >>= fun _ => pure r) Q E s₃) E s₂ := by
    rw [hs o i]
    exact wpAny_operating (wpAny_mono h₂ (fun r s₃ h₃ => wpAny_bind (wpAny_letTemporaryGo (wpAny_pure h₃))) fun _ _ x => x)
  first
    | exact wpAny_pure (wpAny_bind fin)
    | exact wpAny_bind (wpAny_pure (wpAny_bind fin))
    | exact wpAny_bind fin

theorem dict_typeIs {X : Cx} {pins : List (Addr × Obj)} {σ : St} {H : Hp} {s : Shared} {a : Addr} {y : V} {o : Option V} (I : Inv X pins σ H s) (g : DGet H a y o) : s.TypeIs (.ref a) "dict" := by
  rcases g with ⟨kvs, k, e, _, _⟩ | ⟨kvs, k, b, e, _, _, _⟩
  · obtain ⟨_, _, vs, _, dd⟩ := dk_rd I.hok e
    exact dd.typeIs
  · obtain ⟨_, _, xs, _, dd⟩ := dt_rd I.hok e
    exact dd.typeIs
/-- d[y] -/
noncomputable def tDGet (td ty : TE) : TE := fun σ H Q => td σ H fun x H1 => ty σ H1 fun y H2 => ∃ a v, x = .ref a ∧ DGet H2 a y (some v) ∧ Q v H2
/-- d[y] = v -/
noncomputable def sDPut (td ty tv : TE) : TS := fun D σ H => tv σ H fun v H1 => td σ H1 fun x H2 => ty σ H2 fun y H3 => ∃ a H4, x = .ref a ∧ DPut H3 a y v H4 ∧ D.nx σ H4
section
variable {X : Cx} {o i e value : Expr} {pos pos' tpos : Pos} {td ty tv : TE}
theorem pe_dget (hu : X.A.units + 1 < cLine) (ho : PE X o td) (hi : PE X i ty) (hs : NoSl i) : PE X (.Subscript o i pos) (tDGet td ty) := by
  intro pins s σ H Q I h
  refine subD_of PySem.F.slot_dict_getitem.lookup hs (thn (ho pins s σ H _ I h) fun u s1 ⟨x, H1, I1, rx, q1⟩ => thn (hi pins s1 σ H1 _ I1 q1) fun iv s2 hh_ => ?_)
  obtain ⟨y, H2, I2, ry, a, v, ex, g, q2⟩ := hh_
  subst ex
  obtain rfl : u = Value.ref a := rx
  exact ⟨dict_typeIs I2 g, d_getItem hu I2 g ry fun w' s3 I3 rw' => ⟨v, H2, I3, rw', q2⟩⟩
theorem ps_dput (hu : X.A.units + 1 < cLine) (ho : PE X o td) (hi : PE X i ty) (hv : PE X value tv) (hs : swapsWith value (some (.Subscript o i pos')) pos.line X.env = pure false) :
    PS X (.Assign [.Subscript o i pos'] value pos) (sDPut td ty tv) := by
  intro pins s σ H D I h
  refine wpAny_Assign_Subscript (thn (hv pins s σ H _ I h) fun r s1 ⟨v, H1, I1, rv, q1⟩ => thn (ho pins s1 σ H1 _ I1 q1) fun u s2 ⟨x, H2, I2, rx, q2⟩ => thn (hi pins s2 σ H2 _ I2 q2) fun iv s3 ⟨y, H3, I3, ry, a, H4, ex, g, q3⟩ => ?_) hs
  subst ex
  obtain rfl : u = Value.ref a := rx
  exact d_setItem hu I3 g ry rv fun s4 I4 => ⟨σ, H4, I4, q3⟩
end


/-! ### displays -/
theorem dk_empty {P : Program} {w : World} {H : Hp} (h : Heap) (hb : sysModules < h.objs.size) : ObjOk P w H (h.push { cls := .type "dict", data := .dict #[] }) h.objs.size (.dK []) :=
  ⟨Nat.zero_le _, beq_eq_false_iff_ne.mpr (Ne.symm (Nat.ne_of_lt hb)), [], .nil, Heap.DictOf.new h⟩
section
variable {X : Cx} {pos : Pos}
end

/-- the pairs of a display, from the left -/
noncomputable def tPairs : List (TE × TE) → St → Hp → (List (V × V) → Hp → Prop) → Prop
  | [], _, H, Q => Q [] H
  | (tk, tv) :: r, σ, H, Q => tk σ H fun x H1 => tv σ H1 fun y H2 => tPairs r σ H2 fun ps H3 => Q ((x, y) :: ps) H3
noncomputable abbrev VV : List (V × V) → List (Value × Value) → Prop := Paired fun p q => RelV p.1 q.1 ∧ RelV p.2 q.2
noncomputable def PPs (X : Cx) (pos : Pos) (keys : List (Option Expr)) (values : List Expr) (trs : List (TE × TE)) : Prop :=
  ∀ (pins : List (Addr × Obj)) (s : Shared) (σ : St) (H : Hp) (Q : List (V × V) → Hp → Prop), Inv X pins σ H s → tPairs trs σ H Q →
    wpAny (model X.prog X.w) X.A (evalPairs (pairTrees keys values X.env pos)) (fun vs s' => ∃ ps H', Inv X pins σ H' s' ∧ VV ps vs ∧ Q ps H') X.xe s
theorem pps_nil {X : Cx} {pos : Pos} : PPs X pos [] [] [] := fun pins s σ H Q I h => pairTrees_nil_walk ⟨[], H, I, .nil, h⟩
theorem pps_cons {X : Cx} {pos : Pos} {k v : Expr} {ks : List (Option Expr)} {vs : List Expr} {tk tv : TE} {trs : List (TE × TE)} (hk : PE X k tk) (hv : PE X v tv) (hr : PPs X pos ks vs trs) :
    PPs X pos (some k :: ks) (v :: vs) ((tk, tv) :: trs) := fun pins s σ H Q I h =>
  pairTrees_cons_walk (thn (hk pins s σ H _ I h) fun u s1 ⟨x, H1, I1, rx, q1⟩ => thn (hv pins s1 σ H1 _ I1 q1) fun w2 s2 ⟨y, H2, I2, ry, q2⟩ =>
    thn (hr pins s2 σ H2 _ I2 q2) fun ws s3 ⟨ps, H3, I3, rel, q3⟩ => ⟨(x, y) :: ps, H3, I3, .cons ⟨rx, ry⟩ rel, q3⟩)

noncomputable def mergeK (kvs more : List (Key × V)) : List (Key × V) := more.foldl (fun acc kv => putK acc kv.1 kv.2) kvs
theorem KV.merge : ∀ {more : List (Key × V)} {rs : List (Key × Value)} {kvs : List (Key × V)} {vs : List (Key × Value)}, KV more rs → KV kvs vs → KV (mergeK kvs more) (merged vs rs) := by
  intro more rs kvs vs r
  unfold KV at r
  induction r generalizing kvs vs with
  | nil => intro q; exact q
  | @cons p q ps qs h t ih =>
    intro r0
    have e : KV (putK kvs p.1 p.2) (stored vs q.1 q.2) := by
      have := r0.put p.1 h.2
      rw [← h.1]; exact this
    exact ih e
theorem length_mergeK : ∀ (more kvs : List (Key × V)), (mergeK kvs more).length ≤ kvs.length + more.length
  | [], kvs => by show kvs.length ≤ kvs.length + 0; omega
  | p :: r, kvs => by
    have h1 := length_mergeK r (putK kvs p.1 p.2)
    have h2 := length_putK kvs p.1 p.2
    show (mergeK (putK kvs p.1 p.2) r).length ≤ _
    rw [List.length_cons]; omega
theorem carries_of {P : Program} {w : World} : ∀ {kvs : List (Key × V)} {ws : List (Value × Value)}, VV (kvs.map fun kv => (kV kv.1, kv.2)) ws → ∃ rs, Carries (mixKind P w) ws rs ∧ KV kvs rs
  | [], _, r => by rw [List.map_nil] at r; cases r; exact ⟨[], True.intro, .nil⟩
  | p :: kvs, _, r => by
    rw [List.map_cons] at r
    cases r with
    | @cons a b as bs h t =>
      obtain ⟨rs, c, q⟩ := carries_of (P := P) (w := w) t
      obtain ⟨b1, b2⟩ := b
      exact ⟨(p.1, b2) :: rs, ⟨kV_is h.1, rfl, c⟩, .cons ⟨rfl, h.2⟩ q⟩
/-- {k: v, ..} with keys ints and texts; the new dict stands empty while the pairs are made -/
noncomputable def tDisp (trs : List (TE × TE)) : TE := fun σ H Q => ∀ p, H p = none → tPairs trs σ (upd H p (.dK [])) fun ps H2 => H2 p = some (.dK []) ∧ ∃ kvs : List (Key × V), ps = kvs.map (fun kv => (kV kv.1, kv.2)) ∧ kvs.length ≤ 15 ∧ Q (.ref p) (upd H2 p (.dK (mergeK [] kvs)))
theorem pe_disp {X : Cx} {pos : Pos} {keys : List (Option Expr)} {values : List Expr} {trs : List (TE × TE)} (h : PPs X pos keys values trs) (hall : keys.all (·.isSome) = true) (hl : keys.length = values.length) (h0 : keys ≠ [])
    (h15 : keys.length ≤ 15) : PE X (.Dict keys values pos) (tDisp trs) := by
  intro pins s σ H Q I q
  have hn := I.hok.fresh (Nat.le_refl s.heap.objs.size)
  have I1 := I.laid (a := s.heap.objs.size) (o := .dK []) (h' := s.heap.push { cls := .type "dict", data := .dict #[] }) (t' := s.toks) (fun _ _ q => Heap.get?_push_of_some _ q) (Nat.le_refl _) (dk_empty s.heap I.big)
  refine wpAny_Dict_walk (knd := mixKind X.prog X.w) hall hl h0 h15 (thn (h pins _ σ _ _ I1 (q _ hn)) fun ws s2 hh_ => ?_)
  obtain ⟨ps, H2, I2, rel, e, kvs, ep, lk, q2⟩ := hh_
  subst ep
  obtain ⟨rs, c, rk⟩ := carries_of (P := X.prog) (w := X.w) rel
  obtain ⟨z, hd, vs0, r0, dd⟩ := dk_of I2.hok e
  cases r0
  refine ⟨rs, c, dd, fun h' dd' hs => ⟨.ref s.heap.objs.size, _, ?_, rfl, q2⟩⟩
  have hz : (mergeK [] kvs).length ≤ sizeLine := by
    have h1 := length_mergeK kvs []
    rw [List.length_nil] at h1
    rw [sizeLine_eq]; omega
  have he : ∃ q, h'.get? s.heap.objs.size = some q := let ⟨q, _, _, hq, _⟩ := dd'; ⟨q, hq⟩
  exact d_write I2 (by rw [e]; exact True.intro) hs he (dk_new hz hd (rk.merge .nil) dd')


/-! ### methods -/
section
variable {X : Cx} {pins : List (Addr × Obj)} {σ : St} {H : Hp} {s : Shared} {a : Addr} {y d : V} {u r : Value} {o : Option V} {A : Around} {E : Value → Shared → Prop}
end

section
variable {X : Cx} {o e f : Expr} {apos cpos : Pos} {td ty tx : TE}
end

/-! ### dict(d): a copy -/
section
variable {X : Cx} {pins : List (Addr × Obj)} {σ : St} {H : Hp} {s : Shared} {a : Addr} {kvs : List (Key × V)} {A : Around} {E : Value → Shared → Prop}
end


section
variable {X : Cx} {pins : List (Addr × Obj)} {σ : St} {H : Hp} {s : Shared} {a : Addr} {y : V} {u : Value} {A : Around} {E : Value → Shared → Prop}
end
end L2

namespace HT
open PySem PyProof.Rows

section
open PySem.SeqAt
open PySem.AutoSeq1 (wpAny_loadPart')
open PySem.MeetsSeq PySem.MeetsSeq2 PySem.MeetsSeq3

end

section
variable {prog : Program} {w : World} {A : Around} {E : Value → Shared → Prop} {s : Shared}

/-! ### t[a:b], not the whole -/
/-- a slice's bound as a place among n (d where it is left out) -/
noncomputable def sIx (n d : Nat) : Option Int → Nat
  | none => d
  | some v => if v < 0 then (v + (n : Int)).toNat else min v.toNat n
theorem sIx_nat (n d k : Nat) : sIx n d (some (k : Int)) = min k n := by
  show (if (k : Int) < 0 then ((k : Int) + (n : Int)).toNat else min (k : Int).toNat n) = min k n
  rw [if_neg (by omega), Int.toNat_natCast]
end
end HT

namespace L2
open PySem PySem.Spec PyProof.Rows

/-! ### the parts of a slice -/
noncomputable abbrev TO := St → Hp → (Option Int → Hp → Prop) → Prop
/-- a slice's part (left out, or an int) -/
noncomputable def PO (X : Cx) (e : Option Expr) (t : TO) : Prop :=
  ∀ (pins : List (Addr × Obj)) (s : Shared) (σ : St) (H : Hp) (Q : Option Int → Hp → Prop), Inv X pins σ H s → t σ H Q →
    wpAny (model X.prog X.w) X.A (evalPart e X.env) (fun u s' => ∃ o H', Inv X pins σ H' s' ∧ IsPart u o ∧ Q o H') X.xe s
noncomputable def tNoPart : TO := fun _ H Q => Q none H
noncomputable def tPart (t : TE) : TO := fun σ H Q => t σ H fun x H1 => ∃ i, x = .int i ∧ Q (some i) H1

section
variable {X : Cx} {e : Expr} {te : TE} {lo hi : Option Expr} {tl th : TO} {pos p2 : Pos}

theorem po_none : PO X none tNoPart := by
  intro pins s σ H Q I h
  rw [evalPart_none]
  exact wpAny_pure ⟨none, H, I, .none, h⟩
theorem po_some (h : PE X e te) : PO X (some e) (tPart te) := by
  intro pins s σ H Q I hw
  rw [evalPart_some]
  refine thn (h pins s σ H _ I hw) fun u s1 hh_ => ?_
  obtain ⟨x, H1, I1, r1, q1⟩ := hh_
  obtain ⟨i, rfl, q⟩ := q1
  obtain ⟨t, rfl⟩ := r1
  exact ⟨some i, H1, I1, .int i t, q⟩

/-- what a slice of a value is, by values: the slice object stands at sl -/
noncomputable def SlR (X : Cx) (r : V → Option Int → Option Int → Hp → VK → Prop) : Prop :=
  ∀ (pins : List (Addr × Obj)) (s : Shared) (σ : St) (H : Hp) (x : V) (v vl vu : Value) (lo hi : Option Int) (sl : Addr) (Q : VK), Inv X pins σ H s → RelV x v → s.heap.IsSliceOf sl vl vu .none → IsPart vl lo → IsPart vu hi → r x lo hi H Q →
    ∃ T id, typeLookup (.type T) "__getitem__" = pure (some (.builtin id)) ∧ s.TypeIs v T ∧ wpAny (model X.prog X.w) X.A (getItem v (.ref sl)) (EP X pins σ Q) X.xe s
noncomputable def tSl (r : V → Option Int → Option Int → Hp → VK → Prop) (te : TE) (tl th : TO) : TE := fun σ H Q => te σ H fun x H1 => tl σ H1 fun l H2 => th σ H2 fun u H3 => r x l u H3 Q
/-- a[lo:hi], any a -/
theorem pe_slice {r : V → Option Int → Option Int → Hp → VK → Prop} (hr : SlR X r) (he : PE X e te) (hl : PO X lo tl) (hu : PO X hi th) : PE X (.Subscript e (.Slice lo hi none p2) pos) (tSl r te tl th) := by
  intro pins s σ H Q I h
  refine Subscript_ (thn (he pins s σ H _ I h) fun v s1 hh_ => ?_)
  obtain ⟨x, H1, I1, r1, q1⟩ := hh_
  refine wpAny_Slice (thn (hl pins s1 σ H1 _ I1 q1) fun vl s2 ⟨l, H2, I2, pl, q2⟩ => thn (hu pins s2 σ H2 _ I2 q2) fun vu s3 hh_ => ?_)
  obtain ⟨u, H3, I3, pu, q3⟩ := hh_
  rw [evalPart_none]
  refine wpAny_pure ?_
  have I4 : Inv X pins σ H3 { s3 with heap := s3.heap.push { cls := .type "slice", data := .fields #[vl, vu, .none] } } := I3.kept (t' := s3.toks) fun b ob q => Heap.get?_push_of_some _ q
  obtain ⟨T, id, hT, ht, hg⟩ := hr pins { s3 with heap := s3.heap.push { cls := .type "slice", data := .fields #[vl, vu, .none] } } σ H3 x v vl vu l u s3.heap.objs.size Q I4 r1 (Heap.IsSliceOf.new ..) pl pu q3
  show wpAny (model X.prog X.w) X.A (subscriptTail e (.Slice lo hi none p2) v (.ref s3.heap.objs.size)) (EP X pins σ Q) X.xe { s3 with heap := s3.heap.push { cls := .type "slice", data := .fields #[vl, vu, .none] } }
  exact tail_any (ops := [.ref s3.heap.objs.size, v]) ht hT hg (by with_unfolding_all rfl)

/-- the items of xs[lo:hi] -/
noncomputable def cutV (xs : List V) (lo hi : Option Int) : List V := (xs.drop (HT.sIx xs.length 0 lo)).take (HT.sIx xs.length xs.length hi - HT.sIx xs.length 0 lo)
theorem cutV_length (xs : List V) (lo hi : Option Int) : (cutV xs lo hi).length ≤ xs.length := by
  unfold cutV
  rw [List.length_take, List.length_drop]
  omega
/-! ### t < u, t + u -/
end
end L2

namespace L2
open PySem PySem.Spec PyProof.Rows

/-! ### places -/
/-- the place that an index of any sign means -/
noncomputable def ixN (n : Nat) (i : Int) : Option Nat := if 0 ≤ i then (if i < n then some i.toNat else none) else if -(n : Int) ≤ i then some (i + n).toNat else none
noncomputable def atI {α : Type} (xs : List α) (i : Int) : Option α := (ixN xs.length i).bind fun j => xs[j]?
theorem ixN_seq {n : Nat} {i : Int} {j : Nat} (h : ixN n i = some j) : seqIndex? i n = some j ∧ j < n ∧ -(n : Int) ≤ i ∧ i < n := by
  unfold ixN at h
  by_cases h0 : 0 ≤ i
  · rw [if_pos h0] at h
    by_cases h1 : i < n
    · rw [if_pos h1] at h
      have e : i.toNat = j := Option.some.inj h
      exact ⟨by rw [seqIndex_of h0 h1, e], by omega, by omega, h1⟩
    · rw [if_neg h1] at h; cases h
  · rw [if_neg h0] at h
    by_cases h1 : -(n : Int) ≤ i
    · rw [if_pos h1] at h
      have e : (i + n).toNat = j := Option.some.inj h
      exact ⟨by rw [seqIndex_neg (by omega) h1, e], by omega, h1, by omega⟩
    · rw [if_neg h1] at h; cases h
theorem atI_get {α : Type} {xs : List α} {i : Int} {v : α} (h : atI xs i = some v) : ∃ j, seqIndex? i xs.length = some j ∧ xs[j]? = some v ∧ j < xs.length ∧ -(xs.length : Int) ≤ i ∧ i < xs.length := by
  unfold atI at h
  cases e : ixN xs.length i with
  | none => rw [e] at h; cases h
  | some j =>
    rw [e] at h
    obtain ⟨h1, h2, h3, h4⟩ := ixN_seq e
    exact ⟨j, h1, h, h2, h3, h4⟩
theorem atI_nat {α : Type} {xs : List α} {j : Nat} {v : α} (h : xs[j]? = some v) : atI xs (j : Int) = some v := by
  have hj : j < xs.length := (List.getElem?_eq_some_iff.mp h).1
  have e : ixN xs.length (j : Int) = some j := by
    unfold ixN
    rw [if_pos (by omega), if_pos (by omega)]; simp
  unfold atI; rw [e]; exact h
/-! ### what may be subscripted -/
/-- what stands as an index of a plain subscript -/
noncomputable def PlainIx (b : Expr) : Prop := ∀ o i, subscripted b false o i = operate [o, i] (getItem o i)
/-- a subscript by values -/
noncomputable def IxR (X : Cx) (r : R2) : Prop :=
  ∀ (value slice : Expr) (pins : List (Addr × Obj)) (s : Shared) (σ : St) (H : Hp) (x y : V) (v u : Value) (Q : VK), Inv X pins σ H s → RelV x v → RelV y u → r x y H Q →
    subscripted slice false v u = operate [v, u] (getItem v u) → wpAny (model X.prog X.w) X.A (subscriptTail value slice v u) (EP X pins σ Q) X.xe s
/-- a call of a builtin's method by values: the receiver, the arguments -/
noncomputable def MtR (X : Cx) (id : String) (r : V → List V → Hp → VK → Prop) : Prop :=
  ∀ (pins : List (Addr × Obj)) (s : Shared) (σ : St) (H : Hp) (x : V) (xs : List V) (v : Value) (us : List Value) (Q : VK), Inv X pins σ H s → RelV x v → Vals xs us → r x xs H Q →
    wpAny (model X.prog X.w) X.A (call (.builtin id) (v :: us)) (EP X pins σ Q) X.xe s
section
variable {X : Cx} {a b : Expr} {ta tb : TE} {pos : Pos}
/-- a[b] -/
theorem pe_ix {r : R2} (hr : IxR X r) (ha : PE X a ta) (hb : PE X b tb) (hs : PlainIx b) : PE X (.Subscript a b pos) (tOp r ta tb) := by
  intro pins s σ H Q I h
  exact Subscript_ (binT ha hb I h fun v u s2 x y H2 I2 rx ry q => hr a b pins s2 σ H2 x y v u Q I2 rx ry q (hs _ _))

noncomputable def rIxL (K : PySem.W.Frag) : R2 := fun x y H Q => ∃ p xs i v, x = .ref p ∧ y = .int i ∧ SqL K H p xs ∧ atI xs i = some v ∧ Q v H
noncomputable def rIxS : R2 := fun x y H Q => ∃ z i c, x = .str z ∧ y = .int i ∧ z.length ≤ sizeLine ∧ atI z.cps.toList i = some c ∧ Q (.str ⟨#[c]⟩) H
theorem ix_list : IxR X (rIxL X.K) := by
  intro value slice pins s σ H x y v u Q I rx ry h hs
  obtain ⟨p, xs, i, z, rfl, rfl, hq, he, q⟩ := h
  cases rx
  obtain ⟨t, rfl⟩ := ry
  obtain ⟨its, r, pl, hz⟩ := I.list hq
  obtain ⟨j, h1, h2, h3, h4, h5⟩ := atI_get he
  obtain ⟨w, ew, rw'⟩ := r.get h2
  have hl := r.length
  have hn := line63
  have fin : EP X pins σ Q w s := ⟨z, H, I, rw', q⟩
  by_cases h0 : 0 ≤ i
  · have hj : i.toNat = j := by
      rw [seqIndex_of h0 h5] at h1
      exact Option.some.inj h1
    exact item_listR pl.isList h0 (by omega) (by rw [hj]; simpa using ew) fin hs
  · have hj : (i + (its.toArray.size : Int)).toNat = j := by
      rw [seqIndex_neg (by omega) h4] at h1
      rw [List.size_toArray, ← hl]
      exact Option.some.inj h1
    exact subscriptTail_builtinR (x := w) pl.isList.typeIs slot_list_getitem.lookup
      (wpAny_getItem_list_neg (Q := fun r s' => r = w ∧ EP X pins σ Q r s') pl.isList (by omega) (by rw [List.size_toArray] <;> omega) (by omega) (by rw [hj]; simpa using ew) ⟨rfl, fin⟩) hs
theorem ix_str : IxR X rIxS := by
  intro value slice pins s σ H x y v u Q I rx ry h hs
  obtain ⟨z, i, c, rfl, rfl, hz, he, q⟩ := h
  obtain ⟨t, rfl⟩ := rx
  obtain ⟨t', rfl⟩ := ry
  obtain ⟨j, h1, h2, h3, h4, h5⟩ := atI_get he
  have hl : z.cps.toList.length = z.length := by simp [Str.length]
  rw [hl] at h1 h4 h5
  have hn := line63
  exact tail_any (typeIs_str s z t) slot_str_getitem.lookup (getItem_str (c := c) (by
    have e1 : decide (i < -(2 ^ 63 : Int)) = false := decide_eq_false (by omega)
    have e2 : decide (i ≥ 2 ^ 63) = false := decide_eq_false (by omega)
    rw [e1, e2, Bool.or_false]) (by rw [h1]; simpa using h2) ⟨.str ⟨#[c]⟩, H, I.tok _, ⟨_, rfl⟩, q⟩) hs
/-! ### xs[i] = v, any sign -/
/-! ### slices -/
theorem slice_bounds (lo hi : Option Int) (n : Nat) : (sliceBounds lo hi none n).1 = ((HT.sIx n 0 lo : Nat) : Int) ∧ (sliceBounds lo hi none n).2.1 = ((HT.sIx n n hi : Nat) : Int) ∧ (sliceBounds lo hi none n).2.2 = 1 := by
  refine ⟨?_, ?_, rfl⟩
  · cases lo with
    | none => simp [sliceBounds, HT.sIx]
    | some i =>
      simp only [sliceBounds, HT.sIx, Option.getD_none, show (1 : Int) > 0 by decide, if_true]
      by_cases h : i < 0
      · simp only [h, if_true] <;> omega
      · simp only [h, if_false] <;> omega
  · cases hi with
    | none => simp [sliceBounds, HT.sIx]
    | some i =>
      simp only [sliceBounds, HT.sIx, Option.getD_none, show (1 : Int) > 0 by decide, if_true]
      by_cases h : i < 0
      · simp only [h, if_true] <;> omega
      · simp only [h, if_false] <;> omega
theorem slicePick_cut (its : List Value) (lo hi : Option Int) : slicePick its.toArray lo hi none = ((its.drop (HT.sIx its.length 0 lo)).take (HT.sIx its.length its.length hi - HT.sIx its.length 0 lo)).toArray := by
  obtain ⟨h1, h2, h3⟩ := slice_bounds lo hi its.toArray.size
  unfold slicePick
  rw [h1, h2, h3]
  simp only [sliceRange_one, pick_run, List.size_toArray] <;> rfl
/-- xs[lo:hi] of a list: a new list -/
noncomputable def rSlL (K : PySem.W.Frag) : V → Option Int → Option Int → Hp → VK → Prop := fun x lo hi H Q => ∃ a xs, x = .ref a ∧ SqL K H a xs ∧ ∀ p, H p = none → Q (.ref p) (upd H p (.lst (cutV xs lo hi)))
theorem sl_list : SlR X (rSlL X.K) := by
  intro pins s σ H x v vl vu lo hi sl Q I rx hs pl pu h
  obtain ⟨a, xs, rfl, hx, q⟩ := h
  cases rx
  obtain ⟨its, r, ht, hz⟩ := I.list hx
  have hlen := r.length
  refine ⟨"list", _, slot_list_getitem.lookup, ht.isList.typeIs, ?_⟩
  refine wpAny_getItem_list_slice ht.isList hs pl pu .none (by simp) ?_ (by rw [List.size_toArray] <;> omega)
  rw [slicePick_cut, ← hlen]
  refine ⟨.ref s.heap.objs.size, _, I.laid (t' := s.toks) (o := .lst (cutV xs lo hi)) (fun b ob q => Heap.get?_push_of_some _ q) (Nat.le_refl _) ?_, rfl, q _ (I.hok.fresh (Nat.le_refl _))⟩
  exact ⟨Nat.le_trans (cutV_length xs lo hi) hz, _, 0, (r.drop (HT.sIx xs.length 0 lo)).take (HT.sIx xs.length xs.length hi - HT.sIx xs.length 0 lo), Heap.get?_push_size _ rfl⟩

/-! ### in, not in: flat items -/
/-! ### len, list(x), tuple(x) of any list or tuple that is read -/
theorem call_list_of : CallR X (.type "list") (fun xs H Q => ∃ p ys, xs = [.ref p] ∧ (SqL X.K H p ys ∨ SqT X.K H p ys) ∧ ∀ l, H l = none → Q (.ref l) (upd H l (.lst ys))) := by
  intro pins s σ H xs us Q I r h
  obtain ⟨p, ys, rfl, hq, q⟩ := h
  obtain ⟨u, rfl, rx⟩ := vals1 r
  cases rx
  have fin : ∀ (its : List Value), Vals ys its → ys.length ≤ sizeLine → ∀ (h' : Heap) (c' : Nat), (∀ b o', s.heap.get? b = some o' → h'.get? b = some o') →
      h'.get? s.heap.objs.size = some { cls := .type "list", dict := none, data := .seq its.toArray c', slots := #[] } → EP X pins σ Q (.ref s.heap.objs.size) { s with heap := h' } := fun its r' hz h' c' kp e =>
    ⟨.ref s.heap.objs.size, _, I.laid (t' := s.toks) kp (Nat.le_refl _) (show ObjOk X.prog X.w _ h' _ (.lst ys) from ⟨hz, its, c', r', e⟩), rfl, q _ (I.hok.fresh (Nat.le_refl _))⟩
  rcases hq with hq | hq
  · obtain ⟨its, r', pl, hz⟩ := I.list hq
    have hlen := r'.length
    obtain ⟨o, ho, hc, n, hd⟩ := pl.isList
    exact call_list_seq p (.inl rfl) ho hc hd (fun h' c' kp e => fin its r' hz h' c' kp e) (by simp only [List.size_toArray] <;> omega)
  · obtain ⟨its, r', pl, hz⟩ := I.tuple hq
    have hlen := r'.length
    obtain ⟨o, ho, hc, n, hd⟩ := pl
    exact call_list_seq p (.inr rfl) ho hc hd (fun h' c' kp e => fin its r' hz h' c' kp e) (by simp only [List.size_toArray] <;> omega)
/-! ### the call of a builtin's method: o.m(..) -/
/-- the value is of that builtin type -/
noncomputable def tyV (K : PySem.W.Frag) (T : String) (x : V) (H : Hp) : Prop := match x with
  | .str _ => T = "str"
  | .int _ => T = "int"
  | .ref p => (T = "list" ∧ ∃ xs, SqL K H p xs) ∨ (T = "tuple" ∧ ∃ o, K.lookup p = some o ∧ o.cls = .type "tuple" ∧ o.dict = none) ∨
      (T = "dict" ∧ ((∃ kvs, H p = some (.dK kvs)) ∨ ∃ kvs, H p = some (.dT kvs))) ∨ (T = "set" ∧ ∃ S n, H p = some (.set S n))
  | _ => False
theorem tyV_is {pins : List (Addr × Obj)} {σ : St} {H : Hp} {s : Shared} {T : String} {x : V} {v : Value} (I : Inv X pins σ H s) (r : RelV x v) (ty : tyV X.K T x H) :
    s.TypeIs v T ∧ ∀ a, v = .ref a → ∃ ob, s.heap.get? a = some ob ∧ ob.dict = none := by
  cases x with
  | str z =>
    obtain ⟨t, rfl⟩ := r
    cases (show T = "str" from ty)
    exact ⟨typeIs_str s z t, fun _ e => nomatch e⟩
  | int i =>
    obtain ⟨t, rfl⟩ := r
    cases (show T = "int" from ty)
    exact ⟨typeIs_int s i t, fun _ e => nomatch e⟩
  | ref p =>
    cases r
    rcases ty with ⟨rfl, xs, hq⟩ | ⟨rfl, o, hk, hc, hd⟩ | ⟨rfl, hk⟩ | ⟨rfl, S, n, hk⟩
    · obtain ⟨its, _, pl, _⟩ := I.list hq
      refine ⟨pl.isList.typeIs, fun a e => ?_⟩
      cases e
      obtain ⟨o, n, e, c, hd, _⟩ := pl
      exact ⟨o, e, hd⟩
    · refine ⟨⟨o, I.kIn p o hk, hc⟩, fun a e => ?_⟩
      cases e
      exact ⟨o, I.kIn _ o hk, hd⟩
    · have z : ∃ o, s.heap.get? p = some o ∧ o.ExactDict := by
        rcases hk with ⟨kvs, hk⟩ | ⟨kvs, hk⟩
        · obtain ⟨_, _, _, _, o, _, _, e, ex, _⟩ := I.hok p _ hk
          exact ⟨o, e, ex⟩
        · obtain ⟨_, _, _, _, o, _, _, e, ex, _⟩ := I.hok p _ hk
          exact ⟨o, e, ex⟩
      obtain ⟨o, e, ex⟩ := z
      refine ⟨⟨o, e, ex.1⟩, fun a e2 => ?_⟩
      cases e2
      exact ⟨o, e, ex.2.1⟩
    · obtain ⟨o, _, _, _, e, ex, _⟩ := I.hok p _ hk
      refine ⟨⟨o, e, ex.1⟩, fun a e2 => ?_⟩
      cases e2
      exact ⟨o, e, ex.2.1⟩
  | _ => exact False.elim ty
noncomputable def tBM (K : PySem.W.Frag) (T : String) (r : V → List V → Hp → VK → Prop) (to : TE) (t : TA) : TE := fun σ H Q => to σ H fun x H1 => tyV K T x H1 ∧ t σ H1 fun xs H2 => r x xs H2 Q
variable {o e : Expr} {es : List Expr} {to : TE} {t : TA} {name : Str} {apos cpos : Pos} {T id : String} {r : V → List V → Hp → VK → Prop}
theorem pe_bm (pa : PlainAttrs T) (slot : Slot T name id) (hty : typeOf (.builtin id) = pure (.type "method_descriptor")) (hm : MtR X id r) (ho : PE X o to) (ha : PA X (e :: es) t)
    (hbase : attributeBase o name X.env (eval o X.env) = eval o X.env := by rfl)
    (hfew : ((backTo cpos (starEach (e :: es) X.env)).all (fun x => !x.1) && (backToKw cpos (keywordEach [] X.env)).all (fun x => x.1.isSome)
      && decide ((e :: es).length + ([] : List Keyword).length + (if ([] : List Keyword).isEmpty then 0 else 1) < 30)) = true := by rfl)
    (hline : (apos.endLine == cpos.line) = true := by rfl) (hs : starEach (e :: es) X.env = (false, eval e X.env) :: starEach es X.env := by rfl) (hplain : (backTo cpos (starEach es X.env)).any (·.1) = false := by rfl) :
    PE X (.Call (.Attribute o name apos) (e :: es) [] cpos) (tBM X.K T r to t) := by
  intro pins s σ H Q I h
  refine wpAny_Call_method_late hbase hfew hline rfl (thn (ho pins s σ H _ I h) fun v s1 hh_ => ?_)
  obtain ⟨x, H1, I1, r1, ty, q1⟩ := hh_
  obtain ⟨h1, h2⟩ := tyV_is I1 r1 ty
  refine ⟨T, id, pa, slot, hty, h1, h2, ?_⟩
  have hA := ha cpos pins s1 σ H1 _ I1 q1
  rw [hs] at hA ⊢
  refine Calls.callWith_builtin (by show (false || (backTo cpos (starEach es X.env)).any (·.1)) = false; rw [hplain] <;> rfl) (Calls.evalArgs_plain ?_)
  exact thn hA fun us s2 ⟨vs, H2, I2, r2, q2⟩ => hm pins s2 σ H2 x vs v us Q I2 r1 r2 q2
/- xs.append(e), list.index on a module's tuple .. are MtR facts of 06m -/
end
end L2

namespace L2
open PySem PySem.Spec PyProof.Rows

noncomputable def MtM (X : Cx) (id : String) (r : V → List V → Hp → VK → Prop) : Prop :=
  ∀ (pins : List (Addr × Obj)) (s : Shared) (σ : St) (H : Hp) (x : V) (xs : List V) (v : Value) (us : List Value) (Q : VK), Inv X pins σ H s → RelV x v → Vals xs us → r x xs H Q →
    wpAny (model X.prog X.w) X.A (call (.builtin id) (v :: us)) (EP X pins σ Q) X.xe s

/-! ### lists of values -/
theorem Vals.one : ∀ {x : V} {us : List Value}, Vals [x] us → ∃ u, us = [u] ∧ RelV x u
  | _, _, .cons r .nil => ⟨_, rfl, r⟩
section
variable {X : Cx} {pins : List (Addr × Obj)} {σ : St} {H : Hp} {s : Shared} {l b : Addr} {xs ys zs : List V}

/-! ### the two steps: a tracked list is rewritten, a new list is laid -/
theorem Inv.lset {its its' : List Value} {n : Nat} {f : Array Value → Array Value} {t' : Nat} (I : Inv X pins σ H s) (hH : H l = some (.lst xs))
    (e : s.heap.get? l = some { cls := .type "list", data := .seq its.toArray n }) (hf : f its.toArray = its'.toArray) (hv : Vals ys its') (hz : ys.length ≤ sizeLine) :
    Inv X pins σ (upd H l (.lst ys)) { s with heap := s.heap.update l (Obj.mapSeq f), toks := t' } := by
  have q := PySem.IsL.update e f
  rw [hf] at q
  refine I.write (x := l) (e := l) (by rw [hH]; exact trivial) (.inl rfl) (fun b' u hb hu => (Heap.get?_update_other s.heap (Obj.mapSeq f) (Ne.symm hb)).trans hu) ⟨_, q⟩ ?_
  exact ⟨hz, its', _, hv, q⟩
theorem Inv.lnew {its : List Value} {t' : Nat} (I : Inv X pins σ H s) (hv : Vals ys its) (hz : ys.length ≤ sizeLine) :
    Inv X pins σ (upd H s.heap.objs.size (.lst ys)) { s with heap := s.heap.push { cls := .type "list", data := .seq its.toArray }, toks := t' } :=
  I.laid (fun _ _ q => Heap.get?_push_of_some _ q) (Nat.le_refl _) ⟨hz, its, 0, hv, Heap.get?_push_size _ rfl⟩
theorem Inv.fresh (I : Inv X pins σ H s) : H s.heap.objs.size = none := I.hok.fresh (Nat.le_refl _)
theorem Inv.lstM (I : Inv X pins σ H s) (hH : H l = some (.lst xs)) : xs.length ≤ sizeLine ∧ ∃ (its : List Value) (n : Nat), Vals xs its ∧ xs.length = its.length ∧ s.heap.get? l = some { cls := .type "list", data := .seq its.toArray n } := by
  obtain ⟨z, its, n, r, e⟩ := I.hok l _ hH
  exact ⟨z, its, n, r, r.length, e⟩

end

section
variable {X : Cx}

/-! ### methods -/
noncomputable def rAppend : V → List V → Hp → VK → Prop := fun x vs H Q => ∃ l xs y, x = .ref l ∧ vs = [y] ∧ H l = some (.lst xs) ∧ xs.length < sizeLine ∧ Q .non (upd H l (.lst (xs ++ [y])))
theorem mt_append : MtM X "list.append" rAppend := by
  intro pins s σ H x vs v us Q I rx rv h
  obtain ⟨l, xs, y, rfl, rfl, hH, hz, q⟩ := h
  cases rx
  obtain ⟨u, rfl, ru⟩ := rv.one
  obtain ⟨z, its, n, r, hl, e⟩ := I.lstM hH
  refine call_meets F.slot_list_append ⟨_, e, rfl⟩ F.entry_list_append (F.args_list_append_2 _ _) (PySem.list_append l its.toArray n u (by rw [List.size_toArray]; omega)) ⟨e, ?_⟩
  refine ⟨.non, _, I.lset (its' := its ++ [u]) hH e (by simp) (r.append (.cons ru .nil)) ?_, rfl, q⟩
  rw [List.length_append, List.length_singleton]
  omega

/-! ### list + list, list += list, list * int -/
noncomputable def rCat : R2 := fun x y H Q => ∃ l b xs zs, x = .ref l ∧ y = .ref b ∧ H l = some (.lst xs) ∧ H b = some (.lst zs) ∧ xs.length + zs.length ≤ sizeLine ∧ ∀ p, H p = none → Q (.ref p) (upd H p (.lst (xs ++ zs)))
theorem op_cat : OpR X (binaryOp .Add) rCat := by
  intro pins s σ H x y v u Q I rx ry h
  obtain ⟨l, b, xs, zs, rfl, rfl, hH, hB, hz, q⟩ := h
  cases rx
  cases ry
  obtain ⟨z, its, n, r, hl, e⟩ := I.lstM hH
  obtain ⟨z2, its2, n2, r2, hl2, e2⟩ := I.lstM hB
  refine PySem.P.add_list e e2 ?_ (by rw [List.size_toArray, List.size_toArray]; omega)
  have ea : its.toArray ++ its2.toArray = (its ++ its2).toArray := by simp
  rw [ea]
  exact ⟨.ref _, _, I.lnew (t' := s.toks) (r.append r2) (by rw [List.length_append]; omega), rfl, q _ I.fresh⟩
/-! ### del xs[i] -/
end

/-! ### xs[a:b] = ys -/
section
variable {prog : Program} {w : World} {A : Around} {E : Value → Shared → Prop} {s : Shared}
end

section
variable {X : Cx}
end
end L2

namespace Att
open PySem PySem.W PySem.Calls PyProof.Rows

/-! ### the script -/
theorem ints_of_wellAll {P : Params} {h : Heap} : ∀ (ns : List Int) (vs : List Value), WellAll P h vs (ns.map WData.int) → IntsAre vs ns := by
  intro ns
  induction ns with
  | nil =>
    intro vs w
    rw [List.map_nil] at w
    cases w
    exact .nil
  | cons n ns ih =>
    intro vs w
    rw [List.map_cons] at w
    cases w with
    | cons a b =>
      cases a
      exact .cons _ _ (ih _ b)

theorem script_of {l : OpenLaw} {n : Nat} (hn : l.most = some n) {P : Params} {h : Heap} {args : List WData} {vals : List Value}
    (hpre : l.row.toRowW.claim.pre args = true) (hwl : WellAll P h vals args) :
    ∃ a vs ns, vals = [Value.ref a] ∧ args = [WData.list (ns.map WData.int)] ∧ h.get? a = some { cls := .type "list", data := .seq vs.toArray } ∧ IntsAre vs ns ∧ ns.length ≤ n := by
  have hsh : WShape.hasAll [] args [.list .int] = true := (pre_splitW hpre).1
  have hc : l.pre.holds [] { args := args } = true := (pre_splitW hpre).2
  obtain ⟨d, r, rfl, h1, h2⟩ := hasAllW_cons hsh
  obtain rfl := hasAllW_nil h2
  obtain ⟨xs, rfl, h3⟩ := hasW_list h1
  obtain ⟨ns, rfl⟩ := items_int h3
  have hlen : ns.length ≤ n := by
    unfold OpenLaw.pre at hc
    have h4 : (WTm.not (.lt (.lit (.int (n : Int))) (.len (.arg 0)))).holds [] { args := [.list (ns.map .int)] } = true := by
      have h4 := (holds_andW hc).1
      rw [hn] at h4
      exact h4
    have h5 := condW_of h4 (w_not (w_lt w_lit (w_len_list (w_arg rfl))))
    rw [List.length_map] at h5
    refine Nat.le_of_not_lt fun q => ?_
    have q' : (n : Int) < ((ns.length : Nat) : Int) := by omega
    first
      | (rw [decide_eq_true q'] at h5; exact absurd h5 (by decide))
      | (simp at h5; omega)
  cases hwl with
  | cons w1 w2 =>
    cases w2
    cases w1 with
    | list ho hall => exact ⟨_, _, ns, rfl, rfl, ho, ints_of_wellAll ns _ hall, hlen⟩

theorem post_true (l : OpenLaw) (args : List WData) : l.row.toRowW.claim.post args (.bool true) args = true :=
  postW_of (r := l.row.toRowW) (X := (true == true))
    (show WShape.has [] (.bool true) .bool = true by first | rfl | decide | simp [WShape.has, WShape.arms, WShape.armsAll])
    (show (WTm.eq .res (.lit (.bool true))).value [] { args := args, res := some (.bool true), after := args } = some (.bool (true == true)) from w_eq_bool (w_res rfl) w_lit) rfl

/-! ### the attachment: holds_open's last premise (the goal 'hc' behind k_head) from a wpAny of the law's body -/
/-- the same from a codeAny of the CALL (for a layer whose function contracts speak of calls) -/
theorem attach_call {l : OpenLaw} {n : Nat} {q : Program} {loose : List Str} {XP : (Str → Option Value) → Heap → Prop} {YP : World → Heap → Prop} {d : DefRec}
    (hn : l.most = some n) (hdf : d.params.defaults = [])
    (call : ∀ (w : World) (s₀ s₁ : Shared) (mg mb : Str → Option Value) (fa : Addr) (o : Obj) (pm cd doc : Value) (a : Addr) (vs : List Value) (ns : List Int),
      Ground q loose [] XP w s₀ mg mb s₁.heap → YP w s₁.heap →
      s₁.heap.get? fa = some o → o.data = .func (docDef d.name d.params d.body d.scope pm cd doc) → s₁.heap.CodeRec cd d.name → mg d.name = some (.ref fa) →
      s₁.heap.get? a = some { cls := .type "list", data := .seq vs.toArray } → IntsAre vs ns → ns.length ≤ n → s₁.gens = #[] →
      codeAny (model l.prog w) callerA (.call (.ref fa) ⟨[.ref a], []⟩) (fun r s' => r = .ok (.ret (.bool true)) ∧ OldK s₁.heap s'.heap ∧ s'.os = s₁.os ∧ AllBare s'.gens) s₁) :
    WalkO q loose XP YP l.row.toRowW d [] (fun f vs => PySem.call f vs) := by
  intro w s₀ s₁ mg mb G Y fa o pm cd doc dV kV ho hd hcd hD hmg hg args vals as hpre hlay hrd hwl hlo
  obtain rfl : dV = .none := Dflts.none hD hdf
  obtain rfl : kV = .none := Dflts.noKw hD
  obtain ⟨a, vs, ns, rfl, rfl, hobj, hints, hlen⟩ := script_of hn hpre hwl
  refine enter_call (codeAny_mono (call w s₀ s₁ mg mb fa o pm cd doc a vs ns G Y ho (fd_plain hd) hcd hmg hobj hints hlen hg) fun r s' hq => ?_)
  obtain ⟨rfl, h2, h3, h4⟩ := hq
  exact ⟨.inl ⟨.bool true, .bool true, [], rfl, fun _ => rfl, .bool true, post_true l _, fun _ => ⟨List.Pairwise.nil, fun _ hm => (nomatch hm)⟩⟩, h2, h3, h4⟩

/-! ### rules over ANY heap (no ledger) from facts about the written part K: the library's own take a ledger (News) for what they write -/
section
variable {prog : Program} {w : World} {A : Around} {E : Value → Shared → Prop} {s : Shared} {K : Frag}

/-! the whole heap as the ledger: makes every rule that writes through a ledger a rule over any heap -/
end
end Att

namespace L2
open PySem PySem.Spec PyProof.Rows

theorem vals_ints : ∀ {vs : List Value} {ns : List Int}, IntsAre vs ns → Vals (ns.map V.int) vs
  | _, _, .nil => .nil
  | _, _, .cons n t h => .cons ⟨t, rfl⟩ (vals_ints h)

/-- nothing is tracked but the script, known to the object (or it is an object of the module) -/
noncomputable def Only (H : Hp) : Prop := ∀ b, H b = none ∨ ∃ o xs, H b = some (.frz o (.lst xs))

/-- THE HEAD: the law's promise, at the heap behind the top. F, the promise of the law's def, may use that base is part of the heap (so K.In base, base.Ns mainGlobals mg stand in Mod) -/
theorem law_call {P : Program} {w : World} {K : PySem.W.Frag} {mg mb : Str → Option Value} {CX : CXT} {k : Nat} {fa a : Addr} {fd : FuncData} {x : Str} {sp : Sp} {s₁ : Shared} {vs : List Value} {ns : List Int}
    (KX : K.In s₁.heap) (hns : s₁.heap.Ns mainGlobals mg) (hb : s₁.heap.Ns builtinsNs mb) (hbb : ∀ x : Str, x ≠ "__name__" → mb x = bootBuiltins x) (hlim : s₁.heap.NoLimit) (hg : s₁.gens = #[])
    (ha : s₁.heap.get? a = some { cls := .type "list", data := .seq vs.toArray }) (hi : IntsAre vs ns) (hl : ns.length ≤ sizeLine) (hr : Room k callerA)
    (F : ∀ base : Heap, K.In base → base.Ns mainGlobals mg → FnOk P w K mg base CX k fa fd [x] sp) (hbind : ∀ (s : Shared) (u : Value), BindsTo s fd ⟨[u], []⟩ [(x, u)])
    (hsp : ∀ H : Hp, Only H → SqL K H a (ns.map V.int) → sp [.ref a] H (fun v _ => v = .bl true) fun _ _ _ => False)
    (hCX : ∀ H e s', CX [] H s₁ (fun _ _ _ => False) e s' → False) :
    codeAny (model P w) callerA (.call (.ref fa) ⟨[.ref a], []⟩) (fun r s' => r = .ok (.ret (.bool true)) ∧ OldK s₁.heap s'.heap ∧ s'.os = s₁.os ∧ AllBare s'.gens) s₁ := by
  have rv := vals_ints hi
  have lenV := hi.length
  -- from an abstract heap in which nothing but the script may be tracked
  have core : ∀ H : Hp, Only H → SqL K H a (ns.map V.int) → HOk P w H s₁.heap → (∀ b, H b ≠ none → b = a) → (H a ≠ none → K.lookup a = none) →
      codeAny (model P w) callerA (.call (.ref fa) ⟨[.ref a], []⟩) (fun r s' => r = .ok (.ret (.bool true)) ∧ OldK s₁.heap s'.heap ∧ s'.os = s₁.os ∧ AllBare s'.gens) s₁ := by
    intro H hO hS hok hA hK
    have base_of : ∀ {b : Addr} {o : Obj}, s₁.heap.get? b = some o → H b = none → (hidT s₁.heap H).get? b = some o := fun e n => hidT_get e n
    have noA : ∀ {b : Addr} {o : Obj} {es : Array DictEntry} {ep : Nat}, s₁.heap.get? b = some o → o.data = .dict es ep → H b = none := fun {b o es ep} e d => by
      cases q : H b with
      | none => rfl
      | some u =>
        have e' : b = a := hA b (by rw [q]; simp)
        subst e'
        rw [ha] at e; cases e
        have d' : Data.seq vs.toArray _ = Data.dict es ep := d
        cases d'
    have nsK : ∀ {b : Addr} {m : Str → Option Value}, s₁.heap.Ns b m → (hidT s₁.heap H).Ns b m := fun {b m} ⟨o, es, ep, e, d, r⟩ => ⟨o, es, ep, base_of e (noA e d), d, r⟩
    have hKb : K.In (hidT s₁.heap H) := fun b o e => base_of (KX b o e) (by
      cases q : H b with
      | none => rfl
      | some u =>
        have e' : b = a := hA b (by rw [q]; simp)
        subst e'
        rw [hK (by rw [q]; simp)] at e; cases e)
    have hM : Mod K mg (hidT s₁.heap H) := ⟨hKb, nsK hns, ⟨mb, nsK hb, hbb⟩, let ⟨mc, h1, h2⟩ := hlim; ⟨mc, nsK h1, h2⟩⟩
    have e0 : Env0 P w K mg (hidT s₁.heap H) callerA [] s₁ H := ⟨rfl, hM, fun b o e => of_hidT e, Nat.le_of_eq (hidT_size _ _), trivial, fun b hb => absurd (show b ∈ ([] : List Addr) from hb) (by simp), hok, .of_eq hg⟩
    refine codeAny_mono ((F _ hKb (nsK hns)).run callerA [] s₁ H ⟨[.ref a], []⟩ [.ref a] [.ref a] _ _ hr e0 (hbind s₁ (.ref a)) (.cons rfl .nil) (hsp H hO hS)) fun r s' h => ?_
    cases r with
    | error e => exact (hCX H e s' h).elim
    | ok fl =>
      cases fl with
      | next => exact False.elim h
      | brk => exact False.elim h
      | cont => exact False.elim h
      | ret u =>
        obtain ⟨v, H', os, bare, un, hok', r', q⟩ := h
        have q' : v = .bl true := q
        subst q'
        obtain rfl : u = Value.bool true := r'
        refine ⟨rfl, OldK.of_keep fun b o e => ?_, os, bare⟩
        cases q : H b with
        | none => exact un.keep b o e q (by intro z; exact absurd (show b ∈ ([] : List Addr) from z) (by simp)) (by simp)
        | some u =>
          rcases hO b with z | ⟨ob, xs, z⟩
          · rw [q] at z; cases z
          · have z2 := un.frzs b ob _ z
            obtain ⟨e1, _⟩ := hok b _ z
            obtain ⟨e2, _⟩ := hok' b _ z2
            rw [e] at e1; cases e1
            exact e2
  cases hk : K.lookup a with
  | some o =>
    -- the script is one of the module's own objects
    have e := KX a o hk
    rw [ha] at e
    cases e
    refine core (fun _ => none) (fun _ => .inl rfl) (.inr ⟨_, vs.toArray, _, hk, rfl, rfl, rfl, by rw [List.size_toArray, lenV]; exact hl, by simpa using rv⟩) (fun b u z => by have z' : (none : Option HO) = some u := z; cases z') (fun b z => absurd rfl z) fun z => absurd rfl z
  | none =>
    refine core (fun b => if b = a then some (.frz { cls := .type "list", data := .seq vs.toArray } (.lst (ns.map V.int))) else none) (fun b => ?_) (.inl (.inr ⟨{ cls := .type "list", data := .seq vs.toArray }, if_pos rfl⟩)) (fun b u z => ?_) (fun b z => ?_) fun _ => hk
    · by_cases hb : b = a
      · exact .inr ⟨_, _, if_pos hb⟩
      · exact .inl (if_neg hb)
    · by_cases hb : b = a
      · have z' := (if_pos hb).symm.trans z
        cases z'
        subst hb
        exact ⟨ha, by rw [List.length_map]; exact hl, vs, _, rv, ha⟩
      · have z' := (if_neg hb).symm.trans z
        cases z'
    · by_cases hb : b = a
      · exact hb
      · exact absurd (if_neg hb) z
end L2

namespace L2
open PySem PySem.Spec PyProof.Rows

/-- the goal that k_head leaves (case hc), from the law's promise. F gives the function object fd (K's own) once, then the promise over every base -/
theorem walk_of {l : PySem.W.OpenLaw} {n k : Nat} {q : Program} {loose : List Str} {XP : (Str → Option Value) → Heap → Prop} {YP : World → Heap → Prop} {d : DefRec} {K : Params → PySem.W.Frag} {CX : World → CXT} {sp : World → Sp} {x : Str}
    (hn : l.most = some n) (hn2 : n ≤ sizeLine) (hdf : d.params.defaults = []) (hr : Room k callerA)
    (hY : ∀ (w : World) (h : Heap), YP w h → (K w.params).In h)
    (F : ∀ (w : World) (mg : Str → Option Value) (fa : Addr) (h : Heap), (K w.params).In h → h.Ns mainGlobals mg → mg d.name = some (.ref fa) →
      ∃ fd : FuncData, (∀ (s : Shared) (u : Value), BindsTo s fd ⟨[u], []⟩ [(x, u)]) ∧
        ∀ base : Heap, (K w.params).In base → base.Ns mainGlobals mg → FnOk l.prog w (K w.params) mg base (CX w) k fa fd [x] (sp w))
    (hsp : ∀ (w : World) (H : Hp) (a : Addr) (ns : List Int), ns.length ≤ n → Only H → SqL (K w.params) H a (ns.map V.int) → sp w [.ref a] H (fun v _ => v = .bl true) fun _ _ _ => False)
    (hCX : ∀ (w : World) (H : Hp) (s : Shared) (e : Value) (s' : Shared), CX w [] H s (fun _ _ _ => False) e s' → False) :
    PySem.W.WalkO q loose XP YP l.row.toRowW d [] (fun f vs => PySem.call f vs) := by
  refine Att.attach_call hn hdf fun w s₀ s₁ mg mb fa o pm cd doc a vs ns G Y ho hd hcd hmg hobj hints hlen hg => ?_
  have KX := hY w _ Y
  obtain ⟨fd, hb, hF⟩ := F w mg fa _ KX G.T.g hmg
  exact law_call KX G.T.g G.T.b G.T.builtins G.T.nolimit hg hobj hints (Nat.le_trans hlen hn2) hr hF hb (fun H hO hS => hsp w H a ns hlen hO hS) fun H e s' => hCX w H s₁ e s'
end L2

/- THE LAST THEOREM (shape; LID, My.* are yours):
   My.Adr: a structure of the addresses that your layer names (classes, functions); My.Txt K t: a structure (Prop) of the equations over K;
   My.txt_mk : {K} {implicit addresses ..} (e1 : nsIn K mainGlobals "law" = some (some (.ref f))) (e2 : K.lookup f = some ⟨oc, od, .func (fnOf "law" "law" params body scope dV kV doc pm an cdv ct), sl⟩) (e3 : codeIn K cdv "law" = true) .. : ∃ t, My.Txt K t

set_option maxRecDepth 100000 in
set_option maxHeartbeats 0 in
theorem PySem.Challenge.cw_LID_holds : PySem.Challenge.rw_LID.Holds := by
  w_on; o_law; k_head; (case hw => w_witness2)
  k_fill
  refine L2.walk_of (l := PySem.Challenge.rw_LID) (n := 63) (k := 40) (x := "script") (CX := fun w => ..) (sp := fun _ => My.sp_law) rfl (by decide) rfl ⟨rfl, by decide, by decide⟩ (fun w h Y => PySem.W.kIn_of Y) ?F ?S ?C
  case F =>
    intro w mg fa h KX G hmg
    have T : ∃ t, My.Txt (L2.KOf KX) t := by
      dsimp only [L2.KOf]                          -- K must stand as «<heap const> w.params» for k_is
      refine' My.txt_mk ?e1 ?e2 ?e3 ..
      (case e1 => PySem.W.k_is)                    -- in the order: a name -> its address -> its object -> its parts
      (case e2 => PySem.W.k_is)
      ..
    obtain ⟨t, T⟩ := T
    have e0 := hmg.symm.trans (PySem.W.mg_of KX G T.law)
    cases e0                                       -- fa is the law's own address
    exact ⟨_, fun s u => .of_eq rfl, fun base kb nb => My.law_fn T kb nb⟩     -- if «.of_eq rfl» comes too early: refine' ⟨_, ?b, fun base kb nb => My.law_fn T kb nb⟩; exact fun s u => .of_eq rfl
  case S => exact fun w H a ns hl hO hS => ..
  case C => exact ..
(the tactic k_is has no namespace: write k_is) -/

/-! SHORT WORDS over the layer: a def of the text, its body, what a loop and a test want. -/
namespace L2
open PySem PySem.Spec PyProof.Rows

/-! ### the text by places -/
/-- the j-th statement of a class's body -/
noncomputable def inClass (s : Stmt) (j : Nat) : Stmt := match s with
  | .ClassDef _ _ _ body _ _ _ _ _ _ _ => body.getD j (.Pass ⟨0, 0, 0, 0⟩)
  | _ => .Pass ⟨0, 0, 0, 0⟩
noncomputable def defArgs (s : Stmt) : Arguments := match s with
  | .FunctionDef _ a _ _ _ _ _ _ _ _ => a
  | _ => { posonlyargs := [], args := [], vararg := none, kwonlyargs := [], kw_defaults := [], kwarg := none, defaults := [] }
noncomputable def defBody (s : Stmt) : List Stmt := match s with
  | .FunctionDef _ _ b _ _ _ _ _ _ _ => b
  | _ => []
noncomputable def defScope (s : Stmt) : Scope := match s with
  | .FunctionDef _ _ _ _ _ _ sc _ _ _ => sc
  | _ => { kind := .function, names := [], isGenerator := false, isCoroutine := false }

/-! ### no exception leaves a def -/
noncomputable abbrev CX0 : CXT := fun _ _ _ _ _ _ => False
noncomputable abbrev E0 : XK := fun _ _ _ => False
theorem pass0 {X : Cx} : Passes CX0 X E0 := fun _ _ _ _ _ _ _ h => h.elim

/-! ### a def (or method) of the text as it stands behind the top -/
structure Fun (K : PySem.W.Frag) (x qual : Str) (st : Stmt) (f : Addr) (fd : FuncData) : Prop where
  ex : ∃ (oc : Value) (od : Option Addr) (kV doc pm : Value) (an : Option Addr) (cdv ct : Value) (osl : Array (Option Value)),
    fd = PySem.W.fnOf x qual (defArgs st) (defBody st) (defScope st) .none kV doc pm an cdv ct ∧ K.lookup f = some ⟨oc, od, .func fd, osl⟩ ∧ PySem.W.codeIn K cdv qual = true
  kp : PySem.W.keepIn K (.ref f) = true
section
variable {P : Program} {w : World} {K : PySem.W.Frag} {mg : Str → Option Value} {base : Heap}
/-- THE RULE for a def: its body as a term of rules, and the reading of that term -/
theorem Fun.ok {x qual : Str} {st : Stmt} {f : Addr} {fd : FuncData} {N ps : List Str} {k : Nat} {sp : Sp} (F : Fun K x qual st f fd) (S : FnScope N ps (defScope st)) (len : ∀ vs H Q E, sp vs H Q E → vs.length = ps.length)
    (hbody : ∀ (cdv : Value) (A : Around) (outer : List Env) (s : Shared) (H : Hp) (vs : List V) (Q : VK) (E : XK), Room k (A.deeper (envOfC qual (defScope st) s.heap.objs.size f cdv)) → sp vs H Q E →
      ∃ t, PSs (cxOf CX0 P w K mg base N qual (defScope st) f cdv A outer s H E).nox (defBody st) t ∧ t { nx := fun _ H' => Q .non H', rt := Q } (start N vs) H) : FnOk P w K mg base CX0 (k + 1) f fd ps sp := by
  obtain ⟨oc, od, kV, doc, pm, an, cdv, ct, osl, rfl, lk, hcd⟩ := F.ex
  refine fn_of lk hcd S len fun A outer s H vs Q E hr hsp => ?_
  obtain ⟨t, h, q⟩ := hbody cdv A outer s H vs Q E hr hsp
  exact ⟨t, h.nox, q⟩
/-- how its arguments bind (no defaults): h is «fun _ _ _ _ _ _ us hl => match us, hl with | [_, _], _ => rfl», one _ a parameter -/
theorem Fun.binds {x qual : Str} {st : Stmt} {f : Addr} {fd : FuncData} {ps : List Str} (F : Fun K x qual st f fd)
    (h : ∀ (kV doc pm : Value) (an : Option Addr) (cdv ct : Value) (us : List Value), us.length = ps.length → bindArgs (PySem.W.fnOf x qual (defArgs st) (defBody st) (defScope st) .none kV doc pm an cdv ct) ⟨us, []⟩ = pure (ps.zip us)) : Binds K fd ps [] := by
  obtain ⟨oc, od, kV, doc, pm, an, cdv, ct, osl, rfl, lk, hcd⟩ := F.ex
  exact .all (h kV doc pm an cdv ct)
theorem fun_mk {x qual : Str} {st : Stmt} {f : Addr} {oc : Value} {od an : Option Addr} {osl : Array (Option Value)} {kV doc pm cdv ct : Value} (l : K.lookup f = some ⟨oc, od, .func (PySem.W.fnOf x qual (defArgs st) (defBody st) (defScope st) .none kV doc pm an cdv ct), osl⟩)
    (c : PySem.W.codeIn K cdv qual = true) (k : PySem.W.keepIn K (.ref f) = true) : Fun K x qual st f (PySem.W.fnOf x qual (defArgs st) (defBody st) (defScope st) .none kV doc pm an cdv ct) := ⟨⟨oc, od, kV, doc, pm, an, cdv, ct, osl, rfl, l, c⟩, k⟩
end
theorem hu_of {A : Around} {k : Nat} (hr : Room k A) : A.units + 1 < cLine := Nat.lt_of_le_of_lt (Nat.add_le_add_left (by decide : 1 ≤ 64) _) hr.units
/-! ### expressions in short: the name that stands in the i-th slot -/
section
variable {X : Cx}
theorem pv (i : Nat) {x : Str} {pos : Pos} (hN : X.N[i]? = some x := by rfl) (hv : Vis X.env.scope x := by first | exact Or.inl rfl | exact Or.inr (Or.inl rfl) | exact Or.inr (Or.inr rfl)) (hd : (x == ("__debug__" : Str)) = false := by decide)
    (hcd : (x == ("__classdict__" : Str)) = false := by decide) : PE X (.Name x pos) (tVar i) := pe_var hN hv hd hcd
end

/-! ### tests -/
theorem iteF {A B : Prop} (h : B) : if false = true then A else B := by
  rw [if_neg Bool.false_ne_true]
  exact h
theorem ite2 {c A B : Prop} [Decidable c] (h1 : c → A) (h2 : ¬ c → B) : if c then A else B := by
  by_cases h : c
  · rw [if_pos h]
    exact h1 h
  · rw [if_neg h]
    exact h2 h
theorem iteNS {c A B : Prop} [Decidable c] (hc : c) (h : B) : if (!decide c) = true then A else B := by
  rw [decide_eq_true hc]
  exact iteF h

/-! ### heaps -/
/-- all that was tracked is as it was -/
noncomputable def Same (H H' : Hp) : Prop := ∀ b o, H b = some o → H' b = some o
theorem Same.refl (H : Hp) : Same H H := fun _ _ h => h
theorem Same.trans {H H1 H2 : Hp} (a : Same H H1) (b : Same H1 H2) : Same H H2 := fun c o h => b c o (a c o h)
theorem Same.free {H H' : Hp} (e : Same H H') {l : Addr} (h : H' l = Option.none) : H l = Option.none := by
  cases q : H l with
  | none => rfl
  | some o =>
    rw [e l o q] at h
    cases h
theorem Same.seq {K : PySem.W.Frag} {H H' : Hp} {a : Addr} {xs : List V} (e : Same H H') (h : SqL K H a xs) : SqL K H' a xs := by
  rcases h with (h | ⟨o, h⟩) | h
  · exact .inl (.inl (e _ _ h))
  · exact .inl (.inr ⟨o, e _ _ h⟩)
  · exact .inr h

/-! ### a dict's pairs: keys that differ -/
section
variable {κ : Type} [DecidableEq κ]
end
end L2

set_option Elab.async false
set_option linter.all false
set_option maxRecDepth 100000
set_option maxHeartbeats 4000000
namespace L2
open PySem PySem.Spec PyProof.Rows

/-! ### an untracked list becomes tracked -/
section
variable {X : Cx} {pins : List (Addr × Obj)} {σ : List (Option V)} {H : Hp} {s : Shared}
theorem HOk.track {P : Program} {w : World} {h : Heap} {D : Addr} {o : HO} (ok : HOk P w H h) (hn : H D = none) (new : ObjOk P w (upd H D o) h D o) : HOk P w (upd H D o) h := fun b u e => by
  by_cases hb : b = D
  · subst hb; rw [upd_same] at e; cases e; exact new
  · rw [upd_ne hb] at e
    refine (ok b u e).stay (fun _ _ _ q => q) (fun c q => ?_) (fun c xs q => ?_)
    · rw [upd_ne (ne_of_none q hn)]; exact q
    · rw [upd_ne (ne_of_none q hn)]; exact q
theorem Inv.track {D : Addr} {o : HO} (I : Inv X pins σ H s) (hn : H D = none) (hD : X.s₀.heap.objs.size ≤ D) (hL : D ≠ X.env.locals) (hc : ∀ x c, X.env.cells.lookup x = some c → c ≠ D) (hp : ∀ p ∈ X.pn ++ pins, p.1 ≠ D)
    (new : ObjOk X.prog X.w (upd H D o) s.heap D o) : Inv X pins σ (upd H D o) s := by
  refine ⟨I.ok, I.os, I.bare, ⟨I.base.keep, I.base.slot, fun b ob e n hx => ?_, I.base.there, fun b xs e => ?_, fun b ob u e => ?_, fun b ps e => ?_⟩, I.loc, I.cell, ?_, fun x c e => ?_, fun p hp' => ?_, I.hok.track hn new, I.len⟩
  · rw [upd_ne (Nat.ne_of_lt (Nat.lt_of_lt_of_le (Heap.lt_size e) hD))]; exact I.base.free b ob e n hx
  · have q := I.base.tups b xs e; rw [upd_ne (ne_of_none q hn)]; exact q
  · have q := I.base.frzs b ob u e; rw [upd_ne (ne_of_none q hn)]; exact q
  · obtain ⟨m, q⟩ := I.base.tbls b ps e; exact ⟨m, by rw [upd_ne (ne_of_none q hn)]; exact q⟩
  · rw [upd_ne (Ne.symm hL)]; exact I.free
  · rw [upd_ne (hc x c e)]; exact I.freeC x c e
  · obtain ⟨e, n, a, b, d⟩ := I.pin p hp'
    exact ⟨e, by rw [upd_ne (hp p hp')]; exact n, a, b, d⟩
end

/-! ### the closure of a comprehension's block -/
noncomputable def clOf (env : Env) : List (Str × NameKind) → List (Str × Addr) → List (Str × Addr)
  | [], acc => acc
  | (n, k) :: r, acc => clOf env r (if k == NameKind.free then (n, (env.cells.lookup n).getD 0) :: acc else acc)
theorem closure_go (env : Env) : ∀ (l : List (Str × NameKind)) (acc : List (Str × Addr)), (∀ n, (n, NameKind.free) ∈ l → ∃ c, env.cells.lookup n = some c) →
    (forIn l acc (fun (x : Str × NameKind) (r : List (Str × Addr)) => if (x.2 == NameKind.free) = true then (do let a ← cellOf env x.1; pure (ForInStep.yield ((x.1, a) :: r))) else pure (ForInStep.yield r)) : Sem (List (Str × Addr))) = pure (clOf env l acc)
  | [], acc, _ => rfl
  | (n, k) :: r, acc, h => by
    rw [List.forIn_cons]
    by_cases hk : (k == NameKind.free) = true
    · have e : k = .free := by simpa using hk
      subst e
      obtain ⟨c, hc⟩ := h n List.mem_cons_self
      have e1 : cellOf env n = pure c := by unfold cellOf; rw [hc]
      have e2 : ((NameKind.free == NameKind.free) = true) = True := by simp
      simp only [e2, if_true, e1, pure_bind]
      rw [closure_go env r _ fun m hm => h m (List.mem_cons_of_mem _ hm)]
      show _ = pure (clOf env r (if (NameKind.free == NameKind.free) = true then (n, (env.cells.lookup n).getD 0) :: acc else acc))
      simp only [e2, if_true, hc, Option.getD_some]
    · simp only [if_neg hk, pure_bind]
      rw [closure_go env r _ fun m hm => h m (List.mem_cons_of_mem _ hm)]
      show _ = pure (clOf env r (if (k == NameKind.free) = true then (n, (env.cells.lookup n).getD 0) :: acc else acc))
      rw [if_neg hk]
theorem closureFor_eq {scope : Scope} {env : Env} (h : ∀ n, (n, NameKind.free) ∈ scope.names → ∃ c, env.cells.lookup n = some c) : closureFor scope env = pure (clOf env scope.names []) := by
  unfold closureFor
  have e := closure_go env scope.names [] h
  first
    | exact e
    | (simp only [bind_pure]; exact e)
    | (rw [show (forIn scope.names ([] : List (Str × Addr)) _ : Sem (List (Str × Addr))) = _ from e]; rfl)
theorem clOf_mem (env : Env) : ∀ (l : List (Str × NameKind)) (acc : List (Str × Addr)) (x : Str) (c : Addr), (clOf env l acc).lookup x = some c → acc.lookup x = some c ∨ (x, NameKind.free) ∈ l ∧ c = (env.cells.lookup x).getD 0
  | [], acc, x, c, h => .inl h
  | (n, k) :: r, acc, x, c, h => by
    rcases clOf_mem env r _ x c h with e | ⟨e1, e2⟩
    · by_cases hk : (k == NameKind.free) = true
      · rw [if_pos hk] at e
        have ek : k = .free := by simpa using hk
        subst ek
        rw [List.lookup_cons] at e
        by_cases hx : (x == n) = true
        · have ex : x = n := by simpa using hx
          subst ex
          rw [hx] at e
          exact .inr ⟨List.mem_cons_self, (Option.some.inj e).symm⟩
        · have hx' : (x == n) = false := by simpa using hx
          rw [hx'] at e
          exact .inl e
      · rw [if_neg hk] at e
        exact .inl e
    · exact .inr ⟨List.mem_cons_of_mem _ e1, e2⟩
theorem clOf_has (env : Env) : ∀ (l : List (Str × NameKind)) (acc : List (Str × Addr)) (x : Str), ((x, NameKind.free) ∈ l ∨ ∃ c, acc.lookup x = some c) → ∃ c, (clOf env l acc).lookup x = some c
  | [], acc, x, h => by
    rcases h with h | h
    · simp at h
    · exact h
  | (n, k) :: r, acc, x, h => by
    refine clOf_has env r _ x ?_
    rcases h with h | ⟨c, h⟩
    · rcases List.mem_cons.mp h with e | e
      · injection e with e1 e2
        subst e1 e2
        right
        exact ⟨(env.cells.lookup x).getD 0, by rw [if_pos (by rfl), List.lookup_cons]; simp⟩
      · exact .inl e
    · right
      by_cases hk : (k == NameKind.free) = true
      · rw [if_pos hk, List.lookup_cons]
        by_cases hx : (x == n) = true
        · rw [hx]; exact ⟨_, rfl⟩
        · have hx' : (x == n) = false := by simpa using hx
          rw [hx']; exact ⟨c, h⟩
      · rw [if_neg hk]; exact ⟨c, h⟩
/-- a name of the block's scope, as it is called there -/
theorem lookup_relabel {scope : Scope} {env : Env} {x : Str} {k : NameKind} : ∀ {names : List (Str × NameKind)}, (names.map fun (n, k) => if (k == NameKind.free && env.scope.kind == .function && env.kindOf n == some .cell) then (n, NameKind.cell) else (n, k)).lookup x = some k →
    names.lookup x = some k ∨ (k = .cell ∧ names.lookup x = some .free)
  | [], h => by simp at h
  | (n, j) :: r, h => by
    have ih := @lookup_relabel scope env x k r
    rw [List.map_cons, List.lookup_cons] at h
    rw [List.lookup_cons]
    by_cases hc : (j == NameKind.free && env.scope.kind == .function && env.kindOf n == some .cell) = true
    · simp only [hc, if_true] at h
      cases hx : x == n with
      | true =>
        rw [hx] at h
        have ej : j = .free := by
          simp only [Bool.and_eq_true] at hc
          simpa using hc.1.1
        exact .inr ⟨(Option.some.inj h).symm, by rw [ej]⟩
      | false => rw [hx] at h; exact ih h
    · simp only [if_neg hc] at h
      cases hx : x == n with
      | true => rw [hx] at h; exact .inl h
      | false => rw [hx] at h; exact ih h
theorem relabel_free {scope : Scope} {env : Env} {x : Str} : ∀ {names : List (Str × NameKind)}, names.lookup x = some .free → ∃ k, (k = NameKind.cell ∨ k = .free) ∧
    (names.map fun (n, k) => if (k == NameKind.free && env.scope.kind == .function && env.kindOf n == some .cell) then (n, NameKind.cell) else (n, k)).lookup x = some k
  | [], h => by simp at h
  | (n, j) :: r, h => by
    have ih := @relabel_free scope env x r
    rw [List.lookup_cons] at h
    rw [List.map_cons, List.lookup_cons]
    by_cases hc : (j == NameKind.free && env.scope.kind == .function && env.kindOf n == some .cell) = true
    · simp only [hc, if_true]
      cases hx : x == n with
      | true => exact ⟨.cell, .inl rfl, rfl⟩
      | false => rw [hx] at h; exact ih h
    · simp only [if_neg hc]
      cases hx : x == n with
      | true => rw [hx] at h; exact ⟨.free, .inr rfl, h⟩
      | false => rw [hx] at h; exact ih h

/-! ### the block -/
/-- the slots of the block: none, or a name of the def's -/
noncomputable def capt (caps : List (Option Nat)) (σ : St) : St := caps.map fun o => o.bind fun i => (σ[i]?).getD none
noncomputable def capOk (XN : List Str) (env : Env) (scope : Scope) (N : List Str) (caps : List (Option Nat)) : Bool :=
  caps.length == N.length && (caps.zip N).all fun p => match p.1 with
    | none => scope.names.lookup p.2 == some .local
    | some i => XN[i]? == some p.2 && scope.names.lookup p.2 == some .free && (env.scope.names.lookup p.2 == some .cell || env.scope.names.lookup p.2 == some .free)
/-- the context of a comprehension's block -/
noncomputable def blk (X : Cx) (scope : Scope) (N : List Str) (s₀ : Shared) (H₀ : Hp) (C : Addr) (fp : List Addr) : Cx where
  prog := X.prog
  w := X.w
  K := X.K
  mg := X.mg
  base := X.base
  A := X.A
  N := N
  s₀ := s₀
  H₀ := H₀
  env := compEnvC scope (clOf X.env scope.names []) C X.env
  outer := X.stack
  stack := X.stack
  ex := fp
  fn := fun _ => false
  calm := X.calm
  pn := []
  xe := fun _ _ => False
structure BlkScope (scope : Scope) (N : List Str) : Prop where
  kind : scope.kind = .function
  nd : N.Nodup
  nocell : ∀ y ∈ scope.names, y.2 ≠ .cell
  names : ∀ y ∈ scope.names, scope.names.lookup y.1 = some y.2

section
variable {X : Cx} {pins : List (Addr × Obj)} {σ : List (Option V)} {H : Hp} {s : Shared}
theorem capOk_at {XN : List Str} {env : Env} {scope : Scope} {N : List Str} {caps : List (Option Nat)} (h : capOk XN env scope N caps = true) :
    caps.length = N.length ∧ ∀ (j i : Nat) (x : Str), caps[j]? = some (some i) → N[j]? = some x → XN[i]? = some x ∧ scope.names.lookup x = some .free ∧ (env.kindOf x = some .cell ∨ env.kindOf x = some .free) := by
  unfold capOk at h
  rw [Bool.and_eq_true] at h
  obtain ⟨h1, h2⟩ := h
  refine ⟨by simpa using h1, fun j i x e1 e2 => ?_⟩
  have hm : (some i, x) ∈ caps.zip N := by
    refine List.mem_of_getElem? (i := j) ?_
    rw [List.getElem?_zip_eq_some]
    exact ⟨e1, e2⟩
  have q := List.all_eq_true.mp h2 _ hm
  simp only [Bool.and_eq_true, Bool.or_eq_true, beq_iff_eq] at q
  exact ⟨q.1.1, q.1.2, q.2⟩

/-- the block's start -/
theorem Inv.block {scope : Scope} {N : List Str} {caps : List (Option Nat)} {C : Addr} {fp : List Addr} {s1 : Shared} {h1 : Heap} {tk : Nat} {m : Str → Option Value} (S : BlkScope scope N) (hcap : capOk X.N X.env scope N caps = true)
    (hfree : ∀ n, (n, NameKind.free) ∈ scope.names → ∃ c, X.env.cells.lookup n = some c)
    (I : Inv X pins σ H s) (hf : ∀ b ∈ fp, FpOk X pins H b) (hfl : ∀ b ∈ fp, b < s.heap.objs.size) (hC : s.heap.objs.size ≤ C) (hk : ∀ b o, s.heap.get? b = some o → h1.get? b = some o) (hn : h1.Ns C m) :
    Inv (blk X scope N s H C fp) [] (capt caps σ) H { s with heap := h1, toks := tk } := by
  obtain ⟨hlen, hat⟩ := capOk_at hcap
  have clsub : ∀ x c, (clOf X.env scope.names []).lookup x = some c → X.env.cells.lookup x = some c := fun x c e => by
    rcases clOf_mem X.env scope.names [] x c e with z | ⟨z1, z2⟩
    · simp at z
    · obtain ⟨c', hc'⟩ := hfree x z1
      rw [hc', z2, hc']; rfl
  have clt : ∀ x c, X.env.cells.lookup x = some c → c < s.heap.objs.size := fun x c e => by
    obtain ⟨v, o, ho, _⟩ := I.cell x c e
    exact Heap.lt_size ho
  have relk : ∀ x, ((compEnvC scope (clOf X.env scope.names []) C X.env).kindOf x = some .cell ∨ (compEnvC scope (clOf X.env scope.names []) C X.env).kindOf x = some .free) → (x, NameKind.free) ∈ scope.names := fun x hx => by
    have sub : ∀ k, (compEnvC scope (clOf X.env scope.names []) C X.env).kindOf x = some k → scope.names.lookup x = some k ∨ (k = .cell ∧ scope.names.lookup x = some .free) := fun k e => lookup_relabel (scope := scope) (env := X.env) e
    rcases hx with e | e
    · rcases sub _ e with z | ⟨_, z⟩
      · exact absurd rfl (S.nocell _ (PySem.mem_of_lookup z))
      · exact PySem.mem_of_lookup z
    · rcases sub _ e with z | ⟨z, _⟩
      · exact PySem.mem_of_lookup z
      · cases z
  refine ⟨⟨I.ok.mod, S.kind, I.ok.glob, I.ok.blt, hC, fun x y c e1 e2 => I.ok.inj x y c (clsub x c e1) (clsub y c e2), fun x hx => ?_, fun x c z _ => absurd (show false = true from z) Bool.false_ne_true, I.ok.hd, I.ok.frames, .inl rfl, fun b hb => ?_, I.bs, Nat.le_trans I.ok.bsz I.sz, fun b o e hb => ?_, fun b hb hb2 => ?_, I.stack, I.stkFree⟩,
    rfl, I.bare, Un.kept hk, ⟨m, hn, fun j x v e1 e2 e3 => ?_⟩, fun x c e => ?_, I.hok.fresh hC, fun x c e => I.freeC x c (clsub x c e), fun p hp => absurd (show p ∈ ([] : List (Addr × Obj)) from hp) (by simp), I.hok.kept hk, ?_⟩
  · exact clOf_has X.env scope.names [] x (.inl (relk x hx))
  · exact ⟨Nat.ne_of_lt (Nat.lt_of_lt_of_le (hfl b hb) hC), fun x c e => (hf b hb).2.2.2.2.1 x c (clsub x c e)⟩
  · rcases (hf b hb).2.2.2.1 with z | z
    · exact I.ok.noex b o e z
    · exact absurd (Nat.lt_of_lt_of_le (Heap.lt_size e) (Nat.le_trans I.ok.bsz z)) (Nat.lt_irrefl _)
  · rcases List.mem_cons.mp (I.stkSub b hb2) with z | z
    · exact (hf b hb).2.1 z
    · exact (hf b hb).2.2.1 z
  · have e2' : (capt caps σ)[j]? = some (some v) := e2
    unfold capt at e2'
    rw [List.getElem?_map] at e2'
    cases hc : caps[j]? with
    | none => rw [hc] at e2'; cases e2'
    | some o =>
      rw [hc] at e2'
      cases o with
      | none => cases e2'
      | some i =>
        have e4 : (σ[i]?).getD none = some v := Option.some.inj e2'
        have e5 : σ[i]? = some (some v) := by
          cases q : σ[i]? with
          | none => rw [q] at e4; cases e4
          | some y => rw [q] at e4; exact congrArg some e4
        obtain ⟨a1, a2, a3⟩ := hat j i x hc e1
        obtain ⟨mX, hnX, hl⟩ := I.loc
        obtain ⟨u, r, l⟩ := hl i x v a1 e5 (a3.elim (fun z => .inr (.inl z)) fun z => .inr (.inr z))
        refine ⟨u, r, .inr ?_⟩
        obtain ⟨c, hcx, cell⟩ : ∃ c, X.env.cells.lookup x = some c ∧ s.heap.IsCell c (some u) := by
          rcases l with ⟨k, _⟩ | ⟨_, z⟩
          · rw [k] at a3; rcases a3 with z | z <;> cases z
          · exact z
        obtain ⟨k, hk2, hk3⟩ := relabel_free (scope := scope) (env := X.env) a2
        obtain ⟨c', hc'⟩ := clOf_has X.env scope.names [] x (.inl (PySem.mem_of_lookup a2))
        have hcc : c' = c := Option.some.inj ((clsub x c' hc').symm.trans hcx)
        subst hcc
        refine ⟨?_, c', hc', ?_⟩
        · rcases hk2 with z | z
          · subst z; exact .inl hk3
          · subst z; exact .inr hk3
        · obtain ⟨o, ho, hd⟩ := cell
          exact ⟨o, hk _ _ ho, hd⟩
  · obtain ⟨v, o, ho, hd⟩ := I.cell x c (clsub x c e)
    exact ⟨v, o, hk _ _ ho, hd⟩
  · show (capt caps σ).length = N.length
    unfold capt; rw [List.length_map]; exact hlen
end
end L2

set_option Elab.async false
set_option linter.all false
set_option maxRecDepth 100000
set_option maxHeartbeats 4000000
namespace L2
open PySem PySem.Spec PyProof.Rows

theorem codeAny_compLoop_own {prog : Program} {w : World} {A : Around} {R : Result → Shared → Prop} {s : Shared} {elt target iter : Expr} {ifs : List Expr} {scope : Scope} {pos : Pos} {it acc : Value} {env : Env} (I : Nat → Shared → Prop)
    (turn : ∀ n s, I n s → wpAny (model prog w) A (pyNext it) (fun r s₁ => match r with
      | none => R (.ok .next) s₁
      | some v => wpAny (model prog w) A (letOwnedTupleGo target it v) (fun _ s₁' => wpAny (model prog w) A (assign target env v) (fun _ s₂ =>
          wpAny (model prog w) A (forIn ifs true fun c r => if r = true then do let ok ← isTrue c env (eval c env); pure (ForInStep.yield ok) else pure (ForInStep.yield r)) (fun ok s₃ =>
            if ok = true then wpAny (model prog w) A (eval elt env) (fun x s₄ =>
              wpAny (model prog w) A (call (.builtin "list.append") [acc, x]) (fun _ s₅ => ∃ m, m < n ∧ I m s₅) (fun _ _ => False) s₄) (fun _ _ => False) s₃
            else ∃ m, m < n ∧ I m s₃) (fun _ _ => False) s₂) (fun _ _ => False) s₁') (fun _ _ => False) s₁) (fun _ _ => False) s)
    (n : Nat) (h : I n s) :
    codeAny (model prog w) A (.compLoop (.ListComp elt [⟨target, iter, ifs, 0⟩] scope pos) 0 it acc env) R s := by
  refine codeAny_loop rfl I (fun n s hI => ?_) n h
  show wpAny _ A ((compTurn (.ListComp elt [⟨target, iter, ifs, 0⟩] scope pos) 0 it acc env).onRaise (fun x => do noteFrame x env; theTreesLotGoes x)) _ _ s
  refine wpAny_noted ?_
  rw [compTurn_list]
  refine wpAny_noRaise ?_
  refine wpAny_bind (wpAny_standAt (wpAny_bind (wpAny_mono (turn n s hI) (fun r s₁ h₁ => ?_) fun _ _ h' => h')))
  cases r with
  | none => exact wpAny_pure h₁
  | some v =>
    refine wpAny_bind (wpAny_mono h₁ (fun _ s₁' h₁' => ?_) fun _ _ h' => h')
    refine wpAny_bind (wpAny_mono h₁' (fun _ s₂ h₂ => wpAny_bind (wpAny_mono h₂ (fun ok s₃ h₃ => ?_) fun _ _ h' => h')) fun _ _ h' => h')
    cases ok with
    | false => exact wpAny_pure ⟨rfl, h₃⟩
    | true =>
      exact wpAny_bind (wpAny_bind (wpAny_mono h₃ (fun x s₄ h₄ => wpAny_bind (wpAny_mono h₄ (fun _ s₅ h₅ => wpAny_pure (wpAny_pure ⟨rfl, h₅⟩)) fun _ _ h' => h')) fun _ _ h' => h'))

/-- a comprehension's tests -/
noncomputable def PTs (X : Cx) (ifs : List Expr) (t : TT) : Prop :=
  ∀ (pins : List (Addr × Obj)) (s : Shared) (σ : St) (H : Hp) (Q : Bool → Hp → Prop), Inv X pins σ H s → t σ H Q →
    wpAny (model X.prog X.w) X.A (forIn ifs true fun c r => if r = true then do let ok ← isTrue c X.env (eval c X.env); pure (ForInStep.yield ok) else pure (ForInStep.yield r)) (TP X pins σ Q) X.xe s
noncomputable def tYes : TT := fun _ H Q => Q true H
theorem pts_nil {X : Cx} : PTs X [] tYes := fun _ _ _ H _ I h => wpAny_tests_nil ⟨H, I, h⟩
/-- the loop of a comprehension: W by the turn, a measure, the list so far, the block's names, the heap -/
noncomputable def tLoop (J : It) (g : TG) (tt : TT) (te : TE) (τ0 : St) (H : Hp) (Qd : List V → Hp → Prop) : Prop :=
  ∃ W : Nat → Nat → List V → St → Hp → Prop, (∃ m, W 0 m [] τ0 H) ∧ ∀ i m xs τ H, W i m xs τ H →
    (J.stop i H ∧ Qd xs H) ∨ (J.go i H ∧ ∃ M : List V → St → Hp → Prop, (∀ ys τ' H', M ys τ' H' → ∃ m', m' < m ∧ W (i + 1) m' ys τ' H') ∧ ∀ x H', J.yld i H x H' → g x τ H' fun τ2 H2 => tt τ2 H2 fun b H3 =>
      if b = true then te τ2 H3 fun v H4 => xs.length < sizeLine ∧ M (xs ++ [v]) τ2 H4 else M xs τ2 H3)

section
variable {X : Cx} {pins : List (Addr × Obj)} {σ : List (Option V)} {s : Shared}
noncomputable abbrev lobj (its : List Value) (k : Nat) : Obj := { cls := .type "list", data := .seq its.toArray k }
theorem comp_run {elt tg iter : Expr} {ifs : List Expr} {scope : Scope} {N : List Str} {caps : List (Option Nat)} {pos : Pos} {g : TG} {tt : TT} {te : TE} {J : It} {fp : List Addr} {it : Addr} {tn : Nat → Heap → Prop} {H2 : Hp} {s2 : Shared} {Qd : List V → Hp → Prop}
    {E : Value → Shared → Prop} {RR : Value → Addr → Result → Shared → Prop}
    (S : BlkScope scope N) (hcap : capOk X.N X.env scope N caps = true) (hfree : ∀ n, (n, NameKind.free) ∈ scope.names → ∃ c, X.env.cells.lookup n = some c) (hc : X.calm = true)
    (hg : ∀ s₀ H₀ C fp, PG (blk X scope N s₀ H₀ C fp) tg g) (ht : ∀ s₀ H₀ C fp, PTs (blk X scope N s₀ H₀ C fp) ifs tt) (he : ∀ s₀ H₀ C fp, PE (blk X scope N s₀ H₀ C fp) elt te)
    (I2 : Inv X pins σ H2 s2) (T : Turn X.prog X.w X.K tg J fp it tn) (st2 : tn 0 s2.heap) (f2 : ∀ b ∈ fp, FpOk X pins H2 b) (h : tLoop J g tt te (capt caps σ) H2 Qd)
    (hRR : ∀ (D C : Addr) m xs H3 (s4 : Shared), Inv X pins σ (upd H3 D (.lst xs)) s4 → H3 D = none → s4.heap.Ns C m → FpOk X pins (upd H3 D (.lst xs)) C → Qd xs H3 → RR (.ref D) C (.ok .next) s4) :
    wpAny (model X.prog X.w) X.A (newList []) (fun acc s₃ => wpAny (model X.prog X.w) X.A (newFunctionEnv scope X.env.globals (clOf X.env scope.names []) [] X.env.qual none .none (some X.env)) (fun cenv s₄ =>
      codeAny (model X.prog X.w) X.A (.compStart (.ListComp elt [⟨tg, iter, ifs, 0⟩] scope pos) 0 (.ref it) acc { cenv with scope := relabel scope X.env }) (RR acc cenv.locals) s₄) E s₃) E s2 := by
  have hfl : ∀ b ∈ fp, b < s2.heap.objs.size := fun b hb => by
    obtain ⟨o, e, _⟩ := T.obj 0 s2.heap st2 b hb
    exact Heap.lt_size e
  refine wpAny_newObj_type (wpAny_newFunctionEnv S.nocell (by intro y hy; simp at hy) (fun h₁ hns hsb => ?_) S.kind)
  dsimp only at hns hsb ⊢
  generalize hHD : s2.heap.push { cls := .type "list", dict := none, data := .seq ([] : List Value).toArray } = HD at hns hsb ⊢
  have hC : HD.objs.size = s2.heap.objs.size + 1 := by rw [← hHD, Heap.size_push]
  have hDC : s2.heap.objs.size ≠ HD.objs.size := by rw [hC]; exact Nat.ne_of_lt (Nat.lt_succ_self _)
  have hCle : s2.heap.objs.size ≤ HD.objs.size := by rw [hC]; exact Nat.le_succ _
  have old : ∀ b o, s2.heap.get? b = some o → h₁.get? b = some o := fun b o e =>
    hsb.extBut b o (by rw [hC]; exact Nat.ne_of_lt (Nat.lt_succ_of_lt (Heap.lt_size e))) (Heap.get?_push_of_some _ (hHD ▸ Heap.get?_push_of_some _ e))
  have hacc : h₁.get? s2.heap.objs.size = some (lobj [] 0) := hsb.extBut _ _ hDC (Heap.get?_push_of_some _ (hHD ▸ Heap.get?_push_size _ rfl))
  obtain ⟨W, ⟨m0, w0⟩, turn⟩ := h
  have IY0 := Inv.block (caps := caps) (C := HD.objs.size) (fp := fp) (s1 := s2) (h1 := h₁) (tk := s2.toks + ([] : List (Str × Value)).length) S hcap hfree I2 f2 hfl hCle old hns
  have freshD : H2 s2.heap.objs.size = none := I2.hok.fresh (Nat.le_refl _)
  -- the pin of the list
  have pinOf : ∀ {τ : St} {H' : Hp} {s' : Shared} {its : List Value} {k : Nat}, Inv (blk X scope N s2 H2 HD.objs.size fp) [] τ H' s' → H' s2.heap.objs.size = none → s'.heap.get? s2.heap.objs.size = some (lobj its k) →
      Inv (blk X scope N s2 H2 HD.objs.size fp) [(s2.heap.objs.size, lobj its k)] τ H' s' := fun {τ H' s' its k} I hn e => I.pins_of fun p hp => by
    have ep : p = (s2.heap.objs.size, lobj its k) := by simpa using hp
    subst ep
    exact ⟨e, hn, hDC, fun z => by
      rcases List.mem_cons.mp (I2.stkSub _ z) with q | q
      · exact absurd (q ▸ I2.lt) (Nat.lt_irrefl _)
      · exact I2.nofs (Nat.le_refl _) q, fun v z => by cases z⟩
  have fY : ∀ {H' : Hp} {its : List Value} {k : Nat}, (∀ b ∈ fp, H' b = none) → ∀ b ∈ fp, FpOk (blk X scope N s2 H2 HD.objs.size fp) [(s2.heap.objs.size, lobj its k)] H' b := fun {H' its k} hn b hb => by
    have z := f2 b hb
    refine ⟨hn b hb, Nat.ne_of_lt (Nat.lt_of_lt_of_le (hfl b hb) hCle), fun q => ?_, .inl hb, fun x c e => IY0.ok.exf b hb |>.2 x c e, fun p hp => ?_⟩
    · rcases List.mem_cons.mp (I2.stkSub b q) with q | q
      · exact z.2.1 q
      · exact z.2.2.1 q
    · have ep : p = (s2.heap.objs.size, lobj its k) := by
        have : p ∈ [] ++ [(s2.heap.objs.size, lobj its k)] := hp
        simpa using this
      subst ep
      exact Nat.ne_of_gt (hfl b hb)
  -- the end of the loop
  have fin : ∀ {τ : St} {H3 : Hp} {s4 : Shared} {xs : List V} {its : List Value} {k : Nat}, Inv (blk X scope N s2 H2 HD.objs.size fp) [(s2.heap.objs.size, lobj its k)] τ H3 s4 → Vals xs its → xs.length ≤ sizeLine → Qd xs H3 →
      RR (.ref s2.heap.objs.size) HD.objs.size (.ok .next) s4 := fun {τ H3 s4 xs its k} I r hz q => by
    have hD := I.pin (s2.heap.objs.size, lobj its k) (by show _ ∈ [] ++ [_]; simp)
    have IX : Inv X pins σ H3 s4 := I2.call' (s' := s4) (ch := fp) I.os I.base I.hok I.bare fun b hb => ⟨(f2 b hb).2.2.2.1, (f2 b hb).2.1, (f2 b hb).2.2.2.2.1, (f2 b hb).2.2.2.2.2⟩
    have fD : FpOk X pins H3 s2.heap.objs.size := I2.fpOk (Nat.le_refl _) hD.2.1
    have fC : FpOk X pins H3 HD.objs.size := I2.fpOk hCle I.free
    have IT : Inv X pins σ (upd H3 s2.heap.objs.size (.lst xs)) s4 := IX.track hD.2.1 I2.sz fD.2.1 (fun x c e => fD.2.2.2.2.1 x c e) (fun p hp => fD.2.2.2.2.2 p hp) ⟨hz, its, k, r, hD.1⟩
    obtain ⟨m, hn, _⟩ := I.loc
    exact hRR _ _ m xs H3 s4 IT hD.2.1 hn ⟨by rw [upd_ne (Ne.symm hDC)]; exact fC.1, fC.2⟩ q
  have loop : ∀ s₃ : Shared, s₃ = { s2 with heap := h₁, toks := s2.toks + ([] : List (Str × Value)).length } →
      codeAny (model X.prog X.w) X.A (.compLoop (.ListComp elt [⟨tg, iter, ifs, 0⟩] scope pos) 0 (.ref it) (.ref s2.heap.objs.size) (compEnvC scope (clOf X.env scope.names []) HD.objs.size X.env)) (RR (.ref s2.heap.objs.size) HD.objs.size) s₃ := by
    rintro s₃ rfl
    refine codeAny_compLoop_own (fun n s' => ∃ i xs its k τ H', Inv (blk X scope N s2 H2 HD.objs.size fp) [(s2.heap.objs.size, lobj its k)] τ H' s' ∧ tn i s'.heap ∧ (∀ b ∈ fp, H' b = none) ∧ Vals xs its ∧ xs.length ≤ sizeLine ∧ W i n xs τ H') ?_ m0
      ⟨0, [], [], 0, _, _, pinOf IY0 freshD hacc, T.keep 0 _ _ st2 fun b _ o e => old b o e, fun b hb => (f2 b hb).1, .nil, Nat.zero_le _, w0⟩
    rintro n s3 ⟨i, xs, its, k, τ, H3, I3, st3, fr3, r3, z3, w3⟩
    rcases turn i n xs τ H3 w3 with ⟨stop, qn⟩ | ⟨go, M, hM, step⟩
    · refine wpAny_mono (T.done (blk X scope N s2 H2 HD.objs.size fp) rfl rfl rfl hc i _ s3 τ H3 (fun _ _ => False) I3 (fY fr3) st3 stop) (fun r s4 ⟨hr, I4⟩ => ?_) fun _ _ z => z
      subst hr
      exact fin I4 r3 z3 qn
    · refine wpAny_mono (T.item (blk X scope N s2 H2 HD.objs.size fp) rfl rfl rfl hc i _ s3 τ H3 (fun _ _ => False) I3 (fY fr3) st3 go) (fun r s4 ⟨u, hr, h4⟩ => ?_) fun _ _ z => z
      subst hr
      refine wpAny_mono h4 (fun _ s5 ⟨x, H5, I5, r5, y5, st5, fr5⟩ => ?_) fun _ _ z => z
      have I5' := I5.pinned (fY fr5) (T.obj _ _ st5)
      have keepT : ∀ {τ7 : St} {H7 : Hp} {s7 : Shared}, Inv (blk X scope N s2 H2 HD.objs.size fp) ([(s2.heap.objs.size, lobj its k)] ++ pinsAt fp s5.heap) τ7 H7 s7 → tn (i + 1) s7.heap ∧ ∀ b ∈ fp, H7 b = none := fun {τ7 H7 s7} I7 => by
        refine ⟨T.keep _ _ _ st5 fun b hb o e => (I7.pin (b, o) (List.mem_append_right _ (List.mem_append_right _ (mem_pinsAt hb e)))).1, fun b hb => ?_⟩
        obtain ⟨o, e, d⟩ := T.obj _ _ st5 b hb
        exact (I7.pin (b, o) (List.mem_append_right _ (List.mem_append_right _ (mem_pinsAt hb e)))).2.1
      refine wpAny_mono (hg _ _ _ _ _ s5 τ H5 x u _ I5' r5 (step x H5 y5)) (fun _ s6 ⟨τ6, H6, I6, q6⟩ => ?_) fun _ _ z => z
      refine wpAny_mono (ht _ _ _ _ _ s6 τ6 H6 _ I6 q6) (fun ok s7 ⟨H7, I7, q7⟩ => ?_) fun _ _ z => z
      cases ok with
      | false =>
        rw [if_neg Bool.false_ne_true] at q7 ⊢
        obtain ⟨m', hm, w7⟩ := hM _ _ _ q7
        obtain ⟨a1, a2⟩ := keepT I7
        exact ⟨m', hm, i + 1, xs, its, k, τ6, H7, I7.unpinned, a1, a2, r3, z3, w7⟩
      | true =>
        rw [if_pos rfl] at q7 ⊢
        refine wpAny_mono (he _ _ _ _ _ s7 τ6 H7 _ I7 q7) (fun v s8 ⟨y, H8, I8, r8, q8⟩ => ?_) fun _ _ z => z
        obtain ⟨hz, q8⟩ := q8
        obtain ⟨m', hm, w8⟩ := hM _ _ _ q8
        obtain ⟨a1, a2⟩ := keepT I8
        have hD := I8.pin (s2.heap.objs.size, lobj its k) (List.mem_append_right _ (List.mem_append_left _ (by simp)))
        have hlen := r3.length
        refine wpAny_list_append_plain (items := its.toArray) ⟨k, hD.1⟩ (fun h' hp hs => ?_) (by rw [List.size_toArray]; omega)
        obtain ⟨k', hp⟩ := hp
        have I9 : Inv (blk X scope N s2 H2 HD.objs.size fp) [] τ6 H8 { s8 with heap := h' } :=
          (I8.pins_of (pins' := []) (by simp)).turned (t' := s8.toks) (it := s2.heap.objs.size) (fun b o hb e => (hs.2 b hb).trans e) hD.2.1 hD.2.2.1 (.inr (Nat.le_refl _))
            (fun x c e z => by
              have q := IY0.cell x c e
              obtain ⟨v, o, ho, hd⟩ := I8.cell x c e
              have e1 : s8.heap.get? s2.heap.objs.size = some (lobj its k) := hD.1
              rw [z, e1] at ho
              cases ho
              cases hd) (by intro p hp; exact absurd (show p ∈ ([] : List (Addr × Obj)) ++ [] from hp) (by simp))
        have hp' : ({ s8 with heap := h' } : Shared).heap.get? s2.heap.objs.size = some (lobj (its ++ [v]) k') := by
          show h'.get? _ = _
          rw [hp]; simp
        have hkt : tn (i + 1) h' := T.keep _ _ _ a1 fun b hb o e => (hs.2 b (Nat.ne_of_lt (hfl b hb))).trans e
        refine ⟨m', hm, i + 1, xs ++ [y], its ++ [v], k', τ6, H8, pinOf I9 hD.2.1 hp', hkt, a2, r3.append (.cons r8 .nil), ?_, w8⟩
        rw [List.length_append]
        exact hz
  exact codeAny_compStart_list (loop _ rfl) (T.self X.A 0 _ _ _ (T.keep 0 _ _ st2 fun b _ o e => old b o e) (loop _ rfl))

noncomputable def freeOk (env : Env) (scope : Scope) : Bool := scope.names.all fun p => p.2 != .free || env.scope.names.lookup p.1 == some .cell || env.scope.names.lookup p.1 == some .free
theorem Inv.freeOk {H : Hp} {scope : Scope} (I : Inv X pins σ H s) (h : freeOk X.env scope = true) : ∀ n, (n, NameKind.free) ∈ scope.names → ∃ c, X.env.cells.lookup n = some c := fun n hn => by
  have q := List.all_eq_true.mp h _ hn
  simp only [Bool.or_eq_true, beq_iff_eq, bne_iff_ne] at q
  refine I.ok.has n ?_
  rcases q with (q | q) | q
  · exact absurd rfl q
  · exact .inl q
  · exact .inr q

/-- [elt for tg in iter if ..] -/
noncomputable def tComp (caps : List (Option Nat)) (wi : TI) (g : TG) (tt : TT) (te : TE) : TE := fun σ H Q => wi σ H fun J H1 => tLoop J g tt te (capt caps σ) H1 fun xs H3 => ∀ p, H3 p = none → Q (.ref p) (upd H3 p (.lst xs))
theorem pe_comp {elt tg iter : Expr} {ifs : List Expr} {scope : Scope} {N : List Str} {caps : List (Option Nat)} {pos : Pos} {wi : TI} {g : TG} {tt : TT} {te : TE}
    (S : BlkScope scope N) (hcap : capOk X.N X.env scope N caps = true) (hfr : L2.freeOk X.env scope = true) (hc : X.calm = true) (hi : PI X tg iter wi)
    (hg : ∀ s₀ H₀ C fp, PG (blk X scope N s₀ H₀ C fp) tg g) (ht : ∀ s₀ H₀ C fp, PTs (blk X scope N s₀ H₀ C fp) ifs tt) (he : ∀ s₀ H₀ C fp, PE (blk X scope N s₀ H₀ C fp) elt te)
    (hs : ∀ x, foldedSetIterable iter X.env x = pure x := by intro _; rfl) : PE X (.ListComp elt [⟨tg, iter, ifs, 0⟩] scope pos) (tComp caps wi g tt te) := by
  intro pins s σ H Q I h
  rw [eval_ListComp]
  refine wpAny_comprehension_free (use := none) rfl hs (closureFor_eq (I.freeOk hfr)) S.kind (fun x hx hl => hl ▸ S.names x hx) ?_
  refine thn (hi pins s σ H _ I h) fun v s1 h1 => thn h1 fun itv s2 h2 => ?_
  obtain ⟨it, fp, tn, J, H2, rfl, I2, T, st2, f2, hl⟩ := h2
  refine comp_run (RR := fun acc C => compPost (model X.prog X.w) X.A X.xe none (EP X pins σ Q) acc C) S hcap (I.freeOk hfr) hc hg ht he I2 T st2 f2 hl ?_
  intro D C m xs H3 s4 IT hD hn fC q
  refine ⟨m, hn, fun h' sb => ⟨.ref D, _, ?_, rfl, q D hD⟩⟩
  exact IT.turned (t' := s4.toks) (it := C) (fun b o hb e => (sb.2 b hb).trans e) fC.1 fC.2.1 fC.2.2.2.1 fC.2.2.2.2.1 fC.2.2.2.2.2
/-- name = [elt for tg in iter if ..] -/
theorem ps_setComp {elt tg iter : Expr} {ifs : List Expr} {scope : Scope} {N : List Str} {caps : List (Option Nat)} {pos pos' spos : Pos} {wi : TI} {g : TG} {tt : TT} {te : TE} {i : Nat} {x : Str}
    (hN : X.N.Nodup) (hix : X.N[i]? = some x) (hx : X.env.scope.names.lookup x = some .local)
    (S : BlkScope scope N) (hcap : capOk X.N X.env scope N caps = true) (hfr : L2.freeOk X.env scope = true) (hc : X.calm = true) (hi : PI X tg iter wi)
    (hg : ∀ s₀ H₀ C fp, PG (blk X scope N s₀ H₀ C fp) tg g) (ht : ∀ s₀ H₀ C fp, PTs (blk X scope N s₀ H₀ C fp) ifs tt) (he : ∀ s₀ H₀ C fp, PE (blk X scope N s₀ H₀ C fp) elt te)
    (hsw : swapsWith (.ListComp elt [⟨tg, iter, ifs, 0⟩] scope pos) (some (.Name x pos')) spos.line X.env = pure true := by rfl)
    (hs : ∀ x, foldedSetIterable iter X.env x = pure x := by intro _; rfl) : PS X (.Assign [.Name x pos'] (.ListComp elt [⟨tg, iter, ifs, 0⟩] scope pos) spos) (tAsg (tComp caps wi g tt te) (gName i)) := by
  intro pins s σ H D I h
  rw [exec_Assign_Name_used _ _ _ _ hsw]
  refine wpAny_bind (wpAny_standAt (wpAny_bind ?_))
  show wpAny _ X.A (do let _ ← comprehension (.ListComp elt [⟨tg, iter, ifs, 0⟩] scope pos) scope X.env _ (newList []) false (eval iter X.env) (some (assign (.Name x pos') X.env))) _ _ s
  refine wpAny_bind (wpAny_mono (wpAny_comprehension_free (use := some (assign (.Name x pos') X.env)) (Q := fun _ s' => SP X pins D .next s') rfl hs (closureFor_eq (I.freeOk hfr)) S.kind (fun x hx hl => hl ▸ S.names x hx)
    (thn (hi pins s σ H _ I h) fun v s1 h1 => thn h1 fun itv s2 h2 => ?_)) (fun _ s' hq => wpAny_pure (wpAny_pure hq)) fun _ _ e => e)
  obtain ⟨it, fp, tn, J, H2, rfl, I2, T, st2, f2, hl⟩ := h2
  refine comp_run (RR := fun acc C => compPost (model X.prog X.w) X.A X.xe (some (assign (.Name x pos') X.env)) (fun _ s' => SP X pins D .next s') acc C) S hcap (I.freeOk hfr) hc hg ht he I2 T st2 f2 hl ?_
  intro Dl C m xs H3 s4 IT hD hn fC q
  show wpAny _ X.A (assign (.Name x pos') X.env (.ref Dl)) _ _ _
  obtain ⟨oC, es, ep, hoC, hdC, rC⟩ := id hn
  have IP : Inv X (pins ++ [(C, oC)]) σ (upd H3 Dl (.lst xs)) s4 := IT.pins_of fun p hp => (List.mem_append.mp hp).elim (fun z => IT.pin p (List.mem_append_right _ z)) fun z => by
    have e : p = (C, oC) := by simpa using z
    subst e
    exact ⟨hoC, fC.1, fC.2.1, fC.2.2.1, fun v z => by rw [hdC] at z; cases z⟩
  refine wpAny_assign_Name (store_ok (v := .ref Dl) IP hN hix (.inl hx) rfl (fun s5 I5 => ?_) (.inr hx))
  have hC5 := I5.pin (C, oC) (List.mem_append_right _ (List.mem_append_right _ (by simp)))
  refine ⟨m, ⟨oC, es, ep, hC5.1, hdC, rC⟩, fun h' sb => ⟨_, _, ?_, q Dl hD⟩⟩
  exact I5.unpinned.turned (t' := s5.toks) (it := C) (fun b o hb e => (sb.2 b hb).trans e) fC.1 fC.2.1 fC.2.2.2.1 fC.2.2.2.2.1 fC.2.2.2.2.2
end

/-! ### the forms one uses -/
theorem loop_range {lo : Int} {n : Nat} {g : TG} {tt : TT} {te : TE} {τ0 : St} {H : Hp} {Qd : List V → Hp → Prop} (Pv : Nat → List V → St → Hp → Prop) (h0 : Pv 0 [] τ0 H)
    (hs : ∀ i xs τ H, i < n → Pv i xs τ H → g (.int (lo + i)) τ H fun τ2 H2 => tt τ2 H2 fun b H3 => if b = true then te τ2 H3 fun v H4 => xs.length < sizeLine ∧ Pv (i + 1) (xs ++ [v]) τ2 H4 else Pv (i + 1) xs τ2 H3)
    (hd : ∀ xs τ H, Pv n xs τ H → Qd xs H) : tLoop (Itr lo n) g tt te τ0 H Qd := by
  refine ⟨fun i m xs τ H => m = n - i ∧ i ≤ n ∧ Pv i xs τ H, ⟨n, by simp, Nat.zero_le _, h0⟩, ?_⟩
  rintro i m xs τ H ⟨rfl, hi, p⟩
  by_cases hlt : i < n
  · refine .inr ⟨hlt, Pv (i + 1), fun ys τ' H' p' => ⟨n - (i + 1), by omega, rfl, hlt, p'⟩, fun x H' y => ?_⟩
    obtain ⟨e, y⟩ := y
    subst e y
    exact hs i xs τ _ hlt p
  · have e : i = n := by omega
    subst e
    exact .inl ⟨Nat.le_refl _, hd xs τ H p⟩
/-! ### a text, sign by sign -/
end L2

set_option Elab.async false
set_option linter.all false
set_option maxRecDepth 100000
set_option maxHeartbeats 4000000
namespace L2
open PySem PySem.Spec PyProof.Rows

/-! ### data that is shown -/
mutual
noncomputable def DatV (K : PySem.W.Frag) (H : Hp) : PyData → V → Prop
  | .none, v => v = .non
  | .bool b, v => v = .bl b
  | .int i, v => v = .int i
  | .str x, v => v = .str x
  | .list ds, v => ∃ a xs, v = .ref a ∧ SqL K H a xs ∧ DatVs K H ds xs
  | .tuple ds, v => ∃ a xs, v = .ref a ∧ SqT K H a xs ∧ DatVs K H ds xs
  | .dict _, _ => False
noncomputable def DatVs (K : PySem.W.Frag) (H : Hp) : List PyData → List V → Prop
  | [], xs => xs = []
  | d :: ds, xs => ∃ x r, xs = x :: r ∧ DatV K H d x ∧ DatVs K H ds r
end
theorem SqT.same {K : PySem.W.Frag} {H H' : Hp} {a : Addr} {xs : List V} (e : ∀ b o, H b = some o → H' b = some o) (h : SqT K H a xs) : SqT K H' a xs := by
  rcases h with (h | ⟨o, h⟩) | h
  · exact .inl (.inl (e _ _ h))
  · exact .inl (.inr ⟨o, e _ _ h⟩)
  · exact .inr h
mutual
theorem DatV.same {K : PySem.W.Frag} {H H' : Hp} (e : Same H H') : ∀ (d : PyData) (v : V), DatV K H d v → DatV K H' d v
  | .none, _, h => by simpa [DatV] using h
  | .bool b, _, h => by simpa [DatV] using h
  | .int i, _, h => by simpa [DatV] using h
  | .str x, _, h => by simpa [DatV] using h
  | .list ds, v, h => by
    simp only [DatV] at h ⊢
    obtain ⟨a, xs, h1, h2, h3⟩ := h
    exact ⟨a, xs, h1, e.seq h2, DatVs.same e ds xs h3⟩
  | .tuple ds, v, h => by
    simp only [DatV] at h ⊢
    obtain ⟨a, xs, h1, h2, h3⟩ := h
    exact ⟨a, xs, h1, SqT.same e h2, DatVs.same e ds xs h3⟩
  | .dict _, _, h => by simp only [DatV] at h
theorem DatVs.same {K : PySem.W.Frag} {H H' : Hp} (e : Same H H') : ∀ (ds : List PyData) (xs : List V), DatVs K H ds xs → DatVs K H' ds xs
  | [], _, h => by simpa [DatVs] using h
  | d :: ds, xs, h => by
    simp only [DatVs] at h ⊢
    obtain ⟨x, r, h1, h2, h3⟩ := h
    exact ⟨x, r, h1, DatV.same e d x h2, DatVs.same e ds r h3⟩
end
mutual
theorem DatV.noDict {K : PySem.W.Frag} {H : Hp} : ∀ (d : PyData) (v : V), DatV K H d v → d.hasDict = false
  | .none, _, _ => rfl
  | .bool _, _, _ => rfl
  | .int _, _, _ => rfl
  | .str _, _, _ => rfl
  | .list ds, v, h => by
    simp only [DatV] at h
    obtain ⟨a, xs, _, _, h3⟩ := h
    simp only [PyData.hasDict]
    exact DatVs.noDict ds xs h3
  | .tuple ds, v, h => by
    simp only [DatV] at h
    obtain ⟨a, xs, _, _, h3⟩ := h
    simp only [PyData.hasDict]
    exact DatVs.noDict ds xs h3
  | .dict _, _, h => by simp only [DatV] at h
theorem DatVs.noDict {K : PySem.W.Frag} {H : Hp} : ∀ (ds : List PyData) (xs : List V), DatVs K H ds xs → PyData.hasDictAll ds = false
  | [], _, _ => rfl
  | d :: ds, xs, h => by
    simp only [DatVs] at h
    obtain ⟨x, r, _, h2, h3⟩ := h
    simp only [PyData.hasDictAll, DatV.noDict d x h2, DatVs.noDict ds r h3, Bool.or_false]
end
section
variable {X : Cx} {pins : List (Addr × Obj)} {σ : St} {H : Hp} {s : Shared}
mutual
theorem Inv.reads (I : Inv X pins σ H s) : ∀ (d : PyData) (v : V) (u : Value), DatV X.K H d v → RelV v u → ∃ as, Reads s.heap u d as
  | .none, v, u, h, r => by
    simp only [DatV] at h
    subst h
    cases r
    exact ⟨_, .none⟩
  | .bool b, v, u, h, r => by
    simp only [DatV] at h
    subst h
    cases r
    exact ⟨_, .bool b⟩
  | .int i, v, u, h, r => by
    simp only [DatV] at h
    subst h
    obtain ⟨t, rfl⟩ := r
    exact ⟨_, .int i t⟩
  | .str x, v, u, h, r => by
    simp only [DatV] at h
    subst h
    obtain ⟨t, rfl⟩ := r
    exact ⟨_, .str x t⟩
  | .list ds, v, u, h, r => by
    simp only [DatV] at h
    obtain ⟨a, xs, rfl, h2, h3⟩ := h
    cases r
    obtain ⟨its, rv, ⟨o, n, e, hc, _, hd⟩, _⟩ := I.list h2
    obtain ⟨as, q⟩ := Inv.readsAll I ds xs its h3 rv
    exact ⟨_, .list e hc hd (by simpa using q)⟩
  | .tuple ds, v, u, h, r => by
    simp only [DatV] at h
    obtain ⟨a, xs, rfl, h2, h3⟩ := h
    cases r
    obtain ⟨its, rv, ⟨o, e, hc, n, hd⟩, _⟩ := I.tuple h2
    obtain ⟨as, q⟩ := Inv.readsAll I ds xs its h3 rv
    exact ⟨_, .tuple e hc hd (by simpa using q)⟩
  | .dict _, _, _, h, _ => by simp only [DatV] at h
theorem Inv.readsAll (I : Inv X pins σ H s) : ∀ (ds : List PyData) (xs : List V) (us : List Value), DatVs X.K H ds xs → Vals xs us → ∃ as, ReadsAll s.heap us ds as
  | [], xs, us, h, r => by
    simp only [DatVs] at h
    subst h
    cases r
    exact ⟨_, .nil⟩
  | d :: ds, xs, us, h, r => by
    simp only [DatVs] at h
    obtain ⟨x, rr, rfl, h2, h3⟩ := h
    cases r with
    | cons r1 r2 =>
      obtain ⟨as, q1⟩ := Inv.reads I d x _ h2 r1
      obtain ⟨bs, q2⟩ := Inv.readsAll I ds rr _ h3 r2
      exact ⟨_, .cons q1 q2⟩
end
/-- repr -/
noncomputable def rRepr (K : PySem.W.Frag) : List V → Hp → VK → Prop := fun xs H Q => ∃ x d, xs = [x] ∧ DatV K H d x ∧ d.showable = true ∧ d.depth ≤ 100 ∧ d.shown.length ≤ sizeLine ∧ Q (.str d.shown) H
theorem call_repr {k : Nat} (hr : Room k X.A) : CallR X (.builtin "repr") (rRepr X.K) := by
  intro pins s σ H xs us Q I r h
  obtain ⟨x, d, rfl, hd, hs, hdp, hz, q⟩ := h
  obtain ⟨u, rfl, rx⟩ := vals1 r
  have big : ∀ a, u = .ref a → wpAny (model X.prog X.w) X.A (call (.builtin "repr") [u]) (EP X pins σ Q) X.xe s := fun a e => by
    subst e
    obtain ⟨as, rd⟩ := I.reads d x _ hd rx
    refine repr_of_reads' rd hs (fun z => ?_) hr.gd (by have := hr.un; omega) (fun b o e => e) (fun h' u tk hk => ?_) hz
    · rw [DatV.noDict d x hd] at z; cases z
    · exact ⟨.str d.shown, H, I.kept (t' := tk) hk, ⟨_, rfl⟩, q⟩
  cases d with
  | none => simp only [DatV] at hd; subst hd; cases rx; exact PySem.P.repr_of_none ⟨.str _, H, I.tok _, ⟨_, rfl⟩, q⟩
  | bool b => simp only [DatV] at hd; subst hd; cases rx; exact PySem.P.repr_of_bool ⟨.str _, H, I.tok _, ⟨_, rfl⟩, by simpa only [PyData.shown] using q⟩
  | int i =>
    simp only [DatV] at hd
    subst hd
    obtain ⟨t, rfl⟩ := rx
    exact PySem.P.repr_of_int (by simpa [PyData.showable] using hs) ⟨.str _, H, I.tok _, ⟨_, rfl⟩, by simpa only [PyData.shown] using q⟩
  | str y =>
    simp only [DatV] at hd
    subst hd
    obtain ⟨t, rfl⟩ := rx
    exact PySem.P.repr_of_str ⟨.str _, H, I.tok _, ⟨_, rfl⟩, by simpa only [PyData.shown] using q⟩ (by simpa only [PyData.shown] using hz)
  | list ds =>
    simp only [DatV] at hd
    obtain ⟨a, xs, rfl, _⟩ := hd
    exact big a rx
  | tuple ds =>
    simp only [DatV] at hd
    obtain ⟨a, xs, rfl, _⟩ := hd
    exact big a rx
  | dict _ => simp only [DatV] at hd

theorem relTy {n : String} : RelV (.ty n) (.type n) ∧ ∀ u', RelV (.ty n) u' → u' = .type n := ⟨rfl, fun u' h => h⟩
theorem relRef {a : Addr} : RelV (.ref a) (.ref a) ∧ ∀ u', RelV (.ref a) u' → u' = .ref a := ⟨rfl, fun u' h => h⟩

/-- all of a list of bools -/
theorem bls_of : ∀ {bs : List Bool} {its : List Value}, Vals (bs.map V.bl) its → its = bs.map Value.bool
  | [], _, .nil => rfl
  | b :: bs, _, .cons r t => by rw [List.map_cons, bls_of t, show _ = Value.bool b from r]
/-! ### texts -/
theorem sl_str : SlR X (fun x lo hi H Q => ∃ y, x = .str y ∧ y.length ≤ sizeLine ∧ Q (.str (Txt.slice y lo hi)) H) := by
  intro pins s σ H x v vl vu lo hi sl Q I rx hs pl pu h
  obtain ⟨y, rfl, hz, q⟩ := h
  obtain ⟨t, rfl⟩ := rx
  have fin : ∀ (l u : Option (Int × Tok)), vl = partValue l → vu = partValue u → lo = l.map (·.1) → hi = u.map (·.1) → wpAny (model X.prog X.w) X.A (getItem (.str y t) (.ref sl)) (EP X pins σ Q) X.xe s := fun l u e1 e2 e3 e4 => by
    obtain ⟨o, ho, hc, hd⟩ := hs
    refine wpAny_getItem_str_slice (l := l) (u := u) (st := none) ⟨o, ho, hc, by rw [hd, e1, e2]; rfl⟩ rfl ?_
    subst e3 e4
    exact post_val_or_str ⟨Nat.le_trans (Txt.slice_le y _ _) hz, fun t' k => ⟨.str _, H, I.tok _, ⟨_, rfl⟩, q⟩⟩
  refine ⟨"str", _, PySem.F.slot_str_getitem.lookup, typeIs_str _ _ _, ?_⟩
  cases pl with
  | none =>
    cases pu with
    | none => exact fin none none rfl rfl rfl rfl
    | int j tj => exact fin none (some (j, tj)) rfl rfl rfl rfl
  | int i ti =>
    cases pu with
    | none => exact fin (some (i, ti)) none rfl rfl rfl rfl
    | int j tj => exact fin (some (i, ti)) (some (j, tj)) rfl rfl rfl rfl
theorem strs_of : ∀ {ys : List Str} {its : List Value}, Vals (ys.map V.str) its → StrsAre its ys
  | [], _, .nil => .nil
  | y :: ys, _, .cons r t => by
    obtain ⟨tk, e⟩ := (show ∃ t, _ = Value.str y t from r)
    subst e
    exact .cons y tk (strs_of t)
theorem mt_join : MtR X "str.join" (fun x vs H Q => ∃ (y : Str) (a : Addr) (ys : List Str), x = .str y ∧ vs = [.ref a] ∧ SqL X.K H a (ys.map V.str) ∧ (ys.map (·.length)).sum + ys.length * y.length ≤ 16777216 ∧ Q (.str (Txt.join y ys)) H) := by
  intro pins s σ H x vs v us Q I rx rv h
  obtain ⟨y, a, ys, rfl, rfl, ha, hz, q⟩ := h
  obtain ⟨t, rfl⟩ := rx
  obtain ⟨u, rfl, ru⟩ := vals1 rv
  cases ru
  obtain ⟨its, r, pl, _⟩ := I.list ha
  exact join_list pl.isList (by simpa using strs_of r) hz fun t' k => ⟨.str _, H, I.tok _, ⟨_, rfl⟩, q⟩
end
end L2

set_option Elab.async false
set_option linter.all false
set_option maxRecDepth 100000
set_option maxHeartbeats 4000000
namespace L2
open PySem PySem.Spec PyProof.Rows

/-! ### argument lists without a star, by a look at the syntax alone -/
noncomputable def notStar : Expr → Bool
  | .Starred _ _ => false
  | _ => true
theorem star_cons {e : Expr} (es : List Expr) (env : Env) (h : notStar e = true) : starEach (e :: es) env = (false, eval e env) :: starEach es env := by
  cases e <;> first | rfl | cases h
theorem star_back {pos : Pos} {env : Env} : ∀ (es : List Expr), es.all notStar = true → (backTo pos (starEach es env)).any (·.1) = false
  | [], _ => rfl
  | e :: es, h => by
    rw [List.all_cons, Bool.and_eq_true] at h
    rw [star_cons es env h.1]
    show (false || (backTo pos (starEach es env)).any (·.1)) = false
    rw [star_back es h.2]; rfl
theorem star_few {pos : Pos} {env : Env} : ∀ (es : List Expr), es.all notStar = true → (backTo pos (starEach es env)).all (fun x => !x.1) = true
  | [], _ => rfl
  | e :: es, h => by
    rw [List.all_cons, Bool.and_eq_true] at h
    rw [star_cons es env h.1]
    show (true && (backTo pos (starEach es env)).all (fun x => !x.1)) = true
    rw [star_few es h.2]; rfl
section
variable {X : Cx} {e : Expr} {es : List Expr} {te : TE} {t : TA} {x : Str} {p pos : Pos} {id T : String} {r : List V → Hp → VK → Prop}
theorem pac (ha : PE X e te) (hr : PA X es t) (hs : notStar e = true := by rfl) : PA X (e :: es) (tCons te t) := pa_cons ha hr (star_cons es X.env hs)
theorem pcb (hc : CallR X (.builtin id) r) (hg : Gl X x) (hm : X.mg x = none) (hv : bootBuiltins x = some (.builtin id)) (ha : PA X (e :: es) t) (hn : x ≠ "__name__" := by decide +kernel) (hdb : (x == ("__debug__" : Str)) = false := by decide +kernel)
    (hs : (e :: es).all notStar = true := by rfl) : PE X (.Call (.Name x p) (e :: es) [] pos) (tCB r t) := by
  have h2 := hs
  rw [List.all_cons, Bool.and_eq_true] at h2
  exact pe_callB hc hg hm hv ha hn hdb (star_cons es X.env h2.1) (star_back es h2.2)
theorem pct (hc : CallR X (.type T) r) (hg : Gl X x) (hm : X.mg x = none) (hv : bootBuiltins x = some (.type T)) (ha : PA X (e :: es) t) (hn : x ≠ "__name__" := by decide +kernel) (hdb : (x == ("__debug__" : Str)) = false := by decide +kernel)
    (hs : (e :: es).all notStar = true := by rfl) : PE X (.Call (.Name x p) (e :: es) [] pos) (tCB r t) := by
  have h2 := hs
  rw [List.all_cons, Bool.and_eq_true] at h2
  exact pe_callTy hc hg hm hv ha hn hdb (star_cons es X.env h2.1) (star_back es h2.2)
end

/-! ### own defs, by name -/
/-- a def as the top left it -/
structure Src (K : PySem.W.Frag) (mg : Str → Option Value) (x : Str) (ps : List Str) (st : Stmt) : Prop where
  ex : ∃ f fd, Fun K x x st f fd ∧ mg x = some (.ref f) ∧ Binds K fd ps []
/-- a def and what it promises -/
structure Def (P : Program) (w : World) (K : PySem.W.Frag) (mg : Str → Option Value) (base : Heap) (k : Nat) (x : Str) (ps : List Str) (sp : Sp) : Prop where
  ex : ∃ f fd, FnOk P w K mg base CX0 k f fd ps sp ∧ mg x = some (.ref f) ∧ PySem.W.keepIn K (.ref f) = true ∧ Binds K fd ps []
section
variable {P : Program} {w : World} {K : PySem.W.Frag} {mg : Str → Option Value} {base : Heap}
theorem Src.def {x : Str} {st : Stmt} {N ps : List Str} {k : Nat} {sp : Sp} (F : Src K mg x ps st) (S : FnScope N ps (defScope st)) (len : ∀ vs H Q E, sp vs H Q E → vs.length = ps.length)
    (hbody : ∀ (f : Addr) (cdv : Value) (A : Around) (outer : List Env) (s : Shared) (H : Hp) (vs : List V) (Q : VK) (E : XK), Room k (A.deeper (envOfC x (defScope st) s.heap.objs.size f cdv)) → sp vs H Q E →
      ∃ t, PSs (cxOf CX0 P w K mg base N x (defScope st) f cdv A outer s H E).nox (defBody st) t ∧ t { nx := fun _ H' => Q .non H', rt := Q } (start N vs) H) : Def P w K mg base (k + 1) x ps sp := by
  obtain ⟨f, fd, F, hm, hb⟩ := F.ex
  exact ⟨f, fd, F.ok S len (hbody f), hm, F.kp, hb⟩
end
section
variable {X : Cx} {e : Expr} {es : List Expr} {t : TA} {x : Str} {p pos : Pos} {k : Nat} {ps : List Str} {sp : Sp}
theorem pe_own (D : Def X.prog X.w X.K X.mg X.base k x ps sp) (hr : Room k X.A) (hg : Gl X x) (hx : Passes CX0 X E0) (ha : PA X (e :: es) t) (hdb : (x == ("__debug__" : Str)) = false := by decide +kernel) (hs : (e :: es).all notStar = true := by rfl) :
    PE X (.Call (.Name x p) (e :: es) [] pos) (tCall sp [] E0 t) := by
  obtain ⟨f, fd, F, hm, hk, hb⟩ := D.ex
  have h2 := hs
  rw [List.all_cons, Bool.and_eq_true] at h2
  exact pe_call F hr hg hm hk hb .nil hx ha hdb (star_cons es X.env h2.1) (star_back es h2.2)
/-- a built-in type as a value -/
theorem pe_ty (T : String) (hg : Gl X x) (hm : X.mg x = none) (hv : bootBuiltins x = some (.type T)) (hn : x ≠ "__name__" := by decide +kernel) (hd : (x == ("__debug__" : Str)) = false := by decide +kernel) : PE X (.Name x pos) (tC (.ty T)) :=
  pe_bltn hg hm hv rfl hn hd
end
/-! ### the scope of a comprehension's block, by a look -/
noncomputable def bsOk (scope : Scope) (N : List Str) : Bool :=
  (match scope.kind with | .function => true | _ => false) && decide N.Nodup && scope.names.all fun y => y.2 != .cell && scope.names.lookup y.1 == some y.2
theorem bs_mk {scope : Scope} {N : List Str} (h : bsOk scope N = true) : BlkScope scope N := by
  unfold bsOk at h
  rw [Bool.and_eq_true, Bool.and_eq_true] at h
  obtain ⟨⟨h1, h2⟩, h3⟩ := h
  have h3 := List.all_eq_true.mp h3
  refine ⟨?_, of_decide_eq_true h2, fun y hy => ?_, fun y hy => ?_⟩
  · cases e : scope.kind <;> rw [e] at h1 <;> first | rfl | cases h1
  · have := h3 y hy
    rw [Bool.and_eq_true] at this
    simpa using this.1
  · have := h3 y hy
    rw [Bool.and_eq_true] at this
    simpa using this.2

/-! ### the rules with K as a letter -/
section
variable {X : Cx} {K : PySem.W.Frag}
noncomputable def rLen (K : PySem.W.Frag) : List V → Hp → VK → Prop := fun xs H Q => ∃ x n, xs = [x] ∧ LenV K x H n ∧ Q (.int n) H
theorem c_len (hK : X.K = K := by rfl) : CallR X (.builtin "len") (rLen K) := by subst hK; exact call_len
theorem slL (hK : X.K = K := by rfl) : SlR X (rSlL K) := by subst hK; exact sl_list
theorem ixL (hK : X.K = K := by rfl) : IxR X (rIxL K) := by subst hK; exact ix_list
noncomputable def rListOf (K : PySem.W.Frag) : List V → Hp → VK → Prop := fun xs H Q => ∃ p ys, xs = [.ref p] ∧ (SqL K H p ys ∨ SqT K H p ys) ∧ ∀ l, H l = none → Q (.ref l) (upd H l (.lst ys))
theorem c_listOf (hK : X.K = K := by rfl) : CallR X (.type "list") (rListOf K) := by subst hK; exact call_list_of
theorem c_repr {k : Nat} (hr : Room k X.A) (hK : X.K = K := by rfl) : CallR X (.builtin "repr") (rRepr K) := by subst hK; exact call_repr hr
noncomputable def rJoin (K : PySem.W.Frag) : V → List V → Hp → VK → Prop := fun x vs H Q => ∃ (y : Str) (a : Addr) (ys : List Str), x = .str y ∧ vs = [.ref a] ∧ SqL K H a (ys.map V.str) ∧ (ys.map (·.length)).sum + ys.length * y.length ≤ 16777216 ∧ Q (.str (Txt.join y ys)) H
theorem m_join (hK : X.K = K := by rfl) : MtR X "str.join" (rJoin K) := by subst hK; exact mt_join
variable {o e : Expr} {es : List Expr} {to : TE} {t : TA} {name : Str} {apos cpos : Pos} {T id : String} {r : V → List V → Hp → VK → Prop}
theorem pe_bmK (pa : PlainAttrs T) (slot : Slot T name id) (hty : typeOf (.builtin id) = pure (.type "method_descriptor")) (hm : MtR X id r) (ho : PE X o to) (ha : PA X (e :: es) t)
    (hbase : attributeBase o name X.env (eval o X.env) = eval o X.env := by rfl) (hs : (e :: es).all notStar = true := by rfl) (hfew : decide ((e :: es).length + 0 + 0 < 30) = true := by rfl)
    (hline : (apos.endLine == cpos.line) = true := by rfl) (hK : X.K = K := by rfl) : PE X (.Call (.Attribute o name apos) (e :: es) [] cpos) (tBM K T r to t) := by
  subst hK
  have h2 := hs
  rw [List.all_cons, Bool.and_eq_true] at h2
  refine pe_bm pa slot hty hm ho ha hbase ?_ hline (star_cons es X.env h2.1) (star_back es h2.2)
  rw [star_few _ hs]
  show (true && true && decide ((e :: es).length + 0 + 0 < 30)) = true
  rw [hfew]; rfl
end

/-! ### texts of plain signs, and how long what is shown can be -/
noncomputable def Asc (x : Str) : Prop := ∀ c ∈ x.cps.toList, c < 128
end L2

set_option Elab.async false
set_option linter.all false
set_option maxRecDepth 100000
set_option maxHeartbeats 4000000
namespace L2
open PySem PySem.Spec PyProof.Rows
mutual
/-- more signs than these are not shown -/
noncomputable def wt : PyData → Nat
  | .none | .bool _ | .dict _ => 5
  | .int i => (PyData.shown (.int i)).length
  | .str x => 10 * x.length + 2
  | .list ds | .tuple ds => wtAll ds + 3
noncomputable def wtAll : List PyData → Nat
  | [] => 0
  | d :: ds => wt d + 2 + wtAll ds
end
mutual
/-- no dict, texts of right signs, numbers that can be shown -/
noncomputable def dOk : PyData → Prop
  | .none | .bool _ => True
  | .int i => i.natAbs.log2 < 1920
  | .str x => ∀ c ∈ x.cps.toList, c < 16 ^ 8
  | .list ds | .tuple ds => dOkAll ds
  | .dict _ => False
noncomputable def dOkAll : List PyData → Prop
  | [] => True
  | d :: ds => dOk d ∧ dOkAll ds
end
theorem listText_le (ts : List Str) : (listText ts).length ≤ piled ts + 3 := by
  cases ts with
  | nil => decide +kernel
  | cons t r =>
    have h := textFrom_length_pos r 1 (("[" : Str) ++ (if (0 : Nat) > 0 then ", " else "" : String) ++ t) (Nat.succ_pos 0)
    have e : ((("[" : Str) ++ (if (0 : Nat) > 0 then ", " else "" : String) ++ t)).length = 1 + t.length := by
      rw [strLen_append, strLen_append]; rfl
    have hX : (listText (t :: r)).length = (textFrom 0 "[" (t :: r)).length + 1 := by
      show (textFrom 0 "[" (t :: r) ++ "]").length = _
      rw [strLen_append]; rfl
    have hY : (textFrom 0 "[" (t :: r)).length = (textFrom 1 (("[" : Str) ++ (if (0 : Nat) > 0 then ", " else "" : String) ++ t) r).length := rfl
    rw [hX, hY, h, e, piled_cons]; omega
theorem tupleText_le (ts : List Str) : (tupleText ts).length ≤ piled ts + 3 := by
  unfold tupleText
  rw [strLen_append, strLen_append]
  have h1 : ("(" : Str).length = 1 := rfl
  have h2 : ((if (ts.length == 1) = true then ",)" else ")" : String) : Str).length ≤ 2 := by split <;> decide +kernel
  by_cases hn : ts = []
  · subst hn
    have h3 : (Str.join ", " []).length = 0 := rfl
    omega
  · have := join_length_add ts hn
    omega
mutual
theorem shown_le : ∀ d : PyData, dOk d → d.shown.length ≤ wt d
  | .none, _ => by simp only [PyData.shown, wt]; decide +kernel
  | .bool b, _ => by cases b <;> (simp only [PyData.shown, wt]; decide +kernel)
  | .int i, _ => by simp only [wt]; exact Nat.le_refl _
  | .str x, h => by
    simp only [dOk] at h
    simp only [PyData.shown, wt]
    exact StrLaws.reprText_len x h
  | .list ds, h => by
    simp only [dOk] at h
    simp only [PyData.shown, wt]
    have h1 := shownAll_le ds h
    have h2 := listText_le (PyData.shownAll ds)
    omega
  | .tuple ds, h => by
    simp only [dOk] at h
    simp only [PyData.shown, wt]
    have h1 := shownAll_le ds h
    have h2 := tupleText_le (PyData.shownAll ds)
    omega
  | .dict _, h => by simp only [dOk] at h
theorem shownAll_le : ∀ ds : List PyData, dOkAll ds → piled (PyData.shownAll ds) ≤ wtAll ds
  | [], _ => by simp only [PyData.shownAll, wtAll]; exact Nat.le_refl _
  | d :: ds, h => by
    simp only [dOkAll] at h
    simp only [PyData.shownAll, wtAll]
    rw [piled_cons]
    have h1 := shown_le d h.1
    have h2 := shownAll_le ds h.2
    omega
end
mutual
theorem dOk.show : ∀ d : PyData, dOk d → d.showable = true
  | .none, _ => rfl
  | .bool b, _ => rfl
  | .int i, h => by simp only [dOk] at h; simp only [PyData.showable]; exact decide_eq_true h
  | .str x, h => rfl
  | .list ds, h => by simp only [dOk] at h; simp only [PyData.showable]; exact dOkAll.show ds h
  | .tuple ds, h => by simp only [dOk] at h; simp only [PyData.showable]; exact dOkAll.show ds h
  | .dict _, h => by simp only [dOk] at h
theorem dOkAll.show : ∀ ds : List PyData, dOkAll ds → PyData.showableAll ds = true
  | [], _ => rfl
  | d :: ds, h => by
    simp only [dOkAll] at h
    simp only [PyData.showableAll, dOk.show d h.1, dOkAll.show ds h.2, Bool.and_self]
end
theorem gyes {i : Nat} {v : V} {τ : St} {H : Hp} {A B : St → Hp → Prop} (h : A (τ.set i (some v)) H) : gName i v τ H fun τ2 H2 => tYes τ2 H2 fun b H3 => if b = true then A τ2 H3 else B τ2 H3 := by
  show if true = true then A (τ.set i (some v)) H else B (τ.set i (some v)) H
  rw [if_pos rfl]; exact h
theorem Asc.ok {x : Str} (h : Asc x) : ∀ c ∈ x.cps.toList, c < 16 ^ 8 := fun c hc => Nat.lt_trans (h c hc) (by decide)
theorem Asc.append {x y : Str} (h : Asc x) (g : Asc y) : Asc (x ++ y) := fun c hc => by
  have e : (x ++ y).cps.toList = x.cps.toList ++ y.cps.toList := by show (x.cps ++ y.cps).toList = _; simp
  rw [e, List.mem_append] at hc
  exact hc.elim (h c) (g c)
noncomputable def ascB (x : Str) : Bool := x.cps.toList.all fun c => decide (c < 128)
theorem asc_of {x : Str} (h : ascB x = true) : Asc x := fun c hc => of_decide_eq_true (List.all_eq_true.mp h c hc)
end L2

set_option Elab.async false
set_option linter.all false
set_option maxRecDepth 100000
set_option maxHeartbeats 400000
namespace PySem.W
open PySem PySem.Calls PyProof.Rows Builtin Builtin.ObjectAttr
/-! ### an exception of one's own as an object -/
noncomputable abbrev excOb (C : Addr) (od : Option Addr) (vs : Array Value) : Obj := { cls := .ref C, dict := od, data := .fields vs }
section
variable {prog : Program} {w : World} {A : Around} {E : Value → Shared → Prop} {s : Shared} {K : Frag} {x C : Addr} {ox : Obj} {od : Option Obj} {name : Str} {expr : Bool} {Q : Value → Shared → Prop}
theorem looks_inst {M : Model} {h : Heap} {T : String} (X : K.In h) (I : InstAt h x ox C od) (hs : subIn K (.ref C) (.type T) = some true) : Looks M h (isInstance (.ref x) (.type T)) true := by
  have L0 := I.type (M := M)
  have L1 := looks_subIn (M := M) X hs
  unfold isInstance
  exact L0.andThen L1
theorem ga_kind : builtinKind "BaseException.__getattribute__" = some .slot := by decide +kernel
theorem ga_split : splitId "BaseException.__getattribute__" = some ("BaseException", "__getattribute__") := by decide +kernel
theorem chk_ga {M : Model} {nameV : Value} {Q : Unit → Shared → Prop} (LI : Looks M s.heap (isInstance (.ref x) (.type "BaseException")) true) (q : Q () s) :
    wpAny M A (checkBuiltinCall "BaseException.__getattribute__" ⟨[.ref x, nameV], []⟩) Q E s := by
  have ha := F.args_bexc_ga (.ref x) nameV
  have h := @check_slot M A E s "BaseException.__getattribute__" "BaseException" "__getattribute__" (.ref x) [nameV] [] Q ga_kind ga_split LI
  generalize argsOk "BaseException.__getattribute__" { pos := [Value.ref x, nameV] } = p at ha h
  exact h ha q
theorem get_exc {v : Value} (X : K.In s.heap) (I : InstAt s.heap x ox C od) (hga : findIn K (.ref C) "__getattribute__" = some (some (.builtin "BaseException.__getattribute__"))) (hgn : findIn K (.ref C) "__getattr__" = some none)
    (hs : subIn K (.ref C) (.type "BaseException") = some true)
    (hf : findObj K C od name = some (.value v)) (hh : handedIn v = true) (h : Q v { s with toks := s.toks + 1 }) : wpAny (model prog w) A (getAttr (.ref x) name expr) Q E s := by
  obtain ⟨hp, g, d, t, os⟩ := s
  have L0 := I.type (M := model prog w)
  have L1 := looks_findIn (M := model prog w) X hga
  have L2 := looks_findIn (M := model prog w) X hgn
  have L3 := looks_find (M := model prog w) X I hf
  have LI := looks_inst (M := model prog w) X I hs
  have hx0 : (expr && onTheHeap (Value.builtin "BaseException.__getattribute__")) = false := by cases expr <;> rfl
  have hx2 : (Value.builtin "BaseException.__getattribute__" == Value.builtin "object.__getattribute__") = false := by decide +kernel
  have hb := F.excAttr_ValueError.ga.bind (.ref x)
  unfold getAttr getAttrBy
  refine wpAny_bind (wpAny_mkText (wpAny_holding (wpAny_bind (L0.at (wpAny_bind (L1.at ?_))))))
  show wpAny _ _ (if (onTheHeap (Value.ref C) && Value.builtin "BaseException.__getattribute__" == Value.builtin "object.__getattribute__") = true then _ else _) _ _ _
  rw [hx2, Bool.and_false, if_neg (by decide)]
  unfold getAttrByItsOwn hookBefore
  show wpAny _ _ (typeLookup (.ref C) "__getattr__" >>= _) _ _ _
  refine wpAny_bind (L2.at (wpAny_bind (wpAny_attempt (wpAny_holding ?_))))
  unfold callGetattribute
  rw [hx0, if_neg (by decide)]
  unfold boundAndCalled
  rw [hb]
  refine wpAny_bind (wpAny_pure ?_)
  refine wpAny_call (codeAny_call_builtin F.excAttr_ValueError.ga.plain F.entry_bexc_ga ?_)
  show wpAny _ _ (checkBuiltinCall "BaseException.__getattribute__" ⟨[.ref x, .str name t], []⟩) _ _ _
  refine chk_ga ?_ ?_
  · exact LI
  unfold Builtin.«object.__getattribute__»
  refine wpAny_bind (wpAny_pure (wpAny_bind (wpAny_pure (wpAny_bind (L0.at (wpAny_bind (L3.at ?_)))))))
  refine wpAny_pure ?_
  show wpAny _ _ (handedOut v) _ _ _
  rw [handedOut_of hh]; exact wpAny_pure h
/-! stores -/
noncomputable def tailV : List Value → Bool
  | .ref _ :: r => tailV r
  | l => l == [.type "ValueError", .type "Exception", .type "BaseException", .type "object"]
theorem refuse_value (self : Value) : refuseLoop self "__setattr__" [.type "ValueError", .type "Exception", .type "BaseException", .type "object"] = pure () := by kernel_rfl
theorem tailV_nil : tailV [] = false := by decide +kernel
theorem tailV_type {n : String} {r : List Value} (e : tailV (.type n :: r) = true) : (.type n :: r) = [.type "ValueError", .type "Exception", .type "BaseException", .type "object"] := by
  have e' : ((.type n :: r : List Value) == [.type "ValueError", .type "Exception", .type "BaseException", .type "object"]) = true := e
  exact beq_iff_eq.mp e'
theorem tail_cases : ∀ {l : List Value}, tailV l = true → l = [.type "ValueError", .type "Exception", .type "BaseException", .type "object"] ∨ ∃ c r, l = .ref c :: r ∧ tailV r = true
  | [], e => by rw [tailV_nil] at e; cases e
  | .ref c :: r, e => .inr ⟨c, r, rfl, e⟩
  | .type n :: r, e => .inl (tailV_type e)
  | .none :: r, e => .inl (beq_iff_eq.mp (show ((.none :: r : List Value) == _) = true from e))
  | .bool b :: r, e => .inl (beq_iff_eq.mp (show ((.bool b :: r : List Value) == _) = true from e))
  | .int b t :: r, e => .inl (beq_iff_eq.mp (show ((.int b t :: r : List Value) == _) = true from e))
  | .float b t :: r, e => .inl (beq_iff_eq.mp (show ((.float b t :: r : List Value) == _) = true from e))
  | .str b t :: r, e => .inl (beq_iff_eq.mp (show ((.str b t :: r : List Value) == _) = true from e))
  | .bytes b t :: r, e => .inl (beq_iff_eq.mp (show ((.bytes b t :: r : List Value) == _) = true from e))
  | .builtin b :: r, e => .inl (beq_iff_eq.mp (show ((.builtin b :: r : List Value) == _) = true from e))
  | v :: r, e => by
    first
      | (cases v <;> first | exact .inl (beq_iff_eq.mp e) | exact .inr ⟨_, _, rfl, e⟩)
theorem refuse_tail (self : Value) : ∀ {l : List Value}, tailV l = true → refuseLoop self "__setattr__" l = pure () := by
  intro l
  induction l with
  | nil => intro e; rw [tailV_nil] at e; cases e
  | cons v r ih =>
    intro e
    rcases tail_cases e with e | ⟨c, r', e1, e2⟩
    · rw [e]; exact refuse_value self
    · cases e1
      rw [refuseLoop_ref]; exact ih e2
theorem tail_has : ∀ {l : List Value}, tailV l = true → l.contains (.type "object") = true ∧ l.isEmpty = false := by
  intro l
  induction l with
  | nil => intro e; rw [tailV_nil] at e; cases e
  | cons v r ih =>
    intro e
    refine ⟨?_, rfl⟩
    rcases tail_cases e with e | ⟨c, r', e1, e2⟩
    · rw [e]; decide +kernel
    · cases e1
      rw [List.contains_cons, (ih e2).1, Bool.or_true]
noncomputable def excOver (K : Frag) (C : Addr) : Bool := (clsIn K C).any fun cd => tailV cd.mro && cd.hasDict
theorem osa_exc {name : Str} {tk : Tok} {v : Value} {R : Result → Shared → Prop} (X : K.In s.heap) (I : InstAt s.heap x ox C od) (hp : excOver K C = true) (ha : findIn K (.ref C) name = some none)
    (h : wpAny (model prog w) A.in1 (storeInOwnDict (.ref x) (.ref C) (.str name tk) name v false)
      (fun fin s' => match fin with | .done f => R (.ok f) s' | .again c' => c'.quiet = true ∧ codeAny (model prog w) A c' R s') (fun e s' => R (.error e) s') s) :
    codeAny (model prog w) A (.call (.builtin "object.__setattr__") ⟨[.ref x, .str name tk, v], []⟩) R s := by
  have SF := PySem.F.store_object
  obtain ⟨cd, hc, ho⟩ := any_some hp
  rw [Bool.and_eq_true] at ho
  obtain ⟨t1, t2⟩ := tail_has ho.1
  have sub : Looks (model prog w) s.heap (isInstance (.ref x) (.type "object")) true := I.type.andThen (looks_mroIn X (by unfold mroIn; rw [hc, Option.bind_some, if_neg (by rw [t2]; decide), t1]))
  refine codeAny_call_builtin SF.slot.plain SF.entry (@check_slot (model prog w) _ _ s "object.__setattr__" "object" "__setattr__" (.ref x) [.str name tk, v] [] _ SF.kind SF.split sub (SF.args (.ref x) (.str name tk) v) ?_)
  have hm : Looks (model prog w) s.heap (mroOf (.ref C)) cd.mro := (looks_clsIn X hc).andThen .now
  rw [osa_eq, refuse_eq]
  refine wpAny_bind (wpAny_bind (I.type.here (wpAny_bind (hm.here ?_))))
  rw [refuse_tail _ ho.1]
  refine wpAny_pure (wpAny_bind (I.type.here (wpAny_bind ((looks_findIn X ha).here (wpAny_bind (wpAny_pure ?_))))))
  exact h
theorem ns1_new {h : Heap} {a : Addr} (e : h.get? a = some emptyDict) : h.Ns1 a fun _ => none :=
  ⟨emptyDict, #[], _, e, rfl, fun y hy => absurd hy (by simp), by first | exact fun _ _ hi => absurd hi (by simp) | simp [UniqKeys] | (unfold UniqKeys; simp) , fun name => rfl⟩
theorem set_exc1 {name : Str} {v : Value} {dx : Addr} {vs : Array Value} {mA : Str → Option Value} {ns : List Str} {Q : Unit → Shared → Prop} (X : K.In s.heap) (hx : s.heap.get? x = some (excOb C (some dx) vs)) (hn : s.heap.Ns1 dx mA) (hne : dx ≠ x)
    (hs : findIn K (.ref C) "__setattr__" = some (some (.builtin "object.__setattr__"))) (hp : excOver K C = true) (ha : findIn K (.ref C) name = some none) (hw : PySem.Within mA ns) (hsz : ns.length ≤ 1000)
    (h : ∀ h', h'.Ns1 dx (fun y => if y = name then some v else mA y) → Heap.SameBut dx s.heap h' → Q () { s with heap := h', toks := s.toks + 2 }) :
    wpAny (model prog w) A (setAttr (.ref x) name v) Q E s := by
  obtain ⟨od, ho, hl⟩ := L2.lookIn_ns hn
  have I : InstAt s.heap x (excOb C (some dx) vs) C (some od) := ⟨hx, rfl, rfl, ho⟩
  refine set_plain X I hs (osa_exc (s := { s with toks := s.toks + 1 }) X I hp ha ?_)
  obtain ⟨cd, hc, hd'⟩ := any_some hp
  rw [Bool.and_eq_true] at hd'
  refine wpAny_bind (wpAny_pure (wpAny_bind (wpAny_bind (wpAny_loadPart hx (wpAny_bind (PySem.W.Looks.here (s := { s with toks := s.toks + 1 }) (PySem.W.looks_clsIn X hc) ?_))))))
  rw [hd'.2]
  refine wpAny_pure (a := some dx) (wpAny_bind (wpAny_pure (wpAny_bind ?_)))
  refine wpAny_nsSet1 (s := { s with toks := s.toks + 1 }) hn fun h' hn2 hs2 => ?_
  obtain ⟨oD, esD, epD, hoD, hdD, hcD⟩ := hn2.count (PySem.Within.cons name v hw)
  refine wpAny_bind (wpAny_lookBehind hoD (by rw [hdD]; exact pastItsLine_dict (Nat.le_trans hcD (by rw [List.length_cons, sizeLine_eq]; omega))) ?_)
  exact wpAny_pure (h _ hn2 hs2)
theorem set_exc0 {name : Str} {v : Value} {vs : Array Value} {Q : Unit → Shared → Prop} (X : K.In s.heap) (hx : s.heap.get? x = some (excOb C none vs))
    (hs : findIn K (.ref C) "__setattr__" = some (some (.builtin "object.__setattr__"))) (hp : excOver K C = true) (ha : findIn K (.ref C) name = some none)
    (h : ∀ h', h'.Ns1 s.heap.objs.size (fun y => if y = name then some v else none) → h'.get? x = some (excOb C (some s.heap.objs.size) vs) → (∀ b o, b ≠ x → s.heap.get? b = some o → h'.get? b = some o) → Q () { s with heap := h', toks := s.toks + 2 }) :
    wpAny (model prog w) A (setAttr (.ref x) name v) Q E s := by
  have I : InstAt s.heap x (excOb C none vs) C none := ⟨hx, rfl, rfl, trivial⟩
  refine set_plain X I hs (osa_exc (s := { s with toks := s.toks + 1 }) X I hp ha ?_)
  obtain ⟨cd, hc, hd'⟩ := any_some hp
  rw [Bool.and_eq_true] at hd'
  have hlt : x < s.heap.objs.size := Heap.lt_size hx
  refine wpAny_bind (wpAny_pure (wpAny_bind (wpAny_bind (wpAny_loadPart hx (wpAny_bind (PySem.W.Looks.here (s := { s with toks := s.toks + 1 }) (PySem.W.looks_clsIn X hc) ?_))))))
  rw [hd'.2]
  have hx2 : (s.heap.push emptyDict).get? x = some (excOb C none vs) := Heap.get?_push_of_some _ hx
  refine wpAny_bind (wpAny_alloc (wpAny_bind (wpAny_update hx2 ?_)))
  have hx3 : ((s.heap.push emptyDict).update x fun o => { o with dict := some s.heap.objs.size }).get? x = some (excOb C (some s.heap.objs.size) vs) := by rw [Heap.get?_update_self _ hx2 rfl]
  have hd3 : ((s.heap.push emptyDict).update x fun o => { o with dict := some s.heap.objs.size }).get? s.heap.objs.size = some emptyDict := by
    rw [Heap.get?_update_other _ _ (Nat.ne_of_lt hlt)]
    exact Heap.get?_push_size _ rfl
  have hk3 : ∀ b o, b ≠ x → s.heap.get? b = some o → ((s.heap.push emptyDict).update x fun o => { o with dict := some s.heap.objs.size }).get? b = some o := fun b o hb e => by
    rw [Heap.get?_update_other _ _ (Ne.symm hb)]
    exact Heap.get?_push_of_some _ e
  refine wpAny_pure (wpAny_bind (wpAny_pure (wpAny_bind ?_)))
  refine wpAny_nsSet1 (s := { s with heap := (s.heap.push emptyDict).update x fun o => { o with dict := some s.heap.objs.size }, toks := s.toks + 1 }) (ns1_new hd3) fun h' hn2 hs2 => ?_
  obtain ⟨oD, esD, epD, hoD, hdD, hcD⟩ := hn2.count (PySem.Within.cons (ns := []) name v (fun y hy => absurd rfl hy))
  refine wpAny_bind (wpAny_lookBehind hoD (by rw [hdD]; exact pastItsLine_dict (Nat.le_trans hcD (by rw [List.length_cons, sizeLine_eq]; simp))) ?_)
  exact wpAny_pure (h _ hn2 ((hs2.2 _ (Nat.ne_of_lt hlt)).trans hx3) fun b o hb e => (hs2.2 b (Nat.ne_of_lt (Heap.lt_size e))).trans (hk3 b o hb e))
end
end PySem.W

set_option Elab.async false
set_option linter.all false
set_option maxRecDepth 100000
set_option maxHeartbeats 400000
namespace PySem.W
open PySem PySem.Calls PyProof.Rows Builtin Builtin.ObjectAttr
section
variable {prog : Program} {w : World} {A : Around} {E : Value → Shared → Prop} {s : Shared} {K : Frag} {x C : Addr} {ox : Obj} {od : Option Obj}
variable {nm q : Str} {N : Addr} {bs bm : List Value} {hdct : Bool} {sn : List Str} {sub : List Value} {ab : Bool} {col : Option Bool} {dd : Option Addr} {k0 k1 k2 k3 k5 : Option Value} {newId : String}
theorem chk_init {M : Model} {hp : Heap} {g : Array GenState} {d : Drawn} {t : Nat} {os : OsState} {ws : List Value} {Q : Unit → Shared → Prop} (hC : hp.get? C = some (excClassObj nm q C N bs bm hdct sn sub ab col dd k0 k1 k2 k3 k5 newId))
    (he : hp.get? x = some ox) (hcls : ox.cls = .ref C) (hB : bm.contains (.type "ValueError") = true) (hq : Q () ⟨hp, g, d, t, os⟩) :
    wpAny M A (checkBuiltinCall "ValueError.__init__" ⟨.ref x :: ws, []⟩) Q E ⟨hp, g, d, t, os⟩ := by
  have F := PySem.F.excCall_ValueError
  have hcB : (Value.ref C :: bm).contains (.type "ValueError") = true := by rw [List.contains_cons, hB, Bool.or_true]
  have hshort := F.noStar
  simp only [checkBuiltinCall, F.initKind, F.initSplit, F.initRow]
  repeat (first | (with_reducible refine wpAny_loadPart_at he ?_; rw [hcls]) | with_reducible refine wpAny_loadPart_at hC ?_ | (with_reducible refine wpAny_isSubtype_exc hC ?_; rw [hcB]) | wp_step)
  refine wpAny_onRaise ?_
  rw [show ∀ (a b : String) (n : Nat), Bind.check ⟨.positional, "*", "ValueError", .self, [⟨"args", .varPos, false⟩]⟩ a b n (List.map (fun x => x.fst) ({ pos := Value.ref x :: ws } : Args).kw) = pure () from
    fun a b n => check_star_args _ _ _ _ _ _]
  exact wpAny_pure hq
theorem init_run {ws : List Value} {d0 : Option Addr} {t0 : Addr} {a1 a2 a3 a4 a5 : Value} {Q : Value → Shared → Prop} (hC : s.heap.get? C = some (excClassObj nm q C N bs bm hdct sn sub ab col dd k0 k1 k2 k3 k5 newId)) (hB : bm.contains (.type "ValueError") = true)
    (hx : s.heap.get? x = some (excOb C d0 #[.ref t0, a1, a2, a3, a4, a5])) (hz : ws.length ≤ sizeLine)
    (h : ∀ h', h'.get? x = some (excOb C d0 #[.ref s.heap.objs.size, a1, a2, a3, a4, a5]) → (∀ b o, b ≠ x → s.heap.get? b = some o → h'.get? b = some o) → Q .none { s with heap := h' }) :
    wpAny (model prog w) A (call (.builtin "ValueError.__init__") (.ref x :: ws)) Q E s := by
  have F := PySem.F.excCall_ValueError
  obtain ⟨hp, g, d, t, os⟩ := s
  refine wpAny_call (codeAny_call_builtin F.init.plain F.initEntry (chk_init hC hx rfl hB ?_))
  have hx : hp.get? x = some (excOb C d0 #[.ref t0, a1, a2, a3, a4, a5]) := hx
  wp_walk
  refine h _ ?_ (fun b o hb e => ?_)
  · rw [Heap.get?_update_self _ (Heap.get?_push_of_some _ hx) rfl]; rfl
  · rw [Heap.get?_update_other _ _ (Ne.symm hb)]; exact Heap.get?_push_of_some _ e
/-! ### made by its class -/
theorem chk_new {hp : Heap} {g : Array GenState} {d : Drawn} {t : Nat} {os : OsState} {M : Model} {rest : List Value} {Q : Unit → Shared → Prop} (hC : hp.get? C = some (excClassObj nm q C N bs bm hdct sn sub ab col dd k0 k1 k2 k3 k5 "ValueError.__new__"))
    (hB : bm.contains (.type "ValueError") = true) (hq : Q () ⟨hp, g, d, t, os⟩) : wpAny M A (checkBuiltinCall "ValueError.__new__" ⟨.ref C :: rest, []⟩) Q E ⟨hp, g, d, t, os⟩ := by
  have Fn := PySem.F.excBase_ValueError
  have hcont : (Value.ref C :: bm).contains (.type "ValueError") = true := by rw [List.contains_cons, hB, Bool.or_true]
  have hstar := Fn.noStar
  simp only [checkBuiltinCall, Fn.newKind, Fn.newSplit, Fn.newRow]
  repeat (first | refine wpAny_loadPart_at hC ?_ | (refine wpAny_isSubtype_exc hC ?_; rw [hcont]) | refine wpAny_staticBase_exc hC ?_ | refine wpAny_madeBy_exc hC ?_ | simp only [bne_self_eq_false, Bool.false_eq_true, if_false] | wp_step)
  exact hq
theorem new_run {hp : Heap} {g : Array GenState} {d : Drawn} {t : Nat} {os : OsState} {R : Result → Shared → Prop} {rest : List Value} (hC : hp.get? C = some (excClassObj nm q C N bs bm hdct sn sub ab col dd k0 k1 k2 k3 k5 "ValueError.__new__"))
    (hB : bm.contains (.type "ValueError") = true) (hA : bm.contains (.type "AttributeError") = false) (hN : bm.contains (.type "NameError") = false) (hz : rest.length ≤ sizeLine)
    (hq : R (.ok (.ret (.ref (hp.objs.size + 1)))) ⟨(hp.push { cls := .type "tuple", data := .seq rest.toArray }).push (excOb C none #[.ref hp.objs.size, .none, .none, .none, .bool false, .none]), g, d, t, os⟩) :
    codeAny (model prog w) A (.builtin "ValueError.__new__" ⟨.ref C :: rest, []⟩) R ⟨hp, g, d, t, os⟩ := by
  have Fn := PySem.F.excBase_ValueError
  have hends := Fn.ends
  have hcB : (Value.ref C :: bm).contains (.type "ValueError") = true := by rw [List.contains_cons, hB, Bool.or_true]
  have hcA : (Value.ref C :: bm).contains (.type "AttributeError") = false := by rw [List.contains_cons, hA]; rfl
  have hcN : (Value.ref C :: bm).contains (.type "NameError") = false := by rw [List.contains_cons, hN]; rfl
  refine codeAny_builtinAt Fn.entry ?_
  unfold Builtin.«BaseException.__new__»
  refine wpAt_bind ?_
  show wpAt _ _ _ (stack >>= _) _ _ _
  refine wpAt_bind (wpAt_stack fun p below => wpAt_of_wpAny ?_)
  wp_walk
  refine wpAt_of_wpAny ?_
  rw [Fn.owner]
  repeat (first | with_reducible refine wpAny_madeHere_exc Fn.canon hC ?_ | with_reducible refine wpAny_loadPart_at hC ?_ | (with_reducible refine wpAny_isSubtype_exc hC ?_; first | rw [hcB] | rw [hcA] | rw [hcN]) | wp_step)
  show R _ _
  rw [Heap.size_push]
  exact hq
theorem make_exc {hp : Heap} {g : Array GenState} {d : Drawn} {t : Nat} {os : OsState} {R : Result → Shared → Prop} {rest : List Value} {f : Addr} (hC : hp.get? C = some (excClassObj nm q C N bs bm hdct sn sub ab col dd k0 k1 k2 k3 k5 "ValueError.__new__"))
    (hB : bm.contains (.type "ValueError") = true) (hA : bm.contains (.type "AttributeError") = false) (hN : bm.contains (.type "NameError") = false) (hz : rest.length ≤ sizeLine)
    (hi : Looks (model prog w) hp (typeLookup (.ref C) "__init__") (some (.ref f))) (hb : ∀ self, Looks (model prog w) hp (bindSpecial (.ref f) self) (.ref f, [self]))
    (hq : codeAny (model prog w) (A.under (.builtin "type.__call__" ⟨.ref C :: rest, []⟩)) (.call (.ref f) ⟨.ref (hp.objs.size + 1) :: rest, []⟩) (InitBack (hp.objs.size + 1) R)
      ⟨(hp.push { cls := .type "tuple", data := .seq rest.toArray }).push (excOb C none #[.ref hp.objs.size, .none, .none, .none, .bool false, .none]), g, d, t, os⟩) :
    codeAny (model prog w) A (.call (.ref C) ⟨rest, []⟩) R ⟨hp, g, d, t, os⟩ := by
  have Fn := PySem.F.excBase_ValueError
  have f1 := tc_lookup
  have f2 := tc_bind (.ref C)
  have hT : (⟨hp, g, d, t, os⟩ : Shared).TypeIs (.ref C) "type" := ⟨_, hC, rfl⟩
  refine codeAny_of_tree ?_
  show wpAny _ _ (callAny (.ref C) _) _ _ _
  repeat (any_goals (first | assumption | with_reducible refine wpAny_loadPart_at hC ?_ | wp_step))
  refine ⟨rfl, ?_⟩
  refine codeAny_call_builtin_at (Code.quiet_builtin _ (by decide +kernel)) entry_typeCall (wpAny_check_type_call_sub hC ?_)
  repeat (first | with_reducible refine wpAny_loadPart_at hC ?_ | with_reducible refine wpAny_madeBy_exc hC ?_ | wp_step)
  refine codeAny_call_builtin_code (Code.quiet_builtin _ Fn.quiet) (chk_new hC hB ?_)
  refine new_run hC hB hA hN hz ?_
  show wpAny _ _ _ _ _ _
  have k : ∀ b o, hp.get? b = some o → ((hp.push { cls := .type "tuple", data := .seq rest.toArray }).push (excOb C none #[.ref hp.objs.size, .none, .none, .none, .bool false, .none])).get? b = some o := fun b o e => Heap.get?_push_of_some _ (Heap.get?_push_of_some _ e)
  have hx : ((hp.push { cls := .type "tuple", data := .seq rest.toArray }).push (excOb C none #[.ref hp.objs.size, .none, .none, .none, .bool false, .none])).get? (hp.objs.size + 1) = some (excOb C none #[.ref hp.objs.size, .none, .none, .none, .bool false, .none]) := by heap_get
  have self : Looks (model prog w) hp (isSubtype (.ref C) (.ref C)) true := by
    intro A' Q' E' s' k' q'
    obtain ⟨hh, g', d', t', os'⟩ := s'
    refine wpAny_isSubtype_exc (k' _ _ hC) ?_
    rw [show (Value.ref C :: bm).contains (.ref C) = true by simp]
    exact q'
  have t1 : Looks (model prog w) ((hp.push { cls := .type "tuple", data := .seq rest.toArray }).push (excOb C none #[.ref hp.objs.size, .none, .none, .none, .bool false, .none])) (typeOf (.ref (hp.objs.size + 1))) (.ref C) := (Looks.ld hx).andThen .now
  have s1 := self.keeps k
  have i1 := hi.keeps k
  have b1 := (hb (.ref (hp.objs.size + 1))).keeps k
  unfold isInstance callSpecial? specialOf
  show wpAny (model prog w) (A.under (Code.builtin "type.__call__" ⟨.ref C :: rest, []⟩)) _ _ _ ⟨(hp.push { cls := .type "tuple", data := .seq rest.toArray }).push (excOb C none #[.ref hp.objs.size, .none, .none, .none, .bool false, .none]), g, d, t, os⟩
  repeat (first | with_reducible refine wpAny_call ?_ | lk)
  refine codeAny_mono hq fun r s' z => ?_
  rcases r with e | (v | _ | _ | _) <;> first | exact z | exact z.elim | skip
  obtain ⟨rfl, z⟩ := z
  exact wpAny_pure (wpAny_pure z)
end
end PySem.W

set_option Elab.async false
set_option linter.all false
set_option maxRecDepth 100000
set_option maxHeartbeats 1000000
namespace L2
open PySem PySem.Spec PyProof.Rows
/-! ### exceptions of one's own: the object, its dict -/
noncomputable def XO (C : Addr) (d0 : Option Addr) (x : Addr) : HO := .ext fun h => ∃ (t0 : Addr) (a1 a2 a3 a4 a5 : Value), h.get? x = some (PySem.W.excOb C d0 #[.ref t0, a1, a2, a3, a4, a5])
noncomputable def XDt (fs : List (Str × V)) (dx : Addr) : HO := .ext fun h => fs.length ≤ 900 ∧ ∃ mA, h.Ns1 dx mA ∧ (∀ f, RelO (fs.lookup f) (mA f)) ∧ PySem.Within mA (fs.map (·.1))
section
variable {P : Program} {w : World} {H : Hp} {h : Heap}
theorem XO.ok {C x : Addr} {d0 : Option Addr} {t0 : Addr} {a1 a2 a3 a4 a5 : Value} (e : h.get? x = some (PySem.W.excOb C d0 #[.ref t0, a1, a2, a3, a4, a5])) : ObjOk P w H h x (XO C d0 x) :=
  ⟨⟨t0, a1, a2, a3, a4, a5, e⟩, ⟨_, e⟩, fun h1 h2 ⟨t, b1, b2, b3, b4, b5, q⟩ k => ⟨t, b1, b2, b3, b4, b5, k _ q⟩⟩
theorem XO.get {C x : Addr} {d0 : Option Addr} (ok : HOk P w H h) (e : H x = some (XO C d0 x)) : ∃ (t0 : Addr) (a1 a2 a3 a4 a5 : Value), h.get? x = some (PySem.W.excOb C d0 #[.ref t0, a1, a2, a3, a4, a5]) := (ok x _ e).1
theorem XDt.ok {dx : Addr} {fs : List (Str × V)} {mA : Str → Option Value} (l : fs.length ≤ 900) (n : h.Ns1 dx mA) (r : ∀ f, RelO (fs.lookup f) (mA f)) (wi : PySem.Within mA (fs.map (·.1))) : ObjOk P w H h dx (XDt fs dx) :=
  ⟨⟨l, mA, n, r, wi⟩, let ⟨o, _, _, e, _⟩ := n; ⟨o, e⟩, fun h1 h2 ⟨l, m, n, r, wi⟩ k => ⟨l, m, n.at k, r, wi⟩⟩
theorem XDt.get {dx : Addr} {fs : List (Str × V)} (ok : HOk P w H h) (e : H dx = some (XDt fs dx)) : fs.length ≤ 900 ∧ ∃ mA, h.Ns1 dx mA ∧ (∀ f, RelO (fs.lookup f) (mA f)) ∧ PySem.Within mA (fs.map (·.1)) := (ok dx _ e).1
end
/-- what the class of such an exception is -/
noncomputable def excIn (K : PySem.W.Frag) (C : Addr) : Bool := match K.lookup C with
  | some ⟨.type T, _, .cls cd, sl⟩ => T == "type" && (match cd.mro with | .ref D :: bm => D == C && bm.contains (.type "ValueError") && !bm.contains (.type "AttributeError") && !bm.contains (.type "NameError") | _ => false) && !cd.hasDel &&
      (match sl.toList with | [_, _, _, _, some (.builtin n), _] => n == "ValueError.__new__" | _ => false)
  | _ => false
structure XCls (K : PySem.W.Frag) (C : Addr) : Prop where
  ex : excIn K C = true
  ga : PySem.W.findIn K (.ref C) "__getattribute__" = some (some (.builtin "BaseException.__getattribute__"))
  gn : PySem.W.findIn K (.ref C) "__getattr__" = some none
  sa : PySem.W.findIn K (.ref C) "__setattr__" = some (some (.builtin "object.__setattr__"))
  ov : PySem.W.excOver K C = true
  sb : PySem.W.subIn K (.ref C) (.type "BaseException") = some true
structure XMk (K : PySem.W.Frag) (C f : Addr) : Prop extends XCls K C where
  init : PySem.W.findIn K (.ref C) "__init__" = some (some (.ref f))
  fn : PySem.W.isFn K (.ref f) = true
  kp : PySem.W.keepIn K (.ref C) = true
theorem exc_ob {K : PySem.W.Frag} {C : Addr} (e : excIn K C = true) : ∃ nm q N bs bm hdct sn sub ab col dd k0 k1 k2 k3 k5, K.lookup C = some (excClassObj nm q C N bs bm hdct sn sub ab col dd k0 k1 k2 k3 k5 "ValueError.__new__") ∧
    bm.contains (.type "ValueError") = true ∧ bm.contains (.type "AttributeError") = false ∧ bm.contains (.type "NameError") = false := by
  unfold excIn at e
  split at e
  · rename_i T dd cd sl ho
    rw [Bool.and_eq_true, Bool.and_eq_true, Bool.and_eq_true] at e
    obtain ⟨⟨⟨e1, e2⟩, e3⟩, e4⟩ := e
    obtain ⟨nm, bs, mro, ns, q, hdct, sn, sub, ab, col, hd⟩ := cd
    dsimp only at e2 e3
    split at e2
    · rename_i _ D bm
      rw [Bool.and_eq_true, Bool.and_eq_true, Bool.and_eq_true] at e2
      obtain ⟨⟨⟨f1, f2⟩, f3⟩, f4⟩ := e2
      split at e4
      · rename_i k0 k1 k2 k3 n k5 hs
        have hsl : sl = #[k0, k1, k2, k3, some (.builtin n), k5] := by
          rw [← Array.toArray_toList (xs := sl), hs]
        have e1 : T = "type" := beq_iff_eq.mp e1
        have f1 : D = C := beq_iff_eq.mp f1
        have e4 : n = "ValueError.__new__" := beq_iff_eq.mp e4
        have e3 : hd = false := by simpa using e3
        subst e1 f1 e4 e3 hsl
        exact ⟨nm, q, ns, bs, bm, hdct, sn, sub, ab, col, dd, k0, k1, k2, k3, k5, ho, f2, by simpa using f3, by simpa using f4⟩
      · cases e4
    · cases e2
  · cases e
section
variable {X : Cx} {pins : List (Addr × Obj)} {σ : St} {H : Hp} {s : Shared}
theorem getx_ok {b : Bool} {A : Around} {E : Value → Shared → Prop} {x C dx : Addr} {fs : List (Str × V)} {f : Str} {v : V} {Q : Value → Shared → Prop} (I : Inv X pins σ H s) (e : H x = some (XO C (some dx) x)) (e2 : H dx = some (XDt fs dx)) (c : XCls X.K C)
    (n : PySem.W.findIn X.K (.ref C) f = some none) (l : fs.lookup f = some v) (h : ∀ u s', Inv X pins σ H s' → RelV v u → Q u s') : wpAny (model X.prog X.w) A (getAttr (.ref x) f b) Q E s := by
  obtain ⟨t0, a1, a2, a3, a4, a5, hx⟩ := XO.get I.hok e
  obtain ⟨_, mA, hn, r, _⟩ := XDt.get I.hok e2
  obtain ⟨od, ho, hl⟩ := lookIn_ns hn
  obtain ⟨u, hu, ru⟩ := RelO.some_of (v := v) (o := mA f) (by rw [← l]; exact r f)
  obtain ⟨cd, hc, hd'⟩ := PySem.W.any_some c.ov
  rw [Bool.and_eq_true] at hd'
  have J : PySem.W.InstAt s.heap x (PySem.W.excOb C (some dx) #[.ref t0, a1, a2, a3, a4, a5]) C (some od) := ⟨hx, rfl, rfl, ho⟩
  have hh : PySem.W.hasDictIn X.K C = true := by unfold PySem.W.hasDictIn; rw [hc]; exact hd'.2
  exact PySem.W.get_exc I.kIn J c.ga c.gn c.sb (PySem.W.findObj_own hh n rfl (by rw [hl, hu])) (handed_of ru) (h u _ (I.tok _) ru)
theorem putF_rel {f g : Str} {y : V} {u : Value} {fs : List (Str × V)} {mA : Str → Option Value} (ry : RelV y u) (r : ∀ g, RelO (fs.lookup g) (mA g)) : RelO ((putF f y fs).lookup g) (if g = f then some u else mA g) := by
  rw [lookup_putF]
  by_cases q : g = f
  · rw [if_pos q, if_pos q]; exact ry
  · rw [if_neg q, if_neg q]; exact r g
theorem putF_in {f : Str} {y : V} {u : Value} {fs : List (Str × V)} {mA : Str → Option Value} (wi : PySem.Within mA (fs.map (·.1))) : PySem.Within (fun g => if g = f then some u else mA g) ((putF f y fs).map (·.1)) := fun g hg => by
  by_cases q : g = f
  · rw [q]; exact (keys_putF f y fs).1
  · refine (keys_putF f y fs).2 g (wi g fun z => hg ?_)
    show (if g = f then some u else mA g) = none
    rw [if_neg q]; exact z
theorem setx0_ok {A : Around} {E : Value → Shared → Prop} {x C : Addr} {f : Str} {y : V} {u : Value} {Q : Unit → Shared → Prop} (I : Inv X pins σ H s) (e : H x = some (XO C none x)) (c : XCls X.K C) (n : PySem.W.findIn X.K (.ref C) f = some none) (ry : RelV y u)
    (h : ∀ dx s', H dx = none → Inv X pins σ (upd (upd H x (XO C (some dx) x)) dx (XDt [(f, y)] dx)) s' → Q () s') : wpAny (model X.prog X.w) A (setAttr (.ref x) f u) Q E s := by
  obtain ⟨t0, a1, a2, a3, a4, a5, hx⟩ := XO.get I.hok e
  refine PySem.W.set_exc0 I.kIn hx c.sa c.ov n fun h' hn hx' hk => h s.heap.objs.size _ (I.hok.fresh (Nat.le_refl _)) ?_
  have hne : s.heap.objs.size ≠ x := Nat.ne_of_gt (Heap.lt_size hx)
  have Iw : Inv X pins σ (upd H x (XO C (some s.heap.objs.size) x)) { s with heap := h', toks := s.toks + 2 } :=
    I.write (x := x) (e := x) (by rw [e]; exact True.intro) (.inl rfl) (fun b q hb z => hk b q hb z) ⟨_, hx'⟩ (XO.ok hx')
  refine Iw.track (by rw [upd_ne hne]; exact I.hok.fresh (Nat.le_refl _)) I.sz (Nat.ne_of_gt I.lt) (fun z cc ez => ?_) (fun p hp => ?_) ?_
  · obtain ⟨v, o, ho, _⟩ := I.cell z cc ez
    exact Nat.ne_of_lt (Heap.lt_size ho)
  · exact Nat.ne_of_lt (Heap.lt_size (I.pin p hp).1)
  · exact XDt.ok (by simp) hn (fun g => putF_rel (fs := []) (mA := fun _ => none) ry fun g => by trivial) (putF_in (fs := []) (mA := fun _ => none) fun g hg => absurd rfl hg)
theorem setx1_ok {A : Around} {E : Value → Shared → Prop} {x C dx : Addr} {fs : List (Str × V)} {f : Str} {y : V} {u : Value} {Q : Unit → Shared → Prop} (I : Inv X pins σ H s) (e : H x = some (XO C (some dx) x)) (e2 : H dx = some (XDt fs dx)) (hne : dx ≠ x) (hl : fs.length < 900)
    (c : XCls X.K C) (n : PySem.W.findIn X.K (.ref C) f = some none) (ry : RelV y u)
    (h : ∀ s', Inv X pins σ (upd H dx (XDt (putF f y fs) dx)) s' → Q () s') : wpAny (model X.prog X.w) A (setAttr (.ref x) f u) Q E s := by
  obtain ⟨t0, a1, a2, a3, a4, a5, hx⟩ := XO.get I.hok e
  obtain ⟨_, mA, hn, r, wi⟩ := XDt.get I.hok e2
  refine PySem.W.set_exc1 I.kIn hx hn hne c.sa c.ov n wi (by rw [List.length_map]; omega) fun h' hn' sb => h _ ?_
  have hd : ∃ o, h'.get? dx = some o := let ⟨o, _, _, e', _⟩ := hn'; ⟨o, e'⟩
  refine I.write (x := dx) (e := dx) (by rw [e2]; exact True.intro) (.inl rfl) (fun b q hb z => (sb.2 b hb).trans z) hd ?_
  exact XDt.ok (by have := length_putF f y fs; omega) hn' (fun g => putF_rel ry r) (putF_in wi)
end
/-! ### the rules -/
noncomputable def tFldX (K : PySem.W.Frag) (ta : TE) (f : Str) : TE := fun σ H Q => ta σ H fun x H1 => ∃ a C dx fs v, x = .ref a ∧ H1 a = some (XO C (some dx) a) ∧ H1 dx = some (XDt fs dx) ∧ XCls K C ∧ PySem.W.findIn K (.ref C) f = some none ∧ fs.lookup f = some v ∧ Q v H1
noncomputable def sFldX0 (K : PySem.W.Frag) (ta tv : TE) (f : Str) : TS := fun D σ H => tv σ H fun y H1 => ta σ H1 fun x H2 => ∃ a C, x = .ref a ∧ H2 a = some (XO C none a) ∧ XCls K C ∧ PySem.W.findIn K (.ref C) f = some none ∧
  ∀ dx, H2 dx = none → D.nx σ (upd (upd H2 a (XO C (some dx) a)) dx (XDt [(f, y)] dx))
noncomputable def sFldX1 (K : PySem.W.Frag) (ta tv : TE) (f : Str) : TS := fun D σ H => tv σ H fun y H1 => ta σ H1 fun x H2 => ∃ a C dx fs, x = .ref a ∧ H2 a = some (XO C (some dx) a) ∧ H2 dx = some (XDt fs dx) ∧ dx ≠ a ∧ fs.length < 900 ∧ XCls K C ∧ PySem.W.findIn K (.ref C) f = some none ∧
  D.nx σ (upd H2 dx (XDt (putF f y fs) dx))
section
variable {X : Cx} {o e value : Expr} {es : List Expr} {f d : Str} {pos pos' apos p : Pos} {ta tv : TE} {t : TA} {K : PySem.W.Frag}
theorem pe_fldX (he : PE X e ta) (hb : attributeBase e f X.env (eval e X.env) = eval e X.env := by rfl) (hK : X.K = K := by rfl) : PE X (.Attribute e f pos) (tFldX K ta f) := by
  subst hK
  intro pins s σ H Q I h
  refine attr_of hb (thn (he pins s σ H _ I h) fun u s1 hh => ?_)
  obtain ⟨x, H1, I1, rx, a, C, dx, fs, v, ex, ea, ed, c, n, l, q⟩ := hh
  subst ex
  obtain rfl : u = Value.ref a := rx
  exact getx_ok I1 ea ed c n l fun u' s2 I2 ru => ⟨v, H1, I2, ru, q⟩
theorem ps_fldX0 (ha : PE X o ta) (hv : PE X value tv) (hs : swapsWith value (some (.Attribute o f pos')) pos.line X.env = pure false := by rfl) (hK : X.K = K := by rfl) : PS X (.Assign [.Attribute o f pos'] value pos) (sFldX0 K ta tv f) := by
  subst hK
  intro pins s σ H D I h
  refine plainObj_wpAny_Assign_Attribute (thn (hv pins s σ H _ I h) fun u s1 h1 => ?_) hs
  obtain ⟨y, H1, I1, ry, q⟩ := h1
  refine thn (ha pins s1 σ H1 _ I1 q) fun ov s2 h2 => ?_
  obtain ⟨x, H2, I2, rx, a, C, ex, ea, c, n, q2⟩ := h2
  subst ex
  obtain rfl : ov = Value.ref a := rx
  exact setx0_ok I2 ea c n ry fun dx s3 nd I3 => ⟨σ, _, I3, q2 dx nd⟩
theorem ps_fldX1 (ha : PE X o ta) (hv : PE X value tv) (hs : swapsWith value (some (.Attribute o f pos')) pos.line X.env = pure false := by rfl) (hK : X.K = K := by rfl) : PS X (.Assign [.Attribute o f pos'] value pos) (sFldX1 K ta tv f) := by
  subst hK
  intro pins s σ H D I h
  refine plainObj_wpAny_Assign_Attribute (thn (hv pins s σ H _ I h) fun u s1 h1 => ?_) hs
  obtain ⟨y, H1, I1, ry, q⟩ := h1
  refine thn (ha pins s1 σ H1 _ I1 q) fun ov s2 h2 => ?_
  obtain ⟨x, H2, I2, rx, a, C, dx, fs, ex, ea, ed, hne, hl, c, n, q2⟩ := h2
  subst ex
  obtain rfl : ov = Value.ref a := rx
  exact setx1_ok I2 ea ed hne hl c n ry fun s3 I3 => ⟨σ, _, I3, q2⟩
/-- B.__init__(self, ..), B a class whose __init__ is the built-in one -/
structure XBase (K : PySem.W.Frag) (B : Addr) : Prop where
  rd : PySem.W.readsIn K B (.type "type") = true
  fc : PySem.W.findCls K (.ref B) (.type "type") "__init__" = some (.val (.builtin "ValueError.__init__"))
  ga : PySem.W.specialIn K (.ref B) "__getattribute__" = some (some (.builtin "type.__getattribute__"))
noncomputable def tInit (K : PySem.W.Frag) (t : TA) : TE := fun σ H Q => t σ H fun vs H1 => ∃ x rest C d0, vs = .ref x :: rest ∧ rest.length ≤ 1000 ∧ H1 x = some (XO C d0 x) ∧ excIn K C = true ∧ Q .non H1
theorem pe_initX {pl : Sem Bool} {B : Addr} (hg : Gl X d) (hm : X.mg d = some (.ref B)) (b : XBase X.K B) (ha : PA X (e :: es) t) (hdb : (d == ("__debug__" : Str)) = false := by decide +kernel)
    (hst : (e :: es).all notStar = true := by rfl)
    (ht : eval (.Call (.Attribute (.Name d p) "__init__" apos) (e :: es) [] pos) X.env = (do
      let ov ← eval (.Name d p) X.env
      standAt apos.atName
      let (g0, first) ← holding [ov] (getMethod ov "__init__" pl)
      callWith pos g0 first (backTo pos (starEach (e :: es) X.env)) (backToKw pos (keywordEach [] X.env))) := by rfl) (hK : X.K = K := by rfl) :
    PE X (.Call (.Attribute (.Name d p) "__init__" apos) (e :: es) [] pos) (tInit K t) := by
  subst hK
  have h2 := hst
  rw [List.all_cons, Bool.and_eq_true] at h2
  intro pins s σ H Q I h
  refine PySem.W.methodCall_KW (pl := pl) (ld_glob I hg hm ?_ hdb) ht
  refine PySem.W.method_cls I.kIn b.ga (PySem.W.cls_value I.kIn b.rd b.fc (by decide +kernel) ?_)
  refine PyProof.Rows.callWith_builtin1 (thn (ha pos pins { s with toks := s.toks + 1 } σ H _ (I.tok _) h) fun us s1 hh => ?_) (star_cons es X.env h2.1) (star_back es h2.2)
  obtain ⟨vs, H1, I1, r1, x, rest, C, d0, ev, hz, ex, ec, q1⟩ := hh
  subst ev
  cases r1 with
  | @cons _ ux _ ur rx rr =>
    obtain rfl : ux = Value.ref x := rx
    obtain ⟨t0, a1, a2, a3, a4, a5, hx⟩ := XO.get I1.hok ex
    obtain ⟨nm, q, N, bs, bm, hdct, sn, sub, ab, col, dd, k0, k1, k2, k3, k5, hl, hB, _, _⟩ := exc_ob ec
    refine PySem.W.init_run (I1.kIn _ _ hl) hB hx (by have := rr.length; rw [sizeLine_eq]; omega) fun h' hx' hk => ⟨.non, H1, ?_, rfl, q1⟩
    have Iw : Inv X pins σ (upd H1 x (XO C d0 x)) { s1 with heap := h', toks := s1.toks } :=
      I1.write (x := x) (e := x) (by rw [ex]; exact True.intro) (.inl rfl) (fun b q hb z => hk b q hb z) ⟨_, hx'⟩ (XO.ok hx')
    have eH : upd H1 x (XO C d0 x) = H1 := by
      funext b
      by_cases hb : b = x
      · subst hb; rw [upd_same, ex]
      · rw [upd_ne hb]
    rw [eH] at Iw
    exact Iw
end
end L2

set_option Elab.async false
set_option linter.all false
set_option maxRecDepth 100000
set_option maxHeartbeats 1000000
namespace PySem.W
open PySem PySem.Calls PyProof.Rows Builtin Builtin.ObjectAttr
section
variable {prog : Program} {w : World} {A : Around} {E : Value → Shared → Prop} {s : Shared} {K : Frag} {x C : Addr} {ox : Obj} {od : Option Obj}
theorem class_exc {Q : Option Value → Shared → Prop} (X : K.In s.heap) (I : InstAt s.heap x ox C od) (hga : findIn K (.ref C) "__getattribute__" = some (some (.builtin "BaseException.__getattribute__"))) (hgn : findIn K (.ref C) "__getattr__" = some none)
    (hs : subIn K (.ref C) (.type "BaseException") = some true) (hf : findObj K C od "__class__" = some (.bind (.builtin "getset_descriptor.__get__") (.builtin "object.__class__"))) (hm : mroIn K C (.type "object") = some true)
    (h : Q (some (.ref C)) { s with toks := s.toks + 1 }) : wpAny (model prog w) A (getAttr? (.ref x) "__class__") Q E s := by
  obtain ⟨hp, g, d, t, os⟩ := s
  have L0 := I.type (M := model prog w)
  have L1 := looks_findIn (M := model prog w) X hga
  have L2 := looks_findIn (M := model prog w) X hgn
  have L3 := looks_find (M := model prog w) X I hf
  have LI := looks_inst (M := model prog w) X I hs
  have hx2 : (Value.builtin "BaseException.__getattribute__" == Value.builtin "object.__getattribute__") = false := by decide +kernel
  have hb := F.excAttr_ValueError.ga.bind (.ref x)
  unfold getAttr? getAttrBy? getAttrBy
  refine wpAny_bind (wpAny_mkText (wpAny_bind (wpAny_attempt (wpAny_holding (wpAny_bind (L0.at (wpAny_bind (L1.at ?_))))))))
  show wpAny _ _ (if (onTheHeap (Value.ref C) && Value.builtin "BaseException.__getattribute__" == Value.builtin "object.__getattribute__") = true then _ else _) _ _ _
  rw [hx2, Bool.and_false, if_neg (by decide)]
  unfold getAttrByItsOwn hookBefore
  show wpAny _ _ (typeLookup (.ref C) "__getattr__" >>= _) _ _ _
  refine wpAny_bind (L2.at (wpAny_bind (wpAny_attempt (wpAny_holding ?_))))
  unfold callGetattribute
  rw [show (false && onTheHeap (Value.builtin "BaseException.__getattribute__")) = false from rfl, if_neg (by decide)]
  unfold boundAndCalled
  rw [hb]
  refine wpAny_bind (wpAny_pure ?_)
  refine wpAny_call (codeAny_call_builtin F.excAttr_ValueError.ga.plain F.entry_bexc_ga ?_)
  show wpAny _ _ (checkBuiltinCall "BaseException.__getattribute__" ⟨[.ref x, .str "__class__" t], []⟩) _ _ _
  refine chk_ga ?_ ?_
  · exact LI
  unfold Builtin.«object.__getattribute__»
  refine wpAny_bind (wpAny_pure (wpAny_bind (wpAny_pure (wpAny_bind (L0.at (wpAny_bind (L3.at ?_)))))))
  show wpAny _ _ (holding [.builtin "object.__class__"] (call (.builtin "getset_descriptor.__get__") [.builtin "object.__class__", .ref x, .ref C]) >>= ret) _ _ _
  refine wpAny_bind (wpAny_holding (wpAny_call (class_get (s := ⟨hp, g, d, t + 1, os⟩) (ox := ox) (od := od) X I hm ?_)))
  refine wpAny_pure ?_
  show wpAny _ _ (handedOut (.ref C)) _ _ _
  exact handed_on rfl (wpAny_pure h)
theorem findObj_any {a g : Value} {name : Str} (hc : (clsIn K C).isSome = true) (ha : findIn K (.ref C) name = some (some a)) (hg : specialIn K a "__get__" = some (some g)) (ht : takesIn K a = some true) : findObj K C od name = some (.bind g a) := by
  obtain ⟨cd, hc⟩ := Option.isSome_iff_exists.mp hc
  unfold findObj
  rw [hc, Option.bind_some, ha, Option.bind_some]
  dsimp only
  rw [hg, Option.bind_some]
  dsimp only
  rw [ht, Option.bind_some]
theorem kitx_exc (hov : excOver K C = true) (hga : findIn K (.ref C) "__getattribute__" = some (some (.builtin "BaseException.__getattribute__"))) (hgn : findIn K (.ref C) "__getattr__" = some none)
    (hs : subIn K (.ref C) (.type "BaseException") = some true) (ha : findIn K (.ref C) "__class__" = some (some (.builtin "object.__class__")))
    (hn : specialIn K (.builtin "object.__class__") "__get__" = some (some (.builtin "getset_descriptor.__get__"))) (htk : takesIn K (.builtin "object.__class__") = some true) (hm : mroIn K C (.type "object") = some true) :
    KitX K (.ref x) (.ref C) (fun h => InstAt h x ox C od) where
  ty := fun _ _ _ I => I.type
  it := fun _ _ X _ => by
    obtain ⟨cdD, hcD, _⟩ := any_some hov
    unfold clsIn at hcD
    split at hcD
    · rename_i c' d' cd' sl' ho
      intro A' Q' E' s' k q
      unfold isType loadHead
      exact wpAny_bind (wpAny_loadPart (k _ _ (X _ _ ho)) (wpAny_pure q))
    · cases hcD
  ne := fun h tp dd its n sl X htp => by
    obtain ⟨cdD, hcD, _⟩ := any_some hov
    refine Bool.eq_false_iff.mpr fun q => ?_
    have e : C = tp := Value.ref.inj (beq_iff_eq.mp q)
    subst e
    unfold clsIn at hcD
    split at hcD
    · rename_i c' d' cd' sl' ho
      have z := (X _ _ ho).symm.trans htp
      cases z
    · cases hcD
  ca := fun X I k => class_exc X I hga hgn hs (findObj_any (by obtain ⟨cd, hc, _⟩ := any_some hov; rw [hc]; rfl) ha hn htk) hm k
end
end PySem.W
namespace L2
open PySem PySem.Spec PyProof.Rows
structure XIs (K : PySem.W.Frag) (C : Addr) : Prop extends XCls K C where
  ca : PySem.W.findIn K (.ref C) "__class__" = some (some (.builtin "object.__class__"))
  cg : PySem.W.specialIn K (.builtin "object.__class__") "__get__" = some (some (.builtin "getset_descriptor.__get__"))
  ct : PySem.W.takesIn K (.builtin "object.__class__") = some true
  mo : PySem.W.mroIn K C (.type "object") = some true
/-- isinstance(e, c), e an exception of one's own -/
noncomputable def rIsiX (K : PySem.W.Frag) : List V → Hp → VK → Prop := fun xs H Q => ∃ x C d0 c u b, xs = [.ref x, c] ∧ H x = some (XO C d0 x) ∧ (d0 = none ∨ ∃ dx fs, d0 = some dx ∧ H dx = some (XDt fs dx)) ∧ XIs K C ∧ RelV c u ∧ (∀ u', RelV c u' → u' = u) ∧ PySem.W.kitOne K (.ref C) u = some b ∧ Q (.bl b) H
section
variable {X : Cx} {K : PySem.W.Frag}
theorem c_isiX (hK : X.K = K := by rfl) : CallR X (.builtin "isinstance") (rIsiX K) := by
  subst hK
  intro pins s σ H xs us Q I r h
  obtain ⟨x, C, d0, c, u, b, rfl, ex, hd, xi, rc, uc, e, q⟩ := h
  obtain ⟨v, w', rfl, rx, rw'⟩ := vals2 r
  obtain rfl : v = Value.ref x := rx
  cases uc w' rw'
  obtain ⟨t0, a1, a2, a3, a4, a5, hx⟩ := XO.get I.hok ex
  have fin : ∀ od, PySem.W.InstAt s.heap x (PySem.W.excOb C d0 #[.ref t0, a1, a2, a3, a4, a5]) C od → wpAny (model X.prog X.w) X.A (call (.builtin "isinstance") [.ref x, u]) (EP X pins σ Q) X.xe s := fun od J =>
    PySem.W.kia_one (PySem.W.kitx_exc xi.ov xi.ga xi.gn xi.sb xi.ca xi.cg xi.ct xi.mo) I.kIn J e (fun z => nomatch z) fun tk => ⟨.bl b, H, I.tok tk, rfl, q⟩
  rcases hd with rfl | ⟨dx, fs, rfl, ed⟩
  · exact fin none ⟨hx, rfl, rfl, trivial⟩
  · obtain ⟨_, mA, hn, _⟩ := XDt.get I.hok ed
    obtain ⟨od, ho, _⟩ := lookIn_ns hn
    exact fin (some od) ⟨hx, rfl, rfl, ho⟩
/-! ### C(..), C a class of exceptions with an __init__ of its own -/
variable {C f : Addr} {fd : FuncData} {ps : List Str} {k : Nat} {sp : Sp} {ds : List Value} {dvs : List V} {CX : CXT} {E : XK}
theorem run_makeX {pins : List (Addr × Obj)} {σ : St} {H : Hp} {s : Shared} {Q : VK} {us : List Value} {vs : List V} (M : XMk X.K C f) (F : FnOk X.prog X.w X.K X.mg X.base CX k f fd ps sp) (hr : Room (k + 1) X.A) (hb : Binds X.K fd ps ds) (hd : Vals dvs ds)
    (hx : Passes CX X E) (I : Inv X pins σ H s) (r : Vals vs us) (hz : vs.length ≤ 1000)
    (h : ∀ x, H x = none → sp (.ref x :: (vs ++ dvs)) (upd H x (XO C none x)) (fun v H2 => v = .non ∧ Q (.ref x) H2) E) :
    wpAny (model X.prog X.w) X.A (call (.ref C) us) (EP X pins σ Q) X.xe s := by
  have hq := h (s.heap.objs.size + 1) (I.hok.fresh (Nat.le_succ _))
  have kk : ∀ b o, s.heap.get? b = some o → ((s.heap.push { cls := .type "tuple", data := .seq us.toArray }).push (PySem.W.excOb C none #[.ref s.heap.objs.size, .none, .none, .none, .bool false, .none])).get? b = some o := fun b o e => Heap.get?_push_of_some _ (Heap.get?_push_of_some _ e)
  have hx0 : ((s.heap.push { cls := .type "tuple", data := .seq us.toArray }).push (PySem.W.excOb C none #[.ref s.heap.objs.size, .none, .none, .none, .bool false, .none])).get? (s.heap.objs.size + 1) = some (PySem.W.excOb C none #[.ref s.heap.objs.size, .none, .none, .none, .bool false, .none]) := by heap_get
  have I2 : Inv X pins σ (upd H (s.heap.objs.size + 1) (XO C none (s.heap.objs.size + 1))) { s with heap := (s.heap.push { cls := .type "tuple", data := .seq us.toArray }).push (PySem.W.excOb C none #[.ref s.heap.objs.size, .none, .none, .none, .bool false, .none]), toks := s.toks } :=
    I.laid kk (Nat.le_succ _) (XO.ok hx0)
  have r2 : Vals (V.ref (s.heap.objs.size + 1) :: (vs ++ dvs)) (Value.ref (s.heap.objs.size + 1) :: (us ++ ds)) := .cons rfl (r.append hd)
  have hl : (Value.ref (s.heap.objs.size + 1) :: us ++ ds).length = ps.length := by
    have e := r2.length
    rw [F.len _ _ _ _ hq] at e
    exact e.symm
  obtain ⟨nm, q, N, bs, bm, hdct, sn, sub, ab, col, dd, k0, k1, k2, k3, k5, hlk, hB, hA, hN⟩ := exc_ob M.ex
  obtain ⟨hp, g, d, t, os⟩ := s
  refine wpAny_call (PySem.W.make_exc (f := f) (I.kIn _ _ hlk) hB hA hN (by have := r.length; rw [sizeLine_eq]; omega) (PySem.W.looks_findIn I.kIn M.init) (fun self => PySem.W.bind_fn I.kIn self (beq_iff_eq.mp M.fn)) (codeAny_mono (F.run _ X.stack _ _ ⟨Value.ref (hp.objs.size + 1) :: us, []⟩ (Value.ref (hp.objs.size + 1) :: (us ++ ds)) _ _ E (hr.make C us [])
    (I2.env0.make C us []) (hb _ (Value.ref (hp.objs.size + 1) :: us) I2.kIn hl) r2 hq) fun r s' hq' => ?_))
  cases r with
  | error e => exact hx pins σ _ _ e s' I2 hq'
  | ok fl =>
    cases fl with
    | ret u =>
      obtain ⟨v, H', I3, rv, ev, q3⟩ := I2.after hq'
      subst ev
      exact ⟨rv, ⟨V.ref (hp.objs.size + 1), H', I3, rfl, q3⟩⟩
    | next => exact False.elim hq'
    | brk => exact False.elim hq'
    | cont => exact False.elim hq'
noncomputable def tMakeX (C : Addr) (sp : Sp) (t : TA) : TE := fun σ H Q => t σ H fun vs H1 => vs.length ≤ 1000 ∧ ∀ x, H1 x = none → sp (.ref x :: (vs ++ [])) (upd H1 x (XO C none x)) (fun v H2 => v = .non ∧ Q (.ref x) H2) E0
/-- a class of exceptions by its name, and its __init__'s promise -/
structure XDef (P : Program) (w : World) (K : PySem.W.Frag) (mg : Str → Option Value) (base : Heap) (k : Nat) (x : Str) (C : Addr) (ps : List Str) (sp : Sp) : Prop where
  ex : ∃ f fd, XMk K C f ∧ FnOk P w K mg base CX0 k f fd ps sp ∧ Binds K fd ps []
  at_ : mg x = some (.ref C)
theorem pe_makeX {x : Str} {e : Expr} {es : List Expr} {t : TA} {p pos : Pos} (D : XDef X.prog X.w X.K X.mg X.base k x C ps sp) (hr : Room (k + 1) X.A) (hg : Gl X x) (hx : Passes CX0 X E0) (ha : PA X (e :: es) t) (hdb : (x == ("__debug__" : Str)) = false := by decide +kernel) (hs : (e :: es).all notStar = true := by rfl) :
    PE X (.Call (.Name x p) (e :: es) [] pos) (tMakeX C sp t) := by
  obtain ⟨⟨f, fd, M, F, hb⟩, hm⟩ := D
  have h2 := hs
  rw [List.all_cons, Bool.and_eq_true] at h2
  intro pins s σ H Q I h
  refine wpAny_Call_Name_kw (ld_glob I hg hm ?_ hdb)
  refine PySem.W.callWith_K (h₀ := X.base) I.ok.mod.kin M.kp (thn (ha pos pins s σ H _ I h) fun us s1 ⟨vs, H1, I1, r, hz, q⟩ => ⟨I1.kIn, ?_⟩) (star_cons es X.env h2.1) (star_back es h2.2)
  exact run_makeX (dvs := []) M F hr hb .nil hx I1 r hz q
/-- an exception as it stands -/
noncomputable def XAt (C : Addr) (H : Hp) (x : Addr) (fs : List (Str × V)) : Prop := ∃ dx, H x = some (XO C (some dx) x) ∧ H dx = some (XDt fs dx) ∧ dx ≠ x
theorem XAt.same {C : Addr} {H H' : Hp} {x : Addr} {fs : List (Str × V)} (h : XAt C H x fs) (e : Same H H') : XAt C H' x fs := by
  obtain ⟨dx, h1, h2, h3⟩ := h
  exact ⟨dx, e _ _ h1, e _ _ h2, h3⟩
end
end L2

set_option Elab.async false
set_option linter.all false
set_option maxRecDepth 100000
set_option maxHeartbeats 1000000
namespace L2
open PySem PySem.Spec PyProof.Rows
section
variable {X : Cx} {K : PySem.W.Frag}
theorem datBools {K : PySem.W.Frag} {H : Hp} : ∀ bs : List Bool, DatVs K H (bs.map PyData.bool) (bs.map V.bl)
  | [] => by simp only [List.map_nil, DatVs]
  | b :: r => by
    simp only [List.map_cons, DatVs]
    exact ⟨_, _, rfl, by simp only [DatV], datBools r⟩
theorem all_bool : ∀ bs : List Bool, (bs.map PyData.bool).all Shape.bool.has = true
  | [] => rfl
  | b :: r => by rw [List.map_cons, List.all_cons, all_bool r]; rfl
theorem countIn_bool (k : Bool) : ∀ bs : List Bool, countIn (.bool k) (bs.map PyData.bool) = (bs.count k : Int)
  | [] => rfl
  | b :: r => by
    rw [List.map_cons, countIn, countIn_bool k r, List.count_cons]
    simp only [same]
    cases b <;> cases k <;> simp <;> omega
noncomputable def rCountB (K : PySem.W.Frag) : V → List V → Hp → VK → Prop := fun x vs H Q => ∃ (a : Addr) (bs : List Bool) (k : Bool), x = .ref a ∧ vs = [.bl k] ∧ SqL K H a (bs.map V.bl) ∧ Q (.int (bs.count k : Nat)) H
theorem mt_countB (hK : X.K = K := by rfl) : MtR X "list.count" (rCountB K) := by
  subst hK
  intro pins s σ H x vs v us Q I rx rv h
  obtain ⟨a, bs, k, rfl, rfl, ha, q⟩ := h
  obtain rfl : v = Value.ref a := rx
  obtain ⟨u, rfl, ru⟩ := vals1 rv
  obtain rfl : u = Value.bool k := ru
  obtain ⟨its, r, pl, _⟩ := I.list ha
  obtain ⟨as, ra⟩ := I.readsAll _ _ its (datBools bs) r
  refine count_list_bools pl.isList ra (all_bool bs) ?_
  rw [countIn_bool]
  exact ⟨.int _, H, I.tok _, ⟨_, rfl⟩, q⟩
theorem isB_at (k : Bool) {bs : List Bool} (j : Nat) (h : j < (bs.map Value.bool).length) : isBoolOf k ((bs.map Value.bool)[j]) = (bs[j]'(by simpa using h) == k) := by
  simp [isBoolOf]
noncomputable def rIndexB (K : PySem.W.Frag) : V → List V → Hp → VK → Prop := fun x vs H Q => ∃ (a : Addr) (bs : List Bool) (k : Bool) (j : Nat), x = .ref a ∧ vs = [.bl k] ∧ SqL K H a (bs.map V.bl) ∧ bs[j]? = some k ∧ (∀ m, m < j → bs[m]? ≠ some k) ∧ Q (.int (j : Nat)) H
theorem mt_indexB (hK : X.K = K := by rfl) : MtR X "list.index" (rIndexB K) := by
  subst hK
  intro pins s σ H x vs v us Q I rx rv h
  obtain ⟨a, bs, k, j, rfl, rfl, ha, hj, hm, q⟩ := h
  obtain rfl : v = Value.ref a := rx
  obtain ⟨u, rfl, ru⟩ := vals1 rv
  obtain rfl : u = Value.bool k := ru
  obtain ⟨its, r, pl, hz⟩ := I.list ha
  obtain ⟨as, ra⟩ := I.readsAll _ _ its (datBools bs) r
  have eb := bls_of r
  have hlt : j < bs.length := (List.getElem?_eq_some_iff.mp hj).1
  have hlt2 : j < its.length := by rw [eb, List.length_map]; exact hlt
  obtain ⟨⟨cls, dd, data, sl⟩, ho, hc, n, hd⟩ := id pl.isList
  simp only at hc hd
  subst hc hd
  refine call_meets PySem.F.slot_list_index ⟨_, ho, rfl⟩ PySem.F.entry_list_index (PySem.F.args_list_index_2 _ _)
    (PySem.SeqAt.list_indexAt a its.toArray n dd sl (.bool k) (isBoolOf k) j (by simpa using hlt2) (by rw [List.length_map, sizeLine_eq] at hz; omega) ?_ ?_) ⟨ho, fun y hy => eq_isBoolOf k ra (all_bool bs) y (by simpa using hy) _ _, ⟨.int _, H, I.tok _, ⟨_, rfl⟩, q⟩⟩
  · subst eb
    show isBoolOf k ((bs.map Value.bool)[j]) = true
    rw [isB_at k j hlt2]
    have : bs[j] = k := (List.getElem?_eq_some_iff.mp hj).2
    rw [this]; simp
  · intro m hms hlm
    subst eb
    show isBoolOf k ((bs.map Value.bool)[m]'(by simpa using hms)) = false
    rw [isB_at k m (by simpa using hms)]
    have hmm : m < bs.length := by simpa using hms
    have := hm m hlm
    rw [List.getElem?_eq_getElem hmm] at this
    simpa using fun z => this (congrArg some z)
end
theorem seqG {t u : TS} {D : Ends} {σ : St} {H : Hp} (h : ∀ N : St → Hp → Prop, (∀ σ' H', u D σ' H' → N σ' H') → t { D with nx := N } σ H) : tSeq t u D σ H := h (u D) fun _ _ z => z
end L2

set_option Elab.async false
set_option linter.all false
set_option maxRecDepth 100000
set_option maxHeartbeats 4000000
namespace J
open PySem PySem.Spec PyProof.Rows L2
structure QE (X : Cx) (e : Expr) (t : TE) : Prop where
  p : PE X e t
structure QT (X : Cx) (e : Expr) (t : TT) : Prop where
  p : PT X e t
structure QW (X : Cx) (e : Expr) (t : TT) : Prop where
  p : PW X e t
structure QA (X : Cx) (e : List Expr) (t : TA) : Prop where
  p : PA X e t
structure QS (X : Cx) (e : Stmt) (t : TS) : Prop where
  p : PS X e t
structure QSs (X : Cx) (e : List Stmt) (t : TS) : Prop where
  p : PSs X e t
structure QG (X : Cx) (e : Expr) (t : TG) : Prop where
  p : PG X e t
structure QI (X : Cx) (g e : Expr) (t : TI) : Prop where
  p : PI X g e t
structure QTs (X : Cx) (e : List Expr) (t : TT) : Prop where
  p : PTs X e t
structure QO (X : Cx) (e : Option Expr) (t : TO) : Prop where
  p : PO X e t
structure QPs (X : Cx) (pos : Pos) (keys : List (Option Expr)) (values : List Expr) (trs : List (TE × TE)) : Prop where
  p : PPs X pos keys values trs
theorem pw_pt {X : Cx} {e : Expr} {t : TT} (h : QW X e t) : QT X e t := ⟨h.p.pt⟩
theorem pss_nil {X : Cx} : QSs X [] tNext := ⟨L2.pss_nil ⟩
theorem pss_cons {X : Cx} {st : Stmt} {rest : List Stmt} {t : TS} {u : TS} (h1 : QS X st t) (h2 : QSs X rest u) : QSs X (st :: rest) (tSeq t u) := ⟨L2.pss_cons h1.p h2.p⟩
theorem pss_one {X : Cx} {st : Stmt} {t : TS} (h1 : QS X st t) : QSs X [st] t := ⟨L2.pss_one h1.p⟩
theorem ps_ret {X : Cx} {e : Expr} {te : TE} {pos : Pos} (he : QE X e te) : QS X (.Return (some e) pos) (tRet te) := ⟨L2.ps_ret he.p⟩
theorem ps_expr {X : Cx} {e : Expr} {te : TE} {pos : Pos} (he : QE X e te) (hs : swapsWith e none pos.line X.env = pure false := by rfl) : QS X (.Expr e pos) (tDrop te) := ⟨L2.ps_expr he.p hs⟩
theorem ps_if {X : Cx} {t : TS} {u : TS} {pos : Pos} {c : Expr} {a b : List Stmt} {tc : TT} (hc : QT X c tc) (ha : QSs X a t) (hb : QSs X b u) : QS X (.If c a b pos) (tIfS tc t u) := ⟨L2.ps_if hc.p ha.p hb.p⟩
theorem ps_setComp {X : Cx} {elt tg iter : Expr} {ifs : List Expr} {scope : Scope} {N : List Str} {caps : List (Option Nat)} {pos pos' spos : Pos} {wi : TI} {g : TG} {tt : TT} {te : TE} {i : Nat} {x : Str}
    (hN : X.N.Nodup) (hix : X.N[i]? = some x) (hx : X.env.scope.names.lookup x = some .local)
    (S : BlkScope scope N) (hcap : capOk X.N X.env scope N caps = true) (hfr : L2.freeOk X.env scope = true) (hc : X.calm = true) (hi : QI X tg iter wi)
    (hg : ∀ s₀ H₀ C fp, QG (blk X scope N s₀ H₀ C fp) tg g) (ht : ∀ s₀ H₀ C fp, QTs (blk X scope N s₀ H₀ C fp) ifs tt) (he : ∀ s₀ H₀ C fp, QE (blk X scope N s₀ H₀ C fp) elt te)
    (hsw : swapsWith (.ListComp elt [⟨tg, iter, ifs, 0⟩] scope pos) (some (.Name x pos')) spos.line X.env = pure true := by rfl)
    (hs : ∀ x, foldedSetIterable iter X.env x = pure x := by intro _; rfl) : QS X (.Assign [.Name x pos'] (.ListComp elt [⟨tg, iter, ifs, 0⟩] scope pos) spos) (tAsg (tComp caps wi g tt te) (gName i)) := ⟨L2.ps_setComp hN hix hx S hcap hfr hc hi.p (fun s₀ H₀ C fp => (hg s₀ H₀ C fp).p) (fun s₀ H₀ C fp => (ht s₀ H₀ C fp).p) (fun s₀ H₀ C fp => (he s₀ H₀ C fp).p) hsw hs⟩
theorem ps_set {X : Cx} {pos : Pos} {i : Nat} {x : Str} {e : Expr} {te : TE} {pos' : Pos} (hN : X.N.Nodup) (hi : X.N[i]? = some x) (hx : Loc X.env.scope x) (he : QE X e te) (hs : swapsWith e (some (.Name x pos')) pos.line X.env = pure false := by rfl) (hf : X.fn x = true ∨ X.env.scope.names.lookup x = some .local := by first | exact .inl rfl | exact .inr rfl | assumption) :
    QS X (.Assign [.Name x pos'] e pos) (tAsg te (gName i)) := ⟨L2.ps_set hN hi hx he.p hs hf⟩
theorem ps_dput {X : Cx} {o : Expr} {i : Expr} {value : Expr} {pos : Pos} {pos' : Pos} {td : TE} {ty : TE} {tv : TE} (hu : X.A.units + 1 < cLine) (ho : QE X o td) (hi : QE X i ty) (hv : QE X value tv) (hs : swapsWith value (some (.Subscript o i pos')) pos.line X.env = pure false) :
    QS X (.Assign [.Subscript o i pos'] value pos) (sDPut td ty tv) := ⟨L2.ps_dput hu ho.p hi.p hv.p hs⟩
theorem ps_for {X : Cx} {tg : Expr} {iter : Expr} {body : List Stmt} {wi : TI} {g : TG} {tb : TS} {pos : Pos} (hp : PassesOwn (model X.prog X.w) X.A X.env X.xe) (hc : X.calm = true) (hi : QI X tg iter wi) (hg : QG X tg g) (hb : QSs X body tb)
    (hs : ∀ x, foldedSetIterable iter X.env x = pure x := by intro _; rfl) : QS X (.For tg iter body [] pos) (tFor wi g tb) := ⟨L2.ps_for hp hc hi.p hg.p hb.p hs⟩
theorem pg_name {X : Cx} {pos : Pos} {i : Nat} {x : Str} (hN : X.N.Nodup) (hi : X.N[i]? = some x) (hx : Loc X.env.scope x) (hf : X.fn x = true ∨ X.env.scope.names.lookup x = some .local := by first | exact .inl rfl | exact .inr rfl | assumption) : QG X (.Name x pos) (gName i) := ⟨L2.pg_name hN hi hx hf⟩
theorem pi_range1 {X : Cx} {tg : Expr} {a : Expr} {ta : TA} {p pos : Pos} (hg : Gl X "range") (hm : X.mg "range" = none) (ha : QA X [a] ta) (hs : starEach [a] X.env = [(false, eval a X.env)] := by rfl) : QI X tg (.Call (.Name "range" p) [a] [] pos) (iRng1 ta) := ⟨L2.pi_range1 hg hm ha.p hs⟩
theorem pa_nil {X : Cx} : QA X [] tNil := ⟨L2.pa_nil ⟩
theorem pac {X : Cx} {e : Expr} {es : List Expr} {te : TE} {t : TA} (ha : QE X e te) (hr : QA X es t) (hs : notStar e = true := by rfl) : QA X (e :: es) (tCons te t) := ⟨L2.pac ha.p hr.p hs⟩
theorem pe_bl {X : Cx} {b j pos} : QE X (.Constant (.bool b) j pos) (tC (.bl b)) := ⟨L2.pe_bl ⟩
theorem pe_int {X : Cx} {i j pos} : QE X (.Constant (.int i) j pos) (tC (.int i)) := ⟨L2.pe_int ⟩
theorem pe_str {X : Cx} {x j pos} : QE X (.Constant (.str x) j pos) (tC (.str x)) := ⟨L2.pe_str ⟩
theorem pv {X : Cx} (i : Nat) {x : Str} {pos : Pos} (hN : X.N[i]? = some x := by rfl) (hv : Vis X.env.scope x := by first | exact Or.inl rfl | exact Or.inr (Or.inl rfl) | exact Or.inr (Or.inr rfl)) (hd : (x == ("__debug__" : Str)) = false := by decide)
    (hcd : (x == ("__classdict__" : Str)) = false := by decide) : QE X (.Name x pos) (tVar i) := ⟨L2.pv i hN hv hd hcd⟩
theorem pe_ty {X : Cx} {x : Str} {pos : Pos} (T : String) (hg : Gl X x) (hm : X.mg x = none) (hv : bootBuiltins x = some (.type T)) (hn : x ≠ "__name__" := by decide +kernel) (hd : (x == ("__debug__" : Str)) = false := by decide +kernel) : QE X (.Name x pos) (tC (.ty T)) := ⟨L2.pe_ty T hg hm hv hn hd⟩
theorem pe_op {X : Cx} {a : Expr} {b : Expr} {ta : TE} {tb : TE} {pos : Pos} {op : Operator} {r : R2} (ho : OpR X (binaryOp op) r) (ha : QE X a ta) (hb : QE X b tb) : QE X (.BinOp a op b pos) (tOp r ta tb) := ⟨L2.pe_op ho ha.p hb.p⟩
theorem pe_lst {X : Cx} {es : List Expr} {t : TA} {pos : Pos} (h : QA X es t) : QE X (.List es pos) (tLst t) := ⟨L2.pe_lst h.p⟩
theorem pe_tup {X : Cx} {es : List Expr} {t : TA} {pos : Pos} {x1} (h : QA X es t) : QE X (.Tuple es x1 pos) (tTup t) := ⟨L2.pe_tup h.p⟩
theorem pe_disp  {X : Cx} {pos : Pos} {keys : List (Option Expr)} {values : List Expr} {trs : List (TE × TE)} (h : QPs X pos keys values trs) (hall : keys.all (·.isSome) = true) (hl : keys.length = values.length) (h0 : keys ≠ [])
    (h15 : keys.length ≤ 15) : QE X (.Dict keys values pos) (tDisp trs) := ⟨L2.pe_disp h.p hall hl h0 h15⟩
theorem pps_nil  {X : Cx} {pos : Pos} : QPs X pos [] [] [] := ⟨L2.pps_nil ⟩
theorem pps_cons  {X : Cx} {pos : Pos} {k v : Expr} {ks : List (Option Expr)} {vs : List Expr} {tk tv : TE} {trs : List (TE × TE)} (hk : QE X k tk) (hv : QE X v tv) (hr : QPs X pos ks vs trs) :
    QPs X pos (some k :: ks) (v :: vs) ((tk, tv) :: trs) := ⟨L2.pps_cons hk.p hv.p hr.p⟩
theorem pe_slice {X : Cx} {e : Expr} {te : TE} {lo : Option Expr} {hi : Option Expr} {tl : TO} {th : TO} {pos : Pos} {p2 : Pos} {r : V → Option Int → Option Int → Hp → VK → Prop} (hr : SlR X r) (he : QE X e te) (hl : QO X lo tl) (hu : QO X hi th) : QE X (.Subscript e (.Slice lo hi none p2) pos) (tSl r te tl th) := ⟨L2.pe_slice hr he.p hl.p hu.p⟩
theorem po_none {X : Cx} : QO X none tNoPart := ⟨L2.po_none ⟩
theorem po_some {X : Cx} {e : Expr} {te : TE} (h : QE X e te) : QO X (some e) (tPart te) := ⟨L2.po_some h.p⟩
theorem pe_dget {X : Cx} {o : Expr} {i : Expr} {pos : Pos} {td : TE} {ty : TE} (hu : X.A.units + 1 < cLine) (ho : QE X o td) (hi : QE X i ty) (hs : NoSl i) : QE X (.Subscript o i pos) (tDGet td ty) := ⟨L2.pe_dget hu ho.p hi.p hs⟩
theorem pe_ix {X : Cx} {a : Expr} {b : Expr} {ta : TE} {tb : TE} {pos : Pos} {r : R2} (hr : IxR X r) (ha : QE X a ta) (hb : QE X b tb) (hs : PlainIx b) : QE X (.Subscript a b pos) (tOp r ta tb) := ⟨L2.pe_ix hr ha.p hb.p hs⟩
theorem pe_comp {X : Cx} {elt tg iter : Expr} {ifs : List Expr} {scope : Scope} {N : List Str} {caps : List (Option Nat)} {pos : Pos} {wi : TI} {g : TG} {tt : TT} {te : TE}
    (S : BlkScope scope N) (hcap : capOk X.N X.env scope N caps = true) (hfr : L2.freeOk X.env scope = true) (hc : X.calm = true) (hi : QI X tg iter wi)
    (hg : ∀ s₀ H₀ C fp, QG (blk X scope N s₀ H₀ C fp) tg g) (ht : ∀ s₀ H₀ C fp, QTs (blk X scope N s₀ H₀ C fp) ifs tt) (he : ∀ s₀ H₀ C fp, QE (blk X scope N s₀ H₀ C fp) elt te)
    (hs : ∀ x, foldedSetIterable iter X.env x = pure x := by intro _; rfl) : QE X (.ListComp elt [⟨tg, iter, ifs, 0⟩] scope pos) (tComp caps wi g tt te) := ⟨L2.pe_comp S hcap hfr hc hi.p (fun s₀ H₀ C fp => (hg s₀ H₀ C fp).p) (fun s₀ H₀ C fp => (ht s₀ H₀ C fp).p) (fun s₀ H₀ C fp => (he s₀ H₀ C fp).p) hs⟩
theorem pcb {X : Cx} {e : Expr} {es : List Expr} {t : TA} {x : Str} {p : Pos} {pos : Pos} {id : String} {r : List V → Hp → VK → Prop} (hc : CallR X (.builtin id) r) (hg : Gl X x) (hm : X.mg x = none) (hv : bootBuiltins x = some (.builtin id)) (ha : QA X (e :: es) t) (hn : x ≠ "__name__" := by decide +kernel) (hdb : (x == ("__debug__" : Str)) = false := by decide +kernel)
    (hs : (e :: es).all notStar = true := by rfl) : QE X (.Call (.Name x p) (e :: es) [] pos) (tCB r t) := ⟨L2.pcb hc hg hm hv ha.p hn hdb hs⟩
theorem pct {X : Cx} {e : Expr} {es : List Expr} {t : TA} {x : Str} {p : Pos} {pos : Pos} {T : String} {r : List V → Hp → VK → Prop} (hc : CallR X (.type T) r) (hg : Gl X x) (hm : X.mg x = none) (hv : bootBuiltins x = some (.type T)) (ha : QA X (e :: es) t) (hn : x ≠ "__name__" := by decide +kernel) (hdb : (x == ("__debug__" : Str)) = false := by decide +kernel)
    (hs : (e :: es).all notStar = true := by rfl) : QE X (.Call (.Name x p) (e :: es) [] pos) (tCB r t) := ⟨L2.pct hc hg hm hv ha.p hn hdb hs⟩
theorem pe_own {X : Cx} {e : Expr} {es : List Expr} {t : TA} {x : Str} {p : Pos} {pos : Pos} {k : Nat} {ps : List Str} {sp : Sp} (D : Def X.prog X.w X.K X.mg X.base k x ps sp) (hr : Room k X.A) (hg : Gl X x) (hx : Passes CX0 X E0) (ha : QA X (e :: es) t) (hdb : (x == ("__debug__" : Str)) = false := by decide +kernel) (hs : (e :: es).all notStar = true := by rfl) :
    QE X (.Call (.Name x p) (e :: es) [] pos) (tCall sp [] E0 t) := ⟨L2.pe_own D hr hg hx ha.p hdb hs⟩
theorem pe_bmK {X : Cx} {K : PySem.W.Frag} {o : Expr} {e : Expr} {es : List Expr} {to : TE} {t : TA} {name : Str} {apos : Pos} {cpos : Pos} {T : String} {id : String} {r : V → List V → Hp → VK → Prop} (pa : PlainAttrs T) (slot : Slot T name id) (hty : typeOf (.builtin id) = pure (.type "method_descriptor")) (hm : MtR X id r) (ho : QE X o to) (ha : QA X (e :: es) t)
    (hbase : attributeBase o name X.env (eval o X.env) = eval o X.env := by rfl) (hs : (e :: es).all notStar = true := by rfl) (hfew : decide ((e :: es).length + 0 + 0 < 30) = true := by rfl)
    (hline : (apos.endLine == cpos.line) = true := by rfl) (hK : X.K = K := by rfl) : QE X (.Call (.Attribute o name apos) (e :: es) [] cpos) (tBM K T r to t) := ⟨L2.pe_bmK pa slot hty hm ho.p ha.p hbase hs hfew hline hK⟩
theorem pts_nil  {X : Cx} : QTs X [] tYes := ⟨L2.pts_nil ⟩
theorem pt_cmpR {X : Cx} {a : Expr} {b : Expr} {ta : TE} {tb : TE} {pos : Pos} {op : CmpOp} {r : R2} (ho : OpR X (compareOp op) r) (ha : QE X a ta) (hb : QE X b tb) (hm : behindInMarks op b = false) : QT X (.Compare a [op] [b] pos) (tTest (tOp r ta tb)) := ⟨L2.pt_cmpR ho ha.p hb.p hm⟩
theorem pt_not {X : Cx} {a : Expr} {pos : Pos} {tA : TT} (ha : QT X a tA) : QT X (.UnaryOp .Not a pos) (tNot tA) := ⟨L2.pt_not ha.p⟩
theorem pt_val {X : Cx} {e : Expr} {t : TE} (h : QE X e t) (he : ∀ whole, isTrue e X.env whole = (do let v ← whole; standAt e.pos; holding [v] (truthy v)) := by intro _; rfl) : QT X e (tB t) := ⟨L2.pt_val h.p he⟩
theorem pw_or {X : Cx} {a : Expr} {b : Expr} {pos : Pos} {tA : TT} {tB' : TT} {rest : List Expr} (ha : QT X a tA) (hb : QW X (.BoolOp .Or (b :: rest) pos) tB') : QW X (.BoolOp .Or (a :: b :: rest) pos) (tOr tA tB') := ⟨L2.pw_or ha.p hb.p⟩
theorem pw_or1 {X : Cx} {a : Expr} {pos : Pos} {tA : TT} (ha : QT X a tA) : QW X (.BoolOp .Or [a] pos) tA := ⟨L2.pw_or1 ha.p⟩
theorem ps_fldX0 {X : Cx} {o : Expr} {value : Expr} {f : Str} {pos : Pos} {pos' : Pos} {ta : TE} {tv : TE} {K : PySem.W.Frag} (ha : QE X o ta) (hv : QE X value tv) (hs : swapsWith value (some (.Attribute o f pos')) pos.line X.env = pure false := by rfl) (hK : X.K = K := by rfl) : QS X (.Assign [.Attribute o f pos'] value pos) (sFldX0 K ta tv f) := ⟨L2.ps_fldX0 ha.p hv.p hs hK⟩
theorem ps_fldX1 {X : Cx} {o : Expr} {value : Expr} {f : Str} {pos : Pos} {pos' : Pos} {ta : TE} {tv : TE} {K : PySem.W.Frag} (ha : QE X o ta) (hv : QE X value tv) (hs : swapsWith value (some (.Attribute o f pos')) pos.line X.env = pure false := by rfl) (hK : X.K = K := by rfl) : QS X (.Assign [.Attribute o f pos'] value pos) (sFldX1 K ta tv f) := ⟨L2.ps_fldX1 ha.p hv.p hs hK⟩
theorem pe_fldX {X : Cx} {e : Expr} {f : Str} {pos : Pos} {ta : TE} {K : PySem.W.Frag} (he : QE X e ta) (hb : attributeBase e f X.env (eval e X.env) = eval e X.env := by rfl) (hK : X.K = K := by rfl) : QE X (.Attribute e f pos) (tFldX K ta f) := ⟨L2.pe_fldX he.p hb hK⟩
theorem pe_initX {X : Cx} {e : Expr} {es : List Expr} {d : Str} {pos : Pos} {apos : Pos} {p : Pos} {t : TA} {K : PySem.W.Frag} {pl : Sem Bool} {B : Addr} (hg : Gl X d) (hm : X.mg d = some (.ref B)) (b : XBase X.K B) (ha : QA X (e :: es) t) (hdb : (d == ("__debug__" : Str)) = false := by decide +kernel)
    (hst : (e :: es).all notStar = true := by rfl)
    (ht : eval (.Call (.Attribute (.Name d p) "__init__" apos) (e :: es) [] pos) X.env = (do
      let ov ← eval (.Name d p) X.env
      standAt apos.atName
      let (g0, first) ← holding [ov] (getMethod ov "__init__" pl)
      callWith pos g0 first (backTo pos (starEach (e :: es) X.env)) (backToKw pos (keywordEach [] X.env))) := by rfl) (hK : X.K = K := by rfl) :
    QE X (.Call (.Attribute (.Name d p) "__init__" apos) (e :: es) [] pos) (tInit K t) := ⟨L2.pe_initX hg hm b ha.p hdb hst ht hK⟩
theorem pe_makeX {X : Cx} {C : Addr} {ps : List Str} {k : Nat} {sp : Sp} {x : Str} {e : Expr} {es : List Expr} {t : TA} {p pos : Pos} (D : XDef X.prog X.w X.K X.mg X.base k x C ps sp) (hr : Room (k + 1) X.A) (hg : Gl X x) (hx : Passes CX0 X E0) (ha : QA X (e :: es) t) (hdb : (x == ("__debug__" : Str)) = false := by decide +kernel) (hs : (e :: es).all notStar = true := by rfl) :
    QE X (.Call (.Name x p) (e :: es) [] pos) (tMakeX C sp t) := ⟨L2.pe_makeX D hr hg hx ha.p hdb hs⟩
section
variable {P : Program} {w : World} {K : PySem.W.Frag} {mg : Str → Option Value} {base : Heap}
theorem defQ {x : Str} {st : Stmt} {N ps : List Str} {k : Nat} {sp : Sp} (F : Src K mg x ps st) (S : FnScope N ps (defScope st)) (len : ∀ vs H Q E, sp vs H Q E → vs.length = ps.length)
    (hbody : ∀ (f : Addr) (cdv : Value) (A : Around) (outer : List Env) (s : Shared) (H : Hp) (vs : List V) (Q : VK) (E : XK), Room k (A.deeper (envOfC x (defScope st) s.heap.objs.size f cdv)) → sp vs H Q E →
      ∃ t, QSs (cxOf CX0 P w K mg base N x (defScope st) f cdv A outer s H E).nox (defBody st) t ∧ t { nx := fun _ H' => Q .non H', rt := Q } (start N vs) H) : Def P w K mg base (k + 1) x ps sp :=
  F.def S len fun f cdv A outer s H vs Q E hr h => by
    obtain ⟨t, a, b⟩ := hbody f cdv A outer s H vs Q E hr h
    exact ⟨t, a.p, b⟩
theorem okQ {x qual : Str} {st : Stmt} {f : Addr} {fd : FuncData} {N ps : List Str} {k : Nat} {sp : Sp} (F : Fun K x qual st f fd) (S : FnScope N ps (defScope st)) (len : ∀ vs H Q E, sp vs H Q E → vs.length = ps.length)
    (hbody : ∀ (cdv : Value) (A : Around) (outer : List Env) (s : Shared) (H : Hp) (vs : List V) (Q : VK) (E : XK), Room k (A.deeper (envOfC qual (defScope st) s.heap.objs.size f cdv)) → sp vs H Q E →
      ∃ t, QSs (cxOf CX0 P w K mg base N qual (defScope st) f cdv A outer s H E).nox (defBody st) t ∧ t { nx := fun _ H' => Q .non H', rt := Q } (start N vs) H) : FnOk P w K mg base CX0 (k + 1) f fd ps sp :=
  F.ok S len fun cdv A outer s H vs Q E hr h => by
    obtain ⟨t, a, b⟩ := hbody cdv A outer s H vs Q E hr h
    exact ⟨t, a.p, b⟩
theorem by1 {p : List Value → Prop} (h : ∀ a, p [a]) (us : List Value) (e : us.length = 1) : p us := by
  cases us with
  | nil => cases e
  | cons a r =>
    have e : r = [] := List.eq_nil_of_length_eq_zero (Nat.succ.inj e)
    subst e; exact h a
theorem by2 {p : List Value → Prop} (h : ∀ a b, p [a, b]) (us : List Value) (e : us.length = 2) : p us := by
  cases us with
  | nil => cases e
  | cons a r => exact by1 (p := fun r => p (a :: r)) (h a) r (Nat.succ.inj e)
theorem by3 {p : List Value → Prop} (h : ∀ a b c, p [a, b, c]) (us : List Value) (e : us.length = 3) : p us := by
  cases us with
  | nil => cases e
  | cons a r => exact by2 (p := fun r => p (a :: r)) (h a) r (Nat.succ.inj e)
theorem by4 {p : List Value → Prop} (h : ∀ a b c d, p [a, b, c, d]) (us : List Value) (e : us.length = 4) : p us := by
  cases us with
  | nil => cases e
  | cons a r => exact by3 (p := fun r => p (a :: r)) (h a) r (Nat.succ.inj e)
theorem src_mk {x : Str} {st : Stmt} {f : Addr} {oc : Value} {od an : Option Addr} {osl : Array (Option Value)} {kV doc pm cdv ct : Value} {h : Heap} {ps : List Str} (X : K.In h) (G : h.Ns mainGlobals mg)
    (a : PySem.W.nsIn K mainGlobals x = some (some (.ref f))) (l : K.lookup f = some ⟨oc, od, .func (PySem.W.fnOf x x (defArgs st) (defBody st) (defScope st) .none kV doc pm an cdv ct), osl⟩)
    (c : PySem.W.codeIn K cdv x = true) (k : PySem.W.keepIn K (.ref f) = true)
    (b : ∀ (kV doc pm : Value) (an : Option Addr) (cdv ct : Value) (us : List Value), us.length = ps.length → bindArgs (PySem.W.fnOf x x (defArgs st) (defBody st) (defScope st) .none kV doc pm an cdv ct) ⟨us, []⟩ = pure (ps.zip us)) : Src K mg x ps st :=
  ⟨f, _, fun_mk (st := st) l c k, PySem.W.mg_of X G a, (fun_mk (st := st) l c k).binds b⟩
end
end J

set_option Elab.async false
set_option linter.all false
set_option maxRecDepth 100000
set_option maxHeartbeats 4000000
namespace K15
open PySem L2
noncomputable def top (i : Nat) : Stmt := PySem.Challenge.pw_pathask_k15_refusals_apart.main.body.getD i (.Pass ⟨0, 0, 0, 0⟩)
noncomputable abbrev sNoKnot : Stmt := inClass (top 2) 0
noncomputable abbrev NscNoKnot : List Str := ["self", "name"]
noncomputable abbrev PscNoKnot : List Str := ["self", "name"]
theorem scNoKnot : FnScope NscNoKnot PscNoKnot (defScope sNoKnot) := ⟨rfl, rfl, rfl, by decide +kernel, rfl, by decide +kernel, by decide +kernel⟩
noncomputable abbrev sNoMark : Stmt := inClass (top 3) 0
noncomputable abbrev NscNoMark : List Str := ["self", "name"]
noncomputable abbrev PscNoMark : List Str := ["self", "name"]
theorem scNoMark : FnScope NscNoMark PscNoMark (defScope sNoMark) := ⟨rfl, rfl, rfl, by decide +kernel, rfl, by decide +kernel, by decide +kernel⟩
noncomputable abbrev sNoName : Stmt := inClass (top 4) 0
noncomputable abbrev NscNoName : List Str := ["self", "name"]
noncomputable abbrev PscNoName : List Str := ["self", "name"]
theorem scNoName : FnScope NscNoName PscNoName (defScope sNoName) := ⟨rfl, rfl, rfl, by decide +kernel, rfl, by decide +kernel, by decide +kernel⟩
noncomputable abbrev sTwice : Stmt := inClass (top 5) 0
noncomputable abbrev NscTwice : List Str := ["self", "name"]
noncomputable abbrev PscTwice : List Str := ["self", "name"]
theorem scTwice : FnScope NscTwice PscTwice (defScope sTwice) := ⟨rfl, rfl, rfl, by decide +kernel, rfl, by decide +kernel, by decide +kernel⟩
noncomputable abbrev sTooMany : Stmt := inClass (top 6) 0
noncomputable abbrev NscTooMany : List Str := ["self", "word"]
noncomputable abbrev PscTooMany : List Str := ["self", "word"]
theorem scTooMany : FnScope NscTooMany PscTooMany (defScope sTooMany) := ⟨rfl, rfl, rfl, by decide +kernel, rfl, by decide +kernel, by decide +kernel⟩
noncomputable abbrev sNoTie : Stmt := inClass (top 7) 0
noncomputable abbrev NscNoTie : List Str := ["self", "tie"]
noncomputable abbrev PscNoTie : List Str := ["self", "tie"]
theorem scNoTie : FnScope NscNoTie PscNoTie (defScope sNoTie) := ⟨rfl, rfl, rfl, by decide +kernel, rfl, by decide +kernel, by decide +kernel⟩
noncomputable abbrev sNoMeet : Stmt := inClass (top 8) 0
noncomputable abbrev NscNoMeet : List Str := ["self", "knot"]
noncomputable abbrev PscNoMeet : List Str := ["self", "knot"]
theorem scNoMeet : FnScope NscNoMeet PscNoMeet (defScope sNoMeet) := ⟨rfl, rfl, rfl, by decide +kernel, rfl, by decide +kernel, by decide +kernel⟩
noncomputable abbrev sNoText : Stmt := inClass (top 9) 0
noncomputable abbrev NscNoText : List Str := ["self", "at"]
noncomputable abbrev PscNoText : List Str := ["self", "at"]
theorem scNoText : FnScope NscNoText PscNoText (defScope sNoText) := ⟨rfl, rfl, rfl, by decide +kernel, rfl, by decide +kernel, by decide +kernel⟩
noncomputable abbrev sNoLine : Stmt := inClass (top 10) 0
noncomputable abbrev NscNoLine : List Str := ["self", "at"]
noncomputable abbrev PscNoLine : List Str := ["self", "at"]
theorem scNoLine : FnScope NscNoLine PscNoLine (defScope sNoLine) := ⟨rfl, rfl, rfl, by decide +kernel, rfl, by decide +kernel, by decide +kernel⟩
noncomputable abbrev sNoWay : Stmt := inClass (top 11) 0
noncomputable abbrev NscNoWay : List Str := ["self", "count"]
noncomputable abbrev PscNoWay : List Str := ["self", "count"]
theorem scNoWay : FnScope NscNoWay PscNoWay (defScope sNoWay) := ⟨rfl, rfl, rfl, by decide +kernel, rfl, by decide +kernel, by decide +kernel⟩
noncomputable abbrev sTooLong : Stmt := inClass (top 12) 0
noncomputable abbrev NscTooLong : List Str := ["self", "count"]
noncomputable abbrev PscTooLong : List Str := ["self", "count"]
theorem scTooLong : FnScope NscTooLong PscTooLong (defScope sTooLong) := ⟨rfl, rfl, rfl, by decide +kernel, rfl, by decide +kernel, by decide +kernel⟩
noncomputable abbrev sGoesRound : Stmt := inClass (top 13) 0
noncomputable abbrev NscGoesRound : List Str := ["self", "ring"]
noncomputable abbrev PscGoesRound : List Str := ["self", "ring"]
theorem scGoesRound : FnScope NscGoesRound PscGoesRound (defScope sGoesRound) := ⟨rfl, rfl, rfl, by decide +kernel, rfl, by decide +kernel, by decide +kernel⟩
noncomputable abbrev sNoSuch : Stmt := inClass (top 14) 0
noncomputable abbrev NscNoSuch : List Str := ["self", "number"]
noncomputable abbrev PscNoSuch : List Str := ["self", "number"]
theorem scNoSuch : FnScope NscNoSuch PscNoSuch (defScope sNoSuch) := ⟨rfl, rfl, rfl, by decide +kernel, rfl, by decide +kernel, by decide +kernel⟩
noncomputable abbrev sNoPair : Stmt := inClass (top 15) 0
noncomputable abbrev NscNoPair : List Str := ["self", "one", "other"]
noncomputable abbrev PscNoPair : List Str := ["self", "one", "other"]
theorem scNoPair : FnScope NscNoPair PscNoPair (defScope sNoPair) := ⟨rfl, rfl, rfl, by decide +kernel, rfl, by decide +kernel, by decide +kernel⟩
noncomputable abbrev sCell : Stmt := top 17
noncomputable abbrev NscCell : List Str := ["_law_script", "_law_k", "_law_seed"]
noncomputable abbrev PscCell : List Str := ["_law_script", "_law_k"]
theorem scCell : FnScope NscCell PscCell (defScope sCell) := ⟨rfl, rfl, rfl, by decide +kernel, rfl, by decide +kernel, by decide +kernel⟩
noncomputable abbrev sFeed : Stmt := top 18
noncomputable abbrev NscFeed : List Str := ["_law_cell"]
noncomputable abbrev PscFeed : List Str := ["_law_cell"]
theorem scFeed : FnScope NscFeed PscFeed (defScope sFeed) := ⟨rfl, rfl, rfl, by decide +kernel, rfl, by decide +kernel, by decide +kernel⟩
noncomputable abbrev sNext : Stmt := top 19
noncomputable abbrev NscNext : List Str := ["_law_feed_here", "_law_many", "_law_found", "_law_one", "_law_two"]
noncomputable abbrev PscNext : List Str := ["_law_feed_here", "_law_many"]
theorem scNext : FnScope NscNext PscNext (defScope sNext) := ⟨rfl, rfl, rfl, by decide +kernel, rfl, by decide +kernel, by decide +kernel⟩
noncomputable abbrev sNames : Stmt := top 20
noncomputable abbrev NscNames : List Str := ["_law_feed_here", "_law_many", "_law_letters", "_law_word", "_law_way", "_law_turn", "_law_names_here", "_law_place", "_law_start", "_law_k", "_law_sign"]
noncomputable abbrev PscNames : List Str := ["_law_feed_here", "_law_many"]
theorem scNames : FnScope NscNames PscNames (defScope sNames) := ⟨rfl, rfl, rfl, by decide +kernel, rfl, by decide +kernel, by decide +kernel⟩
noncomputable abbrev sOwn : Stmt := top 21
noncomputable abbrev NscOwn : List Str := ["_law_e", "_law_some", "_law_words"]
noncomputable abbrev PscOwn : List Str := ["_law_e"]
theorem scOwn : FnScope NscOwn PscOwn (defScope sOwn) := ⟨rfl, rfl, rfl, by decide +kernel, rfl, by decide +kernel, by decide +kernel⟩
noncomputable abbrev sMade : Stmt := top 22
noncomputable abbrev NscMade : List Str := ["_law_way", "_law_names_here", "_law_number", "_law_ring", "_law_tie", "_law_some"]
noncomputable abbrev PscMade : List Str := ["_law_way", "_law_names_here", "_law_number", "_law_ring"]
theorem scMade : FnScope NscMade PscMade (defScope sMade) := ⟨rfl, rfl, rfl, by decide +kernel, rfl, by decide +kernel, by decide +kernel⟩
noncomputable abbrev sBorne : Stmt := top 23
noncomputable abbrev NscBorne : List Str := ["_law_e", "_law_way"]
noncomputable abbrev PscBorne : List Str := ["_law_e", "_law_way"]
theorem scBorne : FnScope NscBorne PscBorne (defScope sBorne) := ⟨rfl, rfl, rfl, by decide +kernel, rfl, by decide +kernel, by decide +kernel⟩
noncomputable abbrev sDue : Stmt := top 24
noncomputable abbrev NscDue : List Str := ["_law_way", "_law_names_here", "_law_number", "_law_ring", "_law_tie", "_law_some"]
noncomputable abbrev PscDue : List Str := ["_law_way", "_law_names_here", "_law_number", "_law_ring"]
theorem scDue : FnScope NscDue PscDue (defScope sDue) := ⟨rfl, rfl, rfl, by decide +kernel, rfl, by decide +kernel, by decide +kernel⟩
noncomputable abbrev sLaw : Stmt := top 25
noncomputable abbrev NscLaw : List Str := ["_law_script", "_law_words", "_law_feed_here", "_law_turn", "_law_k", "_law_way", "_law_names_here", "_law_number", "_law_ring", "_law_handed", "_law_e"]
noncomputable abbrev PscLaw : List Str := ["_law_script"]
theorem scLaw : FnScope NscLaw PscLaw (defScope sLaw) := ⟨rfl, rfl, rfl, by decide +kernel, rfl, by decide +kernel, by decide +kernel⟩
noncomputable def fname : Nat → Str
  | 0 => "name"
  | 1 => "name"
  | 2 => "name"
  | 3 => "name"
  | 4 => "word"
  | 5 => "tie"
  | 6 => "knot"
  | 7 => "at"
  | 8 => "at"
  | 9 => "count"
  | 10 => "count"
  | 11 => "ring"
  | 12 => "number"
  | 13 => "one"
  | _ => ""
noncomputable def wordOf : Nat → Str
  | 0 => "knot"
  | 1 => "mark"
  | 2 => "name"
  | 3 => "twice"
  | 4 => "toomany"
  | 5 => "tie"
  | 6 => "meet"
  | 7 => "text"
  | 8 => "line"
  | 9 => "way"
  | 10 => "toolong"
  | 11 => "round"
  | 12 => "such"
  | 13 => "pair"
  | _ => ""
/-- what the top leaves of the names that are read: cs the classes, CP their base -/
structure Txt (K : PySem.W.Frag) (mg : Str → Option Value) (cs : Nat → Addr) (CP : Addr) : Prop where
  len : mg "len" = none
  isinstance : mg "isinstance" = none
  max : mg "max" = none
  range : mg "range" = none
  list : mg "list" = none
  repr : mg "repr" = none
  ValueError : mg "ValueError" = none
  at_PathError : mg "PathError" = some (.ref CP)
  base_PathError : XBase K CP
  g_NoKnot : mg "NoKnot" = some (.ref (cs 0))
  g_NoMark : mg "NoMark" = some (.ref (cs 1))
  g_NoName : mg "NoName" = some (.ref (cs 2))
  g_Twice : mg "Twice" = some (.ref (cs 3))
  g_TooMany : mg "TooMany" = some (.ref (cs 4))
  g_NoTie : mg "NoTie" = some (.ref (cs 5))
  g_NoMeet : mg "NoMeet" = some (.ref (cs 6))
  g_NoText : mg "NoText" = some (.ref (cs 7))
  g_NoLine : mg "NoLine" = some (.ref (cs 8))
  g_NoWay : mg "NoWay" = some (.ref (cs 9))
  g_TooLong : mg "TooLong" = some (.ref (cs 10))
  g_GoesRound : mg "GoesRound" = some (.ref (cs 11))
  g_NoSuch : mg "NoSuch" = some (.ref (cs 12))
  g_NoPair : mg "NoPair" = some (.ref (cs 13))
  xi : ∀ i, i < 14 → XIs K (cs i)
  kit : ∀ i j, i < 14 → j < 14 → PySem.W.kitOne K (.ref (cs i)) (.ref (cs j)) = some (i == j)
  kitP : ∀ i, i < 14 → PySem.W.kitOne K (.ref (cs i)) (.ref CP) = some true
  kitV : ∀ i, i < 14 → PySem.W.kitOne K (.ref (cs i)) (.type "ValueError") = some true
  fl : ∀ i, i < 14 → PySem.W.findIn K (.ref (cs i)) (fname i) = some none
  fo : PySem.W.findIn K (.ref (cs 13)) "other" = some none
section
variable {K : PySem.W.Frag} {mg : Str → Option Value} {cs : Nat → Addr} {CP : Addr}
theorem Txt.pe_NoKnot {X : Cx} {pos : Pos} (T : Txt K mg cs CP) (hg : Gl X "NoKnot" := by rfl) (hm : X.mg = mg := by rfl) : J.QE X (.Name "NoKnot" pos) (tC (.ref (cs 0))) := ⟨pe_glob hg (by rw [hm]; exact T.g_NoKnot) rfl (by decide +kernel)⟩
theorem Txt.pe_NoMark {X : Cx} {pos : Pos} (T : Txt K mg cs CP) (hg : Gl X "NoMark" := by rfl) (hm : X.mg = mg := by rfl) : J.QE X (.Name "NoMark" pos) (tC (.ref (cs 1))) := ⟨pe_glob hg (by rw [hm]; exact T.g_NoMark) rfl (by decide +kernel)⟩
theorem Txt.pe_NoName {X : Cx} {pos : Pos} (T : Txt K mg cs CP) (hg : Gl X "NoName" := by rfl) (hm : X.mg = mg := by rfl) : J.QE X (.Name "NoName" pos) (tC (.ref (cs 2))) := ⟨pe_glob hg (by rw [hm]; exact T.g_NoName) rfl (by decide +kernel)⟩
theorem Txt.pe_Twice {X : Cx} {pos : Pos} (T : Txt K mg cs CP) (hg : Gl X "Twice" := by rfl) (hm : X.mg = mg := by rfl) : J.QE X (.Name "Twice" pos) (tC (.ref (cs 3))) := ⟨pe_glob hg (by rw [hm]; exact T.g_Twice) rfl (by decide +kernel)⟩
theorem Txt.pe_TooMany {X : Cx} {pos : Pos} (T : Txt K mg cs CP) (hg : Gl X "TooMany" := by rfl) (hm : X.mg = mg := by rfl) : J.QE X (.Name "TooMany" pos) (tC (.ref (cs 4))) := ⟨pe_glob hg (by rw [hm]; exact T.g_TooMany) rfl (by decide +kernel)⟩
theorem Txt.pe_NoTie {X : Cx} {pos : Pos} (T : Txt K mg cs CP) (hg : Gl X "NoTie" := by rfl) (hm : X.mg = mg := by rfl) : J.QE X (.Name "NoTie" pos) (tC (.ref (cs 5))) := ⟨pe_glob hg (by rw [hm]; exact T.g_NoTie) rfl (by decide +kernel)⟩
theorem Txt.pe_NoMeet {X : Cx} {pos : Pos} (T : Txt K mg cs CP) (hg : Gl X "NoMeet" := by rfl) (hm : X.mg = mg := by rfl) : J.QE X (.Name "NoMeet" pos) (tC (.ref (cs 6))) := ⟨pe_glob hg (by rw [hm]; exact T.g_NoMeet) rfl (by decide +kernel)⟩
theorem Txt.pe_NoText {X : Cx} {pos : Pos} (T : Txt K mg cs CP) (hg : Gl X "NoText" := by rfl) (hm : X.mg = mg := by rfl) : J.QE X (.Name "NoText" pos) (tC (.ref (cs 7))) := ⟨pe_glob hg (by rw [hm]; exact T.g_NoText) rfl (by decide +kernel)⟩
theorem Txt.pe_NoLine {X : Cx} {pos : Pos} (T : Txt K mg cs CP) (hg : Gl X "NoLine" := by rfl) (hm : X.mg = mg := by rfl) : J.QE X (.Name "NoLine" pos) (tC (.ref (cs 8))) := ⟨pe_glob hg (by rw [hm]; exact T.g_NoLine) rfl (by decide +kernel)⟩
theorem Txt.pe_NoWay {X : Cx} {pos : Pos} (T : Txt K mg cs CP) (hg : Gl X "NoWay" := by rfl) (hm : X.mg = mg := by rfl) : J.QE X (.Name "NoWay" pos) (tC (.ref (cs 9))) := ⟨pe_glob hg (by rw [hm]; exact T.g_NoWay) rfl (by decide +kernel)⟩
theorem Txt.pe_TooLong {X : Cx} {pos : Pos} (T : Txt K mg cs CP) (hg : Gl X "TooLong" := by rfl) (hm : X.mg = mg := by rfl) : J.QE X (.Name "TooLong" pos) (tC (.ref (cs 10))) := ⟨pe_glob hg (by rw [hm]; exact T.g_TooLong) rfl (by decide +kernel)⟩
theorem Txt.pe_GoesRound {X : Cx} {pos : Pos} (T : Txt K mg cs CP) (hg : Gl X "GoesRound" := by rfl) (hm : X.mg = mg := by rfl) : J.QE X (.Name "GoesRound" pos) (tC (.ref (cs 11))) := ⟨pe_glob hg (by rw [hm]; exact T.g_GoesRound) rfl (by decide +kernel)⟩
theorem Txt.pe_NoSuch {X : Cx} {pos : Pos} (T : Txt K mg cs CP) (hg : Gl X "NoSuch" := by rfl) (hm : X.mg = mg := by rfl) : J.QE X (.Name "NoSuch" pos) (tC (.ref (cs 12))) := ⟨pe_glob hg (by rw [hm]; exact T.g_NoSuch) rfl (by decide +kernel)⟩
theorem Txt.pe_NoPair {X : Cx} {pos : Pos} (T : Txt K mg cs CP) (hg : Gl X "NoPair" := by rfl) (hm : X.mg = mg := by rfl) : J.QE X (.Name "NoPair" pos) (tC (.ref (cs 13))) := ⟨pe_glob hg (by rw [hm]; exact T.g_NoPair) rfl (by decide +kernel)⟩
theorem Txt.pe_PathError {X : Cx} {pos : Pos} (T : Txt K mg cs CP) (hg : Gl X "PathError" := by rfl) (hm : X.mg = mg := by rfl) : J.QE X (.Name "PathError" pos) (tC (.ref CP)) := ⟨pe_glob hg (by rw [hm]; exact T.at_PathError) rfl (by decide +kernel)⟩
end
/-! ### the feed -/
noncomputable def fd3 (l s d : Int) : List (Key × V) := [(Sum.inr "left", .int l), (Sum.inr "seed", .int s), (Sum.inr "drawn", .int d)]
noncomputable def FeedAt (H : Hp) (p : Addr) (d : Nat) : Prop := ∃ l s : Int, H p = some (.dK (fd3 l s d)) ∧ 0 ≤ l ∧ 0 ≤ s ∧ s < 1000003
theorem p_drawn {l s d z : Int} : putK (fd3 l s d) (Sum.inr "drawn") (.int z) = fd3 l s z := rfl
theorem p_left {l s d z : Int} : putK (fd3 l s d) (Sum.inr "left") (.int z) = fd3 z s d := rfl
section
variable {P : Program} {w : World} {K : PySem.W.Frag} {mg : Str → Option Value} {base : Heap} {cs : Nat → Addr} {CP : Addr}
noncomputable def spCell (K : PySem.W.Frag) : Sp := fun vs H Q _ => ∃ (a : Addr) (ns : List Int) (k : Nat), vs = [.ref a, .int k] ∧ SqL K H a (ns.map V.int) ∧ k < 1000 ∧ ∀ z, Q (.int z) H
theorem d_Cell (T : Txt K mg cs CP) (F : Src K mg "_law_cell_at" PscCell sCell) : Def P w K mg base 1 "_law_cell_at" PscCell (spCell K) := by
  refine J.defQ F scCell (fun vs H Q E h => ?_) (fun f cdv A outer s H vs Q E hr h => ?_)
  · obtain ⟨a, ns, k, rfl, _⟩ := h; rfl
  · obtain ⟨a, ns, k, rfl, hS, hk, q⟩ := h
    refine ⟨_, (J.pss_cons (J.ps_if (J.pt_cmpR op_lt (J.pv 1) (J.pcb c_len (by rfl) T.len (by decide +kernel) (J.pac (J.pv 0) J.pa_nil)) (nomark _))
        (J.pss_one (J.ps_ret (J.pe_ix ixL (J.pv 0) (J.pv 1) (fun _ _ => rfl))))
        J.pss_nil)
      (J.pss_cons (J.ps_set (i := 2) scCell.nd rfl (Or.inl rfl) J.pe_int)
      (J.pss_cons (J.ps_if (J.pt_cmpR op_gt (J.pcb c_len (by rfl) T.len (by decide +kernel) (J.pac (J.pv 0) J.pa_nil)) J.pe_int (nomark _))
        (J.pss_one (J.ps_set (i := 2) scCell.nd rfl (Or.inl rfl) (J.pe_ix ixL (J.pv 0) (J.pe_op op_mod (J.pv 1) (J.pcb c_len (by rfl) T.len (by decide +kernel) (J.pac (J.pv 0) J.pa_nil))) (fun _ _ => rfl))))
        J.pss_nil)
      (J.pss_one (J.ps_ret (J.pe_op op_add (J.pe_op op_add (J.pe_op op_mul (J.pe_op op_mod (J.pv 2) J.pe_int) J.pe_int) (J.pe_op op_mul J.pe_int (J.pv 1))) J.pe_int)))))), ?_⟩
    have hl : LenV K (.ref a) H ns.length := .inl ⟨_, hS, by simp⟩
    refine ⟨_, rfl, _, rfl, _, _, rfl, hl, _, _, rfl, rfl, _, rfl, ?_⟩
    refine ite2 (fun h => ?_) (fun h => ?_)
    · have hlt : k < ns.length := by simpa using h
      have e : (ns.map V.int)[k]? = some (V.int ns[k]) := by simp [hlt]
      exact ⟨_, rfl, _, rfl, a, _, _, _, rfl, rfl, hS, atI_nat e, q _⟩
    · refine ⟨_, rfl, _, _, rfl, hl, _, _, rfl, rfl, _, rfl, ?_⟩
      have fin : ∀ z : Int, (tRet (tOp (rI0 fun i j => .int (i + j)) (tOp (rI0 fun i j => .int (i + j)) (tOp (rI CMul fun i j => .int (i * j)) (tOp (rI (fun _ j => 0 < j) fun i j => .int (i % j)) (tVar 2) (tC (.int 1000003))) (tC (.int 48271))) (tOp (rI CMul fun i j => .int (i * j)) (tC (.int 7919)) (tVar 1))) (tC (.int 1)))) { nx := fun _ H' => Q .non H', rt := Q } [some (.ref a), some (.int k), some (.int z)] H := fun z => by
        refine ⟨_, rfl, _, _, rfl, rfl, (by show (0 : Int) < 1000003; decide), _, _, rfl, rfl, .inr ⟨by decide, by decide⟩, _, rfl, _, _, rfl, rfl, .inl ⟨by decide, by decide⟩, _, _, rfl, rfl, _, _, rfl, rfl, q _⟩
      refine ite2 (fun h => ?_) (fun h => ?_)
      · have hp : 0 < ns.length := by simpa using h
        have hm : k % ns.length < ns.length := Nat.mod_lt _ hp
        have e : (ns.map V.int)[k % ns.length]? = some (V.int ns[k % ns.length]) := by simp [hm]
        have e2 : ((k : Int) % (ns.length : Int)) = ((k % ns.length : Nat) : Int) := by simp
        refine ⟨_, rfl, _, rfl, _, rfl, _, _, rfl, hl, _, _, rfl, rfl, (by show (0 : Int) < (ns.length : Int); omega), a, _, _, _, rfl, rfl, hS, (by rw [e2]; exact atI_nat e), fin _⟩
      · exact fin 0
noncomputable def spFeed : Sp := fun vs H Q _ => ∃ z : Int, vs = [.int z] ∧ ∀ p H', H p = none → FeedAt H' p 0 → (∀ b o, H b = some o → H' b = some o) → Q (.ref p) H'
theorem d_Feed (T : Txt K mg cs CP) (F : Src K mg "_law_feed" PscFeed sFeed) : Def P w K mg base 1 "_law_feed" PscFeed spFeed := by
  refine J.defQ F scFeed (fun vs H Q E h => ?_) (fun f cdv A outer s H vs Q E hr h => ?_)
  · obtain ⟨z, rfl, _⟩ := h; rfl
  · obtain ⟨z, rfl, q⟩ := h
    refine ⟨_, (J.pss_one (J.ps_ret (J.pe_disp (J.pps_cons J.pe_str (J.pcb (call_max2 rfl) (by rfl) T.max (by decide +kernel) (J.pac J.pe_int (J.pac (J.pe_op op_sub (J.pv 0) (J.pe_op op_pow J.pe_int J.pe_int)) J.pa_nil))) (J.pps_cons J.pe_str (J.pe_op op_mod (J.pv 0) J.pe_int) (J.pps_cons J.pe_str J.pe_int J.pps_nil))) rfl rfl (by simp) (by decide)))), ?_⟩
    intro p hp
    refine ⟨_, rfl, _, _, rfl, rfl, ⟨by decide, by decide, by decide⟩, _, _, rfl, rfl, _, _, rfl, ?_⟩
    refine ⟨_, rfl, _, _, rfl, rfl, (by show (0 : Int) < 1000003; decide), upd_same, fd3 _ _ 0, rfl, (by show 3 ≤ 15; decide), ?_⟩
    refine q p _ hp ⟨_, _, upd_same, ?_, ?_, ?_⟩ fun b o e => ?_
    · split <;> omega
    · exact Int.emod_nonneg _ (by decide)
    · exact Int.emod_lt_of_pos _ (by decide)
    · rw [upd_ne (ne_of_none e hp), upd_ne (ne_of_none e hp)]; exact e
noncomputable def spNext : Sp := fun vs H Q _ => ∃ (p : Addr) (n : Int) (d : Nat), vs = [.ref p, .int n] ∧ FeedAt H p d ∧ d < 1000 ∧ 0 < n ∧ n < 1000 ∧
  ∀ (z : Int) (H' : Hp), 0 ≤ z → z < n → FeedAt H' p (d + 1) → (∀ b o, H b = some o → b ≠ p → H' b = some o) → Q (.int z) H'
theorem d_Next (T : Txt K mg cs CP) (F : Src K mg "_law_next" PscNext sNext) : Def P w K mg base 1 "_law_next" PscNext spNext := by
  refine J.defQ F scNext (fun vs H Q E h => ?_) (fun f cdv A outer s H vs Q E hr h => ?_)
  · obtain ⟨p, n, d, rfl, _⟩ := h; rfl
  · obtain ⟨p, n, d, rfl, ⟨l, sd, hp, hl, hs0, hs1⟩, hd, hn0, hn1, q⟩ := h
    have hu := hu_of hr
    refine ⟨_, (J.pss_cons (J.ps_dput hu (J.pv 0) J.pe_str (J.pe_op op_add (J.pe_dget hu (J.pv 0) J.pe_str (fun _ _ => rfl)) J.pe_int) rfl)
      (J.pss_cons (J.ps_if (J.pt_cmpR op_gt (J.pe_dget hu (J.pv 0) J.pe_str (fun _ _ => rfl)) J.pe_int (nomark _))
        (J.pss_cons (J.ps_set (i := 2) scNext.nd rfl (Or.inl rfl) (J.pe_op op_mod (J.pe_dget hu (J.pv 0) J.pe_str (fun _ _ => rfl)) (J.pv 1)))
        (J.pss_cons (J.ps_dput hu (J.pv 0) J.pe_str (J.pe_op op_fdiv (J.pe_dget hu (J.pv 0) J.pe_str (fun _ _ => rfl)) (J.pv 1)) rfl)
        (J.pss_one (J.ps_ret (J.pv 2)))))
        J.pss_nil)
      (J.pss_cons (J.ps_set (i := 3) scNext.nd rfl (Or.inl rfl) (J.pe_op op_mod (J.pe_op op_mul (J.pe_op op_add (J.pe_dget hu (J.pv 0) J.pe_str (fun _ _ => rfl)) J.pe_int) (J.pe_op op_add (J.pe_op op_mul (J.pe_dget hu (J.pv 0) J.pe_str (fun _ _ => rfl)) (J.pe_dget hu (J.pv 0) J.pe_str (fun _ _ => rfl))) J.pe_int)) J.pe_int))
      (J.pss_cons (J.ps_set (i := 4) scNext.nd rfl (Or.inl rfl) (J.pe_op op_mod (J.pe_op op_add (J.pe_op op_mul (J.pv 3) (J.pv 3)) (J.pe_op op_mul J.pe_int (J.pe_dget hu (J.pv 0) J.pe_str (fun _ _ => rfl)))) J.pe_int))
      (J.pss_one (J.ps_ret (J.pe_op op_mod (J.pe_op op_mod (J.pe_op op_add (J.pe_op op_mul (J.pv 4) (J.pv 4)) (J.pe_op op_mul J.pe_int (J.pv 3))) J.pe_int) (J.pv 1)))))))), ?_⟩
    have e1 : ((d : Int) + 1) = ((d + 1 : Nat) : Int) := by omega
    refine ⟨_, rfl, p, _, rfl, DGet.k (k := Sum.inr "drawn") hp, _, _, rfl, rfl, _, rfl, p, _, rfl, DPut.k (k := Sum.inr "drawn") hp (by show 3 < sizeLine; decide +kernel), ?_⟩
    have h1 : (upd H p (.dK (putK (fd3 l sd d) (Sum.inr "drawn") (.int ((d : Int) + 1))))) p = some (.dK (fd3 l sd (d + 1 : Nat))) := by rw [upd_same, p_drawn, e1]
    generalize hH : upd H p (.dK (putK (fd3 l sd d) (Sum.inr "drawn") (.int ((d : Int) + 1)))) = H1 at h1
    have k1 : ∀ b o, H b = some o → b ≠ p → H1 b = some o := fun b o e hb => by rw [← hH, upd_ne hb]; exact e
    refine ⟨_, rfl, p, _, rfl, DGet.k (k := Sum.inr "left") h1, _, _, rfl, rfl, _, rfl, ?_⟩
    refine ite2 (fun h => ?_) (fun h => ?_)
    · have hpos : 0 < l := by simpa using h
      refine ⟨_, rfl, p, _, rfl, DGet.k (k := Sum.inr "left") h1, _, rfl, _, _, rfl, rfl, hn0, ?_⟩
      refine ⟨_, rfl, p, _, rfl, DGet.k (k := Sum.inr "left") h1, _, rfl, _, _, rfl, rfl, ⟨hn0, by omega⟩, _, rfl, p, _, rfl, DPut.k (k := Sum.inr "left") h1 (by show 3 < sizeLine; decide +kernel), _, rfl, ?_⟩
      refine q _ _ (Int.emod_nonneg _ (by omega)) (Int.emod_lt_of_pos _ hn0) ⟨_, _, by rw [upd_same, p_left], Int.ediv_nonneg hl (by omega), hs0, hs1⟩ fun b o e hb => ?_
      rw [upd_ne hb]; exact k1 b o e hb
    · have gs := DGet.k (k := Sum.inr "seed") h1
      have gd := DGet.k (k := Sum.inr "drawn") h1
      have b1 := Int.emod_nonneg ((sd + 1) * (((d + 1 : Nat) : Int) * ((d + 1 : Nat) : Int) + 48271)) (show (65537 : Int) ≠ 0 by decide)
      have b2 := Int.emod_lt_of_pos ((sd + 1) * (((d + 1 : Nat) : Int) * ((d + 1 : Nat) : Int) + 48271)) (show (0 : Int) < 65537 by decide)
      refine ⟨_, rfl, p, _, rfl, gs, _, _, rfl, rfl, _, rfl, p, _, rfl, gd, _, rfl, p, _, rfl, gd, _, _, rfl, rfl, .inl ⟨by omega, by omega⟩, _, _, rfl, rfl, _, _, rfl, rfl, .inl ⟨by omega, by omega⟩, _, _, rfl, rfl, (by show (0 : Int) < 65537; decide), ?_⟩
      generalize ((sd + 1) * (((d + 1 : Nat) : Int) * ((d + 1 : Nat) : Int) + 48271)) % 65537 = one at b1 b2 ⊢
      have c1 := Int.emod_nonneg (one * one + 30269 * ((d + 1 : Nat) : Int)) (show (65521 : Int) ≠ 0 by decide)
      have c2 := Int.emod_lt_of_pos (one * one + 30269 * ((d + 1 : Nat) : Int)) (show (0 : Int) < 65521 by decide)
      refine ⟨_, rfl, _, rfl, _, _, rfl, rfl, .inl ⟨by omega, by omega⟩, _, rfl, p, _, rfl, gd, _, _, rfl, rfl, .inl ⟨by decide, by decide⟩, _, _, rfl, rfl, _, _, rfl, rfl, (by show (0 : Int) < 65521; decide), ?_⟩
      generalize (one * one + 30269 * ((d + 1 : Nat) : Int)) % 65521 = two at c1 c2 ⊢
      refine ⟨_, rfl, _, rfl, _, _, rfl, rfl, .inl ⟨by omega, by omega⟩, _, rfl, _, _, rfl, rfl, .inl ⟨by decide, by decide⟩, _, _, rfl, rfl, _, _, rfl, rfl, (by show (0 : Int) < 65519; decide), _, rfl, _, _, rfl, rfl, hn0, ?_⟩
      exact q _ _ (Int.emod_nonneg _ (by omega)) (Int.emod_lt_of_pos _ hn0) ⟨l, sd, h1, hl, hs0, hs1⟩ k1
end
end K15

set_option Elab.async false
set_option linter.all false
set_option maxRecDepth 100000
set_option maxHeartbeats 4000000
namespace K15
open PySem L2
theorem alloc {H : Hp} {p : Addr} {o : HO} (h : H p = none) : Same H (upd H p o) := fun b u e => by rw [upd_ne (ne_of_none e h)]; exact e
/-- a new exception -/
noncomputable def XNew (C : Addr) (H H' : Hp) (x : Addr) (fs : List (Str × V)) : Prop := ∃ dx, H' x = some (XO C (some dx) x) ∧ H' dx = some (XDt fs dx) ∧ dx ≠ x ∧ H dx = none
/-- what an __init__ of one argument promises; of two; of a ring -/
noncomputable def spX1 (C : Addr) (fn : Str) : Sp := fun vs H Q _ => ∃ x v, vs = [.ref x, v] ∧ H x = some (XO C none x) ∧ ∀ H', XNew C H H' x [(fn, v)] → (∀ b o, H b = some o → b ≠ x → H' b = some o) → Q .non H'
noncomputable def spX2 (C : Addr) : Sp := fun vs H Q _ => ∃ x v u, vs = [.ref x, v, u] ∧ H x = some (XO C none x) ∧ ∀ H', XNew C H H' x [("one", v), ("other", u)] → (∀ b o, H b = some o → b ≠ x → H' b = some o) → Q .non H'
noncomputable def spXR (K : PySem.W.Frag) (C : Addr) : Sp := fun vs H Q _ => ∃ x r ys, vs = [.ref x, .ref r] ∧ H x = some (XO C none x) ∧ SqL K H r ys ∧ ∀ l H', H l = none → H' l = some (.lst ys) → XNew C H H' x [("ring", .ref l)] → (∀ b o, H b = some o → b ≠ x → H' b = some o) → Q .non H'
structure XSrc (K : PySem.W.Frag) (mg : Str → Option Value) (x : Str) (C : Addr) (qual : Str) (ps : List Str) (st : Stmt) : Prop where
  ex : ∃ f fd, XMk K C f ∧ Fun K "__init__" qual st f fd ∧ Binds K fd ps []
section
variable {P : Program} {w : World} {K : PySem.W.Frag} {mg : Str → Option Value} {base : Heap} {cs : Nat → Addr} {CP : Addr}
theorem put1 {H : Hp} {x dx C : Addr} {fs : List (Str × V)} (e : H x = some (XO C none x)) (n : H dx = none) : XNew C H (upd (upd H x (XO C (some dx) x)) dx (XDt fs dx)) x fs ∧ ∀ b o, H b = some o → b ≠ x → upd (upd H x (XO C (some dx) x)) dx (XDt fs dx) b = some o := by
  have hne : x ≠ dx := ne_of_none e n
  refine ⟨⟨dx, by rw [upd_ne hne, upd_same], upd_same, hne.symm, n⟩, fun b o eb hb => ?_⟩
  rw [upd_ne (ne_of_none eb n), upd_ne hb]; exact eb
theorem xone_ok {i : Nat} {n qual fn : Str} {N : List Str} {a : Str} {st : Stmt} (hi : i < 14) (hfn : fname i = fn) (hN : N = (["self", a] : List Str)) (T : Txt K mg cs CP) (hg : mg n = some (.ref (cs i))) (S : FnScope N N (defScope st)) (F : XSrc K mg n (cs i) qual N st)
    (B : ∀ (f : Addr) (cdv : Value) (A : Around) (outer : List Env) (s : Shared) (H : Hp) (E : XK), J.QSs (cxOf CX0 P w K mg base N qual (defScope st) f cdv A outer s H E).nox (defBody st) (tSeq (tDrop (tInit K (tCons (tVar 0) (tCons (tVar 1) tNil)))) (sFldX0 K (tVar 0) (tVar 1) fn))) : XDef P w K mg base 1 n (cs i) N (spX1 (cs i) fn) := by
  subst hfn hN
  obtain ⟨f, fd, M, F', hb⟩ := F.ex
  refine ⟨⟨f, fd, M, J.okQ F' S (fun vs H Q E h => ?_) (fun cdv A outer s H vs Q E hr h => ?_), hb⟩, hg⟩
  · obtain ⟨x, v, rfl, _⟩ := h; rfl
  · obtain ⟨x, v, rfl, hx, q⟩ := h
    refine ⟨_, B f cdv A outer s H E, ?_⟩
    refine ⟨_, rfl, _, rfl, x, [v], cs i, none, rfl, (by show 1 ≤ 1000; decide), hx, (T.xi i hi).ex, _, rfl, _, rfl, x, cs i, rfl, hx, (T.xi i hi).toXCls, T.fl i hi, fun dx nd => ?_⟩
    exact q _ (put1 hx nd).1 (put1 hx nd).2
theorem d_NoKnot (T : Txt K mg cs CP) (F : XSrc K mg "NoKnot" (cs 0) "NoKnot.__init__" PscNoKnot sNoKnot) : XDef P w K mg base 1 "NoKnot" (cs 0) PscNoKnot (spX1 (cs 0) "name") :=
  xone_ok (by decide) rfl rfl T T.g_NoKnot scNoKnot F fun f cdv A outer s H E => (J.pss_cons (J.ps_expr (J.pe_initX (by rfl) T.at_PathError T.base_PathError (J.pac (J.pv 0) (J.pac (J.pv 1) J.pa_nil))))
      (J.pss_one (J.ps_fldX0 (J.pv 0) (J.pv 1))))
theorem d_NoMark (T : Txt K mg cs CP) (F : XSrc K mg "NoMark" (cs 1) "NoMark.__init__" PscNoMark sNoMark) : XDef P w K mg base 1 "NoMark" (cs 1) PscNoMark (spX1 (cs 1) "name") :=
  xone_ok (by decide) rfl rfl T T.g_NoMark scNoMark F fun f cdv A outer s H E => (J.pss_cons (J.ps_expr (J.pe_initX (by rfl) T.at_PathError T.base_PathError (J.pac (J.pv 0) (J.pac (J.pv 1) J.pa_nil))))
      (J.pss_one (J.ps_fldX0 (J.pv 0) (J.pv 1))))
theorem d_NoName (T : Txt K mg cs CP) (F : XSrc K mg "NoName" (cs 2) "NoName.__init__" PscNoName sNoName) : XDef P w K mg base 1 "NoName" (cs 2) PscNoName (spX1 (cs 2) "name") :=
  xone_ok (by decide) rfl rfl T T.g_NoName scNoName F fun f cdv A outer s H E => (J.pss_cons (J.ps_expr (J.pe_initX (by rfl) T.at_PathError T.base_PathError (J.pac (J.pv 0) (J.pac (J.pv 1) J.pa_nil))))
      (J.pss_one (J.ps_fldX0 (J.pv 0) (J.pv 1))))
theorem d_Twice (T : Txt K mg cs CP) (F : XSrc K mg "Twice" (cs 3) "Twice.__init__" PscTwice sTwice) : XDef P w K mg base 1 "Twice" (cs 3) PscTwice (spX1 (cs 3) "name") :=
  xone_ok (by decide) rfl rfl T T.g_Twice scTwice F fun f cdv A outer s H E => (J.pss_cons (J.ps_expr (J.pe_initX (by rfl) T.at_PathError T.base_PathError (J.pac (J.pv 0) (J.pac (J.pv 1) J.pa_nil))))
      (J.pss_one (J.ps_fldX0 (J.pv 0) (J.pv 1))))
theorem d_TooMany (T : Txt K mg cs CP) (F : XSrc K mg "TooMany" (cs 4) "TooMany.__init__" PscTooMany sTooMany) : XDef P w K mg base 1 "TooMany" (cs 4) PscTooMany (spX1 (cs 4) "word") :=
  xone_ok (by decide) rfl rfl T T.g_TooMany scTooMany F fun f cdv A outer s H E => (J.pss_cons (J.ps_expr (J.pe_initX (by rfl) T.at_PathError T.base_PathError (J.pac (J.pv 0) (J.pac (J.pv 1) J.pa_nil))))
      (J.pss_one (J.ps_fldX0 (J.pv 0) (J.pv 1))))
theorem d_NoTie (T : Txt K mg cs CP) (F : XSrc K mg "NoTie" (cs 5) "NoTie.__init__" PscNoTie sNoTie) : XDef P w K mg base 1 "NoTie" (cs 5) PscNoTie (spX1 (cs 5) "tie") :=
  xone_ok (by decide) rfl rfl T T.g_NoTie scNoTie F fun f cdv A outer s H E => (J.pss_cons (J.ps_expr (J.pe_initX (by rfl) T.at_PathError T.base_PathError (J.pac (J.pv 0) (J.pac (J.pv 1) J.pa_nil))))
      (J.pss_one (J.ps_fldX0 (J.pv 0) (J.pv 1))))
theorem d_NoMeet (T : Txt K mg cs CP) (F : XSrc K mg "NoMeet" (cs 6) "NoMeet.__init__" PscNoMeet sNoMeet) : XDef P w K mg base 1 "NoMeet" (cs 6) PscNoMeet (spX1 (cs 6) "knot") :=
  xone_ok (by decide) rfl rfl T T.g_NoMeet scNoMeet F fun f cdv A outer s H E => (J.pss_cons (J.ps_expr (J.pe_initX (by rfl) T.at_PathError T.base_PathError (J.pac (J.pv 0) (J.pac (J.pv 1) J.pa_nil))))
      (J.pss_one (J.ps_fldX0 (J.pv 0) (J.pv 1))))
theorem d_NoText (T : Txt K mg cs CP) (F : XSrc K mg "NoText" (cs 7) "NoText.__init__" PscNoText sNoText) : XDef P w K mg base 1 "NoText" (cs 7) PscNoText (spX1 (cs 7) "at") :=
  xone_ok (by decide) rfl rfl T T.g_NoText scNoText F fun f cdv A outer s H E => (J.pss_cons (J.ps_expr (J.pe_initX (by rfl) T.at_PathError T.base_PathError (J.pac (J.pv 0) (J.pac (J.pv 1) J.pa_nil))))
      (J.pss_one (J.ps_fldX0 (J.pv 0) (J.pv 1))))
theorem d_NoLine (T : Txt K mg cs CP) (F : XSrc K mg "NoLine" (cs 8) "NoLine.__init__" PscNoLine sNoLine) : XDef P w K mg base 1 "NoLine" (cs 8) PscNoLine (spX1 (cs 8) "at") :=
  xone_ok (by decide) rfl rfl T T.g_NoLine scNoLine F fun f cdv A outer s H E => (J.pss_cons (J.ps_expr (J.pe_initX (by rfl) T.at_PathError T.base_PathError (J.pac (J.pv 0) (J.pac (J.pv 1) J.pa_nil))))
      (J.pss_one (J.ps_fldX0 (J.pv 0) (J.pv 1))))
theorem d_NoWay (T : Txt K mg cs CP) (F : XSrc K mg "NoWay" (cs 9) "NoWay.__init__" PscNoWay sNoWay) : XDef P w K mg base 1 "NoWay" (cs 9) PscNoWay (spX1 (cs 9) "count") :=
  xone_ok (by decide) rfl rfl T T.g_NoWay scNoWay F fun f cdv A outer s H E => (J.pss_cons (J.ps_expr (J.pe_initX (by rfl) T.at_PathError T.base_PathError (J.pac (J.pv 0) (J.pac (J.pv 1) J.pa_nil))))
      (J.pss_one (J.ps_fldX0 (J.pv 0) (J.pv 1))))
theorem d_TooLong (T : Txt K mg cs CP) (F : XSrc K mg "TooLong" (cs 10) "TooLong.__init__" PscTooLong sTooLong) : XDef P w K mg base 1 "TooLong" (cs 10) PscTooLong (spX1 (cs 10) "count") :=
  xone_ok (by decide) rfl rfl T T.g_TooLong scTooLong F fun f cdv A outer s H E => (J.pss_cons (J.ps_expr (J.pe_initX (by rfl) T.at_PathError T.base_PathError (J.pac (J.pv 0) (J.pac (J.pv 1) J.pa_nil))))
      (J.pss_one (J.ps_fldX0 (J.pv 0) (J.pv 1))))
theorem d_NoSuch (T : Txt K mg cs CP) (F : XSrc K mg "NoSuch" (cs 12) "NoSuch.__init__" PscNoSuch sNoSuch) : XDef P w K mg base 1 "NoSuch" (cs 12) PscNoSuch (spX1 (cs 12) "number") :=
  xone_ok (by decide) rfl rfl T T.g_NoSuch scNoSuch F fun f cdv A outer s H E => (J.pss_cons (J.ps_expr (J.pe_initX (by rfl) T.at_PathError T.base_PathError (J.pac (J.pv 0) (J.pac (J.pv 1) J.pa_nil))))
      (J.pss_one (J.ps_fldX0 (J.pv 0) (J.pv 1))))
theorem d_NoPair (T : Txt K mg cs CP) (F : XSrc K mg "NoPair" (cs 13) "NoPair.__init__" PscNoPair sNoPair) : XDef P w K mg base 1 "NoPair" (cs 13) PscNoPair (spX2 (cs 13)) := by
  obtain ⟨f, fd, M, F, hb⟩ := F.ex
  refine ⟨⟨f, fd, M, J.okQ F scNoPair (fun vs H Q E h => ?_) (fun cdv A outer s H vs Q E hr h => ?_), hb⟩, T.g_NoPair⟩
  · obtain ⟨x, v, u, rfl, _⟩ := h; rfl
  · obtain ⟨x, v, u, rfl, hx, q⟩ := h
    refine ⟨_, (J.pss_cons (J.ps_expr (J.pe_initX (by rfl) T.at_PathError T.base_PathError (J.pac (J.pv 0) (J.pac (J.pv 1) (J.pac (J.pv 2) J.pa_nil)))))
      (J.pss_cons (J.ps_fldX0 (J.pv 0) (J.pv 1))
      (J.pss_one (J.ps_fldX1 (J.pv 0) (J.pv 2))))), ?_⟩
    refine ⟨_, rfl, _, rfl, _, rfl, x, [v, u], cs 13, none, rfl, (by show 2 ≤ 1000; decide), hx, (T.xi 13 (by decide)).ex, _, rfl, _, rfl, x, cs 13, rfl, hx, (T.xi 13 (by decide)).toXCls, T.fl 13 (by decide), fun dx nd => ?_⟩
    have hne : x ≠ dx := ne_of_none hx nd
    refine ⟨_, rfl, _, rfl, x, cs 13, dx, _, rfl, by rw [upd_ne hne, upd_same], upd_same, hne.symm, (by show 1 < 900; decide), (T.xi 13 (by decide)).toXCls, T.fo, ?_⟩
    have e : putF "other" u [(("one" : Str), v)] = ([("one", v), ("other", u)] : List (Str × V)) := by
      show (if (("one" : Str) = "other") then _ else _) = _
      rw [if_neg (by decide +kernel)]; rfl
    rw [e]
    refine q _ ⟨dx, by rw [upd_ne hne, upd_ne hne, upd_same], upd_same, hne.symm, nd⟩ fun b o eb hb => ?_
    rw [upd_ne (ne_of_none eb nd), upd_ne (ne_of_none eb nd), upd_ne hb]; exact eb
theorem d_GoesRound (T : Txt K mg cs CP) (F : XSrc K mg "GoesRound" (cs 11) "GoesRound.__init__" PscGoesRound sGoesRound) : XDef P w K mg base 1 "GoesRound" (cs 11) PscGoesRound (spXR K (cs 11)) := by
  obtain ⟨f, fd, M, F, hb⟩ := F.ex
  refine ⟨⟨f, fd, M, J.okQ F scGoesRound (fun vs H Q E h => ?_) (fun cdv A outer s H vs Q E hr h => ?_), hb⟩, T.g_GoesRound⟩
  · obtain ⟨x, r, ys, rfl, _⟩ := h; rfl
  · obtain ⟨x, r, ys, rfl, hx, hr0, q⟩ := h
    refine ⟨_, (J.pss_cons (J.ps_expr (J.pe_initX (by rfl) T.at_PathError T.base_PathError (J.pac (J.pv 0) (J.pac (J.pct c_listOf (by rfl) T.list (by decide +kernel) (J.pac (J.pv 1) J.pa_nil)) J.pa_nil))))
      (J.pss_one (J.ps_fldX0 (J.pv 0) (J.pct c_listOf (by rfl) T.list (by decide +kernel) (J.pac (J.pv 1) J.pa_nil))))), ?_⟩
    refine ⟨_, rfl, _, rfl, r, ys, rfl, .inl hr0, fun l1 n1 => ?_⟩
    have s1 : Same H (upd H l1 (.lst ys)) := alloc n1
    refine ⟨x, [.ref l1], cs 11, none, rfl, (by show 1 ≤ 1000; decide), s1 _ _ hx, (T.xi 11 (by decide)).ex, ?_⟩
    refine ⟨_, rfl, r, ys, rfl, .inl (s1.seq hr0), fun l2 n2 => ?_⟩
    have s2 : Same H (upd (upd H l1 (.lst ys)) l2 (.lst ys)) := s1.trans (alloc n2)
    refine ⟨_, rfl, x, cs 11, rfl, s2 _ _ hx, (T.xi 11 (by decide)).toXCls, T.fl 11 (by decide), fun dx nd => ?_⟩
    have hx2 := s2 _ _ hx
    have h2 : upd (upd H l1 (.lst ys)) l2 (.lst ys) l2 = some (.lst ys) := upd_same
    have hn2 : H l2 = none := s1.free n2
    obtain ⟨⟨dy, e1, e2, e3, e4⟩, kp⟩ := put1 (fs := [(("ring" : Str), V.ref l2)]) hx2 nd
    refine q l2 _ hn2 (kp _ _ h2 (ne_of_none hx hn2).symm) ⟨dy, e1, e2, e3, s2.free e4⟩ fun b o eb hb => kp b o (s2 _ _ eb) hb
end
end K15

set_option Elab.async false
set_option linter.all false
set_option maxRecDepth 100000
set_option maxHeartbeats 4000000
namespace K15
open PySem L2
theorem sl_asc {y : Str} {l u : Option Int} (h : Asc y) : Asc (Txt.slice y l u) := by
  unfold Txt.slice
  split
  · exact h
  · intro c hc
    have hc : c ∈ (Builtin.Str.strSliceIndices l u 1 y.length).filterMap (y.cps[·]?) := by simpa using hc
    obtain ⟨i, _, e⟩ := List.mem_filterMap.mp hc
    exact h c (by
      have : y.cps.toList[i]? = some c := by rw [← e]; simp
      exact List.mem_of_getElem? this)
theorem join_ok : ∀ ys : List Str, (∀ y ∈ ys, y.length = 1 ∧ Asc y) → (Str.join "" ys).length = ys.length ∧ Asc (Str.join "" ys)
  | [], _ => ⟨rfl, fun c hc => absurd hc (by simp [Str.join, Str.empty])⟩
  | [y], h => ⟨(h y (by simp)).1, (h y (by simp)).2⟩
  | y :: z :: r, h => by
    obtain ⟨h1, h2⟩ := join_ok (z :: r) fun x hx => h x (List.mem_cons_of_mem _ hx)
    obtain ⟨g1, g2⟩ := h y (by simp)
    have e : Str.join "" (y :: z :: r) = y ++ "" ++ Str.join "" (z :: r) := rfl
    rw [e]
    refine ⟨?_, (g2.append (asc_of (by decide +kernel))).append h2⟩
    rw [strLen_append, strLen_append, h1, g1]
    show 1 + 0 + _ = _
    simp; omega
theorem one_ok {c : Nat} (h : c < 128) : (⟨#[c]⟩ : Str).length = 1 ∧ Asc ⟨#[c]⟩ := ⟨rfl, fun d hd => by
  have : d = c := by simpa using hd
  omega⟩
theorem sum_one : ∀ ys : List Str, (∀ y ∈ ys, y.length = 1 ∧ Asc y) → (ys.map (·.length)).sum = ys.length
  | [], _ => rfl
  | y :: r, h => by
    rw [List.map_cons, List.sum_cons, sum_one r fun x hx => h x (List.mem_cons_of_mem _ hx), (h y (by simp)).1, List.length_cons]; omega
theorem FeedAt.same {H H' : Hp} {p : Addr} {d : Nat} (h : FeedAt H p d) (e : Same H H') : FeedAt H' p d := by
  obtain ⟨l, s, h1, h2⟩ := h
  exact ⟨l, s, e _ _ h1, h2⟩

theorem cut_from {xs : List V} {k : Nat} (h : k ≤ xs.length) : cutV xs (some (k : Int)) none = xs.drop k := by
  unfold cutV
  have e1 : HT.sIx xs.length 0 (some (k : Int)) = k := by rw [HT.sIx_nat]; omega
  have e2 : HT.sIx xs.length xs.length none = xs.length := by simp [HT.sIx]
  rw [e1, e2, List.take_of_length_le (by rw [List.length_drop]; omega)]
theorem cut_to {xs : List V} {k : Nat} (h : k ≤ xs.length) : cutV xs none (some (k : Int)) = xs.take k := by
  unfold cutV
  have e1 : HT.sIx xs.length xs.length (some (k : Int)) = k := by rw [HT.sIx_nat]; omega
  have e2 : HT.sIx xs.length 0 none = 0 := by simp [HT.sIx]
  rw [e1, e2, List.drop_zero, Nat.sub_zero]
noncomputable abbrev LET : Str := "abcdefghijklmnopqrstuvwxyz"
theorem let_len : LET.length = 26 := by decide +kernel
theorem let_asc : Asc LET := asc_of (by decide +kernel)
theorem let_at {k : Nat} (h : k < 26) : ∃ c, LET.cps.toList[k]? = some c ∧ c < 128 := by
  have hl : LET.cps.toList.length = 26 := by rw [Array.length_toList]; exact let_len
  refine ⟨LET.cps.toList[k]'(by omega), List.getElem?_eq_getElem _, let_asc _ (List.getElem_mem _)⟩
noncomputable def Nm (y : Str) : Prop := y.length ≤ 20 ∧ Asc y
theorem nm_lit {y : Str} (h : (decide (y.length ≤ 20) && ascB y) = true) : Nm y := by
  rw [Bool.and_eq_true] at h
  exact ⟨of_decide_eq_true h.1, asc_of h.2⟩
noncomputable def spNames : Sp := fun vs H Q _ => ∃ (p : Addr) (m d : Nat), vs = [.ref p, .int m] ∧ FeedAt H p d ∧ d + 20 < 1000 ∧ m ≤ 8 ∧
  ∀ (l : Addr) (ys : List Str) (H' : Hp) (d' : Nat), H l = none → H' l = some (.lst (ys.map V.str)) → ys.length = m → (∀ y ∈ ys, Nm y) → FeedAt H' p d' → d' ≤ d + 20 → (∀ b o, H b = some o → b ≠ p → H' b = some o) → Q (.ref l) H'
section
variable {P : Program} {w : World} {K : PySem.W.Frag} {mg : Str → Option Value} {base : Heap} {cs : Nat → Addr} {CP : Addr}
theorem d_Names (T : Txt K mg cs CP) (F : Src K mg "_law_names" PscNames sNames) (D_law_next : Def P w K mg base 1 "_law_next" PscNext spNext) : Def P w K mg base 2 "_law_names" PscNames spNames := by
  refine J.defQ F scNames (fun vs H Q E h => ?_) (fun f cdv A outer s H vs Q E hr h => ?_)
  · obtain ⟨p, m, d, rfl, _⟩ := h; rfl
  · obtain ⟨p, m, d, rfl, hf, hd, hm, q⟩ := h
    refine ⟨_, (J.pss_cons (J.ps_set (i := 2) scNames.nd rfl (Or.inr rfl) J.pe_str)
      (J.pss_cons (J.ps_set (i := 3) scNames.nd rfl (Or.inr rfl) (J.pe_bmK PySem.F.plainAttrs_str PySem.F.slot_str_join PySem.F.type_str_join m_join J.pe_str (J.pac (J.pe_comp (N := ["_law_k", "_law_letters", "_law_feed_here"]) (caps := [none, some 2, some 0]) (bs_mk (by decide +kernel)) (by rfl) (by rfl) rfl (J.pi_range1 (by rfl) T.range (J.pac J.pe_int J.pa_nil)) (fun _ _ _ _ => (J.pg_name (i := 0) (by decide +kernel : List.Nodup (["_law_k", "_law_letters", "_law_feed_here"] : List Str)) rfl (Or.inl rfl))) (fun _ _ _ _ => J.pts_nil) (fun _ _ _ _ => (J.pe_ix ix_str (J.pv 1) (J.pe_own D_law_next (hr.mono (by decide)) (by rfl) pass0 (J.pac (J.pv 2) (J.pac J.pe_int J.pa_nil))) (fun _ _ => rfl)))) J.pa_nil)))
      (J.pss_cons (J.ps_set (i := 4) scNames.nd rfl (Or.inl rfl) (J.pe_own D_law_next (hr.mono (by decide)) (by rfl) pass0 (J.pac (J.pv 0) (J.pac J.pe_int J.pa_nil))))
      (J.pss_cons (J.ps_set (i := 5) scNames.nd rfl (Or.inl rfl) (J.pe_own D_law_next (hr.mono (by decide)) (by rfl) pass0 (J.pac (J.pv 0) (J.pac J.pe_int J.pa_nil))))
      (J.pss_cons (J.ps_if (J.pt_cmpR op_eq (J.pv 4) J.pe_int (nomark _))
        (J.pss_one (J.ps_setComp (i := 6) scNames.nd rfl rfl (N := ["_law_k", "_law_word"]) (caps := [none, some 3]) (bs_mk (by decide +kernel)) (by rfl) (by rfl) rfl (J.pi_range1 (by rfl) T.range (J.pac J.pe_int J.pa_nil)) (fun _ _ _ _ => (J.pg_name (i := 0) (by decide +kernel : List.Nodup (["_law_k", "_law_word"] : List Str)) rfl (Or.inl rfl))) (fun _ _ _ _ => J.pts_nil) (fun _ _ _ _ => (J.pe_slice sl_str (J.pv 1) J.po_none (J.po_some (J.pe_op op_add (J.pv 0) J.pe_int))))))
        (J.pss_one (J.ps_if (J.pt_cmpR op_eq (J.pv 4) J.pe_int (nomark _))
          (J.pss_one (J.ps_set (i := 6) scNames.nd rfl (Or.inl rfl) (J.pe_lst (J.pac J.pe_str (J.pac J.pe_str (J.pac J.pe_str (J.pac J.pe_str (J.pac J.pe_str (J.pac J.pe_str (J.pac J.pe_str (J.pac J.pe_str J.pa_nil)))))))))))
          (J.pss_cons (J.ps_set (i := 7) scNames.nd rfl (Or.inl rfl) (J.pe_own D_law_next (hr.mono (by decide)) (by rfl) pass0 (J.pac (J.pv 0) (J.pac (J.pe_op op_add (J.pv 5) J.pe_int) J.pa_nil))))
          (J.pss_cons (J.ps_set (i := 8) scNames.nd rfl (Or.inl rfl) (J.pe_own D_law_next (hr.mono (by decide)) (by rfl) pass0 (J.pac (J.pv 0) (J.pac J.pe_int J.pa_nil))))
          (J.pss_cons (J.ps_set (i := 6) scNames.nd rfl (Or.inl rfl) (J.pe_lst J.pa_nil))
          (J.pss_one (J.ps_for PassesOwn.never rfl (J.pi_range1 (by rfl) T.range (J.pac J.pe_int J.pa_nil)) (J.pg_name (i := 9) scNames.nd rfl (Or.inl rfl))
            (J.pss_cons (J.ps_set (i := 10) scNames.nd rfl (Or.inl rfl) (J.pe_ix ix_str (J.pv 2) (J.pe_op op_mod (J.pe_op op_add (J.pv 8) (J.pe_op op_mul J.pe_int (J.pv 9))) J.pe_int) (fun _ _ => rfl)))
            (J.pss_one (J.ps_expr (J.pe_bmK PySem.F.plainAttrs_list PySem.F.slot_list_append PySem.F.type_list_append mt_append (J.pv 6) (J.pac (J.pe_op op_add_str (J.pe_op op_add_str (J.pe_slice sl_str (J.pv 3) J.po_none (J.po_some (J.pv 7))) (J.pv 10)) (J.pe_slice sl_str (J.pv 3) (J.po_some (J.pe_op op_add (J.pv 7) J.pe_int)) (J.po_some (J.pe_op op_add (J.pv 5) J.pe_int)))) J.pa_nil)))))))))))))
      (J.pss_one (J.ps_ret (J.pe_slice slL (J.pe_op op_cat (J.pe_slice slL (J.pv 6) (J.po_some (J.pv 5)) J.po_none) (J.pe_slice slL (J.pv 6) J.po_none (J.po_some (J.pv 5)))) J.po_none (J.po_some (J.pv 1)))))))))), ?_⟩
    obtain ⟨l0, s0, hp0, _⟩ := id hf
    -- the end, from a list of eight
    have fin : ∀ (l : Addr) (ys : List Str) (H2 : Hp) (t : Nat) (d2 : Nat) (v2 v3 v4 v7 v8 v9 v10 : Option V), H l = none → H2 l = some (.lst (ys.map V.str)) → ys.length = 8 → (∀ y ∈ ys, Nm y) → t < 8 → FeedAt H2 p d2 → d2 ≤ d + 20 → (∀ b o, H b = some o → b ≠ p → H2 b = some o) →
        (tRet (tSl (rSlL K) (tOp rCat (tSl (rSlL K) (tVar 6) (tPart (tVar 5)) tNoPart) (tSl (rSlL K) (tVar 6) tNoPart (tPart (tVar 5)))) tNoPart (tPart (tVar 1)))) { nx := fun _ H' => Q .non H', rt := Q }
          [some (.ref p), some (.int m), v2, v3, v4, some (.int t), some (.ref l), v7, v8, v9, v10] H2 := by
      intro l ys H2 t d2 v2 v3 v4 v7 v8 v9 v10 nl hl hlen hnm ht hf2 hd2 k2
      have L8 : (ys.map V.str).length = 8 := by rw [List.length_map]; exact hlen
      refine ⟨_, rfl, _, rfl, _, rfl, l, _, rfl, SqL.of hl, fun a1 n1 => ?_⟩
      refine ⟨_, rfl, _, rfl, _, rfl, l, _, rfl, SqL.of (alloc n1 _ _ hl), fun a2 n2 => ?_⟩
      refine ⟨a1, a2, _, _, rfl, rfl, alloc n2 _ _ upd_same, upd_same, ?_, fun a3 n3 => ?_⟩
      · rw [cut_from (by omega), cut_to (by omega), List.length_drop, List.length_take, sizeLine_eq]; omega
      rw [cut_from (by omega), cut_to (by omega), ← List.map_drop, ← List.map_take, ← List.map_append] at *
      have L3 : ((ys.drop t ++ ys.take t).map V.str).length = 8 := by rw [List.length_map, List.length_append, List.length_drop, List.length_take]; omega
      refine ⟨_, rfl, _, rfl, a3, _, rfl, SqL.of upd_same, fun a4 n4 => ?_⟩
      rw [cut_to (by omega), ← List.map_take] at *
      have s3 : Same H2 (upd (upd (upd H2 a1 (.lst ((ys.drop t).map V.str))) a2 (.lst ((ys.take t).map V.str))) a3 (.lst ((ys.drop t ++ ys.take t).map V.str))) := (alloc n1).trans ((alloc n2).trans (alloc n3))
      have n40 : H a4 = none := by
        cases e : H a4 with
        | none => rfl
        | some o =>
          by_cases hb : a4 = p
          · obtain ⟨l9, s9, e9, _⟩ := hf2
            have := s3 _ _ e9
            rw [hb, this] at n4; cases n4
          · have := s3 _ _ (k2 _ _ e hb); rw [n4] at this; cases this
      refine q a4 ((ys.drop t ++ ys.take t).take m) _ d2 n40 upd_same ?_ ?_ (hf2.same (s3.trans (alloc n4))) hd2 fun b o e hb => alloc n4 _ _ (s3 _ _ (k2 b o e hb))
      · rw [List.length_take, List.length_append, List.length_drop, List.length_take]; omega
      · intro y hy
        rcases List.mem_append.mp (List.mem_of_mem_take hy) with hy | hy
        · exact hnm y (List.mem_of_mem_drop hy)
        · exact hnm y (List.mem_of_mem_take hy)
    -- the word
    refine seqG fun N0 hN0 => ?_
    refine hN0 _ _ ?_
    refine seqG fun N hN => ?_
    refine ⟨rfl, 8, rfl, by decide, by decide, loop_range (fun j xs τ Hj => ∃ ys : List Str, xs = ys.map V.str ∧ ys.length = j ∧ (∀ y ∈ ys, y.length = 1 ∧ Asc y) ∧ (∃ t0, τ = [t0, some (.str LET), some (.ref p)]) ∧ FeedAt Hj p (d + j) ∧ ∀ b o, H b = some o → b ≠ p → Hj b = some o) ⟨[], rfl, rfl, by simp, ⟨none, rfl⟩, hf, fun _ _ e _ => e⟩ ?_ ?_⟩
    · rintro j xs τ Hj hj ⟨ys, rfl, hyl, hys, ⟨t0, rfl⟩, hfj, kj⟩
      have hj : j < 8 := hj
      refine gyes ?_
      refine ⟨_, rfl, _, rfl, p, 26, d + j, rfl, hfj, by omega, by decide, by decide, fun zc Hc c0 c1 hfc kc => ?_⟩
      obtain ⟨k, rfl⟩ : ∃ k : Nat, zc = k := ⟨zc.toNat, by omega⟩
      obtain ⟨c, hc, hc2⟩ := let_at (k := k) (by omega)
      refine ⟨_, _, c, rfl, rfl, (by rw [sizeLine_eq]; decide +kernel), atI_nat hc, ?_, ys ++ [⟨#[c]⟩], (by simp), (by simp [hyl]), ?_, ⟨_, rfl⟩, hfc, fun b o e hb => kc b o (kj b o e hb) hb⟩
      · rw [List.length_map, sizeLine_eq]; omega
      · intro y hy
        rcases List.mem_append.mp hy with hy | hy
        · exact hys y hy
        · have : y = ⟨#[c]⟩ := by simpa using hy
          subst this
          exact one_ok hc2
    · rintro xs τ Hj ⟨ys, rfl, hyl, hys, ⟨t0, rfl⟩, hfj, kj⟩ b2 nb2
      have hyl : ys.length = 8 := hyl
      obtain ⟨j1, j2⟩ := join_ok ys hys
      rw [← PySem.StrLaws.glued_eq_join] at j1 j2
      have j1 : (Txt.join "" ys).length = ys.length := j1
      have j2 : Asc (Txt.join "" ys) := j2
      refine ⟨"", b2, ys, rfl, rfl, SqL.of upd_same, (by rw [sum_one ys hys]; show _ + _ * 0 ≤ _; omega), ?_⟩
      refine hN _ _ ?_
      generalize hW : Txt.join "" ys = W at j1 j2
      have hfa := hfj.same (alloc (o := .lst (ys.map V.str)) nb2)
      have ka : ∀ b o, H b = some o → b ≠ p → upd Hj b2 (.lst (ys.map V.str)) b = some o := fun b o e hb => alloc nb2 _ _ (kj b o e hb)
      -- way, turn
      refine seqG fun N hN => ?_
      refine ⟨_, rfl, p, 3, _, rfl, hfa, by omega, by decide, by decide, fun zw Hw w0 w1 hfw kw => ?_⟩
      refine hN _ _ ?_
      refine seqG fun N hN => ?_
      refine ⟨_, rfl, p, 8, _, rfl, hfw, by omega, by decide, by decide, fun zt Ht t0 t1 hft kt => ?_⟩
      refine hN _ _ ?_
      obtain ⟨t, rfl⟩ : ∃ t : Nat, zt = t := ⟨zt.toNat, by omega⟩
      have ht : t < 8 := by omega
      have kt2 : ∀ b o, H b = some o → b ≠ p → Ht b = some o := fun b o e hb => kt b o (kw b o (ka b o e hb) hb) hb
      have free : ∀ {H3 : Hp} {dd : Nat} {a : Addr}, FeedAt H3 p dd → (∀ b o, H b = some o → b ≠ p → H3 b = some o) → H3 a = none → H a = none := fun {H3 dd a} hf3 k3 n => by
        cases e : H a with
        | none => rfl
        | some o =>
          by_cases hb : a = p
          · obtain ⟨l9, s9, e9, _⟩ := hf3
            rw [hb, e9] at n; cases n
          · have := k3 _ _ e hb; rw [n] at this; cases this
      refine ⟨_, rfl, rfl, _, rfl, ?_⟩
      refine ite2 (fun _ => ?_) (fun _ => ?_)
      · -- parts of the word
        refine ⟨8, rfl, by decide, by decide, loop_range (fun j xs τ Hj => Hj = Ht ∧ ∃ zs : List Str, xs = zs.map V.str ∧ zs.length = j ∧ (∀ y ∈ zs, Nm y) ∧ ∃ t0, τ = [t0, some (.str W)]) ⟨rfl, [], rfl, rfl, by simp, none, by rw [← hW]; rfl⟩ ?_ ?_⟩
        · rintro j xs τ Hj hj ⟨rfl, zs, rfl, hzl, hzs, tt, rfl⟩
          have hj : j < 8 := hj
          refine gyes ?_
          refine ⟨_, rfl, _, rfl, _, _, rfl, rfl, _, rfl, W, rfl, (by rw [j1, sizeLine_eq]; omega), ?_, rfl, zs ++ [_], (by rw [List.map_append]; rfl), (by simp [hzl]), fun y hy => ?_, _, rfl⟩
          · rw [List.length_map, sizeLine_eq]; omega
          · rcases List.mem_append.mp hy with hy | hy
            · exact hzs y hy
            · have : y = Txt.slice W none (some (0 + (j : Int) + 1)) := by simpa using hy
              subst this
              exact ⟨Nat.le_trans (Txt.slice_le W _ _) (by omega), sl_asc j2⟩
        · rintro xs τ Hj ⟨rfl, zs, rfl, hzl, hzs, tt, rfl⟩ a na
          have hzl : zs.length = 8 := hzl
          exact fin a zs _ t _ _ _ _ _ _ _ _ (free hft kt2 na) upd_same hzl hzs ht (hft.same (alloc na)) (by omega) fun b o e hb => alloc na _ _ (kt2 b o e hb)
      · refine ⟨_, rfl, rfl, _, rfl, ?_⟩
        refine ite2 (fun _ => ?_) (fun _ => ?_)
        · -- the words of the texts
          refine ⟨(by show 8 ≤ sizeLine; decide), fun a na => ?_⟩
          refine fin a ["on", "back", "at", "off", "stay", "many", "then", "either"] _ t _ _ _ _ _ _ _ _ (free hft kt2 na) upd_same rfl (fun y hy => ?_) ht (hft.same (alloc na)) (by omega) fun b o e hb => alloc na _ _ (kt2 b o e hb)
          simp only [List.mem_cons, List.not_mem_nil, or_false] at hy
          rcases hy with rfl | rfl | rfl | rfl | rfl | rfl | rfl | rfl <;> exact nm_lit (by decide +kernel)
        · -- one sign changed
          refine ⟨_, rfl, _, rfl, _, _, rfl, rfl, p, (t : Int) + 1, _, rfl, hft, by omega, by omega, by omega, fun zp Hp p0 p1 hfp kp => ?_⟩
          refine ⟨_, rfl, p, 26, _, rfl, hfp, by omega, by decide, by decide, fun zs Hs s0 s1 hfs ks => ?_⟩
          have ks2 : ∀ b o, H b = some o → b ≠ p → Hs b = some o := fun b o e hb => ks b o (kp b o (kt2 b o e hb) hb) hb
          refine ⟨Nat.zero_le _, fun a na => ?_⟩
          refine ⟨8, rfl, by decide, by decide, for_range (fun j σ Hj => ∃ zl : List Str, Hj a = some (.lst (zl.map V.str)) ∧ zl.length = j ∧ (∀ y ∈ zl, Nm y) ∧ (∀ b o, Hs b = some o → Hj b = some o) ∧ ∃ v9 v10, σ = [some (.ref p), some (.int m), some (.str LET), some (.str W), some (.int zw), some (.int t), some (.ref a), some (.int zp), some (.int zs), v9, v10])
            ⟨[], upd_same, rfl, by simp, alloc na, none, none, by rw [← hW]; rfl⟩ ?_ ?_⟩
          · rintro j σ Hj hj ⟨zl, ha, hzl, hzs, kj2, v9, v10, rfl⟩
            have hj : j < 8 := hj
            obtain ⟨c, hc, hc2⟩ := let_at (k := ((zs + 5 * (0 + (j : Int))) % 26).toNat) (by omega)
            refine ⟨_, rfl, _, rfl, _, rfl, _, _, rfl, rfl, .inl ⟨by decide, by decide⟩, _, _, rfl, rfl, _, _, rfl, rfl, (by show (0 : Int) < 26; decide), LET, _, c, rfl, rfl, (by rw [sizeLine_eq]; decide +kernel), ?_, ?_⟩
            · have e : ((zs + 5 * (0 + (j : Int))) % 26) = ((((zs + 5 * (0 + (j : Int))) % 26).toNat : Nat) : Int) := by omega
              rw [e]; exact atI_nat hc
            · have w1 : W.length ≤ sizeLine := by rw [j1, sizeLine_eq]; omega
              have l1 : (Txt.slice W none (some zp)).length ≤ 8 := by have := Txt.slice_le W none (some zp); omega
              have l2 : (Txt.slice W (some (zp + 1)) (some ((t : Int) + 1))).length ≤ 8 := by have := Txt.slice_le W (some (zp + 1)) (some ((t : Int) + 1)); omega
              have l3 : (⟨#[c]⟩ : Str).length = 1 := rfl
              refine ⟨_, rfl, .inl ⟨rfl, _, SqL.of ha⟩, _, rfl, _, rfl, _, rfl, W, rfl, w1, _, rfl, _, _, rfl, rfl, (by rw [l3, sizeLine_eq]; omega), _, rfl, _, rfl, _, _, rfl, rfl, _, rfl, _, rfl, _, _, rfl, rfl, _, rfl, W, rfl, w1, _, _, rfl, rfl, (by rw [strLen_append, l3, sizeLine_eq]; omega), a, _, _, rfl, rfl, ha, (by rw [List.length_map, sizeLine_eq]; omega), ?_⟩
              refine ⟨zl ++ [_], by rw [upd_same, List.map_append]; rfl, by simp [hzl], fun y hy => ?_, fun b o e => ?_, _, _, rfl⟩
              · rcases List.mem_append.mp hy with hy | hy
                · exact hzs y hy
                · have : y = Txt.slice W none (some zp) ++ ⟨#[c]⟩ ++ Txt.slice W (some (zp + 1)) (some ((t : Int) + 1)) := by simpa using hy
                  subst this
                  refine ⟨by rw [strLen_append, strLen_append, l3]; omega, ((sl_asc j2).append (one_ok hc2).2).append (sl_asc j2)⟩
              · rw [upd_ne (ne_of_none e na)]; exact kj2 b o e
          · rintro σ Hj ⟨zl, ha, hzl, hzs, kj2, v9, v10, rfl⟩
            have hzl : zl.length = 8 := hzl
            exact fin a zl _ t _ _ _ _ _ _ _ _ (free hfs ks2 na) ha hzl hzs ht (hfs.same kj2) (by omega) fun b o e hb => kj2 _ _ (ks2 b o e hb)
end
end K15

set_option Elab.async false
set_option linter.all false
set_option maxRecDepth 100000
set_option maxHeartbeats 4000000
namespace K15
open PySem L2
noncomputable def bsOf (i : Nat) : List Bool := [i == 0, i == 1, i == 2, i == 3, i == 4, i == 5, i == 6, i == 7, i == 8, i == 9, i == 10, i == 11, i == 12, i == 13]
theorem bs_count : ∀ i, i < 14 → (bsOf i).count true = 1 := by decide
theorem bs_at : ∀ i, i < 14 → (bsOf i)[i]? = some true := by decide
theorem bs_no : ∀ i, i < 14 → ∀ m, m < i → (bsOf i)[m]? ≠ some true := by decide
noncomputable def wl : List Str := ["knot", "mark", "name", "twice", "toomany", "tie", "meet", "text", "line", "way", "toolong", "round", "such", "pair"]
theorem wl_at : ∀ i, i < 14 → wl[i]? = some (wordOf i) := by decide +kernel
theorem wlV_at {i : Nat} (h : i < 14) : (wl.map V.str)[i]? = some (V.str (wordOf i)) := by rw [List.getElem?_map, wl_at i h]; rfl
section
variable {P : Program} {w : World} {K : PySem.W.Frag} {mg : Str → Option Value} {base : Heap} {cs : Nat → Addr} {CP : Addr}
noncomputable def spOwn (cs : Nat → Addr) : Sp := fun vs H Q _ => ∃ (x : Addr) (i : Nat) (fs : List (Str × V)), vs = [.ref x] ∧ i < 14 ∧ XAt (cs i) H x fs ∧ ∀ H', Same H H' → Q (.str (wordOf i)) H'
theorem d_Own (T : Txt K mg cs CP) (F : Src K mg "_law_own" PscOwn sOwn) : Def P w K mg base 1 "_law_own" PscOwn (spOwn cs) := by
  refine J.defQ F scOwn (fun vs H Q E h => ?_) (fun f cdv A outer s H vs Q E hr h => ?_)
  · obtain ⟨x, i, fs, rfl, _⟩ := h; rfl
  · obtain ⟨x, i, fs, rfl, hi, ⟨dx, hx, hd, hne⟩, q⟩ := h
    refine ⟨_, (J.pss_cons (J.ps_set (i := 1) scOwn.nd rfl (Or.inl rfl) (J.pe_lst (J.pac (J.pcb c_isiX (by rfl) T.isinstance (by decide +kernel) (J.pac (J.pv 0) (J.pac T.pe_NoKnot J.pa_nil))) (J.pac (J.pcb c_isiX (by rfl) T.isinstance (by decide +kernel) (J.pac (J.pv 0) (J.pac T.pe_NoMark J.pa_nil))) (J.pac (J.pcb c_isiX (by rfl) T.isinstance (by decide +kernel) (J.pac (J.pv 0) (J.pac T.pe_NoName J.pa_nil))) J.pa_nil)))))
      (J.pss_cons (J.ps_set (i := 1) scOwn.nd rfl (Or.inl rfl) (J.pe_op op_cat (J.pv 1) (J.pe_lst (J.pac (J.pcb c_isiX (by rfl) T.isinstance (by decide +kernel) (J.pac (J.pv 0) (J.pac T.pe_Twice J.pa_nil))) (J.pac (J.pcb c_isiX (by rfl) T.isinstance (by decide +kernel) (J.pac (J.pv 0) (J.pac T.pe_TooMany J.pa_nil))) (J.pac (J.pcb c_isiX (by rfl) T.isinstance (by decide +kernel) (J.pac (J.pv 0) (J.pac T.pe_NoTie J.pa_nil))) J.pa_nil))))))
      (J.pss_cons (J.ps_set (i := 1) scOwn.nd rfl (Or.inl rfl) (J.pe_op op_cat (J.pv 1) (J.pe_lst (J.pac (J.pcb c_isiX (by rfl) T.isinstance (by decide +kernel) (J.pac (J.pv 0) (J.pac T.pe_NoMeet J.pa_nil))) (J.pac (J.pcb c_isiX (by rfl) T.isinstance (by decide +kernel) (J.pac (J.pv 0) (J.pac T.pe_NoText J.pa_nil))) (J.pac (J.pcb c_isiX (by rfl) T.isinstance (by decide +kernel) (J.pac (J.pv 0) (J.pac T.pe_NoLine J.pa_nil))) J.pa_nil))))))
      (J.pss_cons (J.ps_set (i := 1) scOwn.nd rfl (Or.inl rfl) (J.pe_op op_cat (J.pv 1) (J.pe_lst (J.pac (J.pcb c_isiX (by rfl) T.isinstance (by decide +kernel) (J.pac (J.pv 0) (J.pac T.pe_NoWay J.pa_nil))) (J.pac (J.pcb c_isiX (by rfl) T.isinstance (by decide +kernel) (J.pac (J.pv 0) (J.pac T.pe_TooLong J.pa_nil))) (J.pac (J.pcb c_isiX (by rfl) T.isinstance (by decide +kernel) (J.pac (J.pv 0) (J.pac T.pe_GoesRound J.pa_nil))) J.pa_nil))))))
      (J.pss_cons (J.ps_set (i := 1) scOwn.nd rfl (Or.inl rfl) (J.pe_op op_cat (J.pv 1) (J.pe_lst (J.pac (J.pcb c_isiX (by rfl) T.isinstance (by decide +kernel) (J.pac (J.pv 0) (J.pac T.pe_NoSuch J.pa_nil))) (J.pac (J.pcb c_isiX (by rfl) T.isinstance (by decide +kernel) (J.pac (J.pv 0) (J.pac T.pe_NoPair J.pa_nil))) J.pa_nil)))))
      (J.pss_cons (J.ps_if (J.pw_pt (J.pw_or (J.pt_not (J.pt_val (J.pcb c_isiX (by rfl) T.isinstance (by decide +kernel) (J.pac (J.pv 0) (J.pac (J.pe_ty "ValueError" (by rfl) T.ValueError (by decide +kernel)) J.pa_nil))))) (J.pw_or1 (J.pt_cmpR op_ne (J.pe_bmK PySem.F.plainAttrs_list PySem.F.slot_list_count PySem.F.type_list_count mt_countB (J.pv 1) (J.pac J.pe_bl J.pa_nil)) J.pe_int (nomark _)))))
        (J.pss_one (J.ps_ret J.pe_str))
        J.pss_nil)
      (J.pss_cons (J.ps_set (i := 2) scOwn.nd rfl (Or.inl rfl) (J.pe_lst (J.pac J.pe_str (J.pac J.pe_str (J.pac J.pe_str (J.pac J.pe_str (J.pac J.pe_str (J.pac J.pe_str (J.pac J.pe_str (J.pac J.pe_str (J.pac J.pe_str (J.pac J.pe_str (J.pac J.pe_str (J.pac J.pe_str J.pa_nil))))))))))))))
      (J.pss_one (J.ps_ret (J.pe_ix ixL (J.pe_op op_cat (J.pv 2) (J.pe_lst (J.pac J.pe_str (J.pac J.pe_str J.pa_nil)))) (J.pe_bmK PySem.F.plainAttrs_list PySem.F.slot_list_index PySem.F.type_list_index mt_indexB (J.pv 1) (J.pac J.pe_bl J.pa_nil)) (fun _ _ => rfl))))))))))), ?_⟩
    refine seqG fun N hN => ?_
    refine ⟨_, rfl, x, cs i, some dx, _, _, _, rfl, hx, .inr ⟨dx, fs, rfl, hd⟩, T.xi i hi, relRef.1, relRef.2, T.kit i 0 hi (by decide), _, rfl, x, cs i, some dx, _, _, _, rfl, hx, .inr ⟨dx, fs, rfl, hd⟩, T.xi i hi, relRef.1, relRef.2, T.kit i 1 hi (by decide), _, rfl, x, cs i, some dx, _, _, _, rfl, hx, .inr ⟨dx, fs, rfl, hd⟩, T.xi i hi, relRef.1, relRef.2, T.kit i 2 hi (by decide), (by show 3 ≤ sizeLine; decide), fun a1 n1 => ?_⟩
    have s1 := alloc (o := .lst [.bl (i == 0), .bl (i == 1), .bl (i == 2)]) n1
    refine hN _ _ ?_
    refine seqG fun N hN => ?_
    refine ⟨_, rfl, _, rfl, x, cs i, some dx, _, _, _, rfl, s1 _ _ hx, .inr ⟨dx, fs, rfl, s1 _ _ hd⟩, T.xi i hi, relRef.1, relRef.2, T.kit i 3 hi (by decide), _, rfl, x, cs i, some dx, _, _, _, rfl, s1 _ _ hx, .inr ⟨dx, fs, rfl, s1 _ _ hd⟩, T.xi i hi, relRef.1, relRef.2, T.kit i 4 hi (by decide), _, rfl, x, cs i, some dx, _, _, _, rfl, s1 _ _ hx, .inr ⟨dx, fs, rfl, s1 _ _ hd⟩, T.xi i hi, relRef.1, relRef.2, T.kit i 5 hi (by decide), (by show 3 ≤ sizeLine; decide), fun a2 n2 => ?_⟩
    have t1 := s1.trans (alloc (o := .lst [.bl (i == 3), .bl (i == 4), .bl (i == 5)]) n2)
    refine ⟨a1, a2, _, _, rfl, rfl, alloc n2 _ _ upd_same, upd_same, (by show 6 ≤ sizeLine; decide), fun a3 n3 => ?_⟩
    have s2 := t1.trans (alloc (o := .lst ([.bl (i == 0), .bl (i == 1), .bl (i == 2)] ++ [.bl (i == 3), .bl (i == 4), .bl (i == 5)])) n3)
    refine hN _ _ ?_
    refine seqG fun N hN => ?_
    refine ⟨_, rfl, _, rfl, x, cs i, some dx, _, _, _, rfl, s2 _ _ hx, .inr ⟨dx, fs, rfl, s2 _ _ hd⟩, T.xi i hi, relRef.1, relRef.2, T.kit i 6 hi (by decide), _, rfl, x, cs i, some dx, _, _, _, rfl, s2 _ _ hx, .inr ⟨dx, fs, rfl, s2 _ _ hd⟩, T.xi i hi, relRef.1, relRef.2, T.kit i 7 hi (by decide), _, rfl, x, cs i, some dx, _, _, _, rfl, s2 _ _ hx, .inr ⟨dx, fs, rfl, s2 _ _ hd⟩, T.xi i hi, relRef.1, relRef.2, T.kit i 8 hi (by decide), (by show 3 ≤ sizeLine; decide), fun a4 n4 => ?_⟩
    have t2 := s2.trans (alloc (o := .lst [.bl (i == 6), .bl (i == 7), .bl (i == 8)]) n4)
    refine ⟨a3, a4, _, _, rfl, rfl, alloc n4 _ _ upd_same, upd_same, (by show 9 ≤ sizeLine; decide), fun a5 n5 => ?_⟩
    have s3 := t2.trans (alloc (o := .lst ([.bl (i == 0), .bl (i == 1), .bl (i == 2)] ++ [.bl (i == 3), .bl (i == 4), .bl (i == 5)] ++ [.bl (i == 6), .bl (i == 7), .bl (i == 8)])) n5)
    refine hN _ _ ?_
    refine seqG fun N hN => ?_
    refine ⟨_, rfl, _, rfl, x, cs i, some dx, _, _, _, rfl, s3 _ _ hx, .inr ⟨dx, fs, rfl, s3 _ _ hd⟩, T.xi i hi, relRef.1, relRef.2, T.kit i 9 hi (by decide), _, rfl, x, cs i, some dx, _, _, _, rfl, s3 _ _ hx, .inr ⟨dx, fs, rfl, s3 _ _ hd⟩, T.xi i hi, relRef.1, relRef.2, T.kit i 10 hi (by decide), _, rfl, x, cs i, some dx, _, _, _, rfl, s3 _ _ hx, .inr ⟨dx, fs, rfl, s3 _ _ hd⟩, T.xi i hi, relRef.1, relRef.2, T.kit i 11 hi (by decide), (by show 3 ≤ sizeLine; decide), fun a6 n6 => ?_⟩
    have t3 := s3.trans (alloc (o := .lst [.bl (i == 9), .bl (i == 10), .bl (i == 11)]) n6)
    refine ⟨a5, a6, _, _, rfl, rfl, alloc n6 _ _ upd_same, upd_same, (by show 12 ≤ sizeLine; decide), fun a7 n7 => ?_⟩
    have s4 := t3.trans (alloc (o := .lst ([.bl (i == 0), .bl (i == 1), .bl (i == 2)] ++ [.bl (i == 3), .bl (i == 4), .bl (i == 5)] ++ [.bl (i == 6), .bl (i == 7), .bl (i == 8)] ++ [.bl (i == 9), .bl (i == 10), .bl (i == 11)])) n7)
    refine hN _ _ ?_
    refine seqG fun N hN => ?_
    refine ⟨_, rfl, _, rfl, x, cs i, some dx, _, _, _, rfl, s4 _ _ hx, .inr ⟨dx, fs, rfl, s4 _ _ hd⟩, T.xi i hi, relRef.1, relRef.2, T.kit i 12 hi (by decide), _, rfl, x, cs i, some dx, _, _, _, rfl, s4 _ _ hx, .inr ⟨dx, fs, rfl, s4 _ _ hd⟩, T.xi i hi, relRef.1, relRef.2, T.kit i 13 hi (by decide), (by show 2 ≤ sizeLine; decide), fun a8 n8 => ?_⟩
    have t4 := s4.trans (alloc (o := .lst [.bl (i == 12), .bl (i == 13)]) n8)
    refine ⟨a7, a8, _, _, rfl, rfl, alloc n8 _ _ upd_same, upd_same, (by show 14 ≤ sizeLine; decide), fun a9 n9 => ?_⟩
    have s5 := t4.trans (alloc (o := .lst ([.bl (i == 0), .bl (i == 1), .bl (i == 2)] ++ [.bl (i == 3), .bl (i == 4), .bl (i == 5)] ++ [.bl (i == 6), .bl (i == 7), .bl (i == 8)] ++ [.bl (i == 9), .bl (i == 10), .bl (i == 11)] ++ [.bl (i == 12), .bl (i == 13)])) n9)
    refine hN _ _ ?_
    refine seqG fun N hN => ?_
    refine ⟨_, rfl, x, cs i, some dx, _, _, _, rfl, s5 _ _ hx, .inr ⟨dx, fs, rfl, s5 _ _ hd⟩, T.xi i hi, relTy.1, relTy.2, T.kitV i hi, _, rfl, iteF ?_⟩
    refine ⟨_, rfl, .inl ⟨rfl, _, SqL.of upd_same⟩, a9, bsOf i, true, rfl, rfl, SqL.of (xs := (bsOf i).map V.bl) upd_same, rfl, _, rfl, ?_⟩
    refine iteNS (by rw [bs_count i hi]; rfl) ?_
    refine hN _ _ ?_
    refine seqG fun N hN => ?_
    refine ⟨(by show 12 ≤ sizeLine; decide), fun c1 m1 => ?_⟩
    refine hN _ _ ?_
    refine ⟨_, rfl, (by show 2 ≤ sizeLine; decide), fun c2 m2 => ?_⟩
    refine ⟨c1, c2, _, _, rfl, rfl, alloc m2 _ _ upd_same, upd_same, (by show 14 ≤ sizeLine; decide), fun c3 m3 => ?_⟩
    refine ⟨_, rfl, .inl ⟨rfl, _, SqL.of (alloc m3 _ _ (alloc m2 _ _ (alloc m1 _ _ upd_same)))⟩, a9, bsOf i, true, i, rfl, rfl, SqL.of (xs := (bsOf i).map V.bl) (alloc m3 _ _ (alloc m2 _ _ (alloc m1 _ _ upd_same))), bs_at i hi, bs_no i hi, ?_⟩
    exact ⟨c3, wl.map V.str, _, V.str (wordOf i), rfl, rfl, SqL.of (xs := wl.map V.str) upd_same, atI_nat (wlV_at hi), q _ (s5.trans ((alloc m1).trans ((alloc m2).trans (alloc m3))))⟩

/-! what is borne, what is due -/
noncomputable def dataDue (i : Nat) (n0 n1 n2 : Str) (num : Int) (ring : List Str) : PyData := match i with
  | 0 => .str n0 | 1 => .str n1 | 2 => .str n2 | 3 => .str n0 | 4 => .str n2
  | 5 => .tuple [.str n0, .str n1, .str n2] | 6 => .str n1
  | 7 => .int num | 8 => .int num | 9 => .int num | 10 => .int num
  | 11 => .list (ring.map PyData.str) | 12 => .int num | _ => .tuple [.str n0, .str n2]
/-- the fields hold the datum -/
noncomputable def Bear (K : PySem.W.Frag) (H : Hp) (i : Nat) (fs : List (Str × V)) (d : PyData) : Prop :=
  (i < 13 ∧ ∃ v, fs = [(fname i, v)] ∧ DatV K H d v) ∨ (i = 13 ∧ ∃ (a b : Str), fs = ([("one", V.str a), ("other", V.str b)] : List (Str × V)) ∧ d = .tuple [.str a, .str b])
theorem datStrs {K : PySem.W.Frag} {H : Hp} : ∀ ys : List Str, DatVs K H (ys.map PyData.str) (ys.map V.str)
  | [] => by simp only [List.map_nil, DatVs]
  | y :: r => by
    simp only [List.map_cons, DatVs]
    exact ⟨_, _, rfl, by simp only [DatV], datStrs r⟩
theorem dat_tup {K : PySem.W.Frag} {H : Hp} {t : Addr} {ys : List Str} (h : SqT K H t (ys.map V.str)) : DatV K H (.tuple (ys.map PyData.str)) (.ref t) := by
  simp only [DatV]; exact ⟨t, _, rfl, h, datStrs ys⟩
theorem dat_lst {K : PySem.W.Frag} {H : Hp} {t : Addr} {ys : List Str} (h : SqL K H t (ys.map V.str)) : DatV K H (.list (ys.map PyData.str)) (.ref t) := by
  simp only [DatV]; exact ⟨t, _, rfl, h, datStrs ys⟩
theorem lk1 {f : Str} {v : V} : ([(f, v)] : List (Str × V)).lookup f = some v := by simp [List.lookup]
noncomputable def spBorne (K : PySem.W.Frag) (cs : Nat → Addr) : Sp := fun vs H Q _ => ∃ (x : Addr) (i : Nat) (fs : List (Str × V)) (d : PyData), vs = [.ref x, .int i] ∧ i < 14 ∧ XAt (cs i) H x fs ∧ Bear K H i fs d ∧ ∀ v H', Same H H' → DatV K H' d v → Q v H'
theorem d_Borne (T : Txt K mg cs CP) (F : Src K mg "_law_borne" PscBorne sBorne) : Def P w K mg base 1 "_law_borne" PscBorne (spBorne K cs) := by
  refine J.defQ F scBorne (fun vs H Q E h => ?_) (fun f cdv A outer s H vs Q E hr h => ?_)
  · obtain ⟨x, i, fs, d, rfl, _⟩ := h; rfl
  · obtain ⟨x, i, fs, d, rfl, hi, ⟨dx, hx, hd, hne⟩, hb, q⟩ := h
    refine ⟨_, (J.pss_cons (J.ps_if (J.pt_cmpR op_lt (J.pv 1) J.pe_int (nomark _))
        (J.pss_one (J.ps_ret (J.pe_fldX (J.pv 0))))
        J.pss_nil)
      (J.pss_cons (J.ps_if (J.pt_cmpR op_eq (J.pv 1) J.pe_int (nomark _))
        (J.pss_one (J.ps_ret (J.pe_fldX (J.pv 0))))
        J.pss_nil)
      (J.pss_cons (J.ps_if (J.pt_cmpR op_eq (J.pv 1) J.pe_int (nomark _))
        (J.pss_one (J.ps_ret (J.pe_fldX (J.pv 0))))
        J.pss_nil)
      (J.pss_cons (J.ps_if (J.pt_cmpR op_eq (J.pv 1) J.pe_int (nomark _))
        (J.pss_one (J.ps_ret (J.pe_fldX (J.pv 0))))
        J.pss_nil)
      (J.pss_cons (J.ps_if (J.pt_cmpR op_lt (J.pv 1) J.pe_int (nomark _))
        (J.pss_one (J.ps_ret (J.pe_fldX (J.pv 0))))
        J.pss_nil)
      (J.pss_cons (J.ps_if (J.pt_cmpR op_lt (J.pv 1) J.pe_int (nomark _))
        (J.pss_one (J.ps_ret (J.pe_fldX (J.pv 0))))
        J.pss_nil)
      (J.pss_cons (J.ps_if (J.pt_cmpR op_eq (J.pv 1) J.pe_int (nomark _))
        (J.pss_one (J.ps_ret (J.pe_fldX (J.pv 0))))
        J.pss_nil)
      (J.pss_cons (J.ps_if (J.pt_cmpR op_eq (J.pv 1) J.pe_int (nomark _))
        (J.pss_one (J.ps_ret (J.pe_fldX (J.pv 0))))
        J.pss_nil)
      (J.pss_one (J.ps_ret (J.pe_tup (J.pac (J.pe_fldX (J.pv 0)) (J.pac (J.pe_fldX (J.pv 0)) J.pa_nil))))))))))))), ?_⟩
    have one : ∀ f', f' = fname i → i < 13 → (tRet (tFldX K (tVar 0) f')) { nx := fun _ H' => Q .non H', rt := Q } (start NscBorne [.ref x, .int i]) H := by
      intro f' e h13
      subst e
      rcases hb with ⟨_, v, rfl, dv⟩ | ⟨e, _⟩
      · exact ⟨_, rfl, x, cs i, dx, _, v, rfl, hx, hd, (T.xi i hi).toXCls, T.fl i hi, lk1, q v H (Same.refl H) dv⟩
      · omega
    refine ⟨_, rfl, _, _, rfl, rfl, _, rfl, ?_⟩
    refine ite2 (fun t => ?_) (fun t => ?_)
    · have h4 : (i : Int) < 4 := of_decide_eq_true t
      refine one "name" ?_ (by omega)
      have h0 : i = 0 ∨ i = 1 ∨ i = 2 ∨ i = 3 := by omega
      rcases h0 with e | e | e | e <;> rw [e] <;> rfl
    have h4 : ¬ (i : Int) < 4 := fun z => t (decide_eq_true z)
    refine ⟨_, rfl, rfl, _, rfl, ?_⟩
    refine ite2 (fun t => ?_) (fun t => ?_)
    · have e : (i : Int) = 4 := V.int.inj (of_decide_eq_true t)
      obtain rfl : i = 4 := by omega
      exact one "word" rfl (by decide)
    have h5 : ¬ (i : Int) = 4 := fun z => t (decide_eq_true (by rw [z]))
    refine ⟨_, rfl, rfl, _, rfl, ?_⟩
    refine ite2 (fun t => ?_) (fun t => ?_)
    · have e : (i : Int) = 5 := V.int.inj (of_decide_eq_true t)
      obtain rfl : i = 5 := by omega
      exact one "tie" rfl (by decide)
    have h6 : ¬ (i : Int) = 5 := fun z => t (decide_eq_true (by rw [z]))
    refine ⟨_, rfl, rfl, _, rfl, ?_⟩
    refine ite2 (fun t => ?_) (fun t => ?_)
    · have e : (i : Int) = 6 := V.int.inj (of_decide_eq_true t)
      obtain rfl : i = 6 := by omega
      exact one "knot" rfl (by decide)
    have h7 : ¬ (i : Int) = 6 := fun z => t (decide_eq_true (by rw [z]))
    refine ⟨_, rfl, _, _, rfl, rfl, _, rfl, ?_⟩
    refine ite2 (fun t => ?_) (fun t => ?_)
    · have h9 : (i : Int) < 9 := of_decide_eq_true t
      have : i = 7 ∨ i = 8 := by omega
      rcases this with rfl | rfl <;> exact one "at" rfl (by decide)
    have h9 : ¬ (i : Int) < 9 := fun z => t (decide_eq_true z)
    refine ⟨_, rfl, _, _, rfl, rfl, _, rfl, ?_⟩
    refine ite2 (fun t => ?_) (fun t => ?_)
    · have h11 : (i : Int) < 11 := of_decide_eq_true t
      have : i = 9 ∨ i = 10 := by omega
      rcases this with rfl | rfl <;> exact one "count" rfl (by decide)
    have h11 : ¬ (i : Int) < 11 := fun z => t (decide_eq_true z)
    refine ⟨_, rfl, rfl, _, rfl, ?_⟩
    refine ite2 (fun t => ?_) (fun t => ?_)
    · have e : (i : Int) = 11 := V.int.inj (of_decide_eq_true t)
      obtain rfl : i = 11 := by omega
      exact one "ring" rfl (by decide)
    have h12 : ¬ (i : Int) = 11 := fun z => t (decide_eq_true (by rw [z]))
    refine ⟨_, rfl, rfl, _, rfl, ?_⟩
    refine ite2 (fun t => ?_) (fun t => ?_)
    · have e : (i : Int) = 12 := V.int.inj (of_decide_eq_true t)
      obtain rfl : i = 12 := by omega
      exact one "number" rfl (by decide)
    have h13 : ¬ (i : Int) = 12 := fun z => t (decide_eq_true (by rw [z]))
    obtain rfl : i = 13 := by omega
    rcases hb with ⟨z, _⟩ | ⟨_, a, b, rfl, rfl⟩
    · omega
    refine ⟨_, rfl, x, cs 13, dx, _, .str a, rfl, hx, hd, (T.xi 13 hi).toXCls, T.fl 13 hi, rfl, _, rfl, x, cs 13, dx, _, .str b, rfl, hx, hd, (T.xi 13 hi).toXCls, T.fo, rfl, (by show 2 ≤ sizeLine; decide), fun t nt => ?_⟩
    exact q _ _ (alloc nt) (dat_tup (ys := [a, b]) (SqT.of upd_same))
end
end K15

set_option Elab.async false
set_option linter.all false
set_option maxRecDepth 100000
set_option maxHeartbeats 4000000
namespace K15
open PySem L2
section
variable {P : Program} {w : World} {K : PySem.W.Frag} {mg : Str → Option Value} {base : Heap} {cs : Nat → Addr} {CP : Addr}
theorem dS {K : PySem.W.Frag} {H : Hp} {x : Str} : DatV K H (.str x) (.str x) := by simp only [DatV]
theorem dI {K : PySem.W.Frag} {H : Hp} {i : Int} : DatV K H (.int i) (.int i) := by simp only [DatV]
noncomputable def spDue (K : PySem.W.Frag) : Sp := fun vs H Q _ => ∃ (i : Nat) (nl rl : Addr) (num : Int) (n0 n1 n2 : Str) (ring : List Str), vs = [.int i, .ref nl, .int num, .ref rl] ∧ i < 14 ∧ SqL K H nl [.str n0, .str n1, .str n2] ∧ SqL K H rl (ring.map V.str) ∧
  ∀ v H', Same H H' → DatV K H' (dataDue i n0 n1 n2 num ring) v → Q v H'
theorem vals_at {H : Hp} {t t2 rl : Addr} {n0 n1 n2 : Str} {num : Int} {ring : List Str} (h1 : SqT K H t ([n0, n1, n2].map V.str)) (h2 : SqT K H t2 ([n0, n2].map V.str)) (h3 : SqL K H rl (ring.map V.str)) : ∀ i, i < 14 →
    ∃ v, ([.str n0, .str n1, .str n2, .str n0, .str n2, .ref t, .str n1, .int num, .int num, .int num, .int num, .ref rl, .int num, .ref t2] : List V)[i]? = some v ∧ DatV K H (dataDue i n0 n1 n2 num ring) v
  | 0, _ => ⟨_, rfl, dS⟩
  | 1, _ => ⟨_, rfl, dS⟩
  | 2, _ => ⟨_, rfl, dS⟩
  | 3, _ => ⟨_, rfl, dS⟩
  | 4, _ => ⟨_, rfl, dS⟩
  | 5, _ => ⟨_, rfl, dat_tup (ys := [n0, n1, n2]) h1⟩
  | 6, _ => ⟨_, rfl, dS⟩
  | 7, _ => ⟨_, rfl, dI⟩
  | 8, _ => ⟨_, rfl, dI⟩
  | 9, _ => ⟨_, rfl, dI⟩
  | 10, _ => ⟨_, rfl, dI⟩
  | 11, _ => ⟨_, rfl, dat_lst h3⟩
  | 12, _ => ⟨_, rfl, dI⟩
  | 13, _ => ⟨_, rfl, dat_tup (ys := [n0, n2]) h2⟩
  | _ + 14, h => absurd h (by omega)
theorem d_Due (T : Txt K mg cs CP) (F : Src K mg "_law_due" PscDue sDue) : Def P w K mg base 1 "_law_due" PscDue (spDue K) := by
  refine J.defQ F scDue (fun vs H Q E h => ?_) (fun f cdv A outer s H vs Q E hr h => ?_)
  · obtain ⟨i, nl, rl, num, n0, n1, n2, ring, rfl, _⟩ := h; rfl
  · obtain ⟨i, nl, rl, num, n0, n1, n2, ring, rfl, hi, hS, hR, q⟩ := h
    refine ⟨_, (J.pss_cons (J.ps_set (i := 4) scDue.nd rfl (Or.inl rfl) (J.pe_tup (J.pac (J.pe_ix ixL (J.pv 1) J.pe_int (fun _ _ => rfl)) (J.pac (J.pe_ix ixL (J.pv 1) J.pe_int (fun _ _ => rfl)) (J.pac (J.pe_ix ixL (J.pv 1) J.pe_int (fun _ _ => rfl)) J.pa_nil)))))
      (J.pss_cons (J.ps_set (i := 5) scDue.nd rfl (Or.inl rfl) (J.pe_lst (J.pac (J.pe_ix ixL (J.pv 1) J.pe_int (fun _ _ => rfl)) (J.pac (J.pe_ix ixL (J.pv 1) J.pe_int (fun _ _ => rfl)) (J.pac (J.pe_ix ixL (J.pv 1) J.pe_int (fun _ _ => rfl)) (J.pac (J.pe_ix ixL (J.pv 1) J.pe_int (fun _ _ => rfl)) (J.pac (J.pe_ix ixL (J.pv 1) J.pe_int (fun _ _ => rfl)) (J.pac (J.pv 4) (J.pac (J.pe_ix ixL (J.pv 1) J.pe_int (fun _ _ => rfl)) J.pa_nil)))))))))
      (J.pss_cons (J.ps_set (i := 5) scDue.nd rfl (Or.inl rfl) (J.pe_op op_cat (J.pv 5) (J.pe_lst (J.pac (J.pv 2) (J.pac (J.pv 2) (J.pac (J.pv 2) (J.pac (J.pv 2) (J.pac (J.pv 3) (J.pac (J.pv 2) J.pa_nil)))))))))
      (J.pss_one (J.ps_ret (J.pe_ix ixL (J.pe_op op_cat (J.pv 5) (J.pe_lst (J.pac (J.pe_tup (J.pac (J.pe_ix ixL (J.pv 1) J.pe_int (fun _ _ => rfl)) (J.pac (J.pe_ix ixL (J.pv 1) J.pe_int (fun _ _ => rfl)) J.pa_nil))) J.pa_nil))) (J.pv 0) (fun _ _ => rfl))))))), ?_⟩
    refine ⟨_, rfl, nl, _, _, _, rfl, rfl, hS, (rfl : atI ([.str n0, .str n1, .str n2] : List V) 0 = _), _, rfl, nl, _, _, _, rfl, rfl, hS, (rfl : atI ([.str n0, .str n1, .str n2] : List V) 1 = _), _, rfl, nl, _, _, _, rfl, rfl, hS, (rfl : atI ([.str n0, .str n1, .str n2] : List V) 2 = _), (by show 3 ≤ sizeLine; decide), fun t nt => ?_⟩
    have s1 := alloc (o := .tup [.str n0, .str n1, .str n2]) nt
    have g1 : upd H t (.tup [.str n0, .str n1, .str n2]) t = some (.tup [.str n0, .str n1, .str n2]) := upd_same
    generalize upd H t (.tup [.str n0, .str n1, .str n2]) = H1 at *
    refine ⟨_, rfl, nl, _, _, _, rfl, rfl, s1.seq hS, (rfl : atI ([.str n0, .str n1, .str n2] : List V) 0 = _), _, rfl, nl, _, _, _, rfl, rfl, s1.seq hS, (rfl : atI ([.str n0, .str n1, .str n2] : List V) 1 = _), _, rfl, nl, _, _, _, rfl, rfl, s1.seq hS, (rfl : atI ([.str n0, .str n1, .str n2] : List V) 2 = _), _, rfl, nl, _, _, _, rfl, rfl, s1.seq hS, (rfl : atI ([.str n0, .str n1, .str n2] : List V) 0 = _), _, rfl, nl, _, _, _, rfl, rfl, s1.seq hS, (rfl : atI ([.str n0, .str n1, .str n2] : List V) 2 = _), _, rfl, _, rfl, nl, _, _, _, rfl, rfl, s1.seq hS, (rfl : atI ([.str n0, .str n1, .str n2] : List V) 1 = _), (by show 7 ≤ sizeLine; decide), fun a1 m1 => ?_⟩
    refine ⟨_, rfl, _, rfl, _, rfl, _, rfl, _, rfl, _, rfl, _, rfl, (by show 6 ≤ sizeLine; decide), fun a2 m2 => ?_⟩
    refine ⟨a1, a2, _, _, rfl, rfl, alloc m2 _ _ upd_same, upd_same, (by show 13 ≤ sizeLine; decide), fun a3 m3 => ?_⟩
    have s3 := s1.trans ((alloc (o := .lst [.str n0, .str n1, .str n2, .str n0, .str n2, .ref t, .str n1]) m1).trans ((alloc (o := .lst [.int num, .int num, .int num, .int num, .ref rl, .int num]) m2).trans (alloc (o := .lst ([.str n0, .str n1, .str n2, .str n0, .str n2, .ref t, .str n1] ++ [.int num, .int num, .int num, .int num, .ref rl, .int num])) m3)))
    have g3 := (alloc (o := .lst ([.str n0, .str n1, .str n2, .str n0, .str n2, .ref t, .str n1] ++ [.int num, .int num, .int num, .int num, .ref rl, .int num])) m3) _ _ (alloc (o := .lst [.int num, .int num, .int num, .int num, .ref rl, .int num]) m2 _ _ (alloc (o := .lst [.str n0, .str n1, .str n2, .str n0, .str n2, .ref t, .str n1]) m1 _ _ g1))
    refine ⟨_, rfl, _, rfl, nl, _, _, _, rfl, rfl, s3.seq hS, (rfl : atI ([.str n0, .str n1, .str n2] : List V) 0 = _), _, rfl, nl, _, _, _, rfl, rfl, s3.seq hS, (rfl : atI ([.str n0, .str n1, .str n2] : List V) 2 = _), (by show 2 ≤ sizeLine; decide), fun t2 nt2 => ⟨(by show 1 ≤ sizeLine; decide), fun a4 m4 => ?_⟩⟩
    refine ⟨a3, a4, _, _, rfl, rfl, alloc m4 _ _ (alloc nt2 _ _ upd_same), upd_same, (by show 14 ≤ sizeLine; decide), fun a5 m5 => ?_⟩
    have s5 := s3.trans ((alloc (o := .tup [.str n0, .str n2]) nt2).trans ((alloc (o := .lst [.ref t2]) m4).trans (alloc (o := .lst (([.str n0, .str n1, .str n2, .str n0, .str n2, .ref t, .str n1] ++ [.int num, .int num, .int num, .int num, .ref rl, .int num]) ++ [.ref t2])) m5)))
    have g5 := (alloc (o := .lst (([.str n0, .str n1, .str n2, .str n0, .str n2, .ref t, .str n1] ++ [.int num, .int num, .int num, .int num, .ref rl, .int num]) ++ [.ref t2])) m5) _ _ (alloc (o := .lst [.ref t2]) m4 _ _ (alloc (o := .tup [.str n0, .str n2]) nt2 _ _ g3))
    have g6 := (alloc (o := .lst (([.str n0, .str n1, .str n2, .str n0, .str n2, .ref t, .str n1] ++ [.int num, .int num, .int num, .int num, .ref rl, .int num]) ++ [.ref t2])) m5) _ _ (alloc (o := .lst [.ref t2]) m4 _ _ (upd_same (o := .tup [.str n0, .str n2])))
    obtain ⟨v, hv, hd⟩ := vals_at (K := K) (num := num) (SqT.of (xs := [n0, n1, n2].map V.str) g5) (SqT.of (xs := [n0, n2].map V.str) g6) (s5.seq hR) i hi
    exact ⟨_, rfl, a5, _, _, v, rfl, rfl, SqL.of upd_same, atI_nat hv, q v _ s5 hd⟩
end
end K15

set_option Elab.async false
set_option linter.all false
set_option maxRecDepth 100000
set_option maxHeartbeats 4000000
namespace K15
open PySem L2
/-- an exception beside the address hd -/
noncomputable def EX (hd : Addr) (H : Hp) (x C : Addr) (fs : List (Str × V)) : Prop := ∃ dx, H x = some (XO C (some dx) x) ∧ H dx = some (XDt fs dx) ∧ dx ≠ x ∧ x ≠ hd ∧ dx ≠ hd
theorem EX.same {hd : Addr} {H H' : Hp} {x C : Addr} {fs : List (Str × V)} (h : EX hd H x C fs) (e : Same H H') : EX hd H' x C fs := by
  obtain ⟨dx, h1, h2, h3, h4, h5⟩ := h
  exact ⟨dx, e _ _ h1, e _ _ h2, h3, h4, h5⟩
theorem EX.at_ {hd : Addr} {H H' : Hp} {x C : Addr} {fs : List (Str × V)} (h : EX hd H x C fs) (e : ∀ b o, H b = some o → b ≠ hd → H' b = some o) : XAt C H' x fs := by
  obtain ⟨dx, h1, h2, h3, h4, h5⟩ := h
  exact ⟨dx, e _ _ h1 h4, e _ _ h2 h5, h3⟩
theorem mkEx {hd : Addr} {o : HO} {H H2 : Hp} {x C : Addr} {fs : List (Str × V)} (ho : H hd = some o) (nx : H x = none) (h : XNew C (upd H x (XO C none x)) H2 x fs) (k : ∀ b o, upd H x (XO C none x) b = some o → b ≠ x → H2 b = some o) : EX hd H2 x C fs ∧ Same H H2 := by
  obtain ⟨dx, h1, h2, h3, h4⟩ := h
  have nd : H dx = none := by rw [upd_ne h3] at h4; exact h4
  refine ⟨⟨dx, h1, h2, h3, (ne_of_none ho nx).symm, (ne_of_none ho nd).symm⟩, fun b u e => ?_⟩
  have hb : b ≠ x := ne_of_none e nx
  exact k b u (by rw [upd_ne hb]; exact e) hb
noncomputable def Born (K : PySem.W.Frag) (cs : Nat → Addr) (hd : Addr) (H : Hp) (i : Nat) (x : Addr) (d : PyData) : Prop := ∀ H'', (∀ b o, H b = some o → b ≠ hd → H'' b = some o) → ∃ fs, XAt (cs i) H'' x fs ∧ Bear K H'' i fs d
section
variable {P : Program} {w : World} {K : PySem.W.Frag} {mg : Str → Option Value} {base : Heap} {cs : Nat → Addr} {CP : Addr}
theorem born1 {hd : Addr} {H : Hp} {i : Nat} {x : Addr} {d : PyData} {v : V} (h : EX hd H x (cs i) [(fname i, v)]) (hi : i < 13) (hv : ∀ H'', (∀ b o, H b = some o → b ≠ hd → H'' b = some o) → DatV K H'' d v) : Born K cs hd H i x d :=
  fun H'' k => ⟨_, h.at_ k, .inl ⟨hi, v, rfl, hv H'' k⟩⟩
theorem born2 {hd : Addr} {H : Hp} {x : Addr} {a b : Str} (h : EX hd H x (cs 13) [("one", .str a), ("other", .str b)]) : Born K cs hd H 13 x (.tuple [.str a, .str b]) :=
  fun H'' k => ⟨_, h.at_ k, .inr ⟨rfl, a, b, rfl, rfl⟩⟩
noncomputable def spMade (K : PySem.W.Frag) (cs : Nat → Addr) : Sp := fun vs H Q _ => ∃ (i : Nat) (nl hd : Addr) (num : Int) (n0 n1 n2 : Str) (ring : List Str), vs = [.int i, .ref nl, .int num, .ref hd] ∧ i < 14 ∧ SqL K H nl [.str n0, .str n1, .str n2] ∧ H hd = some (.lst (ring.map V.str)) ∧
  ∀ x H', Same H H' → Born K cs hd H' i x (dataDue i n0 n1 n2 num ring) → Q (.ref x) H'
theorem d_Made (T : Txt K mg cs CP) (F : Src K mg "_law_made" PscMade sMade)
    (D_NoKnot : XDef P w K mg base 1 "NoKnot" (cs 0) PscNoKnot (spX1 (cs 0) "name"))
    (D_NoMark : XDef P w K mg base 1 "NoMark" (cs 1) PscNoMark (spX1 (cs 1) "name"))
    (D_NoName : XDef P w K mg base 1 "NoName" (cs 2) PscNoName (spX1 (cs 2) "name"))
    (D_Twice : XDef P w K mg base 1 "Twice" (cs 3) PscTwice (spX1 (cs 3) "name"))
    (D_TooMany : XDef P w K mg base 1 "TooMany" (cs 4) PscTooMany (spX1 (cs 4) "word"))
    (D_NoTie : XDef P w K mg base 1 "NoTie" (cs 5) PscNoTie (spX1 (cs 5) "tie"))
    (D_NoMeet : XDef P w K mg base 1 "NoMeet" (cs 6) PscNoMeet (spX1 (cs 6) "knot"))
    (D_NoText : XDef P w K mg base 1 "NoText" (cs 7) PscNoText (spX1 (cs 7) "at"))
    (D_NoLine : XDef P w K mg base 1 "NoLine" (cs 8) PscNoLine (spX1 (cs 8) "at"))
    (D_NoWay : XDef P w K mg base 1 "NoWay" (cs 9) PscNoWay (spX1 (cs 9) "count"))
    (D_TooLong : XDef P w K mg base 1 "TooLong" (cs 10) PscTooLong (spX1 (cs 10) "count"))
    (D_GoesRound : XDef P w K mg base 1 "GoesRound" (cs 11) PscGoesRound (spXR K (cs 11)))
    (D_NoSuch : XDef P w K mg base 1 "NoSuch" (cs 12) PscNoSuch (spX1 (cs 12) "number"))
    (D_NoPair : XDef P w K mg base 1 "NoPair" (cs 13) PscNoPair (spX2 (cs 13))) : Def P w K mg base 3 "_law_made" PscMade (spMade K cs) := by
  refine J.defQ F scMade (fun vs H Q E h => ?_) (fun f cdv A outer s H vs Q E hr h => ?_)
  · obtain ⟨i, nl, hd, num, n0, n1, n2, ring, rfl, _⟩ := h; rfl
  · obtain ⟨i, nl, hd, num, n0, n1, n2, ring, rfl, hi, hS, hR, q⟩ := h
    refine ⟨_, (J.pss_cons (J.ps_if (J.pt_cmpR op_lt (J.pv 0) J.pe_int (nomark _))
        (J.pss_one (J.ps_ret (J.pe_ix ixL (J.pe_lst (J.pac (J.pe_makeX D_NoKnot (hr.mono (by decide)) (by rfl) pass0 (J.pac (J.pe_ix ixL (J.pv 1) J.pe_int (fun _ _ => rfl)) J.pa_nil)) (J.pac (J.pe_makeX D_NoMark (hr.mono (by decide)) (by rfl) pass0 (J.pac (J.pe_ix ixL (J.pv 1) J.pe_int (fun _ _ => rfl)) J.pa_nil)) (J.pac (J.pe_makeX D_NoName (hr.mono (by decide)) (by rfl) pass0 (J.pac (J.pe_ix ixL (J.pv 1) J.pe_int (fun _ _ => rfl)) J.pa_nil)) (J.pac (J.pe_makeX D_Twice (hr.mono (by decide)) (by rfl) pass0 (J.pac (J.pe_ix ixL (J.pv 1) J.pe_int (fun _ _ => rfl)) J.pa_nil)) J.pa_nil))))) (J.pv 0) (fun _ _ => rfl))))
        J.pss_nil)
      (J.pss_cons (J.ps_if (J.pt_cmpR op_lt (J.pv 0) J.pe_int (nomark _))
        (J.pss_cons (J.ps_set (i := 4) scMade.nd rfl (Or.inl rfl) (J.pe_tup (J.pac (J.pe_ix ixL (J.pv 1) J.pe_int (fun _ _ => rfl)) (J.pac (J.pe_ix ixL (J.pv 1) J.pe_int (fun _ _ => rfl)) (J.pac (J.pe_ix ixL (J.pv 1) J.pe_int (fun _ _ => rfl)) J.pa_nil)))))
        (J.pss_one (J.ps_ret (J.pe_ix ixL (J.pe_lst (J.pac (J.pe_makeX D_TooMany (hr.mono (by decide)) (by rfl) pass0 (J.pac (J.pe_ix ixL (J.pv 1) J.pe_int (fun _ _ => rfl)) J.pa_nil)) (J.pac (J.pe_makeX D_NoTie (hr.mono (by decide)) (by rfl) pass0 (J.pac (J.pv 4) J.pa_nil)) (J.pac (J.pe_makeX D_NoMeet (hr.mono (by decide)) (by rfl) pass0 (J.pac (J.pe_ix ixL (J.pv 1) J.pe_int (fun _ _ => rfl)) J.pa_nil)) (J.pac (J.pe_makeX D_NoText (hr.mono (by decide)) (by rfl) pass0 (J.pac (J.pv 2) J.pa_nil)) J.pa_nil))))) (J.pe_op op_sub (J.pv 0) J.pe_int) (fun _ _ => rfl)))))
        J.pss_nil)
      (J.pss_cons (J.ps_set (i := 5) scMade.nd rfl (Or.inl rfl) (J.pe_lst (J.pac (J.pe_makeX D_NoLine (hr.mono (by decide)) (by rfl) pass0 (J.pac (J.pv 2) J.pa_nil)) (J.pac (J.pe_makeX D_NoWay (hr.mono (by decide)) (by rfl) pass0 (J.pac (J.pv 2) J.pa_nil)) (J.pac (J.pe_makeX D_TooLong (hr.mono (by decide)) (by rfl) pass0 (J.pac (J.pv 2) J.pa_nil)) (J.pac (J.pe_makeX D_GoesRound (hr.mono (by decide)) (by rfl) pass0 (J.pac (J.pv 3) J.pa_nil)) J.pa_nil))))))
      (J.pss_one (J.ps_ret (J.pe_ix ixL (J.pe_op op_cat (J.pv 5) (J.pe_lst (J.pac (J.pe_makeX D_NoSuch (hr.mono (by decide)) (by rfl) pass0 (J.pac (J.pv 2) J.pa_nil)) (J.pac (J.pe_makeX D_NoPair (hr.mono (by decide)) (by rfl) pass0 (J.pac (J.pe_ix ixL (J.pv 1) J.pe_int (fun _ _ => rfl)) (J.pac (J.pe_ix ixL (J.pv 1) J.pe_int (fun _ _ => rfl)) J.pa_nil))) J.pa_nil)))) (J.pe_op op_sub (J.pv 0) J.pe_int) (fun _ _ => rfl))))))), ?_⟩
    refine ⟨_, rfl, _, _, rfl, rfl, _, rfl, ?_⟩
    refine ite2 (fun t => ?_) (fun t => ?_)
    · have h4 : (i : Int) < 4 := of_decide_eq_true t
      have sa0 : Same H _ := Same.refl H
      refine ⟨_, rfl, nl, _, _, _, rfl, rfl, sa0.seq hS, (rfl : atI ([.str n0, .str n1, .str n2] : List V) 0 = _), (by show 1 ≤ 1000; decide), fun xa0 nxa0 => ⟨xa0, _, rfl, upd_same, fun Ha0 hn k2 => ⟨rfl, ?_⟩⟩⟩
      obtain ⟨ea0, ta0⟩ := mkEx (sa0 _ _ hR) nxa0 hn k2
      clear hn k2
      have sa1 : Same H Ha0 := sa0.trans ta0
      refine ⟨_, rfl, nl, _, _, _, rfl, rfl, sa1.seq hS, (rfl : atI ([.str n0, .str n1, .str n2] : List V) 1 = _), (by show 1 ≤ 1000; decide), fun xa1 nxa1 => ⟨xa1, _, rfl, upd_same, fun Ha1 hn k2 => ⟨rfl, ?_⟩⟩⟩
      obtain ⟨ea1, ta1⟩ := mkEx (sa1 _ _ hR) nxa1 hn k2
      clear hn k2
      have sa2 : Same H Ha1 := sa1.trans ta1
      have ea0 := ea0.same ta1
      refine ⟨_, rfl, nl, _, _, _, rfl, rfl, sa2.seq hS, (rfl : atI ([.str n0, .str n1, .str n2] : List V) 2 = _), (by show 1 ≤ 1000; decide), fun xa2 nxa2 => ⟨xa2, _, rfl, upd_same, fun Ha2 hn k2 => ⟨rfl, ?_⟩⟩⟩
      obtain ⟨ea2, ta2⟩ := mkEx (sa2 _ _ hR) nxa2 hn k2
      clear hn k2
      have sa3 : Same H Ha2 := sa2.trans ta2
      have ea0 := ea0.same ta2
      have ea1 := ea1.same ta2
      refine ⟨_, rfl, nl, _, _, _, rfl, rfl, sa3.seq hS, (rfl : atI ([.str n0, .str n1, .str n2] : List V) 0 = _), (by show 1 ≤ 1000; decide), fun xa3 nxa3 => ⟨xa3, _, rfl, upd_same, fun Ha3 hn k2 => ⟨rfl, ?_⟩⟩⟩
      obtain ⟨ea3, ta3⟩ := mkEx (sa3 _ _ hR) nxa3 hn k2
      clear hn k2
      have sa4 : Same H Ha3 := sa3.trans ta3
      have ea0 := ea0.same ta3
      have ea1 := ea1.same ta3
      have ea2 := ea2.same ta3
      refine ⟨(by show 4 ≤ sizeLine; decide), fun l nl0 => ⟨_, rfl, l, [.ref xa0, .ref xa1, .ref xa2, .ref xa3], (i : Int), ?_⟩⟩
      have f := alloc (o := .lst [.ref xa0, .ref xa1, .ref xa2, .ref xa3]) nl0
      have sf := sa4.trans f
      have hcase : i = 0 ∨ i = 1 ∨ i = 2 ∨ i = 3 := by omega
      rcases hcase with rfl | rfl | rfl | rfl
      · exact ⟨_, rfl, rfl, SqL.of upd_same, rfl, q xa0 _ sf (born1 (i := 0) (ea0.same f) (by decide) fun H'' k => dS)⟩
      · exact ⟨_, rfl, rfl, SqL.of upd_same, rfl, q xa1 _ sf (born1 (i := 1) (ea1.same f) (by decide) fun H'' k => dS)⟩
      · exact ⟨_, rfl, rfl, SqL.of upd_same, rfl, q xa2 _ sf (born1 (i := 2) (ea2.same f) (by decide) fun H'' k => dS)⟩
      · exact ⟨_, rfl, rfl, SqL.of upd_same, rfl, q xa3 _ sf (born1 (i := 3) (ea3.same f) (by decide) fun H'' k => dS)⟩
    have h4 : ¬ (i : Int) < 4 := fun z => t (decide_eq_true z)
    refine ⟨_, rfl, _, _, rfl, rfl, _, rfl, ?_⟩
    refine ite2 (fun t => ?_) (fun t => ?_)
    · have h8 : (i : Int) < 8 := of_decide_eq_true t
      refine ⟨_, rfl, nl, _, _, _, rfl, rfl, hS, (rfl : atI ([.str n0, .str n1, .str n2] : List V) 0 = _), _, rfl, nl, _, _, _, rfl, rfl, hS, (rfl : atI ([.str n0, .str n1, .str n2] : List V) 1 = _), _, rfl, nl, _, _, _, rfl, rfl, hS, (rfl : atI ([.str n0, .str n1, .str n2] : List V) 2 = _), (by show 3 ≤ sizeLine; decide), fun tp nt => ?_⟩
      have st := alloc (o := .tup [.str n0, .str n1, .str n2]) nt
      have gt : upd H tp (.tup [.str n0, .str n1, .str n2]) tp = some (.tup [.str n0, .str n1, .str n2]) := upd_same
      have ntp : tp ≠ hd := (ne_of_none hR nt).symm
      generalize upd H tp (.tup [.str n0, .str n1, .str n2]) = Ht at *
      have sb0 : Same H _ := st
      refine ⟨_, rfl, nl, _, _, _, rfl, rfl, sb0.seq hS, (rfl : atI ([.str n0, .str n1, .str n2] : List V) 2 = _), (by show 1 ≤ 1000; decide), fun xb0 nxb0 => ⟨xb0, _, rfl, upd_same, fun Hb0 hn k2 => ⟨rfl, ?_⟩⟩⟩
      obtain ⟨eb0, tb0⟩ := mkEx (sb0 _ _ hR) nxb0 hn k2
      clear hn k2
      have sb1 : Same H Hb0 := sb0.trans tb0
      refine ⟨_, rfl, (by show 1 ≤ 1000; decide), fun xb1 nxb1 => ⟨xb1, _, rfl, upd_same, fun Hb1 hn k2 => ⟨rfl, ?_⟩⟩⟩
      obtain ⟨eb1, tb1⟩ := mkEx (sb1 _ _ hR) nxb1 hn k2
      clear hn k2
      have sb2 : Same H Hb1 := sb1.trans tb1
      have eb0 := eb0.same tb1
      refine ⟨_, rfl, nl, _, _, _, rfl, rfl, sb2.seq hS, (rfl : atI ([.str n0, .str n1, .str n2] : List V) 1 = _), (by show 1 ≤ 1000; decide), fun xb2 nxb2 => ⟨xb2, _, rfl, upd_same, fun Hb2 hn k2 => ⟨rfl, ?_⟩⟩⟩
      obtain ⟨eb2, tb2⟩ := mkEx (sb2 _ _ hR) nxb2 hn k2
      clear hn k2
      have sb3 : Same H Hb2 := sb2.trans tb2
      have eb0 := eb0.same tb2
      have eb1 := eb1.same tb2
      refine ⟨_, rfl, (by show 1 ≤ 1000; decide), fun xb3 nxb3 => ⟨xb3, _, rfl, upd_same, fun Hb3 hn k2 => ⟨rfl, ?_⟩⟩⟩
      obtain ⟨eb3, tb3⟩ := mkEx (sb3 _ _ hR) nxb3 hn k2
      clear hn k2
      have sb4 : Same H Hb3 := sb3.trans tb3
      have eb0 := eb0.same tb3
      have eb1 := eb1.same tb3
      have eb2 := eb2.same tb3
      refine ⟨(by show 4 ≤ sizeLine; decide), fun l nl0 => ⟨_, rfl, _, _, rfl, rfl, l, [.ref xb0, .ref xb1, .ref xb2, .ref xb3], (i : Int) - 4, ?_⟩⟩
      have f := alloc (o := .lst [.ref xb0, .ref xb1, .ref xb2, .ref xb3]) nl0
      have sf := sb4.trans f
      have gf := f _ _ (tb3 _ _ (tb2 _ _ (tb1 _ _ (tb0 _ _ gt))))
      have hcase : i = 4 ∨ i = 5 ∨ i = 6 ∨ i = 7 := by omega
      rcases hcase with rfl | rfl | rfl | rfl
      · exact ⟨_, rfl, rfl, SqL.of upd_same, rfl, q xb0 _ sf (born1 (i := 4) (eb0.same f) (by decide) fun H'' k => dS)⟩
      · exact ⟨_, rfl, rfl, SqL.of upd_same, rfl, q xb1 _ sf (born1 (i := 5) (eb1.same f) (by decide) fun H'' k => dat_tup (ys := [n0, n1, n2]) (SqT.of (k _ _ gf ntp)))⟩
      · exact ⟨_, rfl, rfl, SqL.of upd_same, rfl, q xb2 _ sf (born1 (i := 6) (eb2.same f) (by decide) fun H'' k => dS)⟩
      · exact ⟨_, rfl, rfl, SqL.of upd_same, rfl, q xb3 _ sf (born1 (i := 7) (eb3.same f) (by decide) fun H'' k => dI)⟩
    have h8 : ¬ (i : Int) < 8 := fun z => t (decide_eq_true z)
    have sc0 : Same H _ := Same.refl H
    refine ⟨_, rfl, (by show 1 ≤ 1000; decide), fun xc0 nxc0 => ⟨xc0, _, rfl, upd_same, fun Hc0 hn k2 => ⟨rfl, ?_⟩⟩⟩
    obtain ⟨ec0, tc0⟩ := mkEx (sc0 _ _ hR) nxc0 hn k2
    clear hn k2
    have sc1 : Same H Hc0 := sc0.trans tc0
    refine ⟨_, rfl, (by show 1 ≤ 1000; decide), fun xc1 nxc1 => ⟨xc1, _, rfl, upd_same, fun Hc1 hn k2 => ⟨rfl, ?_⟩⟩⟩
    obtain ⟨ec1, tc1⟩ := mkEx (sc1 _ _ hR) nxc1 hn k2
    clear hn k2
    have sc2 : Same H Hc1 := sc1.trans tc1
    have ec0 := ec0.same tc1
    refine ⟨_, rfl, (by show 1 ≤ 1000; decide), fun xc2 nxc2 => ⟨xc2, _, rfl, upd_same, fun Hc2 hn k2 => ⟨rfl, ?_⟩⟩⟩
    obtain ⟨ec2, tc2⟩ := mkEx (sc2 _ _ hR) nxc2 hn k2
    clear hn k2
    have sc3 : Same H Hc2 := sc2.trans tc2
    have ec0 := ec0.same tc2
    have ec1 := ec1.same tc2
    refine ⟨_, rfl, (by show 1 ≤ 1000; decide), fun xc3 nxc3 => ⟨xc3, hd, _, rfl, upd_same, SqL.of (alloc nxc3 _ _ (sc3 _ _ hR)), fun lr Hc3 nlr hlr hn k2 => ⟨rfl, ?_⟩⟩⟩
    obtain ⟨ec3, tc3⟩ := mkEx (sc3 _ _ hR) nxc3 hn k2
    have nelr : lr ≠ hd := by
      have hb : hd ≠ xc3 := ne_of_none (sc3 _ _ hR) nxc3
      exact (ne_of_none (show upd _ xc3 (XO (cs 11) none xc3) hd = some _ by rw [upd_ne hb]; exact sc3 _ _ hR) nlr).symm
    clear hn k2
    have sc4 : Same H Hc3 := sc3.trans tc3
    have ec0 := ec0.same tc3
    have ec1 := ec1.same tc3
    have ec2 := ec2.same tc3
    refine ⟨(by show 4 ≤ sizeLine; decide), fun l nl0 => ?_⟩
    have f := alloc (o := .lst [.ref xc0, .ref xc1, .ref xc2, .ref xc3]) nl0
    have glr := f _ _ hlr
    have gl : upd Hc3 l (.lst [.ref xc0, .ref xc1, .ref xc2, .ref xc3]) l = some (.lst [.ref xc0, .ref xc1, .ref xc2, .ref xc3]) := upd_same
    have sl := sc4.trans f
    have ec0 := ec0.same f
    have ec1 := ec1.same f
    have ec2 := ec2.same f
    have ec3 := ec3.same f
    generalize upd Hc3 l (.lst [.ref xc0, .ref xc1, .ref xc2, .ref xc3]) = Hl at *
    refine ⟨_, rfl, ?_⟩
    refine ⟨_, rfl, (by show 1 ≤ 1000; decide), fun x4 nx4 => ⟨x4, _, rfl, upd_same, fun H4 hn k2 => ⟨rfl, ?_⟩⟩⟩
    obtain ⟨e4, t4⟩ := mkEx (sl _ _ hR) nx4 hn k2
    clear hn k2
    have s4 : Same H H4 := sl.trans t4
    refine ⟨_, rfl, nl, _, _, _, rfl, rfl, s4.seq hS, (rfl : atI ([.str n0, .str n1, .str n2] : List V) 0 = _), _, rfl, nl, _, _, _, rfl, rfl, s4.seq hS, (rfl : atI ([.str n0, .str n1, .str n2] : List V) 2 = _), (by show 2 ≤ 1000; decide), fun x5 nx5 => ⟨x5, _, _, rfl, upd_same, fun H5 hn k2 => ⟨rfl, ?_⟩⟩⟩
    obtain ⟨e5, t5⟩ := mkEx (s4 _ _ hR) nx5 hn k2
    clear hn k2
    have s5 : Same H H5 := s4.trans t5
    refine ⟨(by show 2 ≤ sizeLine; decide), fun l2 nl2 => ?_⟩
    refine ⟨l, l2, _, _, rfl, rfl, alloc nl2 _ _ (t5 _ _ (t4 _ _ gl)), upd_same, (by show 6 ≤ sizeLine; decide), fun l3 nl3 => ⟨_, rfl, _, _, rfl, rfl, l3, [.ref xc0, .ref xc1, .ref xc2, .ref xc3, .ref x4, .ref x5], (i : Int) - 8, ?_⟩⟩
    have f5 : Same H5 _ := (alloc (o := .lst [.ref x4, .ref x5]) nl2).trans (alloc (o := .lst ([.ref xc0, .ref xc1, .ref xc2, .ref xc3] ++ [.ref x4, .ref x5])) nl3)
    have fl := t4.trans (t5.trans f5)
    have sf := s5.trans f5
    have glf := fl _ _ glr
    have hcase : i = 8 ∨ i = 9 ∨ i = 10 ∨ i = 11 ∨ i = 12 ∨ i = 13 := by omega
    rcases hcase with rfl | rfl | rfl | rfl | rfl | rfl
    · exact ⟨_, rfl, rfl, SqL.of upd_same, rfl, q xc0 _ sf (born1 (i := 8) (ec0.same fl) (by decide) fun H'' k => dI)⟩
    · exact ⟨_, rfl, rfl, SqL.of upd_same, rfl, q xc1 _ sf (born1 (i := 9) (ec1.same fl) (by decide) fun H'' k => dI)⟩
    · exact ⟨_, rfl, rfl, SqL.of upd_same, rfl, q xc2 _ sf (born1 (i := 10) (ec2.same fl) (by decide) fun H'' k => dI)⟩
    · exact ⟨_, rfl, rfl, SqL.of upd_same, rfl, q xc3 _ sf (born1 (i := 11) (ec3.same fl) (by decide) fun H'' k => dat_lst (SqL.of (k _ _ glf nelr)))⟩
    · exact ⟨_, rfl, rfl, SqL.of upd_same, rfl, q x4 _ sf (born1 (i := 12) (e4.same (t5.trans f5)) (by decide) fun H'' k => dI)⟩
    · exact ⟨_, rfl, rfl, SqL.of upd_same, rfl, q x5 _ sf (born2 (e5.same f5))⟩
end
end K15

set_option Elab.async false
set_option linter.all false
set_option maxRecDepth 100000
set_option maxHeartbeats 4000000
namespace K15
open PySem L2
theorem allocG {H : Hp} {p : Addr} {o : HO} (h : H p = none) : Same H (upd H p o) ∧ upd H p o p = some o := ⟨alloc h, upd_same⟩
theorem num_ok {n : Int} (h : n.natAbs ≤ 10 ^ 61) : n.natAbs.log2 < 1920 := by
  by_cases h0 : n.natAbs = 0
  · rw [h0]; decide +kernel
  · exact (Nat.log2_lt h0).mpr (Nat.lt_of_le_of_lt h (by decide +kernel))
theorem wt_int {n : Int} (h : n.natAbs.log2 < 1920) : wt (.int n) ≤ 2000 := by
  simp only [wt, PyData.shown]
  exact Nat.le_trans (PyProof.Rows.int_text_len_1921 h) (by decide)
theorem strs_ok : ∀ ys : List Str, (∀ y ∈ ys, Nm y) → dOkAll (ys.map PyData.str) ∧ PyData.depthAll (ys.map PyData.str) = 0 ∧ wtAll (ys.map PyData.str) ≤ 204 * ys.length
  | [], _ => ⟨by simp only [List.map_nil, dOkAll], by simp [PyData.depthAll], by simp [wtAll]⟩
  | y :: r, h => by
    obtain ⟨a, b, c⟩ := strs_ok r fun z hz => h z (List.mem_cons_of_mem _ hz)
    obtain ⟨l, as⟩ := h y (by simp)
    refine ⟨?_, ?_, ?_⟩
    · simp only [List.map_cons, dOkAll, dOk]; exact ⟨as.ok, a⟩
    · simp only [List.map_cons, PyData.depthAll, PyData.depth, b]; rfl
    · simp only [List.map_cons, wtAll, wt, List.length_cons]; omega
theorem tup_ok {ys : List Str} (h : ∀ y ∈ ys, Nm y) (hl : ys.length ≤ 8) : dOk (.tuple (ys.map PyData.str)) ∧ (PyData.tuple (ys.map PyData.str)).depth ≤ 100 ∧ wt (.tuple (ys.map PyData.str)) ≤ 16777216 := by
  obtain ⟨a, b, c⟩ := strs_ok ys h
  exact ⟨by simp only [dOk]; exact a, by simp only [PyData.depth, b]; decide, by simp only [wt]; omega⟩
theorem lst_ok {ys : List Str} (h : ∀ y ∈ ys, Nm y) (hl : ys.length ≤ 8) : dOk (.list (ys.map PyData.str)) ∧ (PyData.list (ys.map PyData.str)).depth ≤ 100 ∧ wt (.list (ys.map PyData.str)) ≤ 16777216 := by
  obtain ⟨a, b, c⟩ := strs_ok ys h
  exact ⟨by simp only [dOk]; exact a, by simp only [PyData.depth, b]; decide, by simp only [wt]; omega⟩
theorem str_ok {y : Str} (h : Nm y) : dOk (.str y) ∧ (PyData.str y).depth ≤ 100 ∧ wt (.str y) ≤ 16777216 :=
  ⟨by simp only [dOk]; exact h.2.ok, by simp [PyData.depth], by simp only [wt]; have := h.1; omega⟩
theorem int_ok {n : Int} (h : n.natAbs.log2 < 1920) : dOk (.int n) ∧ (PyData.int n).depth ≤ 100 ∧ wt (.int n) ≤ 16777216 :=
  ⟨by simp only [dOk]; exact h, by simp [PyData.depth], Nat.le_trans (wt_int h) (by decide)⟩
theorem due_ok {n0 n1 n2 : Str} {num : Int} {ring : List Str} (h0 : Nm n0) (h1 : Nm n1) (h2 : Nm n2) (hn : num.natAbs.log2 < 1920) (hr : ∀ y ∈ ring, Nm y) (hl : ring.length ≤ 8) : ∀ i, i < 14 → dOk (dataDue i n0 n1 n2 num ring) ∧ (dataDue i n0 n1 n2 num ring).depth ≤ 100 ∧ wt (dataDue i n0 n1 n2 num ring) ≤ 16777216
  | 0, _ => str_ok h0
  | 1, _ => str_ok h1
  | 2, _ => str_ok h2
  | 3, _ => str_ok h0
  | 4, _ => str_ok h2
  | 5, _ => tup_ok (ys := [n0, n1, n2]) (by simp; exact ⟨h0, h1, h2⟩) (by simp)
  | 6, _ => str_ok h1
  | 7, _ => int_ok hn
  | 8, _ => int_ok hn
  | 9, _ => int_ok hn
  | 10, _ => int_ok hn
  | 11, _ => lst_ok hr hl
  | 12, _ => int_ok hn
  | 13, _ => tup_ok (ys := [n0, n2]) (by simp; exact ⟨h0, h2⟩) (by simp)
  | _ + 14, h => absurd h (by omega)
section
variable {P : Program} {w : World} {K : PySem.W.Frag} {mg : Str → Option Value} {base : Heap} {cs : Nat → Addr} {CP : Addr}
theorem num_if {D : Ends} {p : Addr} {H3 : Hp} {d3 : Nat} {num0 : Int} {v0 v1 v3 v4 v5 v6 v8 v9 v10 : Option V} {hnum0 : num0.natAbs.log2 < 1920} (hf3 : FeedAt H3 p d3) (hd : d3 + 2 < 1000)
    (k : ∀ (num : Int) (Hn : Hp) (dn : Nat), num.natAbs.log2 < 1920 → dn ≤ d3 + 2 → FeedAt Hn p dn → (∀ b o, H3 b = some o → b ≠ p → Hn b = some o) → D.nx [v0, v1, some (.ref p), v3, v4, v5, v6, some (.int num), v8, v9, v10] Hn) :
    tIfS (tTest (tOp rEq (tCall spNext [] E0 (tCons (tVar 2) (tCons (tC (.int 2)) tNil))) (tC (.int 0)))) (tAsg (tCall spNext [] E0 (tCons (tVar 2) (tCons (tC (.int 41)) tNil))) (gName 7)) tNext D [v0, v1, some (.ref p), v3, v4, v5, v6, some (.int num0), v8, v9, v10] H3 := by
  refine ⟨_, rfl, p, 2, d3, rfl, hf3, by omega, by decide, by decide, fun zq H4 q0 q1 hf4 k4 => ?_⟩
  refine ⟨rfl, _, rfl, ?_⟩
  refine ite2 (fun _ => ?_) (fun _ => ?_)
  · refine ⟨_, rfl, p, 41, d3 + 1, rfl, hf4, by omega, by decide, by decide, fun num Hn b0 b1 hfn kn => ?_⟩
    refine k num Hn (d3 + 1 + 1) (num_ok ?_) (by omega) hfn fun b o e hb => kn b o (k4 b o e hb) hb
    have e2 : (10 : Nat) ^ 61 = 10000000000000000000000000000000000000000000000000000000000000 := by decide +kernel
    rw [e2]; omega
  · exact k num0 H4 (d3 + 1) hnum0 (by omega) hf4 k4
noncomputable def spLaw (K : PySem.W.Frag) : Sp := fun vs H Q _ => ∃ (a : Addr) (ns : List Int), vs = [.ref a] ∧ SqL K H a (ns.map V.int) ∧ ns.length ≤ 63 ∧ ∀ H', Q (.bl true) H'
theorem d_Law {f : Addr} {fd : FuncData} (T : Txt K mg cs CP) (F : Fun K "law" "law" sLaw f fd) (D_law_cell_at : Def P w K mg base 1 "_law_cell_at" PscCell (spCell K)) (D_law_feed : Def P w K mg base 1 "_law_feed" PscFeed spFeed) (D_law_next : Def P w K mg base 1 "_law_next" PscNext spNext)
    (D_law_names : Def P w K mg base 2 "_law_names" PscNames spNames) (D_law_own : Def P w K mg base 1 "_law_own" PscOwn (spOwn cs)) (D_law_made : Def P w K mg base 3 "_law_made" PscMade (spMade K cs))
    (D_law_borne : Def P w K mg base 1 "_law_borne" PscBorne (spBorne K cs)) (D_law_due : Def P w K mg base 1 "_law_due" PscDue (spDue K)) : FnOk P w K mg base CX0 4 f fd PscLaw (spLaw K) := by
  refine J.okQ F scLaw (fun vs H Q E h => ?_) (fun cdv A outer s H vs Q E hr h => ?_)
  · obtain ⟨a, ns, rfl, _⟩ := h; rfl
  · obtain ⟨a, ns, rfl, hS, hn, q⟩ := h
    refine ⟨_, (J.pss_cons (J.ps_set (i := 1) scLaw.nd rfl (Or.inl rfl) (J.pe_lst (J.pac J.pe_str (J.pac J.pe_str (J.pac J.pe_str (J.pac J.pe_str (J.pac J.pe_str (J.pac J.pe_str (J.pac J.pe_str (J.pac J.pe_str (J.pac J.pe_str (J.pac J.pe_str (J.pac J.pe_str (J.pac J.pe_str J.pa_nil))))))))))))))
      (J.pss_cons (J.ps_set (i := 1) scLaw.nd rfl (Or.inl rfl) (J.pe_op op_cat (J.pv 1) (J.pe_lst (J.pac J.pe_str (J.pac J.pe_str J.pa_nil)))))
      (J.pss_cons (J.ps_set (i := 2) scLaw.nd rfl (Or.inl rfl) (J.pe_own D_law_feed (hr.mono (by decide)) (by rfl) pass0 (J.pac (J.pe_own D_law_cell_at (hr.mono (by decide)) (by rfl) pass0 (J.pac (J.pv 0) (J.pac J.pe_int J.pa_nil))) J.pa_nil)))
      (J.pss_cons (J.ps_set (i := 3) scLaw.nd rfl (Or.inl rfl) (J.pe_own D_law_next (hr.mono (by decide)) (by rfl) pass0 (J.pac (J.pv 2) (J.pac J.pe_int J.pa_nil))))
      (J.pss_cons (J.ps_for PassesOwn.never rfl (J.pi_range1 (by rfl) T.range (J.pac J.pe_int J.pa_nil)) (J.pg_name (i := 4) scLaw.nd rfl (Or.inl rfl))
        (J.pss_cons (J.ps_set (i := 5) scLaw.nd rfl (Or.inl rfl) (J.pe_op op_mod (J.pe_op op_add (J.pv 3) (J.pv 4)) J.pe_int))
        (J.pss_cons (J.ps_set (i := 6) scLaw.nd rfl (Or.inl rfl) (J.pe_own D_law_names (hr.mono (by decide)) (by rfl) pass0 (J.pac (J.pv 2) (J.pac J.pe_int J.pa_nil))))
        (J.pss_cons (J.ps_set (i := 7) scLaw.nd rfl (Or.inl rfl) (J.pe_op op_add (J.pe_op op_sub (J.pe_op op_mod (J.pe_own D_law_cell_at (hr.mono (by decide)) (by rfl) pass0 (J.pac (J.pv 0) (J.pac (J.pe_op op_add J.pe_int (J.pv 4)) J.pa_nil))) (J.pe_op op_mul J.pe_int (J.pe_op op_pow J.pe_int J.pe_int))) (J.pe_op op_pow J.pe_int J.pe_int)) J.pe_int))
        (J.pss_cons (J.ps_if (J.pt_cmpR op_eq (J.pe_own D_law_next (hr.mono (by decide)) (by rfl) pass0 (J.pac (J.pv 2) (J.pac J.pe_int J.pa_nil))) J.pe_int (nomark _))
          (J.pss_one (J.ps_set (i := 7) scLaw.nd rfl (Or.inl rfl) (J.pe_own D_law_next (hr.mono (by decide)) (by rfl) pass0 (J.pac (J.pv 2) (J.pac J.pe_int J.pa_nil)))))
          J.pss_nil)
        (J.pss_cons (J.ps_set (i := 8) scLaw.nd rfl (Or.inl rfl) (J.pe_own D_law_names (hr.mono (by decide)) (by rfl) pass0 (J.pac (J.pv 2) (J.pac (J.pe_op op_add J.pe_int (J.pe_own D_law_next (hr.mono (by decide)) (by rfl) pass0 (J.pac (J.pv 2) (J.pac J.pe_int J.pa_nil)))) J.pa_nil))))
        (J.pss_cons (J.ps_set (i := 9) scLaw.nd rfl (Or.inl rfl) (J.pct c_listOf (by rfl) T.list (by decide +kernel) (J.pac (J.pv 8) J.pa_nil)))
        (J.pss_cons (J.ps_set (i := 10) scLaw.nd rfl (Or.inl rfl) (J.pe_own D_law_made (hr.mono (by decide)) (by rfl) pass0 (J.pac (J.pv 5) (J.pac (J.pv 6) (J.pac (J.pv 7) (J.pac (J.pv 9) J.pa_nil))))))
        (J.pss_cons (J.ps_expr (J.pe_bmK PySem.F.plainAttrs_list PySem.F.slot_list_append PySem.F.type_list_append mt_append (J.pv 9) (J.pac J.pe_str J.pa_nil)))
        (J.pss_cons (J.ps_if (J.pw_pt (J.pw_or (J.pt_not (J.pt_val (J.pcb c_isiX (by rfl) T.isinstance (by decide +kernel) (J.pac (J.pv 10) (J.pac T.pe_PathError J.pa_nil))))) (J.pw_or1 (J.pt_cmpR op_ne (J.pe_own D_law_own (hr.mono (by decide)) (by rfl) pass0 (J.pac (J.pv 10) J.pa_nil)) (J.pe_ix ixL (J.pv 1) (J.pv 5) (fun _ _ => rfl)) (nomark _)))))
          (J.pss_one (J.ps_ret J.pe_bl))
          J.pss_nil)
        (J.pss_one (J.ps_if (J.pt_cmpR op_ne (J.pcb (c_repr hr) (by rfl) T.repr (by decide +kernel) (J.pac (J.pe_own D_law_borne (hr.mono (by decide)) (by rfl) pass0 (J.pac (J.pv 10) (J.pac (J.pv 5) J.pa_nil))) J.pa_nil)) (J.pcb (c_repr hr) (by rfl) T.repr (by decide +kernel) (J.pac (J.pe_own D_law_due (hr.mono (by decide)) (by rfl) pass0 (J.pac (J.pv 5) (J.pac (J.pv 6) (J.pac (J.pv 7) (J.pac (J.pv 8) J.pa_nil))))) J.pa_nil)) (nomark _))
          (J.pss_one (J.ps_ret J.pe_bl))
          J.pss_nil))))))))))))
      (J.pss_one (J.ps_ret J.pe_bl))))))), ?_⟩
    refine ⟨(by show 12 ≤ sizeLine; decide), fun w1 nw1 => ?_⟩
    refine ⟨_, rfl, (by show 2 ≤ sizeLine; decide), fun w2 nw2 => ⟨w1, w2, _, _, rfl, rfl, alloc nw2 _ _ upd_same, upd_same, (by show 14 ≤ sizeLine; decide), fun w3 nw3 => ?_⟩⟩
    have s3 : Same H _ := (alloc nw1).trans ((alloc nw2).trans (alloc (o := .lst (wl.map V.str)) nw3))
    have g3 := (allocG (o := .lst (wl.map V.str)) nw3).2
    refine ⟨_, rfl, a, ns, 0, rfl, s3.seq hS, by decide, fun z => ⟨z, rfl, fun p H1 np hf0 k1 => ?_⟩⟩
    have s4 : Same H H1 := s3.trans k1
    have gw1 : H1 w3 = some (.lst (wl.map V.str)) := k1 _ _ g3
    have np0 : H p = none := s3.free np
    have npw : w3 ≠ p := ne_of_none g3 np
    refine ⟨_, rfl, p, 14, 0, rfl, hf0, by decide, by decide, by decide, fun zt H2 t0 t1 hf2 k2 => ?_⟩
    refine ⟨14, rfl, by decide, by decide, for_range (fun k σ Hk => ∃ d : Nat, d ≤ 1 + 43 * k ∧ Same H Hk ∧ FeedAt Hk p d ∧ Hk w3 = some (.lst (wl.map V.str)) ∧ ∃ v4 v5 v6 v7 v8 v9 v10, σ = [some (.ref a), some (.ref w3), some (.ref p), some (.int zt), v4, v5, v6, v7, v8, v9, v10])
      ⟨1, by omega, fun b o e => k2 b o (s4 b o e) (ne_of_none e np0), hf2, k2 _ _ gw1 npw, none, none, none, none, none, none, none, rfl⟩ ?_ ?_⟩
    · rintro k σ Hk hk ⟨d, hd, sk, hfk, gwk, v4, v5, v6, v7, v8, v9, v10, rfl⟩
      have hk : k < 14 := hk
      have np1 : ∀ b o, H b = some o → b ≠ p := fun b o e => ne_of_none e np0
      refine seqG fun N hN => ?_
      refine ⟨_, rfl, _, rfl, _, _, rfl, rfl, _, _, rfl, rfl, (by show (0 : Int) < 14; decide), ?_⟩
      refine hN _ _ ?_
      obtain ⟨i, ei⟩ : ∃ i : Nat, (zt + (0 + (k : Int))) % 14 = i := ⟨((zt + (0 + (k : Int))) % 14).toNat, by omega⟩
      have hi : i < 14 := by omega
      refine seqG fun N hN => ?_
      refine ⟨_, rfl, p, 3, d, rfl, hfk, by omega, by decide, fun nl ys H3 d3 nnl hnl hyl hys hf3 hd3 k3 => ?_⟩
      refine hN _ _ ?_
      obtain ⟨n0, n1, n2, rfl⟩ : ∃ n0 n1 n2, ys = [n0, n1, n2] := by
        match ys, hyl with
        | [n0, n1, n2], _ => exact ⟨n0, n1, n2, rfl⟩
      have nlp : nl ≠ p := fun e => by
        obtain ⟨l9, s9, e9, _⟩ := hfk
        rw [e, e9] at nnl; cases nnl
      have s5 : Same H H3 := fun b o e => k3 b o (sk b o e) (np1 b o e)
      have gw3 : H3 w3 = _ := k3 _ _ gwk npw
      have ek : (1 + (0 + (k : Int))) = ((1 + k : Nat) : Int) := by omega
      refine seqG fun N hN => ?_
      refine ⟨_, rfl, _, rfl, _, _, rfl, rfl, a, ns, 1 + k, (by show [V.ref a, V.int (1 + (0 + (k : Int)))] = _; rw [ek]), s5.seq hS, by omega, fun zc => ?_⟩
      refine ⟨_, _, rfl, rfl, ⟨by decide, by decide, by decide⟩, _, _, rfl, rfl, .inl ⟨by decide, by decide⟩, _, _, rfl, rfl, ?_, ?_⟩
      · show (0 : Int) < 2 * 10 ^ (Int.toNat 60)
        decide +kernel
      refine ⟨_, _, rfl, rfl, ⟨by decide, by decide, by decide⟩, _, _, rfl, rfl, _, _, rfl, rfl, ?_⟩
      refine hN _ _ ?_
      have hnum0 : (zc % (2 * 10 ^ (Int.toNat 60)) - 10 ^ (Int.toNat 60) + 1).natAbs.log2 < 1920 := by
        refine num_ok ?_
        have e1 : (10 : Int) ^ (Int.toNat 60) = 1000000000000000000000000000000000000000000000000000000000000 := by decide +kernel
        have e2 : (10 : Nat) ^ 61 = 10000000000000000000000000000000000000000000000000000000000000 := by decide +kernel
        rw [e1, e2]
        omega
      generalize hN0 : zc % (2 * 10 ^ (Int.toNat 60)) - 10 ^ (Int.toNat 60) + 1 = num0 at hnum0
      refine seqG fun N hN => ?_
      refine num_if (hnum0 := hN0 ▸ hnum0) hf3 (by omega) fun num Hn dn hnum hdn0 hfn kn => ?_
      refine hN _ _ ?_
      have hdn : dn ≤ d + 22 := by omega
      have sn : Same H Hn := fun b o e => kn b o (s5 b o e) (np1 b o e)
      have gwn : Hn w3 = _ := kn _ _ gw3 npw
      have gnn : Hn nl = _ := kn _ _ hnl nlp
      refine seqG fun N hN => ?_
      refine ⟨_, rfl, _, rfl, p, 4, dn, rfl, hfn, by omega, by decide, by decide, fun zr H5 r0 r1 hf5 k5 => ?_⟩
      obtain ⟨m, em⟩ : ∃ m : Nat, 1 + zr = m := ⟨(1 + zr).toNat, by omega⟩
      have s7 : Same H H5 := fun b o e => k5 b o (sn b o e) (np1 b o e)
      have gw5 : H5 w3 = _ := k5 _ _ gwn npw
      have gn5 : H5 nl = _ := k5 _ _ gnn nlp
      refine ⟨_, _, rfl, rfl, p, m, dn + 1, (by rw [← em]; rfl), hf5, by omega, by omega, fun rl ring H6 d6 nrl hrl hrlen hring hf6 hd6 k6 => ?_⟩
      refine hN _ _ ?_
      have rlp : rl ≠ p := fun e => by
        obtain ⟨l9, s9, e9, _⟩ := hf5
        rw [e, e9] at nrl; cases nrl
      have s8 : Same H H6 := fun b o e => k6 b o (s7 b o e) (np1 b o e)
      have gw6 : H6 w3 = _ := k6 _ _ gw5 npw
      have gn6 : H6 nl = _ := k6 _ _ gn5 nlp
      refine seqG fun N hN => ?_
      refine ⟨_, rfl, rl, _, rfl, .inl (SqL.of hrl), fun hdn' nhd => ?_⟩
      refine hN _ _ ?_
      generalize hHd : hdn' = hdA at *
      have a7 := alloc (o := .lst (ring.map V.str)) nhd
      have gh7 : upd H6 hdA (.lst (ring.map V.str)) hdA = some (.lst (ring.map V.str)) := upd_same
      have hdp : hdA ≠ p := fun e => by
        obtain ⟨l9, s9, e9, _⟩ := hf6
        rw [e, e9] at nhd; cases nhd
      have hdrl : rl ≠ hdA := ne_of_none hrl nhd
      have hdnl : nl ≠ hdA := ne_of_none gn6 nhd
      have hdw : w3 ≠ hdA := ne_of_none gw6 nhd
      have nh0 : ∀ b o, H b = some o → b ≠ hdA := fun b o e => ne_of_none (s8 _ _ e) nhd
      generalize upd H6 hdA (.lst (ring.map V.str)) = H7 at *
      refine seqG fun N hN => ?_
      refine ⟨_, rfl, _, rfl, _, rfl, _, rfl, i, nl, hdA, num, n0, n1, n2, ring, (by rw [← ei]; rfl), hi, SqL.of (a7 _ _ gn6), gh7, fun x H8 s78 born => ?_⟩
      refine hN _ _ ?_
      refine seqG fun N hN => ?_
      refine ⟨_, rfl, .inl ⟨rfl, _, SqL.of (s78 _ _ gh7)⟩, hdA, _, _, rfl, rfl, s78 _ _ gh7, ?_, ?_⟩
      · rw [List.length_map, sizeLine_eq]; omega
      refine hN _ _ ?_
      have k89 : ∀ b o, H8 b = some o → b ≠ hdA → upd H8 hdA (.lst (ring.map V.str ++ [.str "zz"])) b = some o := fun b o e hb => by rw [upd_ne hb]; exact e
      generalize upd H8 hdA (.lst (ring.map V.str ++ [.str "zz"])) = H9 at *
      obtain ⟨fs, hx9, hb9⟩ := born H9 k89
      obtain ⟨dx, e1, e2, e3⟩ := id hx9
      have gw9 : H9 w3 = _ := k89 _ _ (s78 _ _ (a7 _ _ gw6)) hdw
      have gn9 : H9 nl = _ := k89 _ _ (s78 _ _ (a7 _ _ gn6)) hdnl
      have gr9 : H9 rl = _ := k89 _ _ (s78 _ _ (a7 _ _ hrl)) hdrl
      have hf9 : FeedAt H9 p d6 := by
        obtain ⟨l9, s9, e9, r9⟩ := hf6
        exact ⟨l9, s9, k89 _ _ (s78 _ _ (a7 _ _ e9)) hdp.symm, r9⟩
      have s9 : Same H H9 := fun b o e => k89 b o (s78 _ _ (a7 _ _ (s8 _ _ e))) (nh0 b o e)
      refine seqG fun N hN => ?_
      refine ⟨_, rfl, x, cs i, some dx, _, _, _, rfl, e1, .inr ⟨dx, fs, rfl, e2⟩, T.xi i hi, relRef.1, relRef.2, T.kitP i hi, _, rfl, iteF ?_⟩
      refine ⟨_, rfl, x, i, fs, rfl, hi, hx9, fun H10 s10 => ?_⟩
      refine ⟨_, rfl, _, rfl, w3, wl.map V.str, _, V.str (wordOf i), rfl, rfl, SqL.of (s10 _ _ gw9), (by rw [ei]; exact atI_nat (wlV_at hi)), rfl, _, rfl, iteNS rfl ?_⟩
      refine hN _ _ ?_
      obtain ⟨o1, o2, o3⟩ := due_ok (num := num) (hys n0 (by simp)) (hys n1 (by simp)) (hys n2 (by simp)) hnum hring (by omega) i hi
      have fits : (dataDue i n0 n1 n2 num ring).shown.length ≤ sizeLine := by rw [sizeLine_eq]; exact Nat.le_trans (shown_le _ o1) o3
      have hb10 : Bear K H10 i fs (dataDue i n0 n1 n2 num ring) := by
        rcases hb9 with ⟨z1, v, z2, z3⟩ | z
        · exact .inl ⟨z1, v, z2, DatV.same s10 _ _ z3⟩
        · exact .inr z
      refine ⟨_, rfl, _, rfl, x, i, fs, dataDue i n0 n1 n2 num ring, (by rw [← ei]; rfl), hi, hx9.same s10, hb10, fun v H11 s11 dv => ?_⟩
      refine ⟨v, _, rfl, dv, o1.show, o2, fits, ?_⟩
      refine ⟨_, rfl, _, rfl, _, rfl, _, rfl, i, nl, rl, num, n0, n1, n2, ring, (by rw [← ei]; rfl), hi, SqL.of (s11 _ _ (s10 _ _ gn9)), SqL.of (s11 _ _ (s10 _ _ gr9)), fun v2 H12 s12 dv2 => ?_⟩
      refine ⟨v2, _, rfl, dv2, o1.show, o2, fits, rfl, _, rfl, iteNS rfl ?_⟩
      exact ⟨d6, by omega, s9.trans (s10.trans (s11.trans s12)), hf9.same (s10.trans (s11.trans s12)), s12 _ _ (s11 _ _ (s10 _ _ gw9)), _, _, _, _, _, _, _, rfl⟩
    · rintro σ Hk ⟨d, hd, sk, hfk, gwk, v4, v5, v6, v7, v8, v9, v10, rfl⟩
      exact q Hk
end
end K15

set_option Elab.async false
set_option linter.all false
set_option maxRecDepth 100000
set_option maxHeartbeats 4000000
namespace K15
open PySem L2
/-- all that is asked of a class, as one truth -/
noncomputable def clsOk (K : PySem.W.Frag) (C : Addr) : Bool := excIn K C && PySem.W.findIn K (.ref C) "__getattribute__" == some (some (.builtin "BaseException.__getattribute__")) && PySem.W.findIn K (.ref C) "__getattr__" == some none &&
  PySem.W.findIn K (.ref C) "__setattr__" == some (some (.builtin "object.__setattr__")) && PySem.W.excOver K C && PySem.W.subIn K (.ref C) (.type "BaseException") == some true &&
  PySem.W.findIn K (.ref C) "__class__" == some (some (.builtin "object.__class__")) && PySem.W.specialIn K (.builtin "object.__class__") "__get__" == some (some (.builtin "getset_descriptor.__get__")) &&
  PySem.W.takesIn K (.builtin "object.__class__") == some true && PySem.W.mroIn K C (.type "object") == some true && PySem.W.keepIn K (.ref C)
theorem clsOk.is {K : PySem.W.Frag} {C : Addr} (h : clsOk K C = true) : XIs K C ∧ PySem.W.keepIn K (.ref C) = true := by
  simp only [clsOk, Bool.and_eq_true, beq_iff_eq] at h
  obtain ⟨⟨⟨⟨⟨⟨⟨⟨⟨⟨a, b⟩, c⟩, d⟩, e⟩, f⟩, g⟩, h⟩, i⟩, j⟩, k⟩ := h
  exact ⟨⟨⟨a, b, c, d, e, f⟩, g, h, i, j⟩, k⟩
noncomputable def csOf (l : List Addr) (i : Nat) : Addr := l.getD i 0
noncomputable def kitB (K : PySem.W.Frag) (l : List Addr) (CP : Addr) : Bool := (List.range 14).all fun i => ((List.range 14).all fun j => PySem.W.kitOne K (.ref (csOf l i)) (.ref (csOf l j)) == some (i == j)) &&
  PySem.W.kitOne K (.ref (csOf l i)) (.ref CP) == some true && PySem.W.kitOne K (.ref (csOf l i)) (.type "ValueError") == some true && clsOk K (csOf l i) && PySem.W.findIn K (.ref (csOf l i)) (fname i) == some none
theorem kitB.at_ {K : PySem.W.Frag} {l : List Addr} {CP : Addr} (h : kitB K l CP = true) (i : Nat) (hi : i < 14) : (∀ j, j < 14 → PySem.W.kitOne K (.ref (csOf l i)) (.ref (csOf l j)) = some (i == j)) ∧ PySem.W.kitOne K (.ref (csOf l i)) (.ref CP) = some true ∧ PySem.W.kitOne K (.ref (csOf l i)) (.type "ValueError") = some true ∧ clsOk K (csOf l i) = true ∧ PySem.W.findIn K (.ref (csOf l i)) (fname i) = some none := by
  have := List.all_eq_true.mp h i (List.mem_range.mpr hi)
  simp only [Bool.and_eq_true, beq_iff_eq] at this
  obtain ⟨⟨⟨⟨a, b⟩, c⟩, d⟩, e⟩ := this
  exact ⟨fun j hj => beq_iff_eq.mp (List.all_eq_true.mp a j (List.mem_range.mpr hj)), b, c, d, e⟩
theorem all_mk {l : PySem.W.OpenLaw} {w : World} {K : PySem.W.Frag} {h : Heap} {mg : Str → Option Value} {fa : Addr} (X : K.In h) (G : h.Ns mainGlobals mg) (hfa : mg "law" = some (.ref fa))
    {f_scCell : Addr} {oc_scCell kV_scCell dc_scCell pm_scCell cd_scCell ct_scCell : Value} {od_scCell an_scCell : Option Addr} {sl_scCell : Array (Option Value)}
    {f_scFeed : Addr} {oc_scFeed kV_scFeed dc_scFeed pm_scFeed cd_scFeed ct_scFeed : Value} {od_scFeed an_scFeed : Option Addr} {sl_scFeed : Array (Option Value)}
    {f_scNext : Addr} {oc_scNext kV_scNext dc_scNext pm_scNext cd_scNext ct_scNext : Value} {od_scNext an_scNext : Option Addr} {sl_scNext : Array (Option Value)}
    {f_scNames : Addr} {oc_scNames kV_scNames dc_scNames pm_scNames cd_scNames ct_scNames : Value} {od_scNames an_scNames : Option Addr} {sl_scNames : Array (Option Value)}
    {f_scOwn : Addr} {oc_scOwn kV_scOwn dc_scOwn pm_scOwn cd_scOwn ct_scOwn : Value} {od_scOwn an_scOwn : Option Addr} {sl_scOwn : Array (Option Value)}
    {f_scMade : Addr} {oc_scMade kV_scMade dc_scMade pm_scMade cd_scMade ct_scMade : Value} {od_scMade an_scMade : Option Addr} {sl_scMade : Array (Option Value)}
    {f_scBorne : Addr} {oc_scBorne kV_scBorne dc_scBorne pm_scBorne cd_scBorne ct_scBorne : Value} {od_scBorne an_scBorne : Option Addr} {sl_scBorne : Array (Option Value)}
    {f_scDue : Addr} {oc_scDue kV_scDue dc_scDue pm_scDue cd_scDue ct_scDue : Value} {od_scDue an_scDue : Option Addr} {sl_scDue : Array (Option Value)}
    {f_scLaw : Addr} {oc_scLaw kV_scLaw dc_scLaw pm_scLaw cd_scLaw ct_scLaw : Value} {od_scLaw an_scLaw : Option Addr} {sl_scLaw : Array (Option Value)}
    {C_NoKnot f_NoKnot : Addr} {oc_NoKnot kV_NoKnot dc_NoKnot pm_NoKnot cd_NoKnot ct_NoKnot : Value} {od_NoKnot an_NoKnot : Option Addr} {sl_NoKnot : Array (Option Value)}
    {C_NoMark f_NoMark : Addr} {oc_NoMark kV_NoMark dc_NoMark pm_NoMark cd_NoMark ct_NoMark : Value} {od_NoMark an_NoMark : Option Addr} {sl_NoMark : Array (Option Value)}
    {C_NoName f_NoName : Addr} {oc_NoName kV_NoName dc_NoName pm_NoName cd_NoName ct_NoName : Value} {od_NoName an_NoName : Option Addr} {sl_NoName : Array (Option Value)}
    {C_Twice f_Twice : Addr} {oc_Twice kV_Twice dc_Twice pm_Twice cd_Twice ct_Twice : Value} {od_Twice an_Twice : Option Addr} {sl_Twice : Array (Option Value)}
    {C_TooMany f_TooMany : Addr} {oc_TooMany kV_TooMany dc_TooMany pm_TooMany cd_TooMany ct_TooMany : Value} {od_TooMany an_TooMany : Option Addr} {sl_TooMany : Array (Option Value)}
    {C_NoTie f_NoTie : Addr} {oc_NoTie kV_NoTie dc_NoTie pm_NoTie cd_NoTie ct_NoTie : Value} {od_NoTie an_NoTie : Option Addr} {sl_NoTie : Array (Option Value)}
    {C_NoMeet f_NoMeet : Addr} {oc_NoMeet kV_NoMeet dc_NoMeet pm_NoMeet cd_NoMeet ct_NoMeet : Value} {od_NoMeet an_NoMeet : Option Addr} {sl_NoMeet : Array (Option Value)}
    {C_NoText f_NoText : Addr} {oc_NoText kV_NoText dc_NoText pm_NoText cd_NoText ct_NoText : Value} {od_NoText an_NoText : Option Addr} {sl_NoText : Array (Option Value)}
    {C_NoLine f_NoLine : Addr} {oc_NoLine kV_NoLine dc_NoLine pm_NoLine cd_NoLine ct_NoLine : Value} {od_NoLine an_NoLine : Option Addr} {sl_NoLine : Array (Option Value)}
    {C_NoWay f_NoWay : Addr} {oc_NoWay kV_NoWay dc_NoWay pm_NoWay cd_NoWay ct_NoWay : Value} {od_NoWay an_NoWay : Option Addr} {sl_NoWay : Array (Option Value)}
    {C_TooLong f_TooLong : Addr} {oc_TooLong kV_TooLong dc_TooLong pm_TooLong cd_TooLong ct_TooLong : Value} {od_TooLong an_TooLong : Option Addr} {sl_TooLong : Array (Option Value)}
    {C_GoesRound f_GoesRound : Addr} {oc_GoesRound kV_GoesRound dc_GoesRound pm_GoesRound cd_GoesRound ct_GoesRound : Value} {od_GoesRound an_GoesRound : Option Addr} {sl_GoesRound : Array (Option Value)}
    {C_NoSuch f_NoSuch : Addr} {oc_NoSuch kV_NoSuch dc_NoSuch pm_NoSuch cd_NoSuch ct_NoSuch : Value} {od_NoSuch an_NoSuch : Option Addr} {sl_NoSuch : Array (Option Value)}
    {C_NoPair f_NoPair : Addr} {oc_NoPair kV_NoPair dc_NoPair pm_NoPair cd_NoPair ct_NoPair : Value} {od_NoPair an_NoPair : Option Addr} {sl_NoPair : Array (Option Value)}
    {CP : Addr}
    (a_scCell : PySem.W.nsIn K mainGlobals "_law_cell_at" = some (some (.ref f_scCell))) (l_scCell : K.lookup f_scCell = some ⟨oc_scCell, od_scCell, .func (PySem.W.fnOf "_law_cell_at" "_law_cell_at" (defArgs sCell) (defBody sCell) (defScope sCell) .none kV_scCell dc_scCell pm_scCell an_scCell cd_scCell ct_scCell), sl_scCell⟩) (c_scCell : PySem.W.codeIn K cd_scCell "_law_cell_at" = true) (k_scCell : PySem.W.keepIn K (.ref f_scCell) = true)
    (a_scFeed : PySem.W.nsIn K mainGlobals "_law_feed" = some (some (.ref f_scFeed))) (l_scFeed : K.lookup f_scFeed = some ⟨oc_scFeed, od_scFeed, .func (PySem.W.fnOf "_law_feed" "_law_feed" (defArgs sFeed) (defBody sFeed) (defScope sFeed) .none kV_scFeed dc_scFeed pm_scFeed an_scFeed cd_scFeed ct_scFeed), sl_scFeed⟩) (c_scFeed : PySem.W.codeIn K cd_scFeed "_law_feed" = true) (k_scFeed : PySem.W.keepIn K (.ref f_scFeed) = true)
    (a_scNext : PySem.W.nsIn K mainGlobals "_law_next" = some (some (.ref f_scNext))) (l_scNext : K.lookup f_scNext = some ⟨oc_scNext, od_scNext, .func (PySem.W.fnOf "_law_next" "_law_next" (defArgs sNext) (defBody sNext) (defScope sNext) .none kV_scNext dc_scNext pm_scNext an_scNext cd_scNext ct_scNext), sl_scNext⟩) (c_scNext : PySem.W.codeIn K cd_scNext "_law_next" = true) (k_scNext : PySem.W.keepIn K (.ref f_scNext) = true)
    (a_scNames : PySem.W.nsIn K mainGlobals "_law_names" = some (some (.ref f_scNames))) (l_scNames : K.lookup f_scNames = some ⟨oc_scNames, od_scNames, .func (PySem.W.fnOf "_law_names" "_law_names" (defArgs sNames) (defBody sNames) (defScope sNames) .none kV_scNames dc_scNames pm_scNames an_scNames cd_scNames ct_scNames), sl_scNames⟩) (c_scNames : PySem.W.codeIn K cd_scNames "_law_names" = true) (k_scNames : PySem.W.keepIn K (.ref f_scNames) = true)
    (a_scOwn : PySem.W.nsIn K mainGlobals "_law_own" = some (some (.ref f_scOwn))) (l_scOwn : K.lookup f_scOwn = some ⟨oc_scOwn, od_scOwn, .func (PySem.W.fnOf "_law_own" "_law_own" (defArgs sOwn) (defBody sOwn) (defScope sOwn) .none kV_scOwn dc_scOwn pm_scOwn an_scOwn cd_scOwn ct_scOwn), sl_scOwn⟩) (c_scOwn : PySem.W.codeIn K cd_scOwn "_law_own" = true) (k_scOwn : PySem.W.keepIn K (.ref f_scOwn) = true)
    (a_scMade : PySem.W.nsIn K mainGlobals "_law_made" = some (some (.ref f_scMade))) (l_scMade : K.lookup f_scMade = some ⟨oc_scMade, od_scMade, .func (PySem.W.fnOf "_law_made" "_law_made" (defArgs sMade) (defBody sMade) (defScope sMade) .none kV_scMade dc_scMade pm_scMade an_scMade cd_scMade ct_scMade), sl_scMade⟩) (c_scMade : PySem.W.codeIn K cd_scMade "_law_made" = true) (k_scMade : PySem.W.keepIn K (.ref f_scMade) = true)
    (a_scBorne : PySem.W.nsIn K mainGlobals "_law_borne" = some (some (.ref f_scBorne))) (l_scBorne : K.lookup f_scBorne = some ⟨oc_scBorne, od_scBorne, .func (PySem.W.fnOf "_law_borne" "_law_borne" (defArgs sBorne) (defBody sBorne) (defScope sBorne) .none kV_scBorne dc_scBorne pm_scBorne an_scBorne cd_scBorne ct_scBorne), sl_scBorne⟩) (c_scBorne : PySem.W.codeIn K cd_scBorne "_law_borne" = true) (k_scBorne : PySem.W.keepIn K (.ref f_scBorne) = true)
    (a_scDue : PySem.W.nsIn K mainGlobals "_law_due" = some (some (.ref f_scDue))) (l_scDue : K.lookup f_scDue = some ⟨oc_scDue, od_scDue, .func (PySem.W.fnOf "_law_due" "_law_due" (defArgs sDue) (defBody sDue) (defScope sDue) .none kV_scDue dc_scDue pm_scDue an_scDue cd_scDue ct_scDue), sl_scDue⟩) (c_scDue : PySem.W.codeIn K cd_scDue "_law_due" = true) (k_scDue : PySem.W.keepIn K (.ref f_scDue) = true)
    (a_scLaw : PySem.W.nsIn K mainGlobals "law" = some (some (.ref f_scLaw))) (l_scLaw : K.lookup f_scLaw = some ⟨oc_scLaw, od_scLaw, .func (PySem.W.fnOf "law" "law" (defArgs sLaw) (defBody sLaw) (defScope sLaw) .none kV_scLaw dc_scLaw pm_scLaw an_scLaw cd_scLaw ct_scLaw), sl_scLaw⟩) (c_scLaw : PySem.W.codeIn K cd_scLaw "law" = true) (k_scLaw : PySem.W.keepIn K (.ref f_scLaw) = true)
    (g_NoKnot : PySem.W.nsIn K mainGlobals "NoKnot" = some (some (.ref C_NoKnot))) (i_NoKnot : PySem.W.findIn K (.ref C_NoKnot) "__init__" = some (some (.ref f_NoKnot))) (n_NoKnot : PySem.W.isFn K (.ref f_NoKnot) = true) (l_NoKnot : K.lookup f_NoKnot = some ⟨oc_NoKnot, od_NoKnot, .func (PySem.W.fnOf "__init__" "NoKnot.__init__" (defArgs sNoKnot) (defBody sNoKnot) (defScope sNoKnot) .none kV_NoKnot dc_NoKnot pm_NoKnot an_NoKnot cd_NoKnot ct_NoKnot), sl_NoKnot⟩) (c_NoKnot : PySem.W.codeIn K cd_NoKnot "NoKnot.__init__" = true) (k_NoKnot : PySem.W.keepIn K (.ref f_NoKnot) = true)
    (g_NoMark : PySem.W.nsIn K mainGlobals "NoMark" = some (some (.ref C_NoMark))) (i_NoMark : PySem.W.findIn K (.ref C_NoMark) "__init__" = some (some (.ref f_NoMark))) (n_NoMark : PySem.W.isFn K (.ref f_NoMark) = true) (l_NoMark : K.lookup f_NoMark = some ⟨oc_NoMark, od_NoMark, .func (PySem.W.fnOf "__init__" "NoMark.__init__" (defArgs sNoMark) (defBody sNoMark) (defScope sNoMark) .none kV_NoMark dc_NoMark pm_NoMark an_NoMark cd_NoMark ct_NoMark), sl_NoMark⟩) (c_NoMark : PySem.W.codeIn K cd_NoMark "NoMark.__init__" = true) (k_NoMark : PySem.W.keepIn K (.ref f_NoMark) = true)
    (g_NoName : PySem.W.nsIn K mainGlobals "NoName" = some (some (.ref C_NoName))) (i_NoName : PySem.W.findIn K (.ref C_NoName) "__init__" = some (some (.ref f_NoName))) (n_NoName : PySem.W.isFn K (.ref f_NoName) = true) (l_NoName : K.lookup f_NoName = some ⟨oc_NoName, od_NoName, .func (PySem.W.fnOf "__init__" "NoName.__init__" (defArgs sNoName) (defBody sNoName) (defScope sNoName) .none kV_NoName dc_NoName pm_NoName an_NoName cd_NoName ct_NoName), sl_NoName⟩) (c_NoName : PySem.W.codeIn K cd_NoName "NoName.__init__" = true) (k_NoName : PySem.W.keepIn K (.ref f_NoName) = true)
    (g_Twice : PySem.W.nsIn K mainGlobals "Twice" = some (some (.ref C_Twice))) (i_Twice : PySem.W.findIn K (.ref C_Twice) "__init__" = some (some (.ref f_Twice))) (n_Twice : PySem.W.isFn K (.ref f_Twice) = true) (l_Twice : K.lookup f_Twice = some ⟨oc_Twice, od_Twice, .func (PySem.W.fnOf "__init__" "Twice.__init__" (defArgs sTwice) (defBody sTwice) (defScope sTwice) .none kV_Twice dc_Twice pm_Twice an_Twice cd_Twice ct_Twice), sl_Twice⟩) (c_Twice : PySem.W.codeIn K cd_Twice "Twice.__init__" = true) (k_Twice : PySem.W.keepIn K (.ref f_Twice) = true)
    (g_TooMany : PySem.W.nsIn K mainGlobals "TooMany" = some (some (.ref C_TooMany))) (i_TooMany : PySem.W.findIn K (.ref C_TooMany) "__init__" = some (some (.ref f_TooMany))) (n_TooMany : PySem.W.isFn K (.ref f_TooMany) = true) (l_TooMany : K.lookup f_TooMany = some ⟨oc_TooMany, od_TooMany, .func (PySem.W.fnOf "__init__" "TooMany.__init__" (defArgs sTooMany) (defBody sTooMany) (defScope sTooMany) .none kV_TooMany dc_TooMany pm_TooMany an_TooMany cd_TooMany ct_TooMany), sl_TooMany⟩) (c_TooMany : PySem.W.codeIn K cd_TooMany "TooMany.__init__" = true) (k_TooMany : PySem.W.keepIn K (.ref f_TooMany) = true)
    (g_NoTie : PySem.W.nsIn K mainGlobals "NoTie" = some (some (.ref C_NoTie))) (i_NoTie : PySem.W.findIn K (.ref C_NoTie) "__init__" = some (some (.ref f_NoTie))) (n_NoTie : PySem.W.isFn K (.ref f_NoTie) = true) (l_NoTie : K.lookup f_NoTie = some ⟨oc_NoTie, od_NoTie, .func (PySem.W.fnOf "__init__" "NoTie.__init__" (defArgs sNoTie) (defBody sNoTie) (defScope sNoTie) .none kV_NoTie dc_NoTie pm_NoTie an_NoTie cd_NoTie ct_NoTie), sl_NoTie⟩) (c_NoTie : PySem.W.codeIn K cd_NoTie "NoTie.__init__" = true) (k_NoTie : PySem.W.keepIn K (.ref f_NoTie) = true)
    (g_NoMeet : PySem.W.nsIn K mainGlobals "NoMeet" = some (some (.ref C_NoMeet))) (i_NoMeet : PySem.W.findIn K (.ref C_NoMeet) "__init__" = some (some (.ref f_NoMeet))) (n_NoMeet : PySem.W.isFn K (.ref f_NoMeet) = true) (l_NoMeet : K.lookup f_NoMeet = some ⟨oc_NoMeet, od_NoMeet, .func (PySem.W.fnOf "__init__" "NoMeet.__init__" (defArgs sNoMeet) (defBody sNoMeet) (defScope sNoMeet) .none kV_NoMeet dc_NoMeet pm_NoMeet an_NoMeet cd_NoMeet ct_NoMeet), sl_NoMeet⟩) (c_NoMeet : PySem.W.codeIn K cd_NoMeet "NoMeet.__init__" = true) (k_NoMeet : PySem.W.keepIn K (.ref f_NoMeet) = true)
    (g_NoText : PySem.W.nsIn K mainGlobals "NoText" = some (some (.ref C_NoText))) (i_NoText : PySem.W.findIn K (.ref C_NoText) "__init__" = some (some (.ref f_NoText))) (n_NoText : PySem.W.isFn K (.ref f_NoText) = true) (l_NoText : K.lookup f_NoText = some ⟨oc_NoText, od_NoText, .func (PySem.W.fnOf "__init__" "NoText.__init__" (defArgs sNoText) (defBody sNoText) (defScope sNoText) .none kV_NoText dc_NoText pm_NoText an_NoText cd_NoText ct_NoText), sl_NoText⟩) (c_NoText : PySem.W.codeIn K cd_NoText "NoText.__init__" = true) (k_NoText : PySem.W.keepIn K (.ref f_NoText) = true)
    (g_NoLine : PySem.W.nsIn K mainGlobals "NoLine" = some (some (.ref C_NoLine))) (i_NoLine : PySem.W.findIn K (.ref C_NoLine) "__init__" = some (some (.ref f_NoLine))) (n_NoLine : PySem.W.isFn K (.ref f_NoLine) = true) (l_NoLine : K.lookup f_NoLine = some ⟨oc_NoLine, od_NoLine, .func (PySem.W.fnOf "__init__" "NoLine.__init__" (defArgs sNoLine) (defBody sNoLine) (defScope sNoLine) .none kV_NoLine dc_NoLine pm_NoLine an_NoLine cd_NoLine ct_NoLine), sl_NoLine⟩) (c_NoLine : PySem.W.codeIn K cd_NoLine "NoLine.__init__" = true) (k_NoLine : PySem.W.keepIn K (.ref f_NoLine) = true)
    (g_NoWay : PySem.W.nsIn K mainGlobals "NoWay" = some (some (.ref C_NoWay))) (i_NoWay : PySem.W.findIn K (.ref C_NoWay) "__init__" = some (some (.ref f_NoWay))) (n_NoWay : PySem.W.isFn K (.ref f_NoWay) = true) (l_NoWay : K.lookup f_NoWay = some ⟨oc_NoWay, od_NoWay, .func (PySem.W.fnOf "__init__" "NoWay.__init__" (defArgs sNoWay) (defBody sNoWay) (defScope sNoWay) .none kV_NoWay dc_NoWay pm_NoWay an_NoWay cd_NoWay ct_NoWay), sl_NoWay⟩) (c_NoWay : PySem.W.codeIn K cd_NoWay "NoWay.__init__" = true) (k_NoWay : PySem.W.keepIn K (.ref f_NoWay) = true)
    (g_TooLong : PySem.W.nsIn K mainGlobals "TooLong" = some (some (.ref C_TooLong))) (i_TooLong : PySem.W.findIn K (.ref C_TooLong) "__init__" = some (some (.ref f_TooLong))) (n_TooLong : PySem.W.isFn K (.ref f_TooLong) = true) (l_TooLong : K.lookup f_TooLong = some ⟨oc_TooLong, od_TooLong, .func (PySem.W.fnOf "__init__" "TooLong.__init__" (defArgs sTooLong) (defBody sTooLong) (defScope sTooLong) .none kV_TooLong dc_TooLong pm_TooLong an_TooLong cd_TooLong ct_TooLong), sl_TooLong⟩) (c_TooLong : PySem.W.codeIn K cd_TooLong "TooLong.__init__" = true) (k_TooLong : PySem.W.keepIn K (.ref f_TooLong) = true)
    (g_GoesRound : PySem.W.nsIn K mainGlobals "GoesRound" = some (some (.ref C_GoesRound))) (i_GoesRound : PySem.W.findIn K (.ref C_GoesRound) "__init__" = some (some (.ref f_GoesRound))) (n_GoesRound : PySem.W.isFn K (.ref f_GoesRound) = true) (l_GoesRound : K.lookup f_GoesRound = some ⟨oc_GoesRound, od_GoesRound, .func (PySem.W.fnOf "__init__" "GoesRound.__init__" (defArgs sGoesRound) (defBody sGoesRound) (defScope sGoesRound) .none kV_GoesRound dc_GoesRound pm_GoesRound an_GoesRound cd_GoesRound ct_GoesRound), sl_GoesRound⟩) (c_GoesRound : PySem.W.codeIn K cd_GoesRound "GoesRound.__init__" = true) (k_GoesRound : PySem.W.keepIn K (.ref f_GoesRound) = true)
    (g_NoSuch : PySem.W.nsIn K mainGlobals "NoSuch" = some (some (.ref C_NoSuch))) (i_NoSuch : PySem.W.findIn K (.ref C_NoSuch) "__init__" = some (some (.ref f_NoSuch))) (n_NoSuch : PySem.W.isFn K (.ref f_NoSuch) = true) (l_NoSuch : K.lookup f_NoSuch = some ⟨oc_NoSuch, od_NoSuch, .func (PySem.W.fnOf "__init__" "NoSuch.__init__" (defArgs sNoSuch) (defBody sNoSuch) (defScope sNoSuch) .none kV_NoSuch dc_NoSuch pm_NoSuch an_NoSuch cd_NoSuch ct_NoSuch), sl_NoSuch⟩) (c_NoSuch : PySem.W.codeIn K cd_NoSuch "NoSuch.__init__" = true) (k_NoSuch : PySem.W.keepIn K (.ref f_NoSuch) = true)
    (g_NoPair : PySem.W.nsIn K mainGlobals "NoPair" = some (some (.ref C_NoPair))) (i_NoPair : PySem.W.findIn K (.ref C_NoPair) "__init__" = some (some (.ref f_NoPair))) (n_NoPair : PySem.W.isFn K (.ref f_NoPair) = true) (l_NoPair : K.lookup f_NoPair = some ⟨oc_NoPair, od_NoPair, .func (PySem.W.fnOf "__init__" "NoPair.__init__" (defArgs sNoPair) (defBody sNoPair) (defScope sNoPair) .none kV_NoPair dc_NoPair pm_NoPair an_NoPair cd_NoPair ct_NoPair), sl_NoPair⟩) (c_NoPair : PySem.W.codeIn K cd_NoPair "NoPair.__init__" = true) (k_NoPair : PySem.W.keepIn K (.ref f_NoPair) = true)
    (gP : PySem.W.nsIn K mainGlobals "PathError" = some (some (.ref CP))) (rP : PySem.W.readsIn K CP (.type "type") = true) (fP : PySem.W.findCls K (.ref CP) (.type "type") "__init__" = some (.val (.builtin "ValueError.__init__"))) (aP : PySem.W.specialIn K (.ref CP) "__getattribute__" = some (some (.builtin "type.__getattribute__")))
    (kB : kitB K [C_NoKnot, C_NoMark, C_NoName, C_Twice, C_TooMany, C_NoTie, C_NoMeet, C_NoText, C_NoLine, C_NoWay, C_TooLong, C_GoesRound, C_NoSuch, C_NoPair] CP = true) (fo : PySem.W.findIn K (.ref C_NoPair) "other" = some none)
    (z_len : PySem.W.nsIn K mainGlobals "len" = some none)
    (z_isinstance : PySem.W.nsIn K mainGlobals "isinstance" = some none)
    (z_max : PySem.W.nsIn K mainGlobals "max" = some none)
    (z_range : PySem.W.nsIn K mainGlobals "range" = some none)
    (z_list : PySem.W.nsIn K mainGlobals "list" = some none)
    (z_repr : PySem.W.nsIn K mainGlobals "repr" = some none)
    (z_ValueError : PySem.W.nsIn K mainGlobals "ValueError" = some none) :
    ∃ fd : FuncData, (∀ (s : Shared) (v : Value), BindsTo s fd ⟨[v], []⟩ [("_law_script", v)]) ∧ ∀ base : Heap, K.In base → base.Ns mainGlobals mg → FnOk l.prog w K mg base CX0 4 fa fd ["_law_script"] (spLaw K) := by
  have e := hfa.symm.trans (PySem.W.mg_of X G a_scLaw)
  cases e
  have S_scCell : Src K mg "_law_cell_at" PscCell sCell := J.src_mk X G a_scCell l_scCell c_scCell k_scCell fun _ _ _ _ _ _ => J.by2 (fun _ _ => rfl)
  have S_scFeed : Src K mg "_law_feed" PscFeed sFeed := J.src_mk X G a_scFeed l_scFeed c_scFeed k_scFeed fun _ _ _ _ _ _ => J.by1 (fun _ => rfl)
  have S_scNext : Src K mg "_law_next" PscNext sNext := J.src_mk X G a_scNext l_scNext c_scNext k_scNext fun _ _ _ _ _ _ => J.by2 (fun _ _ => rfl)
  have S_scNames : Src K mg "_law_names" PscNames sNames := J.src_mk X G a_scNames l_scNames c_scNames k_scNames fun _ _ _ _ _ _ => J.by2 (fun _ _ => rfl)
  have S_scOwn : Src K mg "_law_own" PscOwn sOwn := J.src_mk X G a_scOwn l_scOwn c_scOwn k_scOwn fun _ _ _ _ _ _ => J.by1 (fun _ => rfl)
  have S_scMade : Src K mg "_law_made" PscMade sMade := J.src_mk X G a_scMade l_scMade c_scMade k_scMade fun _ _ _ _ _ _ => J.by4 (fun _ _ _ _ => rfl)
  have S_scBorne : Src K mg "_law_borne" PscBorne sBorne := J.src_mk X G a_scBorne l_scBorne c_scBorne k_scBorne fun _ _ _ _ _ _ => J.by2 (fun _ _ => rfl)
  have S_scDue : Src K mg "_law_due" PscDue sDue := J.src_mk X G a_scDue l_scDue c_scDue k_scDue fun _ _ _ _ _ _ => J.by4 (fun _ _ _ _ => rfl)
  have F := fun_mk (st := sLaw) l_scLaw c_scLaw k_scLaw
  have T : Txt K mg (csOf [C_NoKnot, C_NoMark, C_NoName, C_Twice, C_TooMany, C_NoTie, C_NoMeet, C_NoText, C_NoLine, C_NoWay, C_TooLong, C_GoesRound, C_NoSuch, C_NoPair]) CP := ⟨PySem.W.mg_none_of X G z_len, PySem.W.mg_none_of X G z_isinstance, PySem.W.mg_none_of X G z_max, PySem.W.mg_none_of X G z_range, PySem.W.mg_none_of X G z_list, PySem.W.mg_none_of X G z_repr, PySem.W.mg_none_of X G z_ValueError, PySem.W.mg_of X G gP, ⟨rP, fP, aP⟩, PySem.W.mg_of X G g_NoKnot, PySem.W.mg_of X G g_NoMark, PySem.W.mg_of X G g_NoName, PySem.W.mg_of X G g_Twice, PySem.W.mg_of X G g_TooMany, PySem.W.mg_of X G g_NoTie, PySem.W.mg_of X G g_NoMeet, PySem.W.mg_of X G g_NoText, PySem.W.mg_of X G g_NoLine, PySem.W.mg_of X G g_NoWay, PySem.W.mg_of X G g_TooLong, PySem.W.mg_of X G g_GoesRound, PySem.W.mg_of X G g_NoSuch, PySem.W.mg_of X G g_NoPair, fun i hi => (clsOk.is (kitB.at_ kB i hi).2.2.2.1).1, fun i j hi hj => (kitB.at_ kB i hi).1 j hj, fun i hi => (kitB.at_ kB i hi).2.1, fun i hi => (kitB.at_ kB i hi).2.2.1, fun i hi => (kitB.at_ kB i hi).2.2.2.2, fo⟩
  have X_NoKnot : XSrc K mg "NoKnot" (csOf [C_NoKnot, C_NoMark, C_NoName, C_Twice, C_TooMany, C_NoTie, C_NoMeet, C_NoText, C_NoLine, C_NoWay, C_TooLong, C_GoesRound, C_NoSuch, C_NoPair] 0) "NoKnot.__init__" PscNoKnot sNoKnot := by
    have q := clsOk.is (kitB.at_ kB 0 (by decide)).2.2.2.1
    have F := fun_mk (st := sNoKnot) l_NoKnot c_NoKnot k_NoKnot
    exact ⟨⟨f_NoKnot, _, ⟨q.1.toXCls, i_NoKnot, n_NoKnot, q.2⟩, F, F.binds fun _ _ _ _ _ _ => J.by2 (fun _ _ => rfl)⟩⟩
  have X_NoMark : XSrc K mg "NoMark" (csOf [C_NoKnot, C_NoMark, C_NoName, C_Twice, C_TooMany, C_NoTie, C_NoMeet, C_NoText, C_NoLine, C_NoWay, C_TooLong, C_GoesRound, C_NoSuch, C_NoPair] 1) "NoMark.__init__" PscNoMark sNoMark := by
    have q := clsOk.is (kitB.at_ kB 1 (by decide)).2.2.2.1
    have F := fun_mk (st := sNoMark) l_NoMark c_NoMark k_NoMark
    exact ⟨⟨f_NoMark, _, ⟨q.1.toXCls, i_NoMark, n_NoMark, q.2⟩, F, F.binds fun _ _ _ _ _ _ => J.by2 (fun _ _ => rfl)⟩⟩
  have X_NoName : XSrc K mg "NoName" (csOf [C_NoKnot, C_NoMark, C_NoName, C_Twice, C_TooMany, C_NoTie, C_NoMeet, C_NoText, C_NoLine, C_NoWay, C_TooLong, C_GoesRound, C_NoSuch, C_NoPair] 2) "NoName.__init__" PscNoName sNoName := by
    have q := clsOk.is (kitB.at_ kB 2 (by decide)).2.2.2.1
    have F := fun_mk (st := sNoName) l_NoName c_NoName k_NoName
    exact ⟨⟨f_NoName, _, ⟨q.1.toXCls, i_NoName, n_NoName, q.2⟩, F, F.binds fun _ _ _ _ _ _ => J.by2 (fun _ _ => rfl)⟩⟩
  have X_Twice : XSrc K mg "Twice" (csOf [C_NoKnot, C_NoMark, C_NoName, C_Twice, C_TooMany, C_NoTie, C_NoMeet, C_NoText, C_NoLine, C_NoWay, C_TooLong, C_GoesRound, C_NoSuch, C_NoPair] 3) "Twice.__init__" PscTwice sTwice := by
    have q := clsOk.is (kitB.at_ kB 3 (by decide)).2.2.2.1
    have F := fun_mk (st := sTwice) l_Twice c_Twice k_Twice
    exact ⟨⟨f_Twice, _, ⟨q.1.toXCls, i_Twice, n_Twice, q.2⟩, F, F.binds fun _ _ _ _ _ _ => J.by2 (fun _ _ => rfl)⟩⟩
  have X_TooMany : XSrc K mg "TooMany" (csOf [C_NoKnot, C_NoMark, C_NoName, C_Twice, C_TooMany, C_NoTie, C_NoMeet, C_NoText, C_NoLine, C_NoWay, C_TooLong, C_GoesRound, C_NoSuch, C_NoPair] 4) "TooMany.__init__" PscTooMany sTooMany := by
    have q := clsOk.is (kitB.at_ kB 4 (by decide)).2.2.2.1
    have F := fun_mk (st := sTooMany) l_TooMany c_TooMany k_TooMany
    exact ⟨⟨f_TooMany, _, ⟨q.1.toXCls, i_TooMany, n_TooMany, q.2⟩, F, F.binds fun _ _ _ _ _ _ => J.by2 (fun _ _ => rfl)⟩⟩
  have X_NoTie : XSrc K mg "NoTie" (csOf [C_NoKnot, C_NoMark, C_NoName, C_Twice, C_TooMany, C_NoTie, C_NoMeet, C_NoText, C_NoLine, C_NoWay, C_TooLong, C_GoesRound, C_NoSuch, C_NoPair] 5) "NoTie.__init__" PscNoTie sNoTie := by
    have q := clsOk.is (kitB.at_ kB 5 (by decide)).2.2.2.1
    have F := fun_mk (st := sNoTie) l_NoTie c_NoTie k_NoTie
    exact ⟨⟨f_NoTie, _, ⟨q.1.toXCls, i_NoTie, n_NoTie, q.2⟩, F, F.binds fun _ _ _ _ _ _ => J.by2 (fun _ _ => rfl)⟩⟩
  have X_NoMeet : XSrc K mg "NoMeet" (csOf [C_NoKnot, C_NoMark, C_NoName, C_Twice, C_TooMany, C_NoTie, C_NoMeet, C_NoText, C_NoLine, C_NoWay, C_TooLong, C_GoesRound, C_NoSuch, C_NoPair] 6) "NoMeet.__init__" PscNoMeet sNoMeet := by
    have q := clsOk.is (kitB.at_ kB 6 (by decide)).2.2.2.1
    have F := fun_mk (st := sNoMeet) l_NoMeet c_NoMeet k_NoMeet
    exact ⟨⟨f_NoMeet, _, ⟨q.1.toXCls, i_NoMeet, n_NoMeet, q.2⟩, F, F.binds fun _ _ _ _ _ _ => J.by2 (fun _ _ => rfl)⟩⟩
  have X_NoText : XSrc K mg "NoText" (csOf [C_NoKnot, C_NoMark, C_NoName, C_Twice, C_TooMany, C_NoTie, C_NoMeet, C_NoText, C_NoLine, C_NoWay, C_TooLong, C_GoesRound, C_NoSuch, C_NoPair] 7) "NoText.__init__" PscNoText sNoText := by
    have q := clsOk.is (kitB.at_ kB 7 (by decide)).2.2.2.1
    have F := fun_mk (st := sNoText) l_NoText c_NoText k_NoText
    exact ⟨⟨f_NoText, _, ⟨q.1.toXCls, i_NoText, n_NoText, q.2⟩, F, F.binds fun _ _ _ _ _ _ => J.by2 (fun _ _ => rfl)⟩⟩
  have X_NoLine : XSrc K mg "NoLine" (csOf [C_NoKnot, C_NoMark, C_NoName, C_Twice, C_TooMany, C_NoTie, C_NoMeet, C_NoText, C_NoLine, C_NoWay, C_TooLong, C_GoesRound, C_NoSuch, C_NoPair] 8) "NoLine.__init__" PscNoLine sNoLine := by
    have q := clsOk.is (kitB.at_ kB 8 (by decide)).2.2.2.1
    have F := fun_mk (st := sNoLine) l_NoLine c_NoLine k_NoLine
    exact ⟨⟨f_NoLine, _, ⟨q.1.toXCls, i_NoLine, n_NoLine, q.2⟩, F, F.binds fun _ _ _ _ _ _ => J.by2 (fun _ _ => rfl)⟩⟩
  have X_NoWay : XSrc K mg "NoWay" (csOf [C_NoKnot, C_NoMark, C_NoName, C_Twice, C_TooMany, C_NoTie, C_NoMeet, C_NoText, C_NoLine, C_NoWay, C_TooLong, C_GoesRound, C_NoSuch, C_NoPair] 9) "NoWay.__init__" PscNoWay sNoWay := by
    have q := clsOk.is (kitB.at_ kB 9 (by decide)).2.2.2.1
    have F := fun_mk (st := sNoWay) l_NoWay c_NoWay k_NoWay
    exact ⟨⟨f_NoWay, _, ⟨q.1.toXCls, i_NoWay, n_NoWay, q.2⟩, F, F.binds fun _ _ _ _ _ _ => J.by2 (fun _ _ => rfl)⟩⟩
  have X_TooLong : XSrc K mg "TooLong" (csOf [C_NoKnot, C_NoMark, C_NoName, C_Twice, C_TooMany, C_NoTie, C_NoMeet, C_NoText, C_NoLine, C_NoWay, C_TooLong, C_GoesRound, C_NoSuch, C_NoPair] 10) "TooLong.__init__" PscTooLong sTooLong := by
    have q := clsOk.is (kitB.at_ kB 10 (by decide)).2.2.2.1
    have F := fun_mk (st := sTooLong) l_TooLong c_TooLong k_TooLong
    exact ⟨⟨f_TooLong, _, ⟨q.1.toXCls, i_TooLong, n_TooLong, q.2⟩, F, F.binds fun _ _ _ _ _ _ => J.by2 (fun _ _ => rfl)⟩⟩
  have X_GoesRound : XSrc K mg "GoesRound" (csOf [C_NoKnot, C_NoMark, C_NoName, C_Twice, C_TooMany, C_NoTie, C_NoMeet, C_NoText, C_NoLine, C_NoWay, C_TooLong, C_GoesRound, C_NoSuch, C_NoPair] 11) "GoesRound.__init__" PscGoesRound sGoesRound := by
    have q := clsOk.is (kitB.at_ kB 11 (by decide)).2.2.2.1
    have F := fun_mk (st := sGoesRound) l_GoesRound c_GoesRound k_GoesRound
    exact ⟨⟨f_GoesRound, _, ⟨q.1.toXCls, i_GoesRound, n_GoesRound, q.2⟩, F, F.binds fun _ _ _ _ _ _ => J.by2 (fun _ _ => rfl)⟩⟩
  have X_NoSuch : XSrc K mg "NoSuch" (csOf [C_NoKnot, C_NoMark, C_NoName, C_Twice, C_TooMany, C_NoTie, C_NoMeet, C_NoText, C_NoLine, C_NoWay, C_TooLong, C_GoesRound, C_NoSuch, C_NoPair] 12) "NoSuch.__init__" PscNoSuch sNoSuch := by
    have q := clsOk.is (kitB.at_ kB 12 (by decide)).2.2.2.1
    have F := fun_mk (st := sNoSuch) l_NoSuch c_NoSuch k_NoSuch
    exact ⟨⟨f_NoSuch, _, ⟨q.1.toXCls, i_NoSuch, n_NoSuch, q.2⟩, F, F.binds fun _ _ _ _ _ _ => J.by2 (fun _ _ => rfl)⟩⟩
  have X_NoPair : XSrc K mg "NoPair" (csOf [C_NoKnot, C_NoMark, C_NoName, C_Twice, C_TooMany, C_NoTie, C_NoMeet, C_NoText, C_NoLine, C_NoWay, C_TooLong, C_GoesRound, C_NoSuch, C_NoPair] 13) "NoPair.__init__" PscNoPair sNoPair := by
    have q := clsOk.is (kitB.at_ kB 13 (by decide)).2.2.2.1
    have F := fun_mk (st := sNoPair) l_NoPair c_NoPair k_NoPair
    exact ⟨⟨f_NoPair, _, ⟨q.1.toXCls, i_NoPair, n_NoPair, q.2⟩, F, F.binds fun _ _ _ _ _ _ => J.by3 (fun _ _ _ => rfl)⟩⟩
  refine ⟨PySem.W.fnOf "law" "law" (defArgs sLaw) (defBody sLaw) (defScope sLaw) .none kV_scLaw dc_scLaw pm_scLaw an_scLaw cd_scLaw ct_scLaw, fun s v => .of_eq rfl, fun base _ _ => ?_⟩
  have D_next := d_Next (P := l.prog) (w := w) (base := base) T S_scNext
  exact d_Law T F (d_Cell T S_scCell) (d_Feed T S_scFeed) D_next (d_Names T S_scNames D_next) (d_Own T S_scOwn) (d_Made T S_scMade (d_NoKnot T X_NoKnot) (d_NoMark T X_NoMark) (d_NoName T X_NoName) (d_Twice T X_Twice) (d_TooMany T X_TooMany) (d_NoTie T X_NoTie) (d_NoMeet T X_NoMeet) (d_NoText T X_NoText) (d_NoLine T X_NoLine) (d_NoWay T X_NoWay) (d_TooLong T X_TooLong) (d_GoesRound T X_GoesRound) (d_NoSuch T X_NoSuch) (d_NoPair T X_NoPair)) (d_Borne T S_scBorne) (d_Due T S_scDue)
theorem walk {l : PySem.W.OpenLaw} {q : Program} {loose : List Str} {XP : (Str → Option Value) → Heap → Prop} {YP : World → Heap → Prop} {d : DefRec} {K : Params → PySem.W.Frag} (hn : l.most = some 63) (hdf : d.params.defaults = [])
    (hY : ∀ (w : World) (h : Heap), YP w h → (K w.params).In h)
    (F : ∀ (w : World) (mg : Str → Option Value) (fa : Addr) (h : Heap), (K w.params).In h → h.Ns mainGlobals mg → mg d.name = some (.ref fa) →
      ∃ fd : FuncData, (∀ (s : Shared) (u : Value), BindsTo s fd ⟨[u], []⟩ [("_law_script", u)]) ∧ ∀ base : Heap, (K w.params).In base → base.Ns mainGlobals mg → FnOk l.prog w (K w.params) mg base CX0 4 fa fd ["_law_script"] (spLaw (K w.params))) :
    PySem.W.WalkO q loose XP YP l.row.toRowW d [] (fun f vs => PySem.call f vs) :=
  L2.walk_of (n := 63) (k := 4) (x := "_law_script") (CX := fun _ => CX0) (sp := fun w => spLaw (K w.params)) hn (by decide) hdf ⟨rfl, by decide, by decide, rfl⟩ hY F (fun _ _ a ns hl _ hS => ⟨a, ns, rfl, hS, hl, fun _ => rfl⟩) fun _ _ _ _ _ z => z
end K15
open PySem PySem.W PyProof.Rows
set_option maxRecDepth 100000 in
set_option maxHeartbeats 0 in
theorem PySem.Challenge.cw_pathask_k15_refusals_apart_holds : PySem.Challenge.rw_pathask_k15_refusals_apart.Holds := by
  w_on; o_law; k_head; (case hw => w_witness2)
  k_fill
  refine K15.walk (l := PySem.Challenge.rw_pathask_k15_refusals_apart) rfl rfl (fun w h Y => PySem.W.kIn_of Y) ?F
  case F =>
    intro w mg fa h KX G hmg
    refine' K15.all_mk KX G hmg ?a_scCell ?l_scCell ?c_scCell ?k_scCell ?a_scFeed ?l_scFeed ?c_scFeed ?k_scFeed ?a_scNext ?l_scNext ?c_scNext ?k_scNext ?a_scNames ?l_scNames ?c_scNames ?k_scNames ?a_scOwn ?l_scOwn ?c_scOwn ?k_scOwn ?a_scMade ?l_scMade ?c_scMade ?k_scMade ?a_scBorne ?l_scBorne ?c_scBorne ?k_scBorne ?a_scDue ?l_scDue ?c_scDue ?k_scDue ?a_scLaw ?l_scLaw ?c_scLaw ?k_scLaw ?g_NoKnot ?i_NoKnot ?n_NoKnot ?l_NoKnot ?c_NoKnot ?k_NoKnot ?g_NoMark ?i_NoMark ?n_NoMark ?l_NoMark ?c_NoMark ?k_NoMark ?g_NoName ?i_NoName ?n_NoName ?l_NoName ?c_NoName ?k_NoName ?g_Twice ?i_Twice ?n_Twice ?l_Twice ?c_Twice ?k_Twice ?g_TooMany ?i_TooMany ?n_TooMany ?l_TooMany ?c_TooMany ?k_TooMany ?g_NoTie ?i_NoTie ?n_NoTie ?l_NoTie ?c_NoTie ?k_NoTie ?g_NoMeet ?i_NoMeet ?n_NoMeet ?l_NoMeet ?c_NoMeet ?k_NoMeet ?g_NoText ?i_NoText ?n_NoText ?l_NoText ?c_NoText ?k_NoText ?g_NoLine ?i_NoLine ?n_NoLine ?l_NoLine ?c_NoLine ?k_NoLine ?g_NoWay ?i_NoWay ?n_NoWay ?l_NoWay ?c_NoWay ?k_NoWay ?g_TooLong ?i_TooLong ?n_TooLong ?l_TooLong ?c_TooLong ?k_TooLong ?g_GoesRound ?i_GoesRound ?n_GoesRound ?l_GoesRound ?c_GoesRound ?k_GoesRound ?g_NoSuch ?i_NoSuch ?n_NoSuch ?l_NoSuch ?c_NoSuch ?k_NoSuch ?g_NoPair ?i_NoPair ?n_NoPair ?l_NoPair ?c_NoPair ?k_NoPair ?gP ?rP ?fP ?aP ?kB ?fo ?z_len ?z_isinstance ?z_max ?z_range ?z_list ?z_repr ?z_ValueError
    (case a_scCell => k_is)
    (case l_scCell => k_is)
    (case c_scCell => k_is)
    (case k_scCell => k_is)
    (case a_scFeed => k_is)
    (case l_scFeed => k_is)
    (case c_scFeed => k_is)
    (case k_scFeed => k_is)
    (case a_scNext => k_is)
    (case l_scNext => k_is)
    (case c_scNext => k_is)
    (case k_scNext => k_is)
    (case a_scNames => k_is)
    (case l_scNames => k_is)
    (case c_scNames => k_is)
    (case k_scNames => k_is)
    (case a_scOwn => k_is)
    (case l_scOwn => k_is)
    (case c_scOwn => k_is)
    (case k_scOwn => k_is)
    (case a_scMade => k_is)
    (case l_scMade => k_is)
    (case c_scMade => k_is)
    (case k_scMade => k_is)
    (case a_scBorne => k_is)
    (case l_scBorne => k_is)
    (case c_scBorne => k_is)
    (case k_scBorne => k_is)
    (case a_scDue => k_is)
    (case l_scDue => k_is)
    (case c_scDue => k_is)
    (case k_scDue => k_is)
    (case a_scLaw => k_is)
    (case l_scLaw => k_is)
    (case c_scLaw => k_is)
    (case k_scLaw => k_is)
    (case g_NoKnot => k_is)
    (case i_NoKnot => k_is)
    (case n_NoKnot => k_is)
    (case l_NoKnot => k_is)
    (case c_NoKnot => k_is)
    (case k_NoKnot => k_is)
    (case g_NoMark => k_is)
    (case i_NoMark => k_is)
    (case n_NoMark => k_is)
    (case l_NoMark => k_is)
    (case c_NoMark => k_is)
    (case k_NoMark => k_is)
    (case g_NoName => k_is)
    (case i_NoName => k_is)
    (case n_NoName => k_is)
    (case l_NoName => k_is)
    (case c_NoName => k_is)
    (case k_NoName => k_is)
    (case g_Twice => k_is)
    (case i_Twice => k_is)
    (case n_Twice => k_is)
    (case l_Twice => k_is)
    (case c_Twice => k_is)
    (case k_Twice => k_is)
    (case g_TooMany => k_is)
    (case i_TooMany => k_is)
    (case n_TooMany => k_is)
    (case l_TooMany => k_is)
    (case c_TooMany => k_is)
    (case k_TooMany => k_is)
    (case g_NoTie => k_is)
    (case i_NoTie => k_is)
    (case n_NoTie => k_is)
    (case l_NoTie => k_is)
    (case c_NoTie => k_is)
    (case k_NoTie => k_is)
    (case g_NoMeet => k_is)
    (case i_NoMeet => k_is)
    (case n_NoMeet => k_is)
    (case l_NoMeet => k_is)
    (case c_NoMeet => k_is)
    (case k_NoMeet => k_is)
    (case g_NoText => k_is)
    (case i_NoText => k_is)
    (case n_NoText => k_is)
    (case l_NoText => k_is)
    (case c_NoText => k_is)
    (case k_NoText => k_is)
    (case g_NoLine => k_is)
    (case i_NoLine => k_is)
    (case n_NoLine => k_is)
    (case l_NoLine => k_is)
    (case c_NoLine => k_is)
    (case k_NoLine => k_is)
    (case g_NoWay => k_is)
    (case i_NoWay => k_is)
    (case n_NoWay => k_is)
    (case l_NoWay => k_is)
    (case c_NoWay => k_is)
    (case k_NoWay => k_is)
    (case g_TooLong => k_is)
    (case i_TooLong => k_is)
    (case n_TooLong => k_is)
    (case l_TooLong => k_is)
    (case c_TooLong => k_is)
    (case k_TooLong => k_is)
    (case g_GoesRound => k_is)
    (case i_GoesRound => k_is)
    (case n_GoesRound => k_is)
    (case l_GoesRound => k_is)
    (case c_GoesRound => k_is)
    (case k_GoesRound => k_is)
    (case g_NoSuch => k_is)
    (case i_NoSuch => k_is)
    (case n_NoSuch => k_is)
    (case l_NoSuch => k_is)
    (case c_NoSuch => k_is)
    (case k_NoSuch => k_is)
    (case g_NoPair => k_is)
    (case i_NoPair => k_is)
    (case n_NoPair => k_is)
    (case l_NoPair => k_is)
    (case c_NoPair => k_is)
    (case k_NoPair => k_is)
    (case gP => k_is)
    (case rP => k_is)
    (case fP => k_is)
    (case aP => k_is)
    (case kB => kernel_rfl)
    (case fo => k_is)
    (case z_len => k_is)
    (case z_isinstance => k_is)
    (case z_max => k_is)
    (case z_range => k_is)
    (case z_list => k_is)
    (case z_repr => k_is)
    (case z_ValueError => k_is)

