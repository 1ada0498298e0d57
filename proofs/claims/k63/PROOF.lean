import PyProof.Rows.All
import Wide.All
import OpenK.AllK
import Wide.FinOn
import Lean
import PyProof.EqAt
import PyProof.EqKinds
import PyProof.TupleCall
import KE.KRevIter
import PyProof.Rows.SetFrom
import PyProof.WalksMore
import KE.KRevSl
import PySem.Challenge.RW_pathask_k63_backwards
set_option Elab.async false
set_option linter.all false
set_option maxRecDepth 100000
namespace L2
open PySem PySem.Spec PyProof.Rows
noncomputable abbrev Key := Sum Int Str
noncomputable def keyIs : Key → Value → Bool
  | .inl k, v => Value.isInt k v
  | .inr x, v => Value.isStrOf x v
noncomputable def keyH (w : World) : Key → Int
  | .inl k => hashInt k
  | .inr x => hashStr w x
theorem keyIs_shape : ∀ {k : Key} {v : Value}, keyIs k v = true → (∃ i t, k = Sum.inl i ∧ v = Value.int i t) ∨ (∃ x t, k = Sum.inr x ∧ v = Value.str x t)
  | .inl i, v, h => by
    obtain ⟨t, e⟩ := Value.isInt_shape (k := i) (v := v) h
    exact .inl ⟨i, t, rfl, e⟩
  | .inr x, v, h => by
    obtain ⟨t, e⟩ := Value.isStrOf_shape (x := x) (v := v) h
    exact .inr ⟨x, t, rfl, e⟩
theorem keyIs_int (i : Int) (t : Tok) : keyIs (.inl i) (.int i t) = true := by simp [keyIs, Value.isInt]
theorem keyIs_str (x : Str) (t : Tok) : keyIs (.inr x) (.str x t) = true := by simp [keyIs, Value.isStrOf]
theorem key_ll (a b : Int) : decide ((Sum.inl a : Key) = Sum.inl b) = (a == b) := by
  by_cases e : a = b
  · subst e; simp
  · have h : ¬ (Sum.inl a : Key) = Sum.inl b := fun q => e (Sum.inl.inj q)
    rw [decide_eq_false h]
    exact (beq_eq_false_iff_ne.mpr e).symm
theorem key_rr (a b : Str) : decide ((Sum.inr a : Key) = Sum.inr b) = decide (a = b) := by
  by_cases e : a = b
  · subst e; simp
  · have h : ¬ (Sum.inr a : Key) = Sum.inr b := fun q => e (Sum.inr.inj q)
    rw [decide_eq_false h, decide_eq_false e]
theorem key_lr (a : Int) (b : Str) : decide ((Sum.inl a : Key) = Sum.inr b) = false := decide_eq_false (fun q => nomatch q)
theorem key_rl (a : Str) (b : Int) : decide ((Sum.inr a : Key) = Sum.inl b) = false := decide_eq_false (fun q => nomatch q)
noncomputable def mixKind (prog : Program) (w : World) : PySem.KeyKind prog w Key where
  is := keyIs
  hash := keyH w
  inj := fun v a b ha hb => by
    rcases keyIs_shape ha with ⟨i, t, rfl, rfl⟩ | ⟨x, t, rfl, rfl⟩
    · rcases keyIs_shape hb with ⟨j, u, rfl, e⟩ | ⟨y, u, rfl, e⟩
      · injection e with e1 _; rw [e1]
      · exact nomatch e
    · rcases keyIs_shape hb with ⟨j, u, rfl, e⟩ | ⟨y, u, rfl, e⟩
      · exact nomatch e
      · injection e with e1 _; rw [e1]
  byValue := fun k v h => by
    rcases keyIs_shape h with ⟨i, t, rfl, rfl⟩ | ⟨x, t, rfl, rfl⟩ <;> rfl
  pyHash := fun hv h => by
    rcases keyIs_shape hv with ⟨i, t, rfl, rfl⟩ | ⟨x, t, rfl, rfl⟩
    · exact wpAny_pyHash_int h
    · exact wpAny_pyHash_str h
  eqBool := fun hu hv h => by
    rcases keyIs_shape hu with ⟨i, t, rfl, rfl⟩ | ⟨x, t, rfl, rfl⟩
    · rcases keyIs_shape hv with ⟨j, u, rfl, rfl⟩ | ⟨y, u, rfl, rfl⟩
      · rw [key_ll] at h; exact wpAny_eqBool_int h
      · rw [key_lr] at h; exact SeqAt.EqAt.int_str i t y u _ _ _ _ h
    · rcases keyIs_shape hv with ⟨j, u, rfl, rfl⟩ | ⟨y, u, rfl, rfl⟩
      · rw [key_rl] at h; exact SeqAt.EqAt.str_int x t j u _ _ _ _ h
      · rw [key_rr] at h; exact wpAny_eqBool_str h
  «strs» := fun k x t v h => by
    rcases keyIs_shape h with ⟨i, u, rfl, e⟩ | ⟨y, u, rfl, e⟩
    · exact nomatch e
    · injection e with e1 _
      subst e1
      cases v <;> rfl
theorem mixKind_int (prog : Program) (w : World) (i : Int) (t : Tok) : (mixKind prog w).is (.inl i) (.int i t) = true := keyIs_int i t
theorem mixKind_str (prog : Program) (w : World) (x : Str) (t : Tok) : (mixKind prog w).is (.inr x) (.str x t) = true := keyIs_str x t
end L2
namespace L2
open PySem PySem.Spec PyProof.Rows
inductive V where
  | non | bl (b : Bool) | int (i : Int) | str (x : Str) | byt (b : Array UInt8) | flt (b : UInt64) | ref (a : Addr) | ty (n : String)
  deriving DecidableEq
noncomputable def RelV : V → Value → Prop
  | .non, u => u = Value.none
  | .bl b, u => u = Value.bool b
  | .int i, u => ∃ t, u = Value.int i t
  | .str x, u => ∃ t, u = Value.str x t
  | .byt b, u => ∃ t, u = Value.bytes b t
  | .flt b, u => ∃ t, u = Value.float b t
  | .ref a, u => u = Value.ref a
  | .ty n, u => u = Value.type n
noncomputable abbrev Vals : List V → List Value → Prop := Paired RelV
theorem Vals.length {xs : List V} {us : List Value} (r : Vals xs us) : xs.length = us.length := Paired.length r
theorem Vals.get : ∀ {xs : List V} {us : List Value} {i : Nat} {x : V}, Vals xs us → xs[i]? = some x → ∃ u, us[i]? = some u ∧ RelV x u
  | _, _, _, _, .nil, e => by simp at e
  | _, _, 0, _, .cons r _, e => by simp at e; subst e; exact ⟨_, rfl, r⟩
  | _, _, i + 1, x, .cons _ t, e => by
    obtain ⟨u, h1, h2⟩ := Vals.get (i := i) (x := x) t (by simpa using e)
    exact ⟨u, by simpa using h1, h2⟩
theorem Vals.set {x : V} {u : Value} (r : RelV x u) : ∀ {xs : List V} {us : List Value} (i : Nat), Vals xs us → Vals (xs.set i x) (us.set i u)
  | _, _, _, .nil => .nil
  | _, _, 0, .cons _ t => .cons r t
  | _, _, i + 1, .cons q t => .cons q (Vals.set r i t)
theorem Vals.append : ∀ {xs ys : List V} {us ws : List Value}, Vals xs us → Vals ys ws → Vals (xs ++ ys) (us ++ ws)
  | _, _, _, _, .nil, s => s
  | _, _, _, _, .cons r t, s => .cons r (Vals.append t s)
theorem Vals.take : ∀ {xs : List V} {us : List Value} (n : Nat), Vals xs us → Vals (xs.take n) (us.take n)
  | _, _, 0, _ => .nil
  | _, _, _ + 1, .nil => .nil
  | _, _, n + 1, .cons r t => .cons r (Vals.take n t)
theorem Vals.drop : ∀ {xs : List V} {us : List Value} (n : Nat), Vals xs us → Vals (xs.drop n) (us.drop n)
  | _, _, 0, r => r
  | _, _, _ + 1, .nil => .nil
  | _, _, n + 1, .cons _ t => Vals.drop n t
noncomputable def RelO : Option V → Option Value → Prop
  | some v, some u => RelV v u
  | none, none => True
  | _, _ => False
noncomputable def KV {κ : Type} : List (κ × V) → List (κ × Value) → Prop := Paired fun (p : κ × V) (q : κ × Value) => p.1 = q.1 ∧ RelV p.2 q.2
noncomputable def kV : Key → V
  | .inl i => .int i
  | .inr x => .str x
inductive HO where
  | lst (xs : List V)
  | tup (xs : List V)
  | dK (kvs : List (Key × V)) | dT (kvs : List (List Key × V))
  | set (S : Int → Bool) (n : Nat)
  | ins (C dx : Addr) (fs : List (Str × V))
  | own (x : Addr)
  | xd (fs : List (Str × V))
  | met (f x : Addr)
  | rng (lo hi : Int)
  | frz (o : Obj) (u : HO)
  | tbl (ps : Array Value)
  | ext (φ : Heap → Prop)
noncomputable abbrev Hp := Addr → Option HO
noncomputable def upd (H : Hp) (a : Addr) (o : HO) : Hp := fun b => if b = a then some o else H b
theorem upd_same {H : Hp} {a : Addr} {o : HO} : upd H a o a = some o := by unfold upd; rw [if_pos rfl]
theorem upd_ne {H : Hp} {a b : Addr} {o : HO} (h : b ≠ a) : upd H a o b = H b := by unfold upd; rw [if_neg h]
theorem ne_of {H : Hp} {a b : Addr} {o u : HO} (h : H a = some o) (h' : H b = some u) (d : o ≠ u) : a ≠ b := by
  intro e; subst e; rw [h] at h'; exact d (Option.some.inj h')
theorem ne_of_none {H : Hp} {a b : Addr} {o : HO} (h : H a = some o) (h' : H b = none) : a ≠ b := by
  intro e; subst e; rw [h] at h'; cases h'
section
variable (P : Program) (w : World)
noncomputable def ObjOk (H : Hp) (h : Heap) (a : Addr) : HO → Prop
  | .lst xs => xs.length ≤ sizeLine ∧ ∃ (its : List Value) (n : Nat), Vals xs its ∧ h.get? a = some { cls := .type "list", data := .seq its.toArray n }
  | .tup xs => xs.length ≤ sizeLine ∧ ∃ its : List Value, Vals xs its ∧ IsTup h a its.toArray
  | .dK kvs => kvs.length ≤ sizeLine ∧ (a == sysModules) = false ∧ ∃ vs, KV kvs vs ∧ h.DictOf (mixKind P w) a vs
  | .dT kvs => kvs.length ≤ sizeLine ∧ (a == sysModules) = false ∧ ∃ xs : List (List Key × Addr × Value),
      Paired (fun (p : List Key × V) (q : List Key × Addr × Value) => p.1 = q.1 ∧ H q.2.1 = some (.tup (p.1.map kV)) ∧ RelV p.2 q.2.2) kvs xs ∧
      ∃ o es ep, h.get? a = some o ∧ o.ExactDict ∧ o.data = .dict es ep ∧ es.toList = xs.map (entryOfKey (tupleKind (mixKind P w))) ∧ (xs.map (·.1)).Nodup
  | .set S n => h.SetOf (intKind P w) a S n
  | .ins C dx fs => H dx = some (.own a) ∧ fs.length ≤ 1000 ∧ dx ≠ a ∧ h.get? a = some (PySem.W.instObj C dx) ∧
      ∃ mA, h.Ns1 dx mA ∧ (∀ f, RelO (fs.lookup f) (mA f)) ∧ PySem.Within mA (fs.map (·.1))
  | .own _ => ∃ o, h.get? a = some o
  | .xd fs => ∃ mA, h.Ns1 a mA ∧ ∀ f, RelO (fs.lookup f) (mA f)
  | .rng lo hi => ∃ t u v, h.get? a = some { cls := .type "range", data := .fields #[.int lo t, .int hi u, .int 1 v] }
  | .frz o u => h.get? a = some o ∧ ObjOk H h a u
  | .tbl ps => h.get? a = some { cls := .none, data := .fields ps }
  | .met f x => h.get? a = some (PySem.W.methodObj (.ref f) (.ref x))
  | .ext φ => φ h ∧ (∃ o, h.get? a = some o) ∧ ∀ h1 h2 : Heap, φ h1 → (∀ o, h1.get? a = some o → h2.get? a = some o) → φ h2
noncomputable def HOk (H : Hp) (h : Heap) : Prop := ∀ a o, H a = some o → ObjOk P w H h a o
end
section
variable {P : Program} {w : World} {H H' : Hp} {h h' : Heap} {a : Addr} {o : HO}
theorem ObjOk.lt (x : ObjOk P w H h a o) : a < h.objs.size := by
  cases o with
  | lst xs => obtain ⟨_, _, _, _, e⟩ := x; exact Heap.lt_size e
  | tup xs => obtain ⟨_, _, _, p⟩ := x; exact p.lt
  | dK kvs => obtain ⟨_, _, _, _, o, _, _, e, _⟩ := x; exact Heap.lt_size e
  | dT kvs => obtain ⟨_, _, _, _, o, _, _, e, _⟩ := x; exact Heap.lt_size e
  | set S n => obtain ⟨o, _, _, _, e, _⟩ := x; exact Heap.lt_size e
  | ins C dx fs => obtain ⟨_, _, _, e, _⟩ := x; exact Heap.lt_size e
  | own y => obtain ⟨_, e⟩ := x; exact Heap.lt_size e
  | xd fs => obtain ⟨_, ⟨_, _, _, e, _⟩, _⟩ := x; exact Heap.lt_size e
  | rng lo hi => obtain ⟨_, _, _, e⟩ := x; exact Heap.lt_size e
  | frz ob u => obtain ⟨e, _⟩ := x; exact Heap.lt_size e
  | tbl ps => exact Heap.lt_size (show h.get? a = some _ from x)
  | met f y => exact Heap.lt_size (show h.get? a = some _ from x)
  | ext φ => obtain ⟨_, ⟨_, e⟩, _⟩ := x; exact Heap.lt_size e
theorem Paired.mapP {α β : Type} {F G : α → β → Prop} : ∀ {l₁ : List α} {l₂ : List β}, Paired F l₁ l₂ → (∀ a b, F a b → G a b) → Paired G l₁ l₂
  | _, _, .nil, _ => .nil
  | _, _, .cons r t, f => .cons (f _ _ r) (Paired.mapP t f)
theorem ObjOk.stay (x : ObjOk P w H h a o) (k : ∀ b u, (b = a ∨ H b = some (.own a)) → h.get? b = some u → h'.get? b = some u)
    (ho : ∀ b, H b = some (.own a) → H' b = some (.own a)) (ht : ∀ b xs, H b = some (.tup xs) → H' b = some (.tup xs)) : ObjOk P w H' h' a o := by
  induction o with
  | lst xs => obtain ⟨z, its, n, r, e⟩ := x; exact ⟨z, its, n, r, k _ _ (.inl rfl) e⟩
  | tup xs => obtain ⟨z, its, r, ob, e, c⟩ := x; exact ⟨z, its, r, ob, k _ _ (.inl rfl) e, c⟩
  | dK kvs => obtain ⟨z, y, vs, r, ob, es, ep, e, c⟩ := x; exact ⟨z, y, vs, r, ob, es, ep, k _ _ (.inl rfl) e, c⟩
  | dT kvs =>
    obtain ⟨z, y, xs, r, ob, es, ep, e, c⟩ := x
    exact ⟨z, y, xs, Paired.mapP r fun p q z => ⟨z.1, ht _ _ z.2.1, z.2.2⟩, ob, es, ep, k _ _ (.inl rfl) e, c⟩
  | set S n => obtain ⟨ob, es, ep, t, e, c⟩ := x; exact ⟨ob, es, ep, t, k _ _ (.inl rfl) e, c⟩
  | ins C dx fs =>
    obtain ⟨d, z, ne, e, mA, ⟨od, es, ep, e2, c⟩, r⟩ := x
    exact ⟨ho _ d, z, ne, k _ _ (.inl rfl) e, mA, ⟨od, es, ep, k _ _ (.inr d) e2, c⟩, r⟩
  | own y => obtain ⟨ob, e⟩ := x; exact ⟨ob, k _ _ (.inl rfl) e⟩
  | xd fs => obtain ⟨mA, ⟨od, es, ep, e, c⟩, r⟩ := x; exact ⟨mA, ⟨od, es, ep, k _ _ (.inl rfl) e, c⟩, r⟩
  | rng lo hi => obtain ⟨t, u, v, e⟩ := x; exact ⟨t, u, v, k _ _ (.inl rfl) e⟩
  | frz ob u ih => obtain ⟨e, q⟩ := x; exact ⟨k _ _ (.inl rfl) e, ih q⟩
  | tbl ps =>
    have e : h.get? a = some { cls := .none, data := .fields ps } := x
    show h'.get? a = some { cls := .none, data := .fields ps }
    exact k a _ (.inl rfl) e
  | met f y =>
    have e : h.get? a = some (PySem.W.methodObj (.ref f) (.ref y)) := x
    show h'.get? a = some (PySem.W.methodObj (.ref f) (.ref y))
    exact k a _ (.inl rfl) e
  | ext φ => obtain ⟨p, ⟨o, e⟩, st⟩ := x; exact ⟨st _ _ p fun o q => k _ _ (.inl rfl) q, ⟨o, k _ _ (.inl rfl) e⟩, st⟩
theorem HOk.lt (x : HOk P w H h) (e : H a = some o) : a < h.objs.size := (x a o e).lt
theorem HOk.fresh (x : HOk P w H h) (e : h.objs.size ≤ a) : H a = none := by
  cases q : H a with
  | none => rfl
  | some u => exact absurd (Nat.lt_of_lt_of_le (x.lt q) e) (Nat.lt_irrefl _)
theorem HOk.kept (x : HOk P w H h) (k : ∀ b u, h.get? b = some u → h'.get? b = some u) : HOk P w H h' := fun a o e =>
  (x a o e).stay (fun b u _ q => k b u q) (fun _ q => q) fun _ _ q => q
theorem HOk.laid (x : HOk P w H h) (k : ∀ b u, h.get? b = some u → h'.get? b = some u) (hp : h.objs.size ≤ a) (new : ObjOk P w (upd H a o) h' a o) : HOk P w (upd H a o) h' := fun b u e => by
  have hn := x.fresh hp
  by_cases hb : b = a
  · subst hb; rw [upd_same] at e; cases e; exact new
  · rw [upd_ne hb] at e
    exact (x b u e).stay (fun c v _ q => k c v q) (fun c q => by rw [upd_ne (ne_of_none q hn)]; exact q) fun c xs q => by rw [upd_ne (ne_of_none q hn)]; exact q
end
noncomputable def Rd (H : Hp) (a : Addr) (u : HO) : Prop := H a = some u ∨ ∃ o, H a = some (.frz o u)
theorem Rd.ok {P : Program} {w : World} {H : Hp} {h : Heap} {a : Addr} {u : HO} (r : Rd H a u) (x : HOk P w H h) : ObjOk P w H h a u := by
  rcases r with r | ⟨o, r⟩
  · exact x a u r
  · obtain ⟨_, q⟩ := x a _ r
    exact q
noncomputable def Mut : Option HO → Prop
  | some (.lst _) => True
  | some (.dK _) => True
  | some (.dT _) => True
  | some (.set _ _) => True
  | some (.ins _ _ _) => True
  | some (.ext _) => True
  | _ => False
section
variable {P : Program} {w : World} {H : Hp} {h h' : Heap} {x e : Addr} {o' : HO}
theorem HOk.write (ok : HOk P w H h) (mu : Mut (H x)) (he : e = x ∨ H e = some (.own x)) (k : ∀ b u, b ≠ e → h.get? b = some u → h'.get? b = some u) (heo : ∃ u, h'.get? e = some u)
    (new : ObjOk P w (upd H x o') h' x o') : HOk P w (upd H x o') h' := fun b u q => by
  have nown : ∀ c y, H c = some (.own y) → c ≠ x := fun c y r z => by subst z; rw [r] at mu; exact mu
  have ntup : ∀ c xs, H c = some (.tup xs) → c ≠ x := fun c xs r z => by subst z; rw [r] at mu; exact mu
  by_cases hb : b = x
  · subst hb; rw [upd_same] at q; cases q; exact new
  · rw [upd_ne hb] at q
    by_cases hbe : b = e
    · have q' : H b = some (.own x) := by
        rcases he with z | z
        · exact absurd (hbe.trans z) hb
        · rw [hbe]; exact z
      rw [q] at q'; cases q'
      obtain ⟨v, hv⟩ := heo
      exact ⟨v, by rw [hbe]; exact hv⟩
    · refine (ok b u q).stay (fun c v hc r => k c v ?_ r) (fun c r => by rw [upd_ne (nown c b r)]; exact r) fun c xs r => by rw [upd_ne (ntup c xs r)]; exact r
      rcases hc with rfl | hc
      · exact hbe
      · rintro rfl
        rcases he with z | z
        · exact nown c b hc z
        · rw [hc] at z; cases z; exact hb rfl
end
structure Un (fs ex : List Addr) (H H' : Hp) (h h' : Heap) : Prop where
  keep : ∀ b o, h.get? b = some o → H b = none → b ∉ fs → b ∉ ex → h'.get? b = some o
  slot : ∀ b o, h.get? b = some o → H b = none → b ∈ fs → b ∉ ex → ∃ sl, h'.get? b = some { o with slots := sl }
  free : ∀ b o, h.get? b = some o → H b = none → b ∉ ex → H' b = none
  there : ∀ b o, h.get? b = some o → b ∉ ex → ∃ o', h'.get? b = some o'
  tups : ∀ b xs, H b = some (.tup xs) → H' b = some (.tup xs)
  frzs : ∀ b o u, H b = some (.frz o u) → H' b = some (.frz o u)
  tbls : ∀ b ps, H b = some (.tbl ps) → ∃ more, H' b = some (.tbl (ps ++ more))
section
variable {fs fs' ex ex' : List Addr} {H H1 H2 : Hp} {h h1 h2 h' : Heap} {a x e : Addr} {o : HO}
theorem Un.any (u : Un fs ex H H1 h h1) {b : Addr} {ob : Obj} (q : h.get? b = some ob) (n : H b = none) (hx : b ∉ ex) : ∃ sl, h1.get? b = some { ob with slots := sl } := by
  by_cases hb : b ∈ fs
  · exact u.slot b ob q n hb hx
  · exact ⟨ob.slots, u.keep b ob q n hb hx⟩
theorem Un.kept (k : ∀ b u, h.get? b = some u → h'.get? b = some u) : Un fs ex H H h h' :=
  ⟨fun b ob q _ _ _ => k b ob q, fun b ob q _ _ _ => ⟨ob.slots, k b ob q⟩, fun _ _ _ n _ => n, fun b ob q _ => ⟨ob, k b ob q⟩, fun _ _ q => q, fun _ _ _ q => q, fun _ ps q => ⟨#[], by rw [q]; simp⟩⟩
theorem Un.refl : Un fs ex H H h h := Un.kept fun _ _ q => q
theorem Un.laid (k : ∀ b u, h.get? b = some u → h'.get? b = some u) (hp : h.objs.size ≤ a) (hn : H a = none) : Un fs ex H (upd H a o) h h' where
  keep := fun b u q _ _ _ => k b u q
  slot := fun b u q _ _ _ => ⟨u.slots, k b u q⟩
  free := fun b u q n _ => by rw [upd_ne (Nat.ne_of_lt (Nat.lt_of_lt_of_le (Heap.lt_size q) hp))]; exact n
  there := fun b u q _ => ⟨u, k b u q⟩
  tups := fun b xs q => by rw [upd_ne (ne_of_none q hn)]; exact q
  frzs := fun b u xs q => by rw [upd_ne (ne_of_none q hn)]; exact q
  tbls := fun b ps q => ⟨#[], by rw [upd_ne (ne_of_none q hn), q]; simp⟩
theorem Un.write (mu : Mut (H x)) (he : e = x ∨ H e = some (.own x)) (k : ∀ b u, b ≠ e → h.get? b = some u → h'.get? b = some u) (heo : ∃ u, h'.get? e = some u) : Un fs ex H (upd H x o) h h' := by
  have hx : ∀ b, H b = none → b ≠ x := fun b n z => by subst z; rw [n] at mu; exact mu
  have hb : ∀ b, H b = none → b ≠ e := fun b n z => by
    subst z
    rcases he with r | r
    · exact hx b n r
    · rw [n] at r; cases r
  have hm : ∀ b u, H b = some u → ¬ Mut (some u) → b ≠ x := fun b u q nm z => by subst z; rw [q] at mu; exact nm mu
  refine ⟨fun b u q n _ _ => k b u (hb b n) q, fun b u q n _ _ => ⟨u.slots, k b u (hb b n) q⟩, fun b u q n _ => by rw [upd_ne (hx b n)]; exact n, fun b u q _ => ?_,
    fun b xs q => by rw [upd_ne (hm b _ q fun z => z)]; exact q, fun b u xs q => by rw [upd_ne (hm b _ q fun z => z)]; exact q, fun b ps q => ⟨#[], by rw [upd_ne (hm b _ q fun z => z), q]; simp⟩⟩
  by_cases hbe : b = e
  · subst hbe; exact heo
  · exact ⟨u, k b u hbe q⟩
end
noncomputable def trk (h : Heap) (H : Hp) : List Addr := (List.range h.objs.size).filter fun a => (H a).isSome
noncomputable def hidT (h : Heap) (H : Hp) : Heap := PySem.W.hideAll h (trk h H)
theorem hidT_size (h : Heap) (H : Hp) : (hidT h H).objs.size = h.objs.size := PySem.W.hideAll_size _ _
theorem hidT_get {h : Heap} {H : Hp} {b : Addr} {o : Obj} (e : h.get? b = some o) (n : H b = none) : (hidT h H).get? b = some o :=
  PySem.W.hideAll_get _ e fun hm => by
    have q : (H b).isSome = true := (List.mem_filter.mp hm).2
    rw [n] at q; simp at q
theorem of_hidT {h : Heap} {H : Hp} {b : Addr} {o : Obj} (e : (hidT h H).get? b = some o) : h.get? b = some o ∧ H b = none := by
  have e' : h.get? b = some o := PySem.W.of_hideAll (trk h H) e
  refine ⟨e', ?_⟩
  cases q : H b with
  | none => rfl
  | some x =>
    have hm : b ∈ trk h H := List.mem_filter.mpr ⟨List.mem_range.mpr (Heap.lt_size e'), by simp [q]⟩
    have z : (hidT h H).get? b = none := PySem.W.hideAll_none (trk h H) hm
    rw [z] at e; cases e
noncomputable def allNews (g h : Heap) (L : Addr) : List (Addr × Obj) := (List.range h.objs.size).filterMap fun a => if a = L ∨ (g.get? a).isSome = true then none else (h.get? a).map fun o => (a, o)
noncomputable def rest (g h : Heap) (L d : Addr) : List (Addr × Obj) := (allNews g h L).filter fun p => decide (p.1 ≠ d)
end L2
namespace L2
open PySem PySem.Spec PyProof.Rows
structure Mod (K : PySem.W.Frag) (mg : Str → Option Value) (base : Heap) : Prop where
  kin : K.In base
  glob : base.Ns mainGlobals mg
  blt : ∃ mb, base.Ns builtinsNs mb ∧ ∀ x : Str, x ≠ "__name__" → mb x = bootBuiltins x
  nolimit : base.NoLimit
/-- the context: a def's body (or a comprehension's block) running. base: fixed through the whole law; s₀, H₀: the entry; outer: the frames whose slots others may change (a def's callers); stack: all frames that run;
   ex: iterators that were made ahead of the entry and are walked here (a comprehension's); fn: the names whose cells were made at the entry (a def: all; a comprehension's block: its own); calm: not within an except suite; pn: pins that every state bears; xe: what is wanted of an exception that leaves the code -/
structure Cx where
  prog : Program
  w : World
  K : PySem.W.Frag
  mg : Str → Option Value
  base : Heap
  A : Around
  N : List Str
  s₀ : Shared
  H₀ : Hp
  env : Env
  outer : List Env
  stack : List Env
  ex : List Addr
  fn : Str → Bool
  calm : Bool
  pn : List (Addr × Obj)
  xe : Value → Shared → Prop
noncomputable def frs (l : List Env) : List Addr := l.filterMap (·.frame)
noncomputable abbrev Cx.fs (X : Cx) : List Addr := frs X.outer
noncomputable def Vis (sc : Scope) (x : Str) : Prop := sc.names.lookup x = some .local ∨ sc.names.lookup x = some .cell ∨ sc.names.lookup x = some .free
noncomputable def Loc (sc : Scope) (x : Str) : Prop := sc.names.lookup x = some .local ∨ sc.names.lookup x = some .cell
noncomputable def Look (env : Env) (h : Heap) (m : Str → Option Value) (x : Str) (u : Value) : Prop :=
  (env.kindOf x = some .local ∧ m x = some u) ∨ ((env.kindOf x = some .cell ∨ env.kindOf x = some .free) ∧ ∃ c, env.cells.lookup x = some c ∧ h.IsCell c (some u))
structure Cx.Ok (X : Cx) : Prop where
  mod : Mod X.K X.mg X.base
  kind : X.env.scope.kind = .function
  glob : X.env.globals = mainGlobals
  blt : X.env.builtins = builtinsNs
  above : X.s₀.heap.objs.size ≤ X.env.locals
  inj : ∀ x y c, X.env.cells.lookup x = some c → X.env.cells.lookup y = some c → x = y
  has : ∀ x, (X.env.kindOf x = some .cell ∨ X.env.kindOf x = some .free) → ∃ c, X.env.cells.lookup x = some c
  cab : ∀ x c, X.fn x = true → X.env.cells.lookup x = some c → X.s₀.heap.objs.size ≤ c
  hd : X.calm = true → X.A.handled = none
  frames : X.A.frames = some X.stack
  stk : X.stack = X.outer ∨ (X.stack = X.env :: X.outer ∧ X.env.frame = some X.env.locals)
  exf : ∀ b ∈ X.ex, b ≠ X.env.locals ∧ ∀ x c, X.env.cells.lookup x = some c → c ≠ b
  bs : ∀ b o, X.base.get? b = some o → X.s₀.heap.get? b = some o ∧ X.H₀ b = none
  bsz : X.base.objs.size ≤ X.s₀.heap.objs.size
  noex : ∀ b o, X.base.get? b = some o → b ∉ X.ex
  exfs : ∀ b ∈ X.ex, b ∉ X.fs
  funs : X.s₀.heap.FunFrames X.base X.outer
  frf : ∀ b ∈ X.fs, X.H₀ b = none
structure Inv (X : Cx) (pins : List (Addr × Obj)) (σ : List (Option V)) (H : Hp) (s : Shared) : Prop where
  ok : X.Ok
  os : s.os = X.s₀.os
  bare : AllBare s.gens
  base : Un X.fs X.ex X.H₀ H X.s₀.heap s.heap
  loc : ∃ m, s.heap.Ns X.env.locals m ∧ ∀ (i : Nat) (x : Str) (v : V), X.N[i]? = some x → σ[i]? = some (some v) → Vis X.env.scope x → ∃ u, RelV v u ∧ Look X.env s.heap m x u
  cell : ∀ x c, X.env.cells.lookup x = some c → ∃ v, s.heap.IsCell c v
  free : H X.env.locals = none
  freeC : ∀ x c, X.env.cells.lookup x = some c → H c = none
  pin : ∀ p ∈ X.pn ++ pins, s.heap.get? p.1 = some p.2 ∧ H p.1 = none ∧ p.1 ≠ X.env.locals ∧ p.1 ∉ X.fs ∧ ∀ v, p.2.data ≠ .cell v
  hok : HOk X.prog X.w H s.heap
  len : σ.length = X.N.length
section
variable {X : Cx} {pins : List (Addr × Obj)} {σ : List (Option V)} {H H' : Hp} {s : Shared} {h' : Heap}
theorem Cx.Ok.nofr (ok : X.Ok) {b : Addr} {o : Obj} (e : X.base.get? b = some o) : b ∉ X.fs := fun hb => by
  have := (ok.funs.mem hb).1
  rw [e] at this; cases this
theorem Inv.bs (I : Inv X pins σ H s) : ∀ b o, X.base.get? b = some o → s.heap.get? b = some o ∧ H b = none := fun b o e =>
  ⟨I.base.keep b o (I.ok.bs b o e).1 (I.ok.bs b o e).2 (I.ok.nofr e) (I.ok.noex b o e), I.base.free b o (I.ok.bs b o e).1 (I.ok.bs b o e).2 (I.ok.noex b o e)⟩
theorem Inv.bk (I : Inv X pins σ H s) : ∀ b o, X.base.get? b = some o → s.heap.get? b = some o := fun b o e => (I.bs b o e).1
theorem Inv.mod (I : Inv X pins σ H s) : Mod X.K X.mg X.base := I.ok.mod
theorem Inv.kIn (I : Inv X pins σ H s) : X.K.In s.heap := I.ok.mod.kin.keeps I.bk
theorem Inv.lt (I : Inv X pins σ H s) : X.env.locals < s.heap.objs.size := let ⟨_, hn, _⟩ := I.loc; hn.lt
theorem Inv.sz (I : Inv X pins σ H s) : X.s₀.heap.objs.size ≤ s.heap.objs.size := Nat.le_trans I.ok.above (Nat.le_of_lt I.lt)
theorem Inv.nofs (I : Inv X pins σ H s) {a : Addr} (h : s.heap.objs.size ≤ a) : a ∉ X.fs := fun hb => by
  obtain ⟨_, o, ho, _⟩ := I.ok.funs.mem hb
  exact absurd (Nat.lt_of_lt_of_le (Heap.lt_size ho) (Nat.le_trans I.sz h)) (Nat.lt_irrefl _)
theorem Inv.cne (I : Inv X pins σ H s) : ∀ x c, X.env.cells.lookup x = some c → c ≠ X.env.locals := fun x c e z => by
  obtain ⟨v, o, ho, hd⟩ := I.cell x c e
  obtain ⟨m, ⟨o', es, ep, ho', hd', _⟩, _⟩ := I.loc
  rw [z, ho'] at ho; cases ho; rw [hd'] at hd; cases hd
theorem Inv.funs (I : Inv X pins σ H s) : s.heap.FunFrames X.base X.outer := by
  have all : ∀ (l : List Env), (∀ b ∈ frs l, b ∈ X.fs) → X.s₀.heap.FunFrames X.base l → s.heap.FunFrames X.base l := by
    intro l
    induction l with
    | nil => intro _ _; trivial
    | cons env r ih =>
      intro hs hl
      obtain ⟨hk, ⟨L, o, hf, hn, ho, hd⟩, hr⟩ := hl
      have hL : L ∈ X.fs := hs L (by unfold frs; rw [List.filterMap_cons, hf]; exact List.mem_cons_self)
      obtain ⟨sl, e⟩ := I.base.slot L o ho (I.ok.frf L hL) hL fun z => I.ok.exfs L z hL
      exact ⟨hk, ⟨L, _, hf, hn, e, hd⟩, ih (fun b hb => hs b (by unfold frs; rw [List.filterMap_cons, hf]; exact List.mem_cons_of_mem _ hb)) hr⟩
  exact all X.outer (fun _ hb => hb) I.ok.funs
theorem Inv.stack (I : Inv X pins σ H s) : s.heap.FunFrames X.base X.stack := by
  rcases I.ok.stk with e | ⟨e, hf⟩
  · rw [e]; exact I.funs
  · rw [e]
    obtain ⟨m, hn, _⟩ := I.loc
    refine .cons (by rw [I.ok.kind]; decide) hf hn ?_ I.funs
    exact Heap.get?_none_of_le (Nat.le_trans I.ok.bsz I.ok.above)
theorem Inv.stkSub (I : Inv X pins σ H s) : ∀ b ∈ frs X.stack, b ∈ X.env.locals :: X.fs := fun b hb => by
  rcases I.ok.stk with e | ⟨e, hf⟩
  · rw [e] at hb; exact List.mem_cons_of_mem _ hb
  · rw [e] at hb
    unfold frs at hb
    rw [List.filterMap_cons, hf] at hb
    exact hb
theorem Inv.stkFree (I : Inv X pins σ H s) : ∀ b ∈ frs X.stack, H b = none := fun b hb => by
  rcases List.mem_cons.mp (I.stkSub b hb) with e | hb
  · rw [e]; exact I.free
  · obtain ⟨_, o, ho, _⟩ := I.ok.funs.mem hb
    exact I.base.free b o ho (I.ok.frf b hb) fun z => I.ok.exfs b z hb
theorem Inv.step {g' : Array GenState} {t' : Nat} {d' : Drawn} {ch : List Addr} (I : Inv X pins σ H s)
    (hch : ∀ b ∈ ch, (b ∈ X.ex ∨ X.s₀.heap.objs.size ≤ b) ∧ b ≠ X.env.locals ∧ (∀ x c, X.env.cells.lookup x = some c → c ≠ b) ∧ ∀ p ∈ X.pn ++ pins, p.1 ≠ b)
    (keep : ∀ b o, b ≠ X.env.locals → b ∉ X.fs → b ∉ ch → s.heap.get? b = some o → H b = none → h'.get? b = some o)
    (slot : ∀ b o, b ≠ X.env.locals → b ∈ X.fs → b ∉ ch → s.heap.get? b = some o → H b = none → ∃ sl, h'.get? b = some { o with slots := sl }) (free : ∀ b o, b ∉ ch → s.heap.get? b = some o → H b = none → H' b = none)
    (there : ∀ b o, b ∉ ch → s.heap.get? b = some o → ∃ o', h'.get? b = some o')
    (tups : ∀ b xs, H b = some (.tup xs) → H' b = some (.tup xs)) (frzs : ∀ b o u, H b = some (.frz o u) → H' b = some (.frz o u)) (tbls : ∀ b ps, H b = some (.tbl ps) → ∃ more, H' b = some (.tbl (ps ++ more)))
    (ns : ∀ m, s.heap.Ns X.env.locals m → h'.Ns X.env.locals m) (hok : HOk X.prog X.w H' h') (hg : AllBare g') :
    Inv X pins σ H' { s with heap := h', gens := g', drawn := d', toks := t' } := by
  have neL : ∀ b o, X.s₀.heap.get? b = some o → b ≠ X.env.locals := fun b o e => Nat.ne_of_lt (Nat.lt_of_lt_of_le (Heap.lt_size e) I.ok.above)
  have neC : ∀ b o, X.s₀.heap.get? b = some o → b ∉ X.ex → b ∉ ch := fun b o e hx hb => by
    rcases (hch b hb).1 with z | z
    · exact hx z
    · exact absurd (Nat.lt_of_lt_of_le (Heap.lt_size e) z) (Nat.lt_irrefl _)
  have cellK : ∀ x c, X.env.cells.lookup x = some c → ∀ v, s.heap.IsCell c v → h'.IsCell c v := fun x c e v ⟨o, ho, hd⟩ => by
    have nch : c ∉ ch := fun z => (hch c z).2.2.1 x c e rfl
    by_cases hc : c ∈ X.fs
    · obtain ⟨sl, q⟩ := slot c o (I.cne x c e) hc nch ho (I.freeC x c e)
      exact ⟨_, q, hd⟩
    · exact ⟨o, keep c o (I.cne x c e) hc nch ho (I.freeC x c e), hd⟩
  refine ⟨I.ok, I.os, hg, ⟨fun b o e n hb hx => ?_, fun b o e n hb hx => ?_, fun b o e n hx => ?_, fun b o e hx => ?_, fun b xs e => tups b xs (I.base.tups b xs e), fun b o xs e => frzs b o xs (I.base.frzs b o xs e), fun b ps e => ?_⟩, ?_, fun x c e => ?_, ?_, fun x c e => ?_, fun p hp => ?_, hok, I.len⟩
  · exact keep b o (neL b o e) hb (neC b o e hx) (I.base.keep b o e n hb hx) (I.base.free b o e n hx)
  · obtain ⟨sl, e1⟩ := I.base.slot b o e n hb hx
    obtain ⟨sl', e2⟩ := slot b _ (neL b o e) hb (neC b o e hx) e1 (I.base.free b o e n hx)
    exact ⟨sl', e2⟩
  · obtain ⟨o', e1⟩ := I.base.there b o e hx
    exact free b o' (neC b o e hx) e1 (I.base.free b o e n hx)
  · obtain ⟨o', e1⟩ := I.base.there b o e hx
    exact there b o' (neC b o e hx) e1
  · obtain ⟨m1, e1⟩ := I.base.tbls b ps e
    obtain ⟨m2, e2⟩ := tbls b _ e1
    exact ⟨m1 ++ m2, by rw [e2, Array.append_assoc]⟩
  · obtain ⟨m, hn, hl⟩ := I.loc
    refine ⟨m, ns m hn, fun i x v e1 e2 e3 => ?_⟩
    obtain ⟨u, r, l⟩ := hl i x v e1 e2 e3
    refine ⟨u, r, ?_⟩
    rcases l with l | ⟨k, c, e, z⟩
    · exact .inl l
    · exact .inr ⟨k, c, e, cellK x c e _ z⟩
  · obtain ⟨v, z⟩ := I.cell x c e
    exact ⟨v, cellK x c e v z⟩
  · obtain ⟨m, ⟨o, _, _, ho, _⟩, _⟩ := I.loc
    exact free _ o (fun z => (hch _ z).2.1 rfl) ho I.free
  · obtain ⟨v, o, ho, hd⟩ := I.cell x c e
    exact free c o (fun z => (hch c z).2.2.1 x c e rfl) ho (I.freeC x c e)
  · obtain ⟨e, n, ne, nf, d⟩ := I.pin p hp
    have nch : p.1 ∉ ch := fun z => (hch p.1 z).2.2.2 p hp rfl
    exact ⟨keep p.1 p.2 ne nf nch e n, free p.1 p.2 nch e n, ne, nf, d⟩
theorem Inv.un {t' : Nat} (I : Inv X pins σ H s) (u : Un X.fs [] H H' s.heap h') (hok : HOk X.prog X.w H' h') : Inv X pins σ H' { s with heap := h', toks := t' } := by
  obtain ⟨m, ⟨o, es, ep, ho, r⟩, _⟩ := id I.loc
  obtain ⟨sl, hL⟩ := u.any ho I.free (by simp)
  exact I.step (g' := s.gens) (d' := s.drawn) (ch := []) (fun _ z => nomatch z) (fun b o _ hb _ e n => u.keep b o e n hb (by simp)) (fun b o _ hb _ e n => u.slot b o e n hb (by simp)) (fun b o _ e n => u.free b o e n (by simp)) (fun b o _ e => u.there b o e (by simp)) u.tups u.frzs u.tbls (fun m' hm => by
    obtain ⟨o', es', ep', ho', r'⟩ := hm
    rw [ho] at ho'; cases ho'
    exact ⟨_, es', ep', hL, r'⟩) hok I.bare
theorem Inv.call {g' : Array GenState} {t' : Nat} {d' : Drawn} {ch : List Addr} (I : Inv X pins σ H s) (u : Un (frs X.stack) ch H H' s.heap h') (hok : HOk X.prog X.w H' h') (hg : AllBare g')
    (hch : ∀ b ∈ ch, (b ∈ X.ex ∨ X.s₀.heap.objs.size ≤ b) ∧ b ≠ X.env.locals ∧ (∀ x c, X.env.cells.lookup x = some c → c ≠ b) ∧ ∀ p ∈ X.pn ++ pins, p.1 ≠ b) :
    Inv X pins σ H' { s with heap := h', gens := g', drawn := d', toks := t' } := by
  obtain ⟨m, ⟨o, es, ep, ho, r⟩, _⟩ := id I.loc
  obtain ⟨sl, hL⟩ := u.any ho I.free fun z => (hch _ z).2.1 rfl
  exact I.step (ch := ch) hch (fun b o hL hb hc e n => u.keep b o e n (fun z => (List.mem_cons.mp (I.stkSub b z)).elim hL hb) hc) (fun b o _ _ hc e n => u.any e n hc) (fun b o hc e n => u.free b o e n hc) (fun b o hc e => u.there b o e hc) u.tups u.frzs u.tbls (fun m' hm => by
    obtain ⟨o', es', ep', ho', r'⟩ := hm
    rw [ho] at ho'; cases ho'
    exact ⟨_, es', ep', hL, r'⟩) hok hg
theorem Inv.turned {t' : Nat} {it : Addr} (I : Inv X pins σ H s) (k : ∀ b o, b ≠ it → s.heap.get? b = some o → h'.get? b = some o) (hn : H it = none) (hL : it ≠ X.env.locals)
    (h1 : it ∈ X.ex ∨ X.s₀.heap.objs.size ≤ it) (h2 : ∀ x c, X.env.cells.lookup x = some c → c ≠ it) (h3 : ∀ p ∈ X.pn ++ pins, p.1 ≠ it) : Inv X pins σ H { s with heap := h', toks := t' } := by
  have nit : ∀ b u, H b = some u → b ≠ it := fun b u e z => by rw [z, hn] at e; cases e
  refine I.step (g' := s.gens) (d' := s.drawn) (ch := [it]) (fun b hb => ?_) (fun b o _ _ hc e _ => k b o (fun z => hc (by simp [z])) e) (fun b o _ _ hc e _ => ⟨o.slots, k b o (fun z => hc (by simp [z])) e⟩) (fun _ _ _ _ n => n)
    (fun b o hc e => ⟨o, k b o (fun z => hc (by simp [z])) e⟩) (fun _ _ e => e) (fun _ _ _ e => e) (fun b ps e => ⟨#[], by rw [e]; simp⟩) (fun m hm => ?_) (fun b u e => ?_) I.bare
  · have e : b = it := by simpa using hb
    subst e
    exact ⟨h1, hL, h2, h3⟩
  · obtain ⟨o, es, ep, ho, r⟩ := hm
    exact ⟨o, es, ep, k _ o (Ne.symm hL) ho, r⟩
  · refine (I.hok b u e).stay (fun c v hc q => k c v ?_ q) (fun _ q => q) fun _ _ q => q
    rcases hc with z | z
    · rw [z]; exact nit b u e
    · exact nit c _ z
theorem Inv.tok (I : Inv X pins σ H s) (t : Nat) : Inv X pins σ H { s with toks := t } := I.un (h' := s.heap) (t' := t) Un.refl I.hok
theorem Inv.kept {t' : Nat} (I : Inv X pins σ H s) (k : ∀ b u, s.heap.get? b = some u → h'.get? b = some u) : Inv X pins σ H { s with heap := h', toks := t' } := I.un (Un.kept k) (I.hok.kept k)
theorem Inv.laid {a : Addr} {o : HO} {t' : Nat} (I : Inv X pins σ H s) (k : ∀ b u, s.heap.get? b = some u → h'.get? b = some u) (hp : s.heap.objs.size ≤ a) (new : ObjOk X.prog X.w (upd H a o) h' a o) :
    Inv X pins σ (upd H a o) { s with heap := h', toks := t' } := I.un (Un.laid k hp (I.hok.fresh hp)) (I.hok.laid k hp new)
theorem Inv.write {x e : Addr} {o : HO} {t' : Nat} (I : Inv X pins σ H s) (mu : Mut (H x)) (he : e = x ∨ H e = some (.own x)) (k : ∀ b u, b ≠ e → s.heap.get? b = some u → h'.get? b = some u) (heo : ∃ u, h'.get? e = some u)
    (new : ObjOk X.prog X.w (upd H x o) h' x o) : Inv X pins σ (upd H x o) { s with heap := h', toks := t' } := I.un (Un.write mu he k heo) (I.hok.write mu he k heo new)
theorem Inv.pins_of {pins' : List (Addr × Obj)} (I : Inv X pins σ H s) (h : ∀ p ∈ pins', s.heap.get? p.1 = some p.2 ∧ H p.1 = none ∧ p.1 ≠ X.env.locals ∧ p.1 ∉ X.fs ∧ ∀ v, p.2.data ≠ .cell v) : Inv X pins' σ H s :=
  ⟨I.ok, I.os, I.bare, I.base, I.loc, I.cell, I.free, I.freeC, fun p hp => (List.mem_append.mp hp).elim (fun z => I.pin p (List.mem_append_left _ z)) (h p), I.hok, I.len⟩
theorem nodup_ix {N : List Str} (hN : N.Nodup) {i j : Nat} {x : Str} (a : N[i]? = some x) (b : N[j]? = some x) : i = j := by
  obtain ⟨h1, e1⟩ := List.getElem?_eq_some_iff.mp a
  obtain ⟨h2, e2⟩ := List.getElem?_eq_some_iff.mp b
  exact (List.getElem_inj hN).mp (e1.trans e2.symm)
theorem store_ok2 {M : Model} {A : Around} {E : Value → Shared → Prop} {i : Nat} {x : Str} {v : V} {u : Value} {Q : Unit → Shared → Prop} (I : Inv X pins σ H s) (hN : X.N.Nodup) (hi : X.N[i]? = some x) (hx : Loc X.env.scope x) (r : RelV v u)
    (h : ∀ s', Inv X pins (σ.set i (some v)) H s' → (∃ a, Heap.SameBut a s.heap s'.heap ∧ (a = X.env.locals ∨ X.env.cells.lookup x = some a)) → Q () s') (hf : X.fn x = true ∨ X.env.scope.names.lookup x = some .local := by first | exact .inl rfl | exact .inr rfl | assumption) : wpAny M A (storeName X.env x u) Q E s := by
  obtain ⟨m, hn, hl⟩ := id I.loc
  have hcls : (X.env.scope.kind == .class || (X.env.scope.kind == .module && X.env.locals != X.env.globals)) = false := by rw [I.ok.kind]; rfl
  have hiσ : i < σ.length := by rw [I.len]; exact (List.getElem?_eq_some_iff.mp hi).1
  have cne := I.cne
  have tracked : ∀ {a : Addr} {h' : Heap}, (∃ o, s.heap.get? a = some o ∧ H a = none) → Heap.SameBut a s.heap h' → HOk X.prog X.w H h' := fun {a h'} ha hs b ob e => by
    obtain ⟨_, _, hfree⟩ := ha
    refine (I.hok b ob e).stay (fun c w' hc q => (hs.2 c ?_).trans q) (fun _ q => q) fun _ _ q => q
    rintro rfl
    rcases hc with rfl | hc
    · rw [hfree] at e; cases e
    · rw [hfree] at hc; cases hc
  rcases hx with hk | hk
  · refine wpAny_storeName_local hk hn (fun h' hn' hs => ?_) hcls
    obtain ⟨oL, _, _, hoL, _⟩ := id hn
    refine h _ ⟨I.ok, I.os, I.bare, ⟨fun b o e n hb hx => ?_, fun b o e n hb hx => ?_, I.base.free, fun b o e hx => ?_, I.base.tups, I.base.frzs, I.base.tbls⟩, ⟨_, hn', fun j y v' e1 e2 e3 => ?_⟩, fun y c e => ?_, I.free, I.freeC, fun p hp => ?_, tracked ⟨oL, hoL, I.free⟩ hs, by simpa using I.len⟩ ⟨_, hs, .inl rfl⟩
    · exact (hs.2 b (Nat.ne_of_lt (Nat.lt_of_lt_of_le (Heap.lt_size e) I.ok.above))).trans (I.base.keep b o e n hb hx)
    · obtain ⟨sl, e1⟩ := I.base.slot b o e n hb hx
      exact ⟨sl, (hs.2 b (Nat.ne_of_lt (Nat.lt_of_lt_of_le (Heap.lt_size e) I.ok.above))).trans e1⟩
    · obtain ⟨o', e1⟩ := I.base.there b o e hx
      exact ⟨o', (hs.2 b (Nat.ne_of_lt (Nat.lt_of_lt_of_le (Heap.lt_size e) I.ok.above))).trans e1⟩
    · by_cases hj : j = i
      · subst hj
        rw [hi] at e1; cases e1
        rw [List.getElem?_set_self hiσ] at e2
        cases e2
        exact ⟨u, r, .inl ⟨hk, by simp⟩⟩
      · rw [List.getElem?_set_ne (Ne.symm hj)] at e2
        obtain ⟨u', r', q⟩ := hl j y v' e1 e2 e3
        refine ⟨u', r', ?_⟩
        rcases q with ⟨k, e⟩ | ⟨k, c, e, z⟩
        · refine .inl ⟨k, ?_⟩
          have : y ≠ x := fun e => hj (nodup_ix hN e1 (e ▸ hi))
          simp [this, e]
        · exact .inr ⟨k, c, e, z.sameBut hs (cne y c e)⟩
    · obtain ⟨w', z⟩ := I.cell y c e
      exact ⟨w', z.sameBut hs (cne y c e)⟩
    · obtain ⟨e, n, ne, nf, d⟩ := I.pin p hp
      exact ⟨(hs.2 p.1 ne).trans e, n, ne, nf, d⟩
  · have hfn : X.fn x = true := by
      rcases hf with z | z
      · exact z
      · rw [z] at hk; cases hk
    obtain ⟨c, hc⟩ := I.ok.has x (.inl hk)
    obtain ⟨w', z⟩ := I.cell x c hc
    refine wpAny_storeName_cell I.ok.kind hk hc z (fun h' hc' hs => ?_)
    obtain ⟨oc, hoc, hocd⟩ := id z
    refine h { s with heap := h' } ⟨I.ok, I.os, I.bare, ⟨fun b o e n hb hx => ?_, fun b o e n hb hx => ?_, I.base.free, fun b o e hx => ?_, I.base.tups, I.base.frzs, I.base.tbls⟩, ⟨m, hn.sameBut hs (Ne.symm (cne x c hc)), fun j y v' e1 e2 e3 => ?_⟩, fun y c' e => ?_, I.free, I.freeC, fun p hp => ?_, tracked ⟨oc, hoc, I.freeC x c hc⟩ hs, by simpa using I.len⟩ ⟨c, hs, .inr hc⟩
    · exact (hs.2 b (Nat.ne_of_lt (Nat.lt_of_lt_of_le (Heap.lt_size e) (I.ok.cab x c hfn hc)))).trans (I.base.keep b o e n hb hx)
    · obtain ⟨sl, e1⟩ := I.base.slot b o e n hb hx
      exact ⟨sl, (hs.2 b (Nat.ne_of_lt (Nat.lt_of_lt_of_le (Heap.lt_size e) (I.ok.cab x c hfn hc)))).trans e1⟩
    · obtain ⟨o', e1⟩ := I.base.there b o e hx
      exact ⟨o', (hs.2 b (Nat.ne_of_lt (Nat.lt_of_lt_of_le (Heap.lt_size e) (I.ok.cab x c hfn hc)))).trans e1⟩
    · by_cases hj : j = i
      · subst hj
        rw [hi] at e1; cases e1
        rw [List.getElem?_set_self hiσ] at e2
        cases e2
        exact ⟨u, r, .inr ⟨.inl hk, c, hc, hc'⟩⟩
      · rw [List.getElem?_set_ne (Ne.symm hj)] at e2
        obtain ⟨u', r', q⟩ := hl j y v' e1 e2 e3
        refine ⟨u', r', ?_⟩
        rcases q with q | ⟨k, c', e, z'⟩
        · exact .inl q
        · refine .inr ⟨k, c', e, z'.sameBut hs ?_⟩
          rintro rfl
          exact hj (nodup_ix hN e1 (I.ok.inj _ _ _ e hc ▸ hi))
    · by_cases hcc : c' = c
      · subst hcc; exact ⟨_, hc'⟩
      · obtain ⟨w2, z2⟩ := I.cell y c' e
        exact ⟨w2, z2.sameBut hs hcc⟩
    · obtain ⟨e, n, ne, nf, d⟩ := I.pin p hp
      refine ⟨(hs.2 p.1 ?_).trans e, n, ne, nf, d⟩
      intro q
      rw [q, hoc] at e
      have q' : oc = p.2 := Option.some.inj e
      exact d w' (by rw [← q']; exact hocd)
theorem store_ok {M : Model} {A : Around} {E : Value → Shared → Prop} {i : Nat} {x : Str} {v : V} {u : Value} {Q : Unit → Shared → Prop} (I : Inv X pins σ H s) (hN : X.N.Nodup) (hi : X.N[i]? = some x) (hx : Loc X.env.scope x) (r : RelV v u)
    (h : ∀ s', Inv X pins (σ.set i (some v)) H s' → Q () s') (hf : X.fn x = true ∨ X.env.scope.names.lookup x = some .local := by first | exact .inl rfl | exact .inr rfl | assumption) : wpAny M A (storeName X.env x u) Q E s :=
  store_ok2 I hN hi hx r (fun s' I' _ => h s' I') hf
theorem Inv.call' {s' : Shared} {ch : List Addr} (I : Inv X pins σ H s) (ho : s'.os = s.os) (u : Un (frs X.stack) ch H H' s.heap s'.heap) (hok : HOk X.prog X.w H' s'.heap) (hg : AllBare s'.gens)
    (hch : ∀ b ∈ ch, (b ∈ X.ex ∨ X.s₀.heap.objs.size ≤ b) ∧ b ≠ X.env.locals ∧ (∀ x c, X.env.cells.lookup x = some c → c ≠ b) ∧ ∀ p ∈ X.pn ++ pins, p.1 ≠ b) : Inv X pins σ H' s' := by
  obtain ⟨h', g', d', t', o'⟩ := s'
  have e : o' = s.os := ho
  subst e
  exact I.call (g' := g') (t' := t') (d' := d') u hok hg hch
end
noncomputable abbrev XK := Value → Option Addr → Hp → Prop
noncomputable abbrev St := List (Option V)
noncomputable abbrev VK := V → Hp → Prop
noncomputable abbrev TE := St → Hp → VK → Prop
noncomputable abbrev TT := St → Hp → (Bool → Hp → Prop) → Prop
noncomputable abbrev TA := St → Hp → (List V → Hp → Prop) → Prop
structure Ends where
  nx : St → Hp → Prop
  rt : VK
  bk : St → Hp → Prop := fun _ _ => False
  ct : St → Hp → Prop := fun _ _ => False
noncomputable abbrev TS := Ends → St → Hp → Prop
noncomputable def EP (X : Cx) (pins : List (Addr × Obj)) (σ : St) (Q : VK) (u : Value) (s' : Shared) : Prop := ∃ v H', Inv X pins σ H' s' ∧ RelV v u ∧ Q v H'
noncomputable def TP (X : Cx) (pins : List (Addr × Obj)) (σ : St) (Q : Bool → Hp → Prop) (b : Bool) (s' : Shared) : Prop := ∃ H', Inv X pins σ H' s' ∧ Q b H'
noncomputable def AP (X : Cx) (pins : List (Addr × Obj)) (σ : St) (Q : List V → Hp → Prop) (us : List Value) (s' : Shared) : Prop := ∃ vs H', Inv X pins σ H' s' ∧ Vals vs us ∧ Q vs H'
noncomputable def SP (X : Cx) (pins : List (Addr × Obj)) (D : Ends) (f : Flow) (s' : Shared) : Prop :=
  match f with
  | .next => ∃ σ' H', Inv X pins σ' H' s' ∧ D.nx σ' H'
  | .brk => ∃ σ' H', Inv X pins σ' H' s' ∧ D.bk σ' H'
  | .cont => ∃ σ' H', Inv X pins σ' H' s' ∧ D.ct σ' H'
  | .ret u => ∃ v σ' H', Inv X pins σ' H' s' ∧ RelV v u ∧ D.rt v H'
noncomputable def PE (X : Cx) (e : Expr) (t : TE) : Prop :=
  ∀ (pins : List (Addr × Obj)) (s : Shared) (σ : St) (H : Hp) (Q : VK), Inv X pins σ H s → t σ H Q → wpAny (model X.prog X.w) X.A (eval e X.env) (EP X pins σ Q) X.xe s
noncomputable def PT (X : Cx) (e : Expr) (t : TT) : Prop :=
  ∀ (pins : List (Addr × Obj)) (s : Shared) (σ : St) (H : Hp) (Q : Bool → Hp → Prop), Inv X pins σ H s → t σ H Q → wpAny (model X.prog X.w) X.A (isTrue e X.env (eval e X.env)) (TP X pins σ Q) X.xe s
noncomputable def PW (X : Cx) (e : Expr) (t : TT) : Prop :=
  ∀ (whole : Sem Value) (pins : List (Addr × Obj)) (s : Shared) (σ : St) (H : Hp) (Q : Bool → Hp → Prop), Inv X pins σ H s → t σ H Q → wpAny (model X.prog X.w) X.A (isTrue e X.env whole) (TP X pins σ Q) X.xe s
theorem PW.pt {X : Cx} {e : Expr} {t : TT} (h : PW X e t) : PT X e t := h _
noncomputable def PA (X : Cx) (es : List Expr) (t : TA) : Prop :=
  ∀ (pos : Pos) (pins : List (Addr × Obj)) (s : Shared) (σ : St) (H : Hp) (Q : List V → Hp → Prop), Inv X pins σ H s → t σ H Q → wpAny (model X.prog X.w) X.A (spliced (backTo pos (starEach es X.env))) (AP X pins σ Q) X.xe s
noncomputable def PS (X : Cx) (st : Stmt) (t : TS) : Prop :=
  ∀ (pins : List (Addr × Obj)) (s : Shared) (σ : St) (H : Hp) (D : Ends), Inv X pins σ H s → t D σ H → wpAny (model X.prog X.w) X.A (exec st X.env) (SP X pins D) X.xe s
noncomputable def PSs (X : Cx) (st : List Stmt) (t : TS) : Prop :=
  ∀ (pins : List (Addr × Obj)) (s : Shared) (σ : St) (H : Hp) (D : Ends), Inv X pins σ H s → t D σ H → wpAny (model X.prog X.w) X.A (execs st X.env) (SP X pins D) X.xe s
theorem thn {α : Type} {t : Sem α} {Q Q' : α → Shared → Prop} {M : Model} {A : Around} {E : Value → Shared → Prop} {s : Shared} (h : wpAny M A t Q E s) (hQ : ∀ a s, Q a s → Q' a s) : wpAny M A t Q' E s := wpAny_mono h hQ fun _ _ x => x
end L2
namespace L2
open PySem PySem.Spec PyProof.Rows
section
variable {X : Cx}
noncomputable def tVar (i : Nat) : TE := fun σ H Q => ∃ v, σ[i]? = some (some v) ∧ Q v H
noncomputable def tC (v : V) : TE := fun _ H Q => Q v H
theorem pe_var {i : Nat} {x : Str} {pos : Pos} (hN : X.N[i]? = some x) (hv : Vis X.env.scope x) (hd : (x == ("__debug__" : Str)) = false := by decide) (hcd : (x == ("__classdict__" : Str)) = false := by decide) : PE X (.Name x pos) (tVar i) := by
  intro pins s σ H Q I h
  obtain ⟨v, e, h⟩ := h
  obtain ⟨m, hn, hl⟩ := I.loc
  obtain ⟨u, r, l⟩ := hl i x v hN e hv
  have fin : EP X pins σ Q u s := ⟨v, H, I, r, h⟩
  rcases l with ⟨hk, hm⟩ | ⟨hk, c, hc, hcell⟩
  · exact wpAny_Name (wpAny_loadName_local I.ok.kind hk hn hm fin) hd
  · rcases hk with hk | hk
    · exact wpAny_Name (wpAny_loadName_cell I.ok.kind hk hc hcell fin) hd
    · exact wpAny_Name (wpAny_loadName_free I.ok.kind hk hc hcell fin hcd) hd
theorem pe_int {i j pos} : PE X (.Constant (.int i) j pos) (tC (.int i)) := fun _ _ _ H _ I h => wpAny_Constant_int ⟨.int i, H, I.tok _, ⟨_, rfl⟩, h⟩
theorem pe_bl {b j pos} : PE X (.Constant (.bool b) j pos) (tC (.bl b)) := fun _ _ _ H _ I h => Constant_bool ⟨.bl b, H, I, rfl, h⟩
theorem pe_str {x j pos} : PE X (.Constant (.str x) j pos) (tC (.str x)) := fun _ _ _ H _ I h => Calls.Constant_str ⟨.str x, H, I.tok _, ⟨_, rfl⟩, h⟩
noncomputable def Gl (X : Cx) (x : Str) : Prop := X.env.kindOf x = some .globalImplicit
theorem ld_glob {E : Value → Shared → Prop} {pins : List (Addr × Obj)} {s : Shared} {σ : St} {H : Hp} {x : Str} {u : Value} {pos : Pos} {Q : Value → Shared → Prop} (I : Inv X pins σ H s) (hg : Gl X x) (hm : X.mg x = some u) (h : Q u s)
    (hd : (x == ("__debug__" : Str)) = false := by decide) : wpAny (model X.prog X.w) X.A (eval (.Name x pos) X.env) Q E s :=
  Calls.Name_function_global I.ok.kind hg (Calls.loadGlobal_global (by rw [I.ok.glob]; exact I.mod.glob.keeps I.bk) hm h) hd
theorem ld_blt {E : Value → Shared → Prop} {pins : List (Addr × Obj)} {s : Shared} {σ : St} {H : Hp} {x : Str} {u : Value} {pos : Pos} {Q : Value → Shared → Prop} (I : Inv X pins σ H s) (hg : Gl X x) (hm : X.mg x = none) (hv : bootBuiltins x = some u) (h : Q u s)
    (hn : x ≠ "__name__" := by decide) (hd : (x == ("__debug__" : Str)) = false := by decide) : wpAny (model X.prog X.w) X.A (eval (.Name x pos) X.env) Q E s := by
  obtain ⟨mb, h1, h2⟩ := I.mod.blt
  exact Calls.Name_function_global I.ok.kind hg (Calls.loadGlobal_builtin (by rw [I.ok.glob]; exact I.mod.glob.keeps I.bk) hm (by rw [I.ok.blt]; exact h1.keeps I.bk) ((h2 x hn).trans hv) h) hd
theorem pe_glob {x : Str} {v : V} {u : Value} {pos : Pos} (hg : Gl X x) (hm : X.mg x = some u) (r : RelV v u) (hd : (x == ("__debug__" : Str)) = false := by decide) : PE X (.Name x pos) (tC v) :=
  fun _ _ _ H _ I h => ld_glob I hg hm ⟨v, H, I, r, h⟩ hd
theorem pe_bltn {x : Str} {v : V} {u : Value} {pos : Pos} (hg : Gl X x) (hm : X.mg x = none) (hv : bootBuiltins x = some u) (r : RelV v u) (hn : x ≠ "__name__" := by decide) (hd : (x == ("__debug__" : Str)) = false := by decide) : PE X (.Name x pos) (tC v) :=
  fun _ _ _ H _ I h => ld_blt I hg hm hv ⟨v, H, I, r, h⟩ hn hd
variable {a b : Expr} {ta tb : TE} {pos : Pos}
noncomputable def tB (t : TE) : TT := fun σ H Q => t σ H fun x H1 => ∃ c, x = .bl c ∧ Q c H1
variable {tA tB' : TT} {rest : List Expr}
noncomputable def tAnd (t u : TT) : TT := fun σ H Q => t σ H fun c H1 => if c = true then u σ H1 Q else Q false H1
noncomputable def tOr (t u : TT) : TT := fun σ H Q => t σ H fun c H1 => if c = true then Q true H1 else u σ H1 Q
noncomputable def tNot (t : TT) : TT := fun σ H Q => t σ H fun c H1 => Q (!c) H1
theorem pw_and1 (ha : PT X a tA) : PW X (.BoolOp .And [a] pos) tA := by
  intro wh pins s σ H Q I h
  refine isTrue_and (thn (ha pins s σ H Q I h) fun c s1 e => ?_)
  cases c with
  | true => exact isTrue_and_nil e
  | false => exact e
theorem pw_or1 (ha : PT X a tA) : PW X (.BoolOp .Or [a] pos) tA := by
  intro wh pins s σ H Q I h
  refine isTrue_or (thn (ha pins s σ H Q I h) fun c s1 e => ?_)
  cases c with
  | false => exact isTrue_or_nil e
  | true => exact e
theorem pw_and (ha : PT X a tA) (hb : PW X (.BoolOp .And (b :: rest) pos) tB') : PW X (.BoolOp .And (a :: b :: rest) pos) (tAnd tA tB') := by
  intro wh pins s σ H Q I h
  refine isTrue_and (thn (ha pins s σ H _ I h) fun c s1 ⟨H1, I1, q1⟩ => ?_)
  cases c with
  | true => exact hb wh pins s1 σ H1 Q I1 q1
  | false => exact ⟨H1, I1, q1⟩
theorem pw_or (ha : PT X a tA) (hb : PW X (.BoolOp .Or (b :: rest) pos) tB') : PW X (.BoolOp .Or (a :: b :: rest) pos) (tOr tA tB') := by
  intro wh pins s σ H Q I h
  refine isTrue_or (thn (ha pins s σ H _ I h) fun c s1 ⟨H1, I1, q1⟩ => ?_)
  cases c with
  | true => exact ⟨H1, I1, q1⟩
  | false => exact hb wh pins s1 σ H1 Q I1 q1
theorem pt_not (ha : PT X a tA) : PT X (.UnaryOp .Not a pos) (tNot tA) := by
  intro pins s σ H Q I h
  exact isTrue_not (ha pins s σ H (fun c H1 => Q (!c) H1) I h)
noncomputable def tAndV (ta tb : TE) : TE := fun σ H Q => ta σ H fun x H1 => ∃ c, x = .bl c ∧ if c = true then tb σ H1 Q else Q (.bl false) H1
noncomputable def tOrV (ta tb : TE) : TE := fun σ H Q => ta σ H fun x H1 => ∃ c, x = .bl c ∧ if c = true then Q (.bl true) H1 else tb σ H1 Q
theorem pe_one {op} {t : TE} (h : PE X a t) : PE X (.BoolOp op [a] pos) t := fun pins s σ H Q I hw => BoolOp_one (h pins s σ H Q I hw)
theorem pe_and (ha : PE X a ta) (hb : PE X (.BoolOp .And (b :: rest) pos) tb) : PE X (.BoolOp .And (a :: b :: rest) pos) (tAndV ta tb) := by
  intro pins s σ H Q I h
  refine BoolOp_and (thn (ha pins s σ H _ I h) fun v s1 ⟨x, H1, I1, r1, q1⟩ => ?_)
  obtain ⟨c, rfl, q1⟩ := q1
  cases r1
  refine wpAny_truthy_bool ?_
  cases c with
  | true => exact hb pins s1 σ H1 Q I1 q1
  | false => exact ⟨.bl false, H1, I1, rfl, q1⟩
theorem pe_or (ha : PE X a ta) (hb : PE X (.BoolOp .Or (b :: rest) pos) tb) : PE X (.BoolOp .Or (a :: b :: rest) pos) (tOrV ta tb) := by
  intro pins s σ H Q I h
  refine BoolOp_or (thn (ha pins s σ H _ I h) fun v s1 ⟨x, H1, I1, r1, q1⟩ => ?_)
  obtain ⟨c, rfl, q1⟩ := q1
  cases r1
  refine wpAny_truthy_bool ?_
  cases c with
  | false => exact hb pins s1 σ H1 Q I1 q1
  | true => exact ⟨.bl true, H1, I1, rfl, q1⟩
noncomputable def tIf (t : TT) (ta tb : TE) : TE := fun σ H Q => t σ H fun c H1 => if c = true then ta σ H1 Q else tb σ H1 Q
theorem pe_ifExp {c : Expr} (hc : PT X c tA) (ha : PE X a ta) (hb : PE X b tb) : PE X (.IfExp c a b pos) (tIf tA ta tb) := by
  intro pins s σ H Q I h
  refine wpAny_IfExp (thn (hc pins s σ H _ I h) fun d s1 ⟨H1, I1, q1⟩ => ?_)
  cases d with
  | true => exact ha pins s1 σ H1 Q I1 q1
  | false => exact hb pins s1 σ H1 Q I1 q1
end
end L2
namespace L2
open PySem PySem.Spec PyProof.Rows
noncomputable def SqL (K : PySem.W.Frag) (H : Hp) (a : Addr) (xs : List V) : Prop :=
  Rd H a (.lst xs) ∨
    ∃ (o : Obj) (its : Array Value) (n : Nat), K.lookup a = some o ∧ o.cls = .type "list" ∧ o.dict = none ∧ o.data = .seq its n ∧ its.size ≤ sizeLine ∧ Vals xs its.toList
noncomputable def SqT (K : PySem.W.Frag) (H : Hp) (a : Addr) (xs : List V) : Prop :=
  Rd H a (.tup xs) ∨
    ∃ (o : Obj) (its : Array Value) (n : Nat), K.lookup a = some o ∧ o.cls = .type "tuple" ∧ o.data = .seq its n ∧ its.size ≤ sizeLine ∧ Vals xs its.toList
noncomputable def absV : Value → Option V
  | .none => some .non
  | .bool b => some (.bl b)
  | .int i _ => some (.int i)
  | .str x _ => some (.str x)
  | .bytes b _ => some (.byt b)
  | .float b _ => some (.flt b)
  | .ref a => some (.ref a)
  | .type n => some (.ty n)
  | _ => none
theorem RelV.abs {x : V} {u : Value} (r : RelV x u) : absV u = some x := by
  cases x with
  | non => cases r; rfl
  | bl _ => cases r; rfl
  | int _ => obtain ⟨t, rfl⟩ := r; rfl
  | str _ => obtain ⟨t, rfl⟩ := r; rfl
  | byt _ => obtain ⟨t, rfl⟩ := r; rfl
  | flt _ => obtain ⟨t, rfl⟩ := r; rfl
  | ref _ => cases r; rfl
  | ty _ => cases r; rfl
theorem RelV.inj {x y : V} {u : Value} (r : RelV x u) (q : RelV y u) : x = y := Option.some.inj (r.abs.symm.trans q.abs)
theorem Vals.inj : ∀ {xs ys : List V} {us : List Value}, Vals xs us → Vals ys us → xs = ys
  | _, _, _, .nil, .nil => rfl
  | _, _, _, .cons r t, .cons r' t' => by rw [r.inj r', Vals.inj t t']
section
variable {X : Cx} {pins : List (Addr × Obj)} {σ : St} {H : Hp} {s : Shared} {a : Addr} {xs ys : List V}
theorem SqL.of {K : PySem.W.Frag} (h : H a = some (.lst xs)) : SqL K H a xs := .inl (.inl h)
theorem SqT.of {K : PySem.W.Frag} (h : H a = some (.tup xs)) : SqT K H a xs := .inl (.inl h)
theorem Inv.list (I : Inv X pins σ H s) (h : SqL X.K H a xs) : ∃ its : List Value, Vals xs its ∧ PlainL s.heap a its.toArray ∧ xs.length ≤ sizeLine := by
  rcases h with h | ⟨o, its, n, hk, hc, hd, hs, hz, r⟩
  · obtain ⟨z, its, n, r, e⟩ := h.ok I.hok
    exact ⟨its, r, ⟨_, n, e, rfl, rfl, rfl⟩, z⟩
  · refine ⟨its.toList, r, ⟨o, n, I.kIn a o hk, hc, hd, by simpa using hs⟩, ?_⟩
    have e := r.length
    simp only [Array.length_toList] at e
    omega
theorem Inv.tuple (I : Inv X pins σ H s) (h : SqT X.K H a xs) : ∃ its : List Value, Vals xs its ∧ IsTup s.heap a its.toArray ∧ xs.length ≤ sizeLine := by
  rcases h with h | ⟨o, its, n, hk, hc, hs, hz, r⟩
  · obtain ⟨z, its, r, p⟩ := h.ok I.hok
    exact ⟨its, r, p, z⟩
  · refine ⟨its.toList, r, ⟨o, I.kIn a o hk, hc, n, by simpa using hs⟩, ?_⟩
    have e := r.length
    simp only [Array.length_toList] at e
    omega
theorem Inv.list_inj (I : Inv X pins σ H s) (h : SqL X.K H a xs) (h' : SqL X.K H a ys) : xs = ys := by
  obtain ⟨its, r, ⟨o, n, e, _, _, d⟩, _⟩ := I.list h
  obtain ⟨its', r', ⟨o', n', e', _, _, d'⟩, _⟩ := I.list h'
  rw [e] at e'; cases e'
  rw [d] at d'
  injection d' with d1 _
  have : its = its' := by simpa using congrArg Array.toList d1
  subst this
  exact r.inj r'
theorem Inv.tuple_inj (I : Inv X pins σ H s) (h : SqT X.K H a xs) (h' : SqT X.K H a ys) : xs = ys := by
  obtain ⟨its, r, ⟨o, e, _, n, d⟩, _⟩ := I.tuple h
  obtain ⟨its', r', ⟨o', e', _, n', d'⟩, _⟩ := I.tuple h'
  rw [e] at e'; cases e'
  rw [d] at d'
  injection d' with d1 _
  have : its = its' := by simpa using congrArg Array.toList d1
  subst this
  exact r.inj r'
end
noncomputable abbrev Cx.wish (X : Cx) (E : Value → Shared → Prop) : Cx := { X with xe := E }
noncomputable abbrev Cx.nox (X : Cx) : Cx := X.wish fun _ _ => False
theorem Cx.Ok.wish {X : Cx} (ok : X.Ok) (E : Value → Shared → Prop) : (X.wish E).Ok :=
  ⟨ok.mod, ok.kind, ok.glob, ok.blt, ok.above, ok.inj, ok.has, ok.cab, ok.hd, ok.frames, ok.stk, ok.exf, ok.bs, ok.bsz, ok.noex, ok.exfs, ok.funs, ok.frf⟩
theorem Cx.Ok.unwish {X : Cx} {E : Value → Shared → Prop} (ok : (X.wish E).Ok) : X.Ok :=
  ⟨ok.mod, ok.kind, ok.glob, ok.blt, ok.above, ok.inj, ok.has, ok.cab, ok.hd, ok.frames, ok.stk, ok.exf, ok.bs, ok.bsz, ok.noex, ok.exfs, ok.funs, ok.frf⟩
section
variable {X : Cx} {pins : List (Addr × Obj)} {σ : St} {H : Hp} {s : Shared} {E : Value → Shared → Prop}
theorem Inv.wish (I : Inv X pins σ H s) (E : Value → Shared → Prop) : Inv (X.wish E) pins σ H s := ⟨I.ok.wish E, I.os, I.bare, I.base, I.loc, I.cell, I.free, I.freeC, I.pin, I.hok, I.len⟩
theorem Inv.unwish (I : Inv (X.wish E) pins σ H s) : Inv X pins σ H s := ⟨I.ok.unwish, I.os, I.bare, I.base, I.loc, I.cell, I.free, I.freeC, I.pin, I.hok, I.len⟩
theorem SP.unwish {D : Ends} {f : Flow} {s' : Shared} (h : SP (X.wish E) pins D f s') : SP X pins D f s' := by
  cases f with
  | next => obtain ⟨σ', H', I, q⟩ := h; exact ⟨σ', H', I.unwish, q⟩
  | brk => obtain ⟨σ', H', I, q⟩ := h; exact ⟨σ', H', I.unwish, q⟩
  | cont => obtain ⟨σ', H', I, q⟩ := h; exact ⟨σ', H', I.unwish, q⟩
  | ret u => obtain ⟨v, σ', H', I, r, q⟩ := h; exact ⟨v, σ', H', I.unwish, r, q⟩
theorem PSs.nox {st : List Stmt} {t : TS} (h : PSs X.nox st t) : PSs X st t := fun pins s σ H D I hw =>
  wpAny_mono (h pins s σ H D (I.wish _) hw) (fun _ _ q => q.unwish) fun _ _ z => False.elim z
end
section
variable {X : Cx} {st : Stmt} {rest : List Stmt} {t u : TS} {e : Expr} {te : TE} {pos : Pos}
noncomputable def tNext : TS := fun D σ H => D.nx σ H
noncomputable def tSeq (t u : TS) : TS := fun D σ H => t { D with nx := u D } σ H
theorem pss_nil : PSs X [] tNext := fun _ _ σ H _ I h => wpAny_execs_nil ⟨σ, H, I, h⟩
theorem pss_cons (h1 : PS X st t) (h2 : PSs X rest u) : PSs X (st :: rest) (tSeq t u) := by
  intro pins s σ H D I h
  refine wpAny_execs_cons (thn (h1 pins s σ H { D with nx := u D } I h) fun f s1 q => ?_)
  cases f with
  | next =>
    obtain ⟨σ', H', I', q⟩ := q
    exact h2 pins s1 σ' H' D I' q
  | ret v => exact q
  | brk => exact q
  | cont => exact q
theorem pss_one (h1 : PS X st t) : PSs X [st] t := by
  intro pins s σ H D I h
  refine wpAny_execs_cons (thn (h1 pins s σ H D I h) fun f s1 q => ?_)
  cases f with
  | next => exact wpAny_execs_nil q
  | ret v => exact q
  | brk => exact q
  | cont => exact q
theorem Inv.quiet {pins : List (Addr × Obj)} {σ : St} {H : Hp} {s : Shared} (I : Inv X pins σ H s) : interactive X.env = false := by simp [interactive, I.ok.kind]
noncomputable def tDrop (te : TE) : TS := fun D σ H => te σ H fun _ H1 => D.nx σ H1
theorem ps_expr (he : PE X e te) (hs : swapsWith e none pos.line X.env = pure false := by rfl) : PS X (.Expr e pos) (tDrop te) := by
  intro pins s σ H D I h
  exact wpAny_Expr_any (thn (he pins s σ H _ I h) fun v s1 ⟨x, H1, I1, r1, q1⟩ => ⟨σ, H1, I1, q1⟩) I.quiet hs
noncomputable def tRet (te : TE) : TS := fun D σ H => te σ H D.rt
theorem ps_ret (he : PE X e te) : PS X (.Return (some e) pos) (tRet te) := by
  intro pins s σ H D I h
  exact wpAny_Return_some (thn (he pins s σ H _ I h) fun v s1 ⟨x, H1, I1, r1, q1⟩ => ⟨x, σ, H1, I1, r1, q1⟩)
noncomputable def tIfS (c : TT) (t u : TS) : TS := fun D σ H => c σ H fun b H1 => if b = true then t D σ H1 else u D σ H1
theorem ps_if {c : Expr} {a b : List Stmt} {tc : TT} (hc : PT X c tc) (ha : PSs X a t) (hb : PSs X b u) : PS X (.If c a b pos) (tIfS tc t u) := by
  intro pins s σ H D I h
  refine wpAny_If (thn (hc pins s σ H _ I h) fun d s1 ⟨H1, I1, q1⟩ => ?_)
  cases d with
  | true => exact ha pins s1 σ H1 D I1 q1
  | false => exact hb pins s1 σ H1 D I1 q1
end
noncomputable abbrev TG := V → St → Hp → (St → Hp → Prop) → Prop
noncomputable abbrev TGs := List V → St → Hp → (St → Hp → Prop) → Prop
noncomputable def PG (X : Cx) (target : Expr) (t : TG) : Prop :=
  ∀ (pins : List (Addr × Obj)) (s : Shared) (σ : St) (H : Hp) (v : V) (u : Value) (Q : St → Hp → Prop), Inv X pins σ H s → RelV v u → t v σ H Q →
    wpAny (model X.prog X.w) X.A (assign target X.env u) (fun _ s' => ∃ σ' H', Inv X pins σ' H' s' ∧ Q σ' H') X.xe s
noncomputable def PGs (X : Cx) (ts : List Expr) (t : TGs) : Prop :=
  ∀ (pins : List (Addr × Obj)) (s : Shared) (σ : St) (H : Hp) (vs : List V) (us : List Value) (Q : St → Hp → Prop), Inv X pins σ H s → Vals vs us → t vs σ H Q →
    wpAny (model X.prog X.w) X.A (assignInOrder ((assignEach ts X.env).map (·.2)) us) (fun _ s' => ∃ σ' H', Inv X pins σ' H' s' ∧ Q σ' H') X.xe s
noncomputable abbrev TSet := V → V → V → Hp → (Hp → Prop) → Prop
noncomputable def PSet (X : Cx) (t : TSet) : Prop :=
  ∀ (pins : List (Addr × Obj)) (s : Shared) (σ : St) (H : Hp) (o i v : V) (ov iv u : Value) (Q : Hp → Prop), Inv X pins σ H s → RelV o ov → RelV i iv → RelV v u → t o i v H Q →
    wpAny (model X.prog X.w) X.A (setItem ov iv u) (fun _ s' => ∃ H', Inv X pins σ H' s' ∧ Q H') X.xe s
noncomputable abbrev TIp := V → V → Hp → VK → Prop
noncomputable def PIp (X : Cx) (op : Operator) (t : TIp) : Prop :=
  ∀ (pins : List (Addr × Obj)) (s : Shared) (σ : St) (H : Hp) (x y : V) (v u : Value) (Q : VK), Inv X pins σ H s → RelV x v → RelV y u → t x y H Q →
    wpAny (model X.prog X.w) X.A (inplaceOp op v u) (EP X pins σ Q) X.xe s
section
variable {X : Cx} {pos : Pos}
noncomputable def gName (i : Nat) : TG := fun v σ H Q => Q (σ.set i (some v)) H
theorem pg_name {i : Nat} {x : Str} (hN : X.N.Nodup) (hi : X.N[i]? = some x) (hx : Loc X.env.scope x) (hf : X.fn x = true ∨ X.env.scope.names.lookup x = some .local := by first | exact .inl rfl | exact .inr rfl | assumption) : PG X (.Name x pos) (gName i) := by
  intro pins s σ H v u Q I r h
  exact wpAny_assign_Name (store_ok I hN hi hx r (fun s' I' => ⟨_, H, I', h⟩) hf)
noncomputable def gNil : TGs := fun vs σ H Q => vs = [] ∧ Q σ H
noncomputable def gCons (t : TG) (u : TGs) : TGs := fun vs σ H Q => ∃ v r, vs = v :: r ∧ t v σ H fun σ' H' => u r σ' H' Q
theorem pgs_nil : PGs X [] gNil := by
  intro pins s σ H vs us Q I r h
  obtain ⟨e, h⟩ := h
  subst e
  cases r
  exact assignInOrder_nil ⟨σ, H, I, h⟩
theorem pgs_cons {e : Expr} {es : List Expr} {t : TG} {u : TGs} (h1 : PG X e t) (h2 : PGs X es u)
    (hs : (assignEach (e :: es) X.env).map (·.2) = assign e X.env :: (assignEach es X.env).map (·.2) := by rfl) : PGs X (e :: es) (gCons t u) := by
  intro pins s σ H vs us Q I r h
  obtain ⟨v, vr, e1, h⟩ := h
  subst e1
  cases r with
  | cons r rr =>
    rw [hs]
    refine assignInOrder_cons (thn (h1 pins s σ H _ _ _ I r h) fun _ s1 ⟨σ1, H1, I1, q1⟩ => ?_)
    exact h2 pins s1 σ1 H1 _ _ Q I1 rr q1
noncomputable def gTup (K : PySem.W.Frag) (n : Nat) (t : TGs) : TG := fun v σ H Q => ∃ a xs, v = .ref a ∧ SqT K H a xs ∧ xs.length = n ∧ t xs σ H Q
theorem pg_tup {es : List Expr} {k : Nat} {t : TGs} {n : Nat} (hc : X.calm = true) (h : PGs X es t)
    (hn : (assignEach es X.env).length = n := by rfl) (hst : (assignEach es X.env).findIdx? (·.1) = none := by rfl) : PG X (.Tuple es k pos) (gTup X.K n t) := by
  intro pins s σ H v u Q I r hw
  obtain ⟨a, xs, e1, hq, hl, hw⟩ := hw
  subst e1
  cases r
  obtain ⟨its, rv, ht, hz⟩ := I.tuple hq
  refine assign_Tuple_tuple (I.ok.hd hc) ht (by simp [hn, ← hl, rv.length]) hst fun h' hx => ?_
  have I1 : Inv X pins σ H { s with heap := h' } := I.kept (t' := s.toks) fun b o e => hx b o (Nat.ne_of_lt (Heap.lt_size e)) e
  exact h pins _ σ H xs _ Q I1 (by simpa using rv) hw
noncomputable def gSub (to ti : TE) (t : TSet) : TG := fun v σ H Q => to σ H fun o H1 => ti σ H1 fun i H2 => t o i v H2 fun H3 => Q σ H3
theorem pg_sub {o i : Expr} {to ti : TE} {t : TSet} (ho : PE X o to) (hi : PE X i ti) (hs : PSet X t)
    (ha : ∀ v, assign (.Subscript o i pos) X.env v = (do
      let ov ← holding [v] (eval o X.env)
      let iv ← holding [v, ov] (eval i X.env)
      standAt pos
      holding [v, ov, iv] (setItem ov iv v)
      release [v, ov, iv] []) := by intro _; rfl) : PG X (.Subscript o i pos) (gSub to ti t) := by
  intro pins s σ H v u Q I r h
  rw [ha]
  refine wpAny_bind (wpAny_holding (thn (ho pins s σ H _ I h) fun ov s1 ⟨x, H1, I1, r1, q1⟩ => ?_))
  refine wpAny_bind (wpAny_holding (thn (hi pins s1 σ H1 _ I1 q1) fun iv s2 ⟨y, H2, I2, r2, q2⟩ => ?_))
  refine wpAny_bind (wpAny_standAt (wpAny_bind (wpAny_holding (thn (hs pins s2 σ H2 x y v ov iv u _ I2 r1 r2 r q2) fun _ s3 ⟨H3, I3, q3⟩ => ?_))))
  exact wpAny_release ⟨σ, H3, I3, q3⟩
noncomputable def tAsg (te : TE) (g : TG) : TS := fun D σ H => te σ H fun x H1 => g x σ H1 D.nx
theorem ps_asg {tg e : Expr} {te : TE} {g : TG} (he : PE X e te) (hg : PG X tg g) (hs : swapsWithSole [tg] e pos.line X.env = pure false := by rfl) (hw : swappedStores [tg] e X.env = pure none := by rfl)
    (h1 : (assignEach [tg] X.env).map (·.2) = [assign tg X.env] := by rfl) : PS X (.Assign [tg] e pos) (tAsg te g) := by
  intro pins s σ H D I h
  refine wpAny_Assign_stores (thn (he pins s σ H _ I h) fun v s1 ⟨x, H1, I1, r1, q1⟩ => ?_) hs hw
  rw [h1]
  exact thn (hg pins s1 σ H1 x v _ I1 r1 q1) fun _ s2 q => q
theorem ps_set {i : Nat} {x : Str} {e : Expr} {te : TE} {pos' : Pos} (hN : X.N.Nodup) (hi : X.N[i]? = some x) (hx : Loc X.env.scope x) (he : PE X e te) (hs : swapsWith e (some (.Name x pos')) pos.line X.env = pure false := by rfl) (hf : X.fn x = true ∨ X.env.scope.names.lookup x = some .local := by first | exact .inl rfl | exact .inr rfl | assumption) :
    PS X (.Assign [.Name x pos'] e pos) (tAsg te (gName i)) := by
  intro pins s σ H D I h
  refine wpAny_Assign_Name (thn (he pins s σ H _ I h) fun v s1 ⟨y, H1, I1, r1, q1⟩ => ?_) hs
  exact store_ok I1 hN hi hx r1 (fun s2 I2 => ⟨_, H1, I2, q1⟩) hf
noncomputable def tAug (i : Nat) (te : TE) (ti : TIp) : TS := fun D σ H => ∃ x, σ[i]? = some (some x) ∧ te σ H fun y H1 => ti x y H1 fun z H2 => D.nx (σ.set i (some z)) H2
theorem ps_aug {i : Nat} {x : Str} {e : Expr} {te : TE} {op : Operator} {ti : TIp} {pos' : Pos} (hN : X.N.Nodup) (hi : X.N[i]? = some x) (hx : Loc X.env.scope x) (he : PE X e te) (ho : PIp X op ti) (hf : X.fn x = true ∨ X.env.scope.names.lookup x = some .local := by first | exact .inl rfl | exact .inr rfl | assumption) :
    PS X (.AugAssign (.Name x pos') op e pos) (tAug i te ti) := by
  intro pins s σ H D I h
  obtain ⟨v, e1, h⟩ := h
  obtain ⟨m, hn, hl⟩ := I.loc
  have vis : Vis X.env.scope x := by rcases hx with k | k; exact .inl k; exact .inr (.inl k)
  obtain ⟨u, r, l⟩ := hl i x v hi e1 vis
  refine wpAny_AugAssign_Name ?_
  have go : wpAny (model X.prog X.w) X.A (eval e X.env) (fun w s₂ => wpAny (model X.prog X.w) X.A (inplaceOp op u w) (fun r s₃ => wpAny (model X.prog X.w) X.A (storeName X.env x r) (fun _ => SP X pins D .next) X.xe s₃) X.xe s₂) X.xe s := by
    refine thn (he pins s σ H _ I h) fun w s1 ⟨y, H1, I1, r1, q1⟩ => ?_
    refine thn (ho pins s1 σ H1 v y u w _ I1 r r1 q1) fun z s2 ⟨zv, H2, I2, r2, q2⟩ => ?_
    exact store_ok I2 hN hi hx r2 (fun s3 I3 => ⟨_, H2, I3, q2⟩) hf
  rcases l with ⟨hk, hm⟩ | ⟨hk, c, hc, hcell⟩
  · exact wpAny_loadName_local I.ok.kind hk hn hm go
  · rcases hk with hk | hk
    · exact wpAny_loadName_cell I.ok.kind hk hc hcell go
    · rcases hx with k | k
      · have : X.env.scope.names.lookup x = some .free := hk
        rw [k] at this; cases this
      · have : X.env.scope.names.lookup x = some .free := hk
        rw [k] at this; cases this
noncomputable def ipI (f : Int → Int → Int) : TIp := fun x y H Q => ∃ i j, x = .int i ∧ y = .int j ∧ Q (.int (f i j)) H
theorem ip_add : PIp X .Add (ipI fun i j => i + j) := by
  intro pins s σ H x y v u Q I r1 r2 h
  obtain ⟨i, j, e1, e2, q⟩ := h
  subst e1; subst e2
  obtain ⟨t, rfl⟩ := r1
  obtain ⟨t', rfl⟩ := r2
  exact iadd_int ⟨.int _, H, I.tok _, ⟨_, rfl⟩, q⟩
end
section
variable {X : Cx} {pos : Pos}
noncomputable def tWhile (c : TT) (tb : TS) : TS := fun D σ H => ∃ W : Nat → St → Hp → Prop, (∃ m, W m σ H) ∧ ∀ m σ H, W m σ H →
  c σ H fun b H1 => if b = true then ∃ N : St → Hp → Prop, (∀ σ' H', N σ' H' → ∃ m', m' < m ∧ W m' σ' H') ∧ tb { D with nx := N, ct := N, bk := D.nx } σ H1 else D.nx σ H1
theorem ps_while {c : Expr} {body : List Stmt} {tc : TT} {tb : TS} (hp : PassesOwn (model X.prog X.w) X.A X.env X.xe) (hc : PT X c tc) (hb : PSs X body tb) : PS X (.While c body [] pos) (tWhile tc tb) := by
  intro pins s σ H D I h
  obtain ⟨W, ⟨m0, w0⟩, turn⟩ := h
  refine wpAny_While (codeAny_whileLoop (fun n s' => ∃ σ' H', Inv X pins σ' H' s' ∧ W n σ' H') ?_ m0 ⟨σ, H, I, w0⟩)
  rintro n s1 ⟨σ1, H1, I1, w1⟩
  refine wpAny_passesOwn hp (thn (hc pins s1 σ1 H1 _ I1 (turn n σ1 H1 w1)) fun b s2 ⟨H2, I2, q2⟩ => ?_)
  cases b with
  | true =>
    obtain ⟨N, hN, q2⟩ := q2
    rw [if_pos rfl]
    refine wpAny_passesOwn hp (thn (hb pins s2 σ1 H2 _ I2 q2) fun f s3 q3 => ?_)
    cases f with
    | next =>
      obtain ⟨σ3, H3, I3, n3⟩ := q3
      obtain ⟨m', hm, w3⟩ := hN σ3 H3 n3
      exact ⟨m', hm, σ3, H3, I3, w3⟩
    | cont =>
      obtain ⟨σ3, H3, I3, n3⟩ := q3
      obtain ⟨m', hm, w3⟩ := hN σ3 H3 n3
      exact ⟨m', hm, σ3, H3, I3, w3⟩
    | brk => exact q3
    | ret v => exact q3
  | false =>
    rw [if_neg Bool.false_ne_true]
    exact wpAny_execs_nil ⟨σ1, H2, I2, q2⟩
end
structure It where
  go : Nat → Hp → Prop
  yld : Nat → Hp → V → Hp → Prop
  stop : Nat → Hp → Prop
noncomputable def FpOk (X : Cx) (pins : List (Addr × Obj)) (H : Hp) (b : Addr) : Prop :=
  H b = none ∧ b ≠ X.env.locals ∧ b ∉ X.fs ∧ (b ∈ X.ex ∨ X.s₀.heap.objs.size ≤ b) ∧ (∀ x c, X.env.cells.lookup x = some c → c ≠ b) ∧ ∀ p ∈ X.pn ++ pins, p.1 ≠ b
theorem Inv.fpOk {X : Cx} {pins : List (Addr × Obj)} {σ : St} {H H' : Hp} {s : Shared} {b : Addr} (I : Inv X pins σ H s) (hb : s.heap.objs.size ≤ b) (hn : H' b = none) : FpOk X pins H' b := by
  refine ⟨hn, Nat.ne_of_gt (Nat.lt_of_lt_of_le I.lt hb), I.nofs hb, .inr (Nat.le_trans I.sz hb), fun x c e z => ?_, fun p hp z => ?_⟩
  · obtain ⟨v, q⟩ := I.cell x c e
    exact absurd (Nat.lt_of_lt_of_le q.lt (by rw [z]; exact hb)) (Nat.lt_irrefl _)
  · exact absurd (Nat.lt_of_lt_of_le (Heap.lt_size (I.pin p hp).1) (by rw [z]; exact hb)) (Nat.lt_irrefl _)
structure Turn (P : Program) (w : World) (K : PySem.W.Frag) (tg : Expr) (J : It) (fp : List Addr) (it : Addr) (tn : Nat → Heap → Prop) : Prop where
  mem : it ∈ fp
  obj : ∀ i h, tn i h → ∀ b ∈ fp, ∃ o, h.get? b = some o ∧ ∀ v, o.data ≠ .cell v
  keep : ∀ i h h', tn i h → (∀ b ∈ fp, ∀ o, h.get? b = some o → h'.get? b = some o) → tn i h'
  item : ∀ (X : Cx), X.prog = P → X.w = w → X.K = K → X.calm = true → ∀ (i : Nat) (pins : List (Addr × Obj)) (s : Shared) (σ : St) (H : Hp) (E : Value → Shared → Prop), Inv X pins σ H s → (∀ b ∈ fp, FpOk X pins H b) → tn i s.heap → J.go i H →
    wpAny (model P w) X.A (pyNext (.ref it)) (fun r s1 => ∃ u, r = some u ∧
      wpAny (model P w) X.A (letOwnedTupleGo tg (.ref it) u) (fun _ s2 => ∃ x H', Inv X pins σ H' s2 ∧ RelV x u ∧ J.yld i H x H' ∧ tn (i + 1) s2.heap ∧ ∀ b ∈ fp, H' b = none) E s1) E s
  done : ∀ (X : Cx), X.prog = P → X.w = w → X.K = K → X.calm = true → ∀ (i : Nat) (pins : List (Addr × Obj)) (s : Shared) (σ : St) (H : Hp) (E : Value → Shared → Prop), Inv X pins σ H s → (∀ b ∈ fp, FpOk X pins H b) → tn i s.heap → J.stop i H →
    wpAny (model P w) X.A (pyNext (.ref it)) (fun r s1 => r = none ∧ Inv X pins σ H s1) E s
  self : ∀ (A : Around) (i : Nat) (s : Shared) (Q : Value → Shared → Prop) (E : Value → Shared → Prop), tn i s.heap → Q (.ref it) s → wpAny (model P w) A (pyIter (.ref it)) Q E s
noncomputable abbrev TI := St → Hp → (It → Hp → Prop) → Prop
noncomputable def PIE (X : Cx) (pins : List (Addr × Obj)) (σ : St) (tg : Expr) (R : It → Hp → Prop) (itv : Value) (s2 : Shared) : Prop :=
  ∃ (it : Addr) (fp : List Addr) (tn : Nat → Heap → Prop) (J : It) (H' : Hp), itv = .ref it ∧ Inv X pins σ H' s2 ∧ Turn X.prog X.w X.K tg J fp it tn ∧ tn 0 s2.heap ∧ (∀ b ∈ fp, FpOk X pins H' b) ∧ R J H'
noncomputable def PI (X : Cx) (tg iter : Expr) (wi : TI) : Prop :=
  ∀ (pins : List (Addr × Obj)) (s : Shared) (σ : St) (H : Hp) (R : It → Hp → Prop), Inv X pins σ H s → wi σ H R →
    wpAny (model X.prog X.w) X.A (eval iter X.env) (fun v s1 => wpAny (model X.prog X.w) X.A (pyIter v) (PIE X pins σ tg R) X.xe s1) X.xe s
theorem go_of {M : Model} {A : Around} {E : Value → Shared → Prop} {s : Shared} {tg : Expr} {it : Addr} {u : Value} {o : Obj} {n : String} {vs : Array Value} {Q : Unit → Shared → Prop} (ho : s.heap.get? it = some o) (hc : o.cls = .type n) (hd : o.data = .fields vs)
    (hn : ["enumerate", "zip", "dict_itemiterator", "dict_reverseitemiterator", "odict_iterator", "itertools.zip_longest", "itertools.pairwise"].contains n = false) (hQ : Q () s) : wpAny M A (letOwnedTupleGo tg (.ref it) u) Q E s := by
  unfold letOwnedTupleGo
  cases tg <;> first
    | exact wpAny_pure hQ
    | (cases u <;> first
        | exact wpAny_pure hQ
        | (refine wpAny_bind (wpAny_load ho ?_)
           rw [hc, hd]
           show wpAny M A (if (["enumerate", "zip", "dict_itemiterator", "dict_reverseitemiterator", "odict_iterator", "itertools.zip_longest", "itertools.pairwise"].contains n && vs[0]? == some (rawInt _)) = true then _ else _) Q E s
           rw [if_neg (by intro h; rw [hn, Bool.false_and] at h; cases h)]
           exact wpAny_pure hQ))
noncomputable def Itl (K : PySem.W.Frag) (a : Addr) : It :=
  ⟨fun i H => ∃ xs x, SqL K H a xs ∧ xs[i]? = some x, fun i H x H' => H' = H ∧ ∀ xs, SqL K H a xs → xs[i]? = some x, fun i H => ∃ xs, SqL K H a xs ∧ xs.length ≤ i⟩
noncomputable def Itt (K : PySem.W.Frag) (a : Addr) : It :=
  ⟨fun i H => ∃ xs x, SqT K H a xs ∧ xs[i]? = some x, fun i H x H' => H' = H ∧ ∀ xs, SqT K H a xs → xs[i]? = some x, fun i H => ∃ xs, SqT K H a xs ∧ xs.length ≤ i⟩
noncomputable def Itr (lo : Int) (n : Nat) : It := ⟨fun i _ => i < n, fun i H x H' => H' = H ∧ x = .int (lo + i), fun i _ => n ≤ i⟩
theorem turn_list {P : Program} {w : World} {K : PySem.W.Frag} {tg : Expr} (a it : Addr) : Turn P w K tg (Itl K a) [it] it (fun i h => h.IsListIter it a i) where
  mem := by simp
  obj := fun i h st b hb => by
    have e : b = it := by simpa using hb
    subst e
    obtain ⟨o, e, c, d⟩ := st
    exact ⟨o, e, fun v z => by rw [d] at z; cases z⟩
  keep := fun i h h' st k => st.at fun o e => k it (by simp) o e
  item := by
    intro X hP hw hK hc i pins s σ H E I hf st hg
    subst hP hw hK
    obtain ⟨xs, x, hq, hx⟩ := hg
    obtain ⟨its, rv, p, hz⟩ := I.list hq
    obtain ⟨u, hu, ru⟩ := rv.get hx
    obtain ⟨f0, f1, f2, f3, f4, f5⟩ := hf it (by simp)
    refine wpAny_pyNext_list_item st p.isList (x := u) (by simpa using hu) fun h' st' sb => ?_
    have I1 : Inv X pins σ H { s with heap := h' } := I.turned (t' := s.toks) (fun b o hb e => (sb.2 b hb).trans e) f0 f1 f3 f4 f5
    obtain ⟨o, e, c, d⟩ := id st'
    exact ⟨u, rfl, go_of (s := { s with heap := h' }) e c d (by decide) ⟨x, H, I1, ru, ⟨rfl, fun ys hy => by rw [I.list_inj hy hq]; exact hx⟩, st', fun b hb => (hf b hb).1⟩⟩
  done := by
    intro X hP hw hK hc i pins s σ H E I hf st hg
    subst hP hw hK
    obtain ⟨xs, hq, hx⟩ := hg
    obtain ⟨its, rv, p, hz⟩ := I.list hq
    obtain ⟨f0, f1, f2, f3, f4, f5⟩ := hf it (by simp)
    have hl := rv.length
    exact wpAny_pyNext_list_end (I.ok.hd hc) st p.isList (by simp; omega) fun h' eb => ⟨rfl, I.turned (t' := s.toks) (fun b o hb e => eb b o hb e) f0 f1 f3 f4 f5⟩
  self := fun _ _ _ _ _ st h => wpAny_pyIter_listiter st h
theorem turn_tuple {P : Program} {w : World} {K : PySem.W.Frag} {tg : Expr} (a it : Addr) : Turn P w K tg (Itt K a) [it] it (fun i h => h.IsTupleIter it a i) where
  mem := by simp
  obj := fun i h st b hb => by
    have e : b = it := by simpa using hb
    subst e
    obtain ⟨o, e, c, d⟩ := st
    exact ⟨o, e, fun v z => by rw [d] at z; cases z⟩
  keep := fun i h h' st k => st.at fun o e => k it (by simp) o e
  item := by
    intro X hP hw hK hc i pins s σ H E I hf st hg
    subst hP hw hK
    obtain ⟨xs, x, hq, hx⟩ := hg
    obtain ⟨its, rv, p, hz⟩ := I.tuple hq
    obtain ⟨u, hu, ru⟩ := rv.get hx
    obtain ⟨f0, f1, f2, f3, f4, f5⟩ := hf it (by simp)
    refine wpAny_pyNext_tuple_item st (show s.heap.IsTuple a its.toArray from p) (x := u) (by simpa using hu) fun h' st' sb => ?_
    have I1 : Inv X pins σ H { s with heap := h' } := I.turned (t' := s.toks) (fun b o hb e => (sb.2 b hb).trans e) f0 f1 f3 f4 f5
    obtain ⟨o, e, c, d⟩ := id st'
    exact ⟨u, rfl, go_of (s := { s with heap := h' }) e c d (by decide) ⟨x, H, I1, ru, ⟨rfl, fun ys hy => by rw [I.tuple_inj hy hq]; exact hx⟩, st', fun b hb => (hf b hb).1⟩⟩
  done := by
    intro X hP hw hK hc i pins s σ H E I hf st hg
    subst hP hw hK
    obtain ⟨xs, hq, hx⟩ := hg
    obtain ⟨its, rv, p, hz⟩ := I.tuple hq
    obtain ⟨f0, f1, f2, f3, f4, f5⟩ := hf it (by simp)
    have hl := rv.length
    exact wpAny_pyNext_tuple_end (I.ok.hd hc) st (show s.heap.IsTuple a its.toArray from p) (by simp; omega) fun h' eb => ⟨rfl, I.turned (t' := s.toks) (fun b o hb e => eb b o hb e) f0 f1 f3 f4 f5⟩
  self := fun _ _ _ _ _ st h => wpAny_pyIter_tupleiter st h
theorem turn_range {P : Program} {w : World} {K : PySem.W.Frag} {tg : Expr} (it : Addr) (lo : Int) (n : Nat) : Turn P w K tg (Itr lo n) [it] it (fun i h => IsRangeIter h it (lo + (i : Nat) * 1) ((n : Int) - (i : Nat)) 1) where
  mem := by simp
  obj := fun i h st b hb => by
    have e : b = it := by simpa using hb
    subst e
    exact ⟨_, st, fun v z => by
      have z' : Data.fields _ = Data.cell v := z
      cases z'⟩
  keep := fun i h h' st k => k it (by simp) _ st
  item := by
    intro X hP hw hK hc i pins s σ H E I hf st hg
    subst hP hw hK
    obtain ⟨f0, f1, f2, f3, f4, f5⟩ := hf it (by simp)
    have W := Walks.range (prog := X.prog) (w := X.w) (I.ok.hd hc) it lo 1 n
    refine W.item i s _ _ hg st fun v h' tk hv st' kk => ?_
    obtain ⟨t, rfl⟩ := hv
    have I1 : Inv X pins σ H { s with heap := h', toks := tk } := I.turned (fun b o hb e => kk b o (by simpa using hb) e) f0 f1 f3 f4 f5
    refine ⟨_, rfl, go_of (s := { s with heap := h', toks := tk }) (n := "range_iterator") st' rfl rfl (by decide) ⟨.int (lo + i), H, I1, ⟨t, ?_⟩, ⟨rfl, rfl⟩, st', fun b hb => (hf b hb).1⟩⟩
    rw [Int.mul_one]
  done := by
    intro X hP hw hK hc i pins s σ H E I hf st hg
    subst hP hw hK
    obtain ⟨f0, f1, f2, f3, f4, f5⟩ := hf it (by simp)
    exact wpAny_pyNext_range_end (I.ok.hd hc) st (by have : n ≤ i := hg; omega) fun h' eb => ⟨rfl, I.turned (t' := s.toks) (fun b o hb e => eb b o hb e) f0 f1 f3 f4 f5⟩
  self := fun _ _ _ _ _ st h => wpAny_pyIter_rangeiter st h
end L2
namespace L2
open PySem PySem.Spec PyProof.Rows
section
variable {X : Cx} {tg : Expr}
theorem range_it {pins : List (Addr × Obj)} {σ : St} {H : Hp} {s : Shared} {R : It → Hp → Prop} {E : Value → Shared → Prop} {lo hi : Int} {t u v : Tok} {tk : Nat} (I : Inv X pins σ H s) (h1 : -(2 ^ 62) ≤ lo) (h2 : lo < 2 ^ 62) (h3 : -(2 ^ 62) ≤ hi) (h4 : hi < 2 ^ 62)
    (q : R (Itr lo (hi - lo).toNat) H) : wpAny (model X.prog X.w) X.A (pyIter (.ref s.heap.objs.size)) (PIE X pins σ tg R) E { s with heap := s.heap.push { cls := .type "range", data := .fields #[.int lo t, .int hi u, .int 1 v] }, toks := tk } := by
  refine wpAny_pyIter_range (IsRange.new ..) (small_one h1 h2 h3 h4) ?_
  have I1 : Inv X pins σ H { s with heap := s.heap.push { cls := .type "range", data := .fields #[.int lo t, .int hi u, .int 1 v] }, toks := tk } := I.kept fun b o e => Heap.get?_push_of_some _ e
  refine ⟨(s.heap.push { cls := .type "range", data := .fields #[.int lo t, .int hi u, .int 1 v] }).objs.size, [(s.heap.push { cls := .type "range", data := .fields #[.int lo t, .int hi u, .int 1 v] }).objs.size], _, _, H, rfl,
    I1.kept (t' := tk) fun b o e => Heap.get?_push_of_some _ e, turn_range _ lo (hi - lo).toNat, ?_, fun b hb => ?_, q⟩
  · have e1 : lo + ((0 : Nat) : Int) * 1 = lo := by simp
    have e2 : (((hi - lo).toNat : Nat) : Int) - ((0 : Nat) : Int) = Builtin.Range.rangeSize lo hi 1 := by rw [rangeSize_one]; split <;> omega
    show IsRangeIter _ _ (lo + ((0 : Nat) : Int) * 1) ((((hi - lo).toNat : Nat) : Int) - ((0 : Nat) : Int)) 1
    rw [e1, e2]
    exact Heap.get?_push_size _ rfl
  · have e : b = (s.heap.push { cls := .type "range", data := .fields #[.int lo t, .int hi u, .int 1 v] }).objs.size := by simpa using hb
    subst e
    exact I1.fpOk (Nat.le_refl _) (I1.hok.fresh (Nat.le_refl _))
noncomputable def iRng1 (ta : TA) : TI := fun σ H R => ta σ H fun vs H1 => ∃ j : Int, vs = [.int j] ∧ -(2 ^ 62) ≤ j ∧ j < 2 ^ 62 ∧ R (Itr 0 j.toNat) H1
theorem pi_range1 {a : Expr} {ta : TA} {p pos : Pos} (hg : Gl X "range") (hm : X.mg "range" = none) (ha : PA X [a] ta) (hs : starEach [a] X.env = [(false, eval a X.env)] := by rfl) : PI X tg (.Call (.Name "range" p) [a] [] pos) (iRng1 ta) := by
  intro pins s σ H R I h
  refine Call_ (ld_blt I hg hm boot_range (PyProof.Rows.callWith_type1 (thn (ha pos pins s σ H _ I h) fun us s1 ⟨vs, H1, I1, r1, q1⟩ => ?_) hs rfl))
  obtain ⟨j, e, q1, q2, q⟩ := q1
  subst e
  cases r1 with
  | cons r rr =>
    cases rr
    obtain ⟨t, rfl⟩ := r
    exact call_range_1 (range_it I1 (by omega) (by omega) q1 q2 (by simpa using q))
noncomputable def tFor (wi : TI) (g : TG) (tb : TS) : TS := fun D σ H => wi σ H fun J H1 => ∃ W : Nat → Nat → St → Hp → Prop, (∃ m, W 0 m σ H1) ∧ ∀ i m σ H, W i m σ H →
  (J.stop i H ∧ D.nx σ H) ∨ (J.go i H ∧ ∃ N : St → Hp → Prop, (∀ σ' H', N σ' H' → ∃ m', m' < m ∧ W (i + 1) m' σ' H') ∧ ∀ x H', J.yld i H x H' → g x σ H' fun σ2 H2 => tb { D with nx := N, ct := N, bk := D.nx } σ2 H2)
noncomputable def pinsAt (fp : List Addr) (h : Heap) : List (Addr × Obj) := fp.filterMap fun b => (h.get? b).map fun o => (b, o)
theorem mem_pinsAt {fp : List Addr} {h : Heap} {b : Addr} {o : Obj} (hb : b ∈ fp) (e : h.get? b = some o) : (b, o) ∈ pinsAt fp h := List.mem_filterMap.mpr ⟨b, hb, by rw [e]; rfl⟩
theorem of_pinsAt {fp : List Addr} {h : Heap} {p : Addr × Obj} (hp : p ∈ pinsAt fp h) : p.1 ∈ fp ∧ h.get? p.1 = some p.2 := by
  obtain ⟨b, hb, e⟩ := List.mem_filterMap.mp hp
  cases q : h.get? b with
  | none => rw [q] at e; cases e
  | some o =>
    rw [q] at e
    have e' : (b, o) = p := Option.some.inj e
    subst e'
    exact ⟨hb, q⟩
theorem Inv.pinned {pins : List (Addr × Obj)} {σ : St} {H : Hp} {s : Shared} {fp : List Addr} (I : Inv X pins σ H s) (hf : ∀ b ∈ fp, FpOk X pins H b) (ho : ∀ b ∈ fp, ∃ o, s.heap.get? b = some o ∧ ∀ v, o.data ≠ .cell v) : Inv X (pins ++ pinsAt fp s.heap) σ H s :=
  I.pins_of fun p hp => (List.mem_append.mp hp).elim (fun z => I.pin p (List.mem_append_right _ z)) fun z => by
    obtain ⟨hb, e⟩ := of_pinsAt z
    obtain ⟨f0, f1, f2, _⟩ := hf p.1 hb
    obtain ⟨o, e', d⟩ := ho p.1 hb
    rw [e] at e'; cases e'
    exact ⟨e, f0, f1, f2, d⟩
theorem Inv.unpinned {pins pl : List (Addr × Obj)} {σ : St} {H : Hp} {s : Shared} (I : Inv X (pins ++ pl) σ H s) : Inv X pins σ H s := I.pins_of fun p hp => I.pin p (List.mem_append_right _ (List.mem_append_left _ hp))
theorem ps_for {iter : Expr} {body : List Stmt} {wi : TI} {g : TG} {tb : TS} {pos : Pos} (hp : PassesOwn (model X.prog X.w) X.A X.env X.xe) (hc : X.calm = true) (hi : PI X tg iter wi) (hg : PG X tg g) (hb : PSs X body tb)
    (hs : ∀ x, foldedSetIterable iter X.env x = pure x := by intro _; rfl) : PS X (.For tg iter body [] pos) (tFor wi g tb) := by
  intro pins s σ H D I h
  refine wpAny_For (thn (hi pins s σ H _ I h) fun v s1 h1 => thn h1 fun itv s2 h2 => ?_) hs
  obtain ⟨it, fp, tn, J, H2, e, I2, T, st2, f2, W, ⟨m0, w0⟩, turn⟩ := h2
  subst e
  have stat : ∀ {H' : Hp}, (∀ b ∈ fp, H' b = none) → ∀ b ∈ fp, FpOk X pins H' b := fun hn b hb => ⟨hn b hb, (f2 b hb).2⟩
  refine codeAny_forLoop_any (fun n s' => ∃ i σ' H', Inv X pins σ' H' s' ∧ tn i s'.heap ∧ (∀ b ∈ fp, H' b = none) ∧ W i n σ' H') ?_ m0 ⟨0, σ, H2, I2, st2, fun b hb => (f2 b hb).1, w0⟩
  rintro n s3 ⟨i, σ3, H3, I3, st3, fr3, w3⟩
  rcases turn i n σ3 H3 w3 with ⟨stop, qn⟩ | ⟨go, N, hN, step⟩
  · refine wpAny_passesOwn hp (thn (T.done X rfl rfl rfl hc i pins s3 σ3 H3 X.xe I3 (stat fr3) st3 stop) fun r s4 ⟨hr, I4⟩ => ?_)
    subst hr
    exact wpAny_execs_nil ⟨σ3, H3, I4, qn⟩
  · refine wpAny_passesOwn hp (thn (T.item X rfl rfl rfl hc i pins s3 σ3 H3 X.xe I3 (stat fr3) st3 go) fun r s4 ⟨u, hr, h4⟩ => ?_)
    subst hr
    refine wpAny_passesOwn hp (thn h4 fun _ s5 ⟨x, H5, I5, r5, y5, st5, fr5⟩ => ?_)
    have I5' := I5.pinned (stat fr5) (T.obj _ _ st5)
    refine wpAny_passesOwn hp (thn (hg _ s5 σ3 H5 x u _ I5' r5 (step x H5 y5)) fun _ s6 ⟨σ6, H6, I6, q6⟩ => ?_)
    refine wpAny_passesOwn hp (thn (hb _ s6 σ6 H6 _ I6 q6) fun f s7 q7 => ?_)
    have again : ∀ {σ7 : St} {H7 : Hp}, Inv X (pins ++ pinsAt fp s5.heap) σ7 H7 s7 → N σ7 H7 → ∃ m, m < n ∧ ∃ i σ' H', Inv X pins σ' H' s7 ∧ tn i s7.heap ∧ (∀ b ∈ fp, H' b = none) ∧ W i m σ' H' := fun {σ7 H7} I7 n7 => by
      obtain ⟨m', hm, w7⟩ := hN σ7 H7 n7
      refine ⟨m', hm, i + 1, σ7, H7, I7.unpinned, T.keep _ _ _ st5 fun b hb o e => (I7.pin (b, o) (List.mem_append_right _ (List.mem_append_right _ (mem_pinsAt hb e)))).1, fun b hb => ?_, w7⟩
      obtain ⟨o, e, d⟩ := T.obj _ _ st5 b hb
      exact (I7.pin (b, o) (List.mem_append_right _ (List.mem_append_right _ (mem_pinsAt hb e)))).2.1
    cases f with
    | next => obtain ⟨σ7, H7, I7, n7⟩ := q7; exact again I7 n7
    | cont => obtain ⟨σ7, H7, I7, n7⟩ := q7; exact again I7 n7
    | brk => obtain ⟨σ7, H7, I7, q7⟩ := q7; exact ⟨σ7, H7, I7.unpinned, q7⟩
    | ret v => obtain ⟨x7, σ7, H7, I7, r7, q7⟩ := q7; exact ⟨x7, σ7, H7, I7.unpinned, r7, q7⟩
end
end L2
namespace L2
open PySem PySem.Spec PyProof.Rows
noncomputable abbrev R2 := V → V → Hp → VK → Prop
noncomputable def OpR (X : Cx) (f : Value → Value → Sem Value) (r : R2) : Prop :=
  ∀ (pins : List (Addr × Obj)) (s : Shared) (σ : St) (H : Hp) (x y : V) (v u : Value) (Q : VK), Inv X pins σ H s → RelV x v → RelV y u → r x y H Q →
    wpAny (model X.prog X.w) X.A (f v u) (EP X pins σ Q) X.xe s
noncomputable def UnR (X : Cx) (f : Value → Sem Value) (r : V → Hp → VK → Prop) : Prop :=
  ∀ (pins : List (Addr × Obj)) (s : Shared) (σ : St) (H : Hp) (x : V) (v : Value) (Q : VK), Inv X pins σ H s → RelV x v → r x H Q →
    wpAny (model X.prog X.w) X.A (f v) (EP X pins σ Q) X.xe s
noncomputable def CallR (X : Cx) (f : Value) (r : List V → Hp → VK → Prop) : Prop :=
  ∀ (pins : List (Addr × Obj)) (s : Shared) (σ : St) (H : Hp) (xs : List V) (us : List Value) (Q : VK), Inv X pins σ H s → Vals xs us → r xs H Q →
    wpAny (model X.prog X.w) X.A (call f us) (EP X pins σ Q) X.xe s
noncomputable def TruR (X : Cx) (r : V → Hp → (Bool → Hp → Prop) → Prop) : Prop :=
  ∀ (pins : List (Addr × Obj)) (s : Shared) (σ : St) (H : Hp) (x : V) (v : Value) (Q : Bool → Hp → Prop), Inv X pins σ H s → RelV x v → r x H Q →
    wpAny (model X.prog X.w) X.A (truthy v) (TP X pins σ Q) X.xe s
noncomputable def tOp (r : R2) (ta tb : TE) : TE := fun σ H Q => ta σ H fun x H1 => tb σ H1 fun y H2 => r x y H2 Q
noncomputable def tUn (r : V → Hp → VK → Prop) (ta : TE) : TE := fun σ H Q => ta σ H fun x H1 => r x H1 Q
noncomputable def rI (C : Int → Int → Prop) (g : Int → Int → V) : R2 := fun x y H Q => ∃ i j, x = .int i ∧ y = .int j ∧ C i j ∧ Q (g i j) H
noncomputable def rI0 (g : Int → Int → V) : R2 := fun x y H Q => ∃ i j, x = .int i ∧ y = .int j ∧ Q (g i j) H
noncomputable def rU (g : Int → V) : V → Hp → VK → Prop := fun x H Q => ∃ i, x = .int i ∧ Q (g i) H
section
variable {X : Cx} {a b c : Expr} {ta tb tc : TE} {pos : Pos}
theorem binT (ha : PE X a ta) (hb : PE X b tb) {pins : List (Addr × Obj)} {s : Shared} {σ : St} {H : Hp} {R : V → V → Hp → Prop} (I : Inv X pins σ H s)
    (h : ta σ H fun x H1 => tb σ H1 fun y H2 => R x y H2) {Q : Value → Shared → Prop} {f : Value → Value → Sem Value}
    (hf : ∀ v u s2 x y H2, Inv X pins σ H2 s2 → RelV x v → RelV y u → R x y H2 → wpAny (model X.prog X.w) X.A (f v u) Q X.xe s2) :
    wpAny (model X.prog X.w) X.A (eval a X.env) (fun v s₁ => wpAny (model X.prog X.w) X.A (eval b X.env) (fun u s₂ => wpAny (model X.prog X.w) X.A (f v u) Q X.xe s₂) X.xe s₁) X.xe s := by
  refine thn (ha pins s σ H _ I h) fun v s1 ⟨x, H1, I1, r1, q1⟩ => ?_
  refine thn (hb pins s1 σ H1 _ I1 q1) fun u s2 ⟨y, H2, I2, r2, q2⟩ => ?_
  exact hf v u s2 x y H2 I2 r1 r2 q2
theorem pe_op {op : Operator} {r : R2} (ho : OpR X (binaryOp op) r) (ha : PE X a ta) (hb : PE X b tb) : PE X (.BinOp a op b pos) (tOp r ta tb) := by
  intro pins s σ H Q I h
  exact wpAny_BinOp (binT ha hb I h fun v u s2 x y H2 I2 rx ry q => ho pins s2 σ H2 x y v u Q I2 rx ry q)
theorem pe_un {op : UnaryOp} {r : V → Hp → VK → Prop} (ho : UnR X (unaryOp op) r) (ha : PE X a ta) : PE X (.UnaryOp op a pos) (tUn r ta) := by
  intro pins s σ H Q I h
  exact UnaryOp_ (thn (ha pins s σ H _ I h) fun v s1 ⟨x, H1, I1, r1, q1⟩ => ho pins s1 σ H1 x v Q I1 r1 q1)
theorem opI {f : Value → Value → Sem Value} {C : Int → Int → Prop} {g : Int → Int → Int}
    (rule : ∀ (i j : Int) (t u : Tok) (s : Shared) (Q : Value → Shared → Prop) (E : Value → Shared → Prop), C i j → Q (.int (g i j) s.toks) { s with toks := s.toks + 1 } → wpAny (model X.prog X.w) X.A (f (.int i t) (.int j u)) Q E s) :
    OpR X f (rI C fun i j => .int (g i j)) := by
  intro pins s σ H x y v u Q I rx ry h
  obtain ⟨i, j, rfl, rfl, hc, q⟩ := h
  obtain ⟨t, rfl⟩ := rx
  obtain ⟨t', rfl⟩ := ry
  exact rule i j t t' s _ _ hc ⟨.int (g i j), H, I.tok _, ⟨_, rfl⟩, q⟩
theorem opI0 {f : Value → Value → Sem Value} {g : Int → Int → Int}
    (rule : ∀ (i j : Int) (t u : Tok) (s : Shared) (Q : Value → Shared → Prop) (E : Value → Shared → Prop), Q (.int (g i j) s.toks) { s with toks := s.toks + 1 } → wpAny (model X.prog X.w) X.A (f (.int i t) (.int j u)) Q E s) :
    OpR X f (rI0 fun i j => .int (g i j)) := by
  intro pins s σ H x y v u Q I rx ry h
  obtain ⟨i, j, rfl, rfl, q⟩ := h
  obtain ⟨t, rfl⟩ := rx
  obtain ⟨t', rfl⟩ := ry
  exact rule i j t t' s _ _ ⟨.int (g i j), H, I.tok _, ⟨_, rfl⟩, q⟩
theorem opB0 {f : Value → Value → Sem Value} {g : Int → Int → Bool}
    (rule : ∀ (i j : Int) (t u : Tok) (s : Shared) (Q : Value → Shared → Prop) (E : Value → Shared → Prop), Q (.bool (g i j)) s → wpAny (model X.prog X.w) X.A (f (.int i t) (.int j u)) Q E s) :
    OpR X f (rI0 fun i j => .bl (g i j)) := by
  intro pins s σ H x y v u Q I rx ry h
  obtain ⟨i, j, rfl, rfl, q⟩ := h
  obtain ⟨t, rfl⟩ := rx
  obtain ⟨t', rfl⟩ := ry
  exact rule i j t t' s _ _ ⟨.bl (g i j), H, I, rfl, q⟩
noncomputable def CDiv (i j : Int) : Prop := 0 < j ∧ j < 1073741824
noncomputable def CPow (i j : Int) : Prop := 0 ≤ j ∧ j ≤ 1000000 ∧ i.natAbs < 2 ^ 64
noncomputable def CMul (i j : Int) : Prop := (-(2 ^ 64) < i ∧ i < 2 ^ 64) ∨ (-(2 ^ 64) < j ∧ j < 2 ^ 64)
theorem CMul.ok {i j : Int} (h : CMul i j) : IntMulOk i j := by
  rcases h with ⟨h1, h2⟩ | ⟨h1, h2⟩
  · exact .of_left (intBits_le_64 h1 h2)
  · exact .of_right (intBits_le_64 h1 h2)
theorem op_add : OpR X (binaryOp .Add) (rI0 fun i j => .int (i + j)) := opI0 fun _ _ _ _ _ _ _ q => add_int q
theorem op_sub : OpR X (binaryOp .Sub) (rI0 fun i j => .int (i - j)) := opI0 fun _ _ _ _ _ _ _ q => sub_int q
theorem op_mul : OpR X (binaryOp .Mult) (rI CMul fun i j => .int (i * j)) := opI fun _ _ _ _ _ _ _ hc q => mul_int q hc.ok
theorem op_fdiv : OpR X (binaryOp .FloorDiv) (rI CDiv fun i j => .int (i / j)) := opI fun i j _ _ _ _ _ hc q => by
  have h1 : (0 : Int) < j := hc.1
  have h2 : j < 1073741824 := hc.2
  exact floordiv_int (by omega) (by rw [Int.fdiv_eq_ediv_of_nonneg i (by omega)]; exact q) (.inl (PyProof.noPylong_small (by omega)))
theorem op_mod : OpR X (binaryOp .Mod) (rI (fun _ j => 0 < j) fun i j => .int (i % j)) := opI fun i j _ _ _ _ _ hc q => by
  have h1 : (0 : Int) < j := hc
  exact mod_int' (by omega) (by rw [Int.fmod_eq_emod_of_nonneg i (by omega)]; exact q)
theorem op_pow : OpR X (binaryOp .Pow) (rI CPow fun i j => .int (i ^ j.toNat)) := opI fun _ _ _ _ _ _ _ hc q => pow_int_small hc.1 hc.2.1 hc.2.2 q
theorem unI {f : Value → Sem Value} {g : Int → Int}
    (rule : ∀ (i : Int) (t : Tok) (s : Shared) (Q : Value → Shared → Prop) (E : Value → Shared → Prop), Q (.int (g i) s.toks) { s with toks := s.toks + 1 } → wpAny (model X.prog X.w) X.A (f (.int i t)) Q E s) :
    UnR X f (rU fun i => .int (g i)) := by
  intro pins s σ H x v Q I rx h
  obtain ⟨i, rfl, q⟩ := h
  obtain ⟨t, rfl⟩ := rx
  exact rule i t s _ _ ⟨.int (g i), H, I.tok _, ⟨_, rfl⟩, q⟩
theorem un_neg : UnR X (unaryOp .USub) (rU fun i => .int (-i)) := unI fun _ _ _ _ _ q => neg_int q
end
noncomputable def scal : V → V → Bool
  | .non, .non => true | .non, .int _ => true | .int _, .non => true | .non, .bl _ => true | .bl _, .non => true | .non, .str _ => true | .str _, .non => true
  | .int _, .int _ => true | .bl _, .bl _ => true | .str _, .str _ => true | .byt _, .byt _ => true
  | .int _, .str _ => true | .str _, .int _ => true | .bl _, .str _ => true | .str _, .bl _ => true
  | _, _ => false
noncomputable def rEq : R2 := fun x y H Q => scal x y = true ∧ Q (.bl (decide (x = y))) H
noncomputable def rNe : R2 := fun x y H Q => scal x y = true ∧ Q (.bl (!decide (x = y))) H
theorem dec_int {i j : Int} : decide (V.int i = V.int j) = (i == j) := by
  rw [Bool.eq_iff_iff]
  simp
theorem dec_bl {i j : Bool} : decide (V.bl i = V.bl j) = (i == j) := by
  rw [Bool.eq_iff_iff]
  simp
theorem dec_str {i j : Str} : decide (V.str i = V.str j) = (i == j) := by
  rw [Bool.eq_iff_iff]
  simp
theorem dec_byt {i j : Array UInt8} : decide (V.byt i = V.byt j) = (i.toList == j.toList) := by
  rw [Bool.eq_iff_iff]
  cases i
  cases j
  simp
section
variable {X : Cx} {a b c : Expr} {ta tb tc : TE} {pos : Pos}
theorem fin_bl {pins : List (Addr × Obj)} {σ : St} {H : Hp} {s : Shared} {Q : VK} {k k' : Bool} (I : Inv X pins σ H s) (q : Q (.bl k) H) (e : k = k') : EP X pins σ Q (.bool k') s := by
  subst e
  exact ⟨.bl k, H, I, rfl, q⟩
theorem op_eq : OpR X (compareOp .Eq) rEq := by
  intro pins s σ H x y v u Q I rx ry h
  obtain ⟨hs, q⟩ := h
  cases x with
  | non =>
    cases rx
    cases y with
    | non => cases ry; exact PySem.EqNone.eq_none_none (fin_bl I q (by simp))
    | bl j => cases ry; exact PySem.EqNone.eq_none_bool (fin_bl I q (by simp))
    | int j => obtain ⟨t', rfl⟩ := ry; exact PySem.EqNone.eq_none_int (fin_bl I q (by simp))
    | str j => obtain ⟨t', rfl⟩ := ry; exact PySem.EqNone.eq_none_str (fin_bl I q (by simp))
    | _ => exact absurd (show false = true from hs) Bool.false_ne_true
  | bl i =>
    cases rx
    cases y with
    | non => cases ry; exact PySem.EqNone.eq_bool_none (fin_bl I q (by simp))
    | bl j => cases ry; exact eq_bool (fin_bl I q dec_bl)
    | str j => obtain ⟨t', rfl⟩ := ry; exact PySem.EqMixed.eq_bool_str (fin_bl I q (by simp))
    | _ => exact absurd (show false = true from hs) Bool.false_ne_true
  | int i =>
    obtain ⟨t, rfl⟩ := rx
    cases y with
    | non => cases ry; exact PySem.EqNone.eq_int_none (fin_bl I q (by simp))
    | int j => obtain ⟨t', rfl⟩ := ry; exact eq_int (fin_bl I q dec_int)
    | str j => obtain ⟨t', rfl⟩ := ry; exact PySem.EqMixed.eq_int_str (fin_bl I q (by simp))
    | _ => exact absurd (show false = true from hs) Bool.false_ne_true
  | str i =>
    obtain ⟨t, rfl⟩ := rx
    cases y with
    | non => cases ry; exact PySem.EqNone.eq_str_none (fin_bl I q (by simp))
    | bl j => cases ry; exact PySem.EqMixed.eq_str_bool (fin_bl I q (by simp))
    | int j => obtain ⟨t', rfl⟩ := ry; exact PySem.EqMixed.eq_str_int (fin_bl I q (by simp))
    | str j => obtain ⟨t', rfl⟩ := ry; exact eq_str (fin_bl I q dec_str)
    | _ => exact absurd (show false = true from hs) Bool.false_ne_true
  | byt i =>
    obtain ⟨t, rfl⟩ := rx
    cases y with
    | byt j => obtain ⟨t', rfl⟩ := ry; exact PySem.W.eq_bytes (fin_bl I q dec_byt)
    | _ => exact absurd (show false = true from hs) Bool.false_ne_true
  | _ => cases y <;> exact absurd (show false = true from hs) Bool.false_ne_true
theorem op_ne : OpR X (compareOp .NotEq) rNe := by
  intro pins s σ H x y v u Q I rx ry h
  obtain ⟨hs, q⟩ := h
  cases x with
  | non =>
    cases rx
    cases y with
    | non => cases ry; exact PySem.EqNone.ne_none_none (fin_bl I q (by simp))
    | bl j => cases ry; exact PySem.EqNone.ne_none_bool (fin_bl I q (by simp))
    | int j => obtain ⟨t', rfl⟩ := ry; exact PySem.EqNone.ne_none_int (fin_bl I q (by simp))
    | str j => obtain ⟨t', rfl⟩ := ry; exact PySem.EqNone.ne_none_str (fin_bl I q (by simp))
    | _ => exact absurd (show false = true from hs) Bool.false_ne_true
  | bl i =>
    cases rx
    cases y with
    | non => cases ry; exact PySem.EqNone.ne_bool_none (fin_bl I q (by simp))
    | bl j => cases ry; exact ne_bool (fin_bl I q (congrArg not dec_bl))
    | str j => obtain ⟨t', rfl⟩ := ry; exact PySem.EqMixed.ne_bool_str (fin_bl I q (by simp))
    | _ => exact absurd (show false = true from hs) Bool.false_ne_true
  | int i =>
    obtain ⟨t, rfl⟩ := rx
    cases y with
    | non => cases ry; exact PySem.EqNone.ne_int_none (fin_bl I q (by simp))
    | int j => obtain ⟨t', rfl⟩ := ry; exact ne_int (fin_bl I q (congrArg not dec_int))
    | str j => obtain ⟨t', rfl⟩ := ry; exact PySem.EqMixed.ne_int_str (fin_bl I q (by simp))
    | _ => exact absurd (show false = true from hs) Bool.false_ne_true
  | str i =>
    obtain ⟨t, rfl⟩ := rx
    cases y with
    | non => cases ry; exact PySem.EqNone.ne_str_none (fin_bl I q (by simp))
    | bl j => cases ry; exact PySem.EqMixed.ne_str_bool (fin_bl I q (by simp))
    | int j => obtain ⟨t', rfl⟩ := ry; exact PySem.EqMixed.ne_str_int (fin_bl I q (by simp))
    | str j => obtain ⟨t', rfl⟩ := ry; exact ne_str (fin_bl I q (congrArg not dec_str))
    | _ => exact absurd (show false = true from hs) Bool.false_ne_true
  | byt i =>
    obtain ⟨t, rfl⟩ := rx
    cases y with
    | byt j => obtain ⟨t', rfl⟩ := ry; exact PySem.W.ne_bytes (fin_bl I q (congrArg not dec_byt))
    | _ => exact absurd (show false = true from hs) Bool.false_ne_true
  | _ => cases y <;> exact absurd (show false = true from hs) Bool.false_ne_true
theorem op_lt : OpR X (compareOp .Lt) (rI0 fun i j => .bl (decide (i < j))) := opB0 fun _ _ _ _ _ _ _ q => lt_int q
theorem op_le : OpR X (compareOp .LtE) (rI0 fun i j => .bl (decide (i ≤ j))) := opB0 fun _ _ _ _ _ _ _ q => le_int q
theorem op_gt : OpR X (compareOp .Gt) (rI0 fun i j => .bl (decide (j < i))) := opB0 fun _ _ _ _ _ _ _ q => gt_int q
theorem op_ge : OpR X (compareOp .GtE) (rI0 fun i j => .bl (decide (j ≤ i))) := opB0 fun _ _ _ _ _ _ _ q => ge_int q
theorem op_lt_str : OpR X (compareOp .Lt) (fun x y H Q => ∃ i j, x = .str i ∧ y = .str j ∧ Q (.bl (decide (i.cps.toList < j.cps.toList))) H) := by
  intro pins s σ H x y v u Q I rx ry h
  obtain ⟨i, j, rfl, rfl, q⟩ := h
  obtain ⟨t, rfl⟩ := rx
  obtain ⟨t', rfl⟩ := ry
  exact lt_str (fin_bl I q rfl)
theorem nomark (b : Expr) {op : CmpOp} (h : op ≠ .In := by decide) (h2 : op ≠ .NotIn := by decide) : behindInMarks op b = false := by
  have e1 : (op == CmpOp.In) = false := by cases op <;> first | rfl | exact absurd rfl h
  have e2 : (op == CmpOp.NotIn) = false := by cases op <;> first | rfl | exact absurd rfl h2
  cases b <;> simp [behindInMarks, e1, e2]
theorem pe_cmpR {op : CmpOp} {r : R2} (ho : OpR X (compareOp op) r) (ha : PE X a ta) (hb : PE X b tb) (hm : behindInMarks op b = false) : PE X (.Compare a [op] [b] pos) (tOp r ta tb) := by
  intro pins s σ H Q I h
  exact wpAny_Compare1 (binT ha hb I h fun v u s2 x y H2 I2 rx ry q => ho pins s2 σ H2 x y v u Q I2 rx ry q) hm
noncomputable def tTest (t : TE) : TT := fun σ H Q => t σ H fun x H' => ∃ k, x = .bl k ∧ Q k H'
theorem pt_cmpR {op : CmpOp} {r : R2} (ho : OpR X (compareOp op) r) (ha : PE X a ta) (hb : PE X b tb) (hm : behindInMarks op b = false) : PT X (.Compare a [op] [b] pos) (tTest (tOp r ta tb)) := by
  intro pins s σ H Q I h
  refine wpAny_isTrue_Compare1 (thn (ha pins s σ H _ I h) fun v s1 ⟨x, H1, I1, r1, q1⟩ => thn (hb pins s1 σ H1 _ I1 q1) fun u s2 ⟨y, H2, I2, r2, q2⟩ =>
    thn (ho pins s2 σ H2 x y v u _ I2 r1 r2 q2) fun c s3 ⟨z, H3, I3, r3, k, e, q3⟩ => ?_) hm
  subst e
  cases r3
  exact wpAny_truthy_bool ⟨H3, I3, q3⟩
noncomputable def tChain (r r' : R2) (ta tb tc : TE) : TE := fun σ H Q => ta σ H fun x H1 => tb σ H1 fun y H2 => r x y H2 fun z H3 => ∃ k, z = .bl k ∧
  (if k = true then tc σ H3 fun w' H4 => r' y w' H4 Q else Q (.bl false) H3)
theorem pe_chain {op op' : CmpOp} {r r' : R2} (ho : OpR X (compareOp op) r) (ho' : OpR X (compareOp op') r') (ha : PE X a ta) (hb : PE X b tb) (hc : PE X c tc)
    (hm : lastMarks [op, op'] [b, c] = false := by with_unfolding_all rfl) : PE X (.Compare a [op, op'] [b, c] pos) (tChain r r' ta tb tc) := by
  intro pins s σ H Q I h
  refine Compare_chain (thn (ha pins s σ H _ I h) fun v s1 ⟨x, H1, I1, r1, q1⟩ => chain_link (thn (hb pins s1 σ H1 _ I1 q1) fun u s2 ⟨y, H2, I2, r2, q2⟩ =>
    thn (ho pins s2 σ H2 x y v u _ I2 r1 r2 q2) fun d s3 ⟨z, H3, I3, r3, k, e, q3⟩ => ?_)) hm
  subst e
  cases r3
  refine wpAny_truthy_bool ?_
  cases k with
  | false => exact ite_ff ⟨.bl false, H3, I3, rfl, q3⟩
  | true => exact ite_tt (chain_last (thn (hc pins s3 σ H3 _ I3 q3) fun w' s4 ⟨z', H4, I4, r4, q4⟩ => ho' pins s4 σ H4 y z' u w' Q I4 r2 r4 q4))
noncomputable def TruV (K : PySem.W.Frag) (x : V) (H : Hp) (k : Bool) : Prop :=
  match x with
  | .non => k = false
  | .bl b => k = b
  | .int i => k = (i != 0)
  | .str y => y.length ≤ sizeLine ∧ k = ((y.length : Int) != 0)
  | .byt y => y.size ≤ sizeLine ∧ k = ((y.size : Int) != 0)
  | .ref p => (∃ xs, SqL K H p xs ∧ k = !xs.isEmpty) ∨ (∃ xs, SqT K H p xs ∧ k = !xs.isEmpty) ∨ ∃ kvs, H p = some (.dK kvs) ∧ k = !kvs.isEmpty
  | _ => False
theorem isEmpty_kv {κ : Type} {kvs : List (κ × V)} {vs : List (κ × Value)} (r : KV kvs vs) : (!vs.isEmpty) = !kvs.isEmpty := by
  cases r <;> rfl
theorem isEmpty_of {xs : List V} {its : List Value} (r : Vals xs its) : (!its.toArray.isEmpty) = !xs.isEmpty := by
  cases r <;> simp
theorem line63 : (sizeLine : Nat) < 2 ^ 63 := by rw [sizeLine_eq]; decide
theorem tru_ok : TruR X (fun x H Q => ∃ k, TruV X.K x H k ∧ Q k H) := by
  intro pins s σ H x v Q I rx h
  obtain ⟨k, e, q⟩ := h
  have hl := line63
  have hs : sizeLine = 16777216 := sizeLine_eq
  cases x with
  | non =>
    cases rx
    have e' : k = false := e
    subst e'
    exact truthy_none ⟨H, I, q⟩
  | bl b =>
    cases rx
    have e' : k = b := e
    subst e'
    exact wpAny_truthy_bool ⟨H, I, q⟩
  | int i =>
    obtain ⟨t, rfl⟩ := rx
    have e' : k = (i != 0) := e
    subst e'
    exact PySem.P.truthy_int ⟨H, I, q⟩
  | str y =>
    obtain ⟨t, rfl⟩ := rx
    obtain ⟨hy, e'⟩ : y.length ≤ sizeLine ∧ k = ((y.length : Int) != 0) := e
    subst e'
    exact PySem.P.truthy_str (by omega) ⟨H, I.tok _, q⟩
  | byt y =>
    obtain ⟨t, rfl⟩ := rx
    obtain ⟨hy, e'⟩ : y.size ≤ sizeLine ∧ k = ((y.size : Int) != 0) := e
    subst e'
    exact PySem.W.truthy_bytes (by omega) ⟨H, I.tok _, q⟩
  | ref p =>
    cases rx
    have e' : (∃ xs, SqL X.K H p xs ∧ k = !xs.isEmpty) ∨ (∃ xs, SqT X.K H p xs ∧ k = !xs.isEmpty) ∨ ∃ kvs, H p = some (.dK kvs) ∧ k = !kvs.isEmpty := e
    rcases e' with ⟨xs, hx, e'⟩ | ⟨xs, hx, e'⟩ | ⟨kvs, hx, e'⟩
    · subst e'
      obtain ⟨its, r, pl, hz⟩ := I.list hx
      have hlen := r.length
      exact wpAny_truthy_list pl.isList (by simp only [List.size_toArray]; omega) ⟨H, I.tok _, by rw [isEmpty_of r]; exact q⟩
    · subst e'
      obtain ⟨its, r, pl, hz⟩ := I.tuple hx
      have hlen := r.length
      exact truthy_tuple pl (by simp only [List.size_toArray]; omega) ⟨H, I.tok _, by rw [isEmpty_of r]; exact q⟩
    · subst e'
      obtain ⟨hz, hS, vs, r, m⟩ : kvs.length ≤ sizeLine ∧ (p == sysModules) = false ∧ ∃ vs, KV kvs vs ∧ s.heap.DictOf (mixKind X.prog X.w) p vs := I.hok p _ hx
      have hlen : kvs.length = vs.length := Paired.length r
      exact wpAny_truthy_dict hS m (by omega) ⟨H, I.tok _, by rw [isEmpty_kv r]; exact q⟩
  | _ => exact (show False from e).elim
theorem pt_truth (ha : PE X a ta) (he : ∀ whole, isTrue a X.env whole = (do let v ← whole; standAt a.pos; holding [v] (truthy v))) :
    PT X a (fun σ H Q => ta σ H fun x H' => ∃ k, TruV X.K x H' k ∧ Q k H') := by
  intro pins s σ H Q I h
  exact isTrue_plain (thn (ha pins s σ H _ I h) fun v s1 ⟨x, H1, I1, r1, q1⟩ => tru_ok pins s1 σ H1 x v Q I1 r1 q1) (he _)
theorem op_add_str : OpR X (binaryOp .Add) (fun x y H Q => ∃ i j, x = .str i ∧ y = .str j ∧ i.length + j.length ≤ sizeLine ∧ Q (.str (i ++ j)) H) := by
  intro pins s σ H x y v u Q I rx ry h
  obtain ⟨i, j, rfl, rfl, hz, q⟩ := h
  obtain ⟨t, rfl⟩ := rx
  obtain ⟨t', rfl⟩ := ry
  exact add_str (fun t' tk => ⟨.str (i ++ j), H, I.tok _, ⟨_, rfl⟩, q⟩) hz
theorem vals1 {x : V} {us : List Value} (r : Vals [x] us) : ∃ u, us = [u] ∧ RelV x u := by
  cases r with
  | cons r1 r2 => cases r2; exact ⟨_, rfl, r1⟩
theorem vals2 {x y : V} {us : List Value} (r : Vals [x, y] us) : ∃ u w', us = [u, w'] ∧ RelV x u ∧ RelV y w' := by
  cases r with
  | cons r1 r2 =>
    cases r2 with
    | cons r3 r4 => cases r4; exact ⟨_, _, rfl, r1, r3⟩
theorem call_int1 : CallR X (.type "int") (fun xs H Q => (∃ i, xs = [.int i] ∧ Q (.int i) H) ∨ ∃ k, xs = [.bl k] ∧ Q (.int (if k then 1 else 0)) H) := by
  intro pins s σ H xs us Q I r h
  rcases h with ⟨i, rfl, q⟩ | ⟨k, rfl, q⟩
  · obtain ⟨u, rfl, t, rfl⟩ := vals1 r
    exact call_int_int ⟨.int i, H, I, ⟨_, rfl⟩, q⟩
  · obtain ⟨u, rfl, r1⟩ := vals1 r
    cases r1
    exact call_int_bool ⟨.int (if k then 1 else 0), H, I.tok _, ⟨_, rfl⟩, q⟩
noncomputable def LenV (K : PySem.W.Frag) (x : V) (H : Hp) (n : Nat) : Prop :=
  match x with
  | .str y => y.length ≤ sizeLine ∧ n = y.length
  | .byt y => y.size ≤ sizeLine ∧ n = y.size
  | .ref p => (∃ xs, SqL K H p xs ∧ n = xs.length) ∨ ∃ xs, SqT K H p xs ∧ n = xs.length
  | _ => False
theorem call_len : CallR X (.builtin "len") (fun xs H Q => ∃ x n, xs = [x] ∧ LenV X.K x H n ∧ Q (.int n) H) := by
  intro pins s σ H xs us Q I r h
  obtain ⟨x, n, rfl, e, q⟩ := h
  obtain ⟨u, rfl, rx⟩ := vals1 r
  have hl := line63
  have hs : sizeLine = 16777216 := sizeLine_eq
  cases x with
  | str y =>
    obtain ⟨t, rfl⟩ := rx
    obtain ⟨hy, e'⟩ : y.length ≤ sizeLine ∧ n = y.length := e
    subst e'
    exact len_str (by omega) ⟨.int _, H, I.tok _, ⟨_, rfl⟩, q⟩
  | byt y =>
    obtain ⟨t, rfl⟩ := rx
    obtain ⟨hy, e'⟩ : y.size ≤ sizeLine ∧ n = y.size := e
    subst e'
    exact PySem.W.len_bytes (by omega) ⟨.int _, H, I.tok _, ⟨_, rfl⟩, q⟩
  | ref p =>
    cases rx
    have e' : (∃ xs, SqL X.K H p xs ∧ n = xs.length) ∨ ∃ xs, SqT X.K H p xs ∧ n = xs.length := e
    rcases e' with ⟨xs, hx, e'⟩ | ⟨xs, hx, e'⟩
    · subst e'
      obtain ⟨its, r', pl, hz⟩ := I.list hx
      have hlen := r'.length
      exact Calls.call_len_list pl.isList (by simp only [List.size_toArray]; omega) ⟨.int xs.length, H, I.tok _, ⟨_, by simp only [List.size_toArray]; rw [hlen]⟩, q⟩
    · subst e'
      obtain ⟨its, r', pl, hz⟩ := I.tuple hx
      have hlen := r'.length
      exact len_tuple pl (by simp only [List.size_toArray]; omega) ⟨.int xs.length, H, I.tok _, ⟨_, by simp only [List.size_toArray]; rw [hlen]⟩, q⟩
  | _ => exact (show False from e).elim
end
end L2
namespace L2
open PySem PySem.Spec PyProof.Rows
structure ObjM (h : Heap) (x dx C : Addr) (mA : Str → Option Value) : Prop where
  obj : h.get? x = some (PySem.W.instObj C dx)
  ns : h.Ns1 dx mA
  ne : dx ≠ x
theorem lookIn_ns {h : Heap} {dx : Addr} {mA : Str → Option Value} (n : h.Ns1 dx mA) : ∃ od, h.get? dx = some od ∧ ∀ name, PySem.W.lookIn name od = some (mA name) := by
  obtain ⟨o, es, ep, ho, hd, hk, _, hm⟩ := n
  refine ⟨o, ho, fun name => ?_⟩
  have e := hm name
  unfold nsFind findBy at e
  rw [← Array.find?_toList] at e
  unfold PySem.W.lookIn
  rw [hd]
  dsimp only
  split
  · rename_i y q
    rw [q] at e
    exact congrArg some e
  · rename_i q
    rw [q] at e
    have a : es.toList.any (·.refKey) = false := by
      rw [List.any_eq_false]
      intro y hy
      obtain ⟨z, t, hkey⟩ := hk y (Array.mem_toList_iff.mp hy)
      simp [DictEntry.refKey, hkey]
    have a' : ¬ es.toList.any (·.refKey) = true := by rw [a]; exact Bool.false_ne_true
    rw [if_neg a']
    exact congrArg some e
theorem ObjM.look {h : Heap} {x dx C : Addr} {mA : Str → Option Value} (I : ObjM h x dx C mA) : ∃ od, PySem.W.InstAt h x (PySem.W.instObj C dx) C (some od) ∧ ∀ name, PySem.W.lookIn name od = some (mA name) :=
  let ⟨od, ho, hl⟩ := lookIn_ns I.ns
  ⟨od, ⟨I.obj, rfl, rfl, ho⟩, hl⟩
section
variable {prog : Program} {w : World} {A : Around} {E : Value → Shared → Prop} {s : Shared} {K : PySem.W.Frag} {x dx C f : Addr} {mA : Str → Option Value} {name : Str} {v : Value}
end
theorem RelO.some_of {v : V} {o : Option Value} (r : RelO (some v) o) : ∃ u, o = some u ∧ RelV v u := by
  cases o with
  | none => exact (show False from r).elim
  | some u => exact ⟨u, rfl, r⟩
section
variable {P : Program} {w : World} {H H' : Hp} {h h' : Heap} {a C dx : Addr} {fs fs' : List (Str × V)}
theorem ins_get (hok : HOk P w H h) (e : H a = some (.ins C dx fs)) : ∃ mA, ObjM h a dx C mA ∧ (∀ f, RelO (fs.lookup f) (mA f)) ∧ PySem.Within mA (fs.map (·.1)) ∧ fs.length ≤ 1000 ∧ H dx = some (.own a) := by
  obtain ⟨d, z, ne, ob, mA, n, r, q⟩ := (show ObjOk P w H h a (.ins C dx fs) from hok a _ e)
  exact ⟨mA, ⟨ob, n, ne⟩, r, q, z, d⟩
end
structure Cls (K : PySem.W.Frag) (C : Addr) : Prop where
  pg : PySem.W.plainGet K C Str.empty = true
  hd : PySem.W.hasDictIn K C = true
  po : PySem.W.plainOver K C = true
  sa : PySem.W.findIn K (.ref C) "__setattr__" = some (some (.builtin "object.__setattr__"))
theorem Cls.get {K : PySem.W.Frag} {C : Addr} (c : Cls K C) (f : Str) : PySem.W.plainGet K C f = true := c.pg
section
variable {X : Cx} {pins : List (Addr × Obj)} {σ : St} {H : Hp} {s : Shared} {a C dx : Addr} {fs : List (Str × V)} {f : Str} {v : V} {A : Around} {E : Value → Shared → Prop}
end
section
variable {X : Cx} {o e value : Expr} {f : Str} {pos pos' tpos : Pos} {ta tv : TE}
end
section
variable {X : Cx} {pins : List (Addr × Obj)} {σ : St} {H : Hp} {s : Shared} {A : Around} {E : Value → Shared → Prop} {Q : Value → Shared → Prop} {c : Value} {b : Bool}
inductive TyOf (K : PySem.W.Frag) (H : Hp) : V → Value → Prop where
  | non : TyOf K H .non (.type "NoneType")
  | bl (x : Bool) : TyOf K H (.bl x) (.type "bool")
  | int (i : Int) : TyOf K H (.int i) (.type "int")
  | str (x : Str) : TyOf K H (.str x) (.type "str")
  | flt (x : UInt64) : TyOf K H (.flt x) (.type "float")
  | lst {a : Addr} {xs : List V} (e : H a = some (.lst xs)) : TyOf K H (.ref a) (.type "list")
  | frz {a : Addr} {o : Obj} {xs : List V} (e : H a = some (.frz o (.lst xs))) : TyOf K H (.ref a) (.type "list")
  | tup {a : Addr} {xs : List V} (e : H a = some (.tup xs)) : TyOf K H (.ref a) (.type "tuple")
  | dK {a : Addr} {kvs : List (Key × V)} (e : H a = some (.dK kvs)) : TyOf K H (.ref a) (.type "dict")
  | dT {a : Addr} {kvs : List (List Key × V)} (e : H a = some (.dT kvs)) : TyOf K H (.ref a) (.type "dict")
  | ins {a C dx : Addr} {fs : List (Str × V)} (e : H a = some (.ins C dx fs)) (cl : Cls K C) (ha : PySem.W.findIn K (.ref C) "__class__" = some (some (.builtin "object.__class__")))
      (hn : PySem.W.specialIn K (.builtin "object.__class__") "__get__" = some (some (.builtin "getset_descriptor.__get__"))) (htk : PySem.W.takesIn K (.builtin "object.__class__") = some true)
      (hm : PySem.W.mroIn K C (.type "object") = some true) : TyOf K H (.ref a) (.ref C)
theorem isinst_ok {x : V} {u t : Value} (I : Inv X pins σ H s) (rx : RelV x u) (ty : TyOf X.K H x t) (e : PySem.W.kitOne X.K t c = some b) (h : ∀ tk, Q (.bool b) { s with toks := tk }) :
    wpAny (model X.prog X.w) A (call (.builtin "isinstance") [u, c]) Q E s := by
  cases ty with
  | non => cases (show u = Value.none from rx); exact PySem.W.kia_one PySem.W.kitx_none I.kIn True.intro e (fun z => nomatch z) h
  | bl y => cases (show u = Value.bool y from rx); exact PySem.W.kia_one PySem.W.kitx_bool I.kIn True.intro e (fun z => nomatch z) h
  | int i => obtain ⟨t, q⟩ := (show ∃ t, u = Value.int i t from rx); cases q; exact PySem.W.kia_one PySem.W.kitx_int I.kIn True.intro e (fun z => nomatch z) h
  | str y => obtain ⟨t, q⟩ := (show ∃ t, u = Value.str y t from rx); cases q; exact PySem.W.kia_one PySem.W.kitx_str I.kIn True.intro e (fun z => nomatch z) h
  | flt y => obtain ⟨t, q⟩ := (show ∃ t, u = Value.float y t from rx); cases q; exact PySem.W.kia_one PySem.W.kitx_float I.kIn True.intro e (fun z => nomatch z) h
  | @lst a xs ea =>
    cases (show u = Value.ref a from rx)
    obtain ⟨_, _, n, _, h1⟩ := (show ObjOk X.prog X.w H s.heap a (.lst xs) from I.hok a _ ea)
    exact PySem.W.kia_one PySem.W.kitx_list I.kIn ⟨_, h1, rfl⟩ e (fun z => nomatch z) h
  | @frz a ob xs ea =>
    cases (show u = Value.ref a from rx)
    obtain ⟨_, _, _, n, _, h1⟩ := (show ObjOk X.prog X.w H s.heap a (.frz ob (.lst xs)) from I.hok a _ ea)
    exact PySem.W.kia_one PySem.W.kitx_list I.kIn ⟨_, h1, rfl⟩ e (fun z => nomatch z) h
  | @tup a xs ea =>
    cases (show u = Value.ref a from rx)
    obtain ⟨_, _, _, p⟩ := (show ObjOk X.prog X.w H s.heap a (.tup xs) from I.hok a _ ea)
    obtain ⟨o, h1, h2, _⟩ := p
    exact PySem.W.kia_one PySem.W.kitx_tuple I.kIn ⟨o, h1, h2⟩ e (fun z => nomatch z) h
  | @dK a kvs ea =>
    cases (show u = Value.ref a from rx)
    obtain ⟨_, _, vs, _, p⟩ := (show ObjOk X.prog X.w H s.heap a (.dK kvs) from I.hok a _ ea)
    obtain ⟨o, es, ep, h1, h2, _⟩ := p
    exact PySem.W.kia_one PySem.W.kitx_dict I.kIn ⟨o, h1, h2.1⟩ e (fun z => nomatch z) h
  | @dT a kvs ea =>
    cases (show u = Value.ref a from rx)
    obtain ⟨_, _, xs, _, o, es, ep, h1, h2, _⟩ := (show ObjOk X.prog X.w H s.heap a (.dT kvs) from I.hok a _ ea)
    exact PySem.W.kia_one PySem.W.kitx_dict I.kIn ⟨o, h1, h2.1⟩ e (fun z => nomatch z) h
  | @ins a C dx fs ea cl ha hn htk hm =>
    cases (show u = Value.ref a from rx)
    obtain ⟨mA, O, _⟩ := ins_get I.hok ea
    obtain ⟨od, J, _⟩ := O.look
    exact PySem.W.kia_one (PySem.W.kitx_own (cl.get _) cl.hd ha hn htk hm) I.kIn J e (fun z => nomatch z) h
end
end L2
namespace L2
open PySem PySem.Spec PyProof.Rows
structure Room (k : Nat) (A : Around) : Prop where
  hd : A.handled = none
  dp : A.depth + 3 * k + 5 < recursionLimit
  un : A.units + 16 * k + 200 < cLine
  gd : A.guards = some []
theorem Room.mono {j k : Nat} {A : Around} (r : Room k A) (h : j ≤ k) : Room j A := ⟨r.hd, by have := r.dp; omega, by have := r.un; omega, r.gd⟩
theorem Room.deeper {k : Nat} {A : Around} (r : Room (k + 1) A) (env : Env) : Room k (A.deeper env) :=
  ⟨r.hd, by have := r.dp; show A.depth + 1 + 3 * k + 5 < _; omega, by have := r.un; show A.units + 3 + 16 * k + 200 < _; omega, r.gd⟩
theorem Room.depth {k : Nat} {A : Around} (r : Room k A) : A.depth < recursionLimit := by have := r.dp; omega
theorem Room.units {k : Nat} {A : Around} (r : Room k A) : A.units + 64 < cLine := by have := r.un; omega
noncomputable def tNil : TA := fun _ H Q => Q [] H
noncomputable def tCons (ta : TE) (tr : TA) : TA := fun σ H Q => ta σ H fun x H1 => tr σ H1 fun xs H2 => Q (x :: xs) H2
section
variable {X : Cx} {e : Expr} {es : List Expr} {te : TE} {t : TA} {pos : Pos}
theorem pa_nil : PA X [] tNil := fun _ _ _ _ H Q I h => Calls.spliced_nil ⟨[], H, I, .nil, h⟩
theorem pa_cons (ha : PE X e te) (hr : PA X es t) (hs : starEach (e :: es) X.env = (false, eval e X.env) :: starEach es X.env := by rfl) : PA X (e :: es) (tCons te t) := by
  intro pos pins s σ H Q I h
  rw [hs]
  show wpAny _ _ (spliced ((false, eval e X.env) :: backTo pos (starEach es X.env))) _ _ s
  refine Calls.spliced_cons (thn (ha pins s σ H _ I h) fun u s1 ⟨x, H1, I1, r1, q1⟩ => ?_)
  exact thn (hr pos pins s1 σ H1 _ I1 q1) fun us s2 ⟨xs, H2, I2, r2, q2⟩ => ⟨x :: xs, H2, I2, .cons r1 r2, q2⟩
noncomputable def tTup (t : TA) : TE := fun σ H Q => t σ H fun xs H1 => xs.length ≤ sizeLine ∧ ∀ p, H1 p = none → Q (.ref p) (upd H1 p (.tup xs))
noncomputable def tLst (t : TA) : TE := fun σ H Q => t σ H fun xs H1 => xs.length ≤ sizeLine ∧ ∀ p, H1 p = none → Q (.ref p) (upd H1 p (.lst xs))
theorem pe_tup {x1} (h : PA X es t) : PE X (.Tuple es x1 pos) (tTup t) := by
  intro pins s σ H Q I hq
  refine wpAny_Tuple_spliced (thn (h pos pins s σ H _ I hq) fun us s1 ⟨xs, H1, I1, r, z, q⟩ => ⟨by rw [← r.length]; exact z, ?_⟩)
  have hf : H1 s1.heap.objs.size = none := I1.hok.fresh (Nat.le_refl _)
  refine ⟨.ref s1.heap.objs.size, upd H1 s1.heap.objs.size (.tup xs), I1.laid (t' := s1.toks) (fun b u e => Heap.get?_push_of_some _ e) (Nat.le_refl _) ?_, rfl, q _ hf⟩
  exact ⟨z, us, r, ⟨_, Heap.get?_push_size _ rfl, rfl, _, rfl⟩⟩
theorem pe_lst (h : PA X es t) : PE X (.List es pos) (tLst t) := by
  intro pins s σ H Q I hq
  refine wpAny_List_spliced (thn (h pos pins s σ H _ I hq) fun us s1 ⟨xs, H1, I1, r, z, q⟩ => ⟨by rw [← r.length]; exact z, ?_⟩)
  have hf : H1 s1.heap.objs.size = none := I1.hok.fresh (Nat.le_refl _)
  refine ⟨.ref s1.heap.objs.size, upd H1 s1.heap.objs.size (.lst xs), I1.laid (t' := s1.toks) (fun b u e => Heap.get?_push_of_some _ e) (Nat.le_refl _) ?_, rfl, q _ hf⟩
  exact ⟨z, us, 0, r, Heap.get?_push_size _ rfl⟩
end
noncomputable abbrev Sp := List V → Hp → VK → XK → Prop
noncomputable abbrev CXT := List Env → Hp → Shared → XK → Value → Shared → Prop
structure Env0 (P : Program) (w : World) (K : PySem.W.Frag) (mg : Str → Option Value) (base : Heap) (A : Around) (outer : List Env) (s : Shared) (H : Hp) : Prop where
  frames : A.frames = some outer
  mod : Mod K mg base
  bs : ∀ b o, base.get? b = some o → s.heap.get? b = some o ∧ H b = none
  bsz : base.objs.size ≤ s.heap.objs.size
  funs : s.heap.FunFrames base outer
  frf : ∀ b ∈ frs outer, H b = none
  hok : HOk P w H s.heap
  bare : AllBare s.gens
noncomputable def CE (outer : List Env) (P : Program) (w : World) (H : Hp) (s : Shared) (Q : VK) (u : Value) (s' : Shared) : Prop :=
  ∃ v H', s'.os = s.os ∧ AllBare s'.gens ∧ Un (frs outer) [] H H' s.heap s'.heap ∧ HOk P w H' s'.heap ∧ RelV v u ∧ Q v H'
noncomputable def CR (CX : CXT) (outer : List Env) (P : Program) (w : World) (H : Hp) (s : Shared) (Q : VK) (E : XK) (r : Result) (s' : Shared) : Prop :=
  match r with
  | .ok (.ret u) => CE outer P w H s Q u s'
  | .ok _ => False
  | .error e => CX outer H s E e s'
structure FnOk (P : Program) (w : World) (K : PySem.W.Frag) (mg : Str → Option Value) (base : Heap) (CX : CXT) (k : Nat) (f : Addr) (fd : FuncData) (ps : List Str) (sp : Sp) : Prop where
  len : ∀ vs H Q E, sp vs H Q E → vs.length = ps.length
  run : ∀ (A : Around) (outer : List Env) (s : Shared) (H : Hp) (args : Args) (us : List Value) (vs : List V) (Q : VK) (E : XK), Room k A → Env0 P w K mg base A outer s H → BindsTo s fd args (ps.zip us) → Vals vs us → sp vs H Q E →
    codeAny (model P w) A (.call (.ref f) args) (CR CX outer P w H s Q E) s
theorem FnOk.imp {P : Program} {w : World} {K : PySem.W.Frag} {mg : Str → Option Value} {base : Heap} {CX : CXT} {k : Nat} {f : Addr} {fd : FuncData} {ps : List Str} {sp sp' : Sp} (F : FnOk P w K mg base CX k f fd ps sp)
    (h : ∀ vs H Q E, sp' vs H Q E → sp vs H Q E) : FnOk P w K mg base CX k f fd ps sp' :=
  ⟨fun vs H Q E q => F.len vs H Q E (h _ _ _ _ q), fun A outer s H args us vs Q E hr he hb hv hs => F.run A outer s H args us vs Q E hr he hb hv (h _ _ _ _ hs)⟩
section
variable {X : Cx} {pins : List (Addr × Obj)} {σ : St} {H : Hp} {s s' : Shared}
theorem Inv.env0 (I : Inv X pins σ H s) : Env0 X.prog X.w X.K X.mg X.base X.A X.stack s H :=
  ⟨I.ok.frames, I.ok.mod, I.bs, Nat.le_trans I.ok.bsz I.sz, I.stack, I.stkFree, I.hok, I.bare⟩
theorem Inv.after {Q : VK} {u : Value} (I : Inv X pins σ H s) (h : CE X.stack X.prog X.w H s Q u s') : EP X pins σ Q u s' := by
  obtain ⟨v, H', os, bare, un, hok, r, q⟩ := h
  obtain ⟨hh, g, d, t, os'⟩ := s'
  obtain rfl : os' = s.os := os
  exact ⟨v, H', I.call (h' := hh) (g' := g) (d' := d) (t' := t) (ch := []) un hok bare (fun b z => absurd z (by simp)), r, q⟩
end
noncomputable def tCall (sp : Sp) (dvs : List V) (E : XK) (t : TA) : TE := fun σ H Q => t σ H fun vs H1 => sp (vs ++ dvs) H1 Q E
noncomputable def Binds (K : PySem.W.Frag) (fd : FuncData) (ps : List Str) (ds : List Value) : Prop :=
  ∀ (s : Shared) (us : List Value), K.In s.heap → (us ++ ds).length = ps.length → BindsTo s fd ⟨us, []⟩ (ps.zip (us ++ ds))
theorem Binds.all {K : PySem.W.Frag} {fd : FuncData} {ps : List Str} (h : ∀ us : List Value, us.length = ps.length → bindArgs fd ⟨us, []⟩ = pure (ps.zip us)) : Binds K fd ps [] := fun s us _ hl => by
  rw [List.append_nil] at hl ⊢
  exact .of_eq (h us hl)
noncomputable def Passes (CX : CXT) (X : Cx) (E : XK) : Prop := ∀ (pins : List (Addr × Obj)) (σ : St) (H : Hp) (s : Shared) (e : Value) (s' : Shared), Inv X pins σ H s → CX X.stack H s E e s' → X.xe e s'
section
variable {X : Cx} {CX : CXT} {k : Nat} {f C : Addr} {fd : FuncData} {ps : List Str} {sp : Sp} {dvs : List V} {ds : List Value} {E : XK} {x m : Str} {p pos apos : Pos} {e o : Expr} {es : List Expr} {ta : TE} {t : TA}
theorem run_fn {pins : List (Addr × Obj)} {σ : St} {H : Hp} {s : Shared} {Q : VK} {us : List Value} {vs : List V} (F : FnOk X.prog X.w X.K X.mg X.base CX k f fd ps sp) (hr : Room k X.A) (hb : Binds X.K fd ps ds) (hd : Vals dvs ds) (hx : Passes CX X E)
    (I : Inv X pins σ H s) (r : Vals vs us) (h : sp (vs ++ dvs) H Q E) : wpAny (model X.prog X.w) X.A (call (.ref f) us) (EP X pins σ Q) X.xe s := by
  have r2 : Vals (vs ++ dvs) (us ++ ds) := r.append hd
  have hl : (us ++ ds).length = ps.length := by rw [← r2.length]; exact F.len _ _ _ _ h
  refine wpAny_call (codeAny_mono (F.run X.A X.stack s H ⟨us, []⟩ (us ++ ds) (vs ++ dvs) Q E hr I.env0 (hb s us I.kIn hl) r2 h) fun r s' hq => ?_)
  cases r with
  | error e => exact hx pins σ H s e s' I hq
  | ok fl =>
    cases fl with
    | ret u => exact I.after hq
    | next => exact False.elim hq
    | brk => exact False.elim hq
    | cont => exact False.elim hq
theorem pe_call (F : FnOk X.prog X.w X.K X.mg X.base CX k f fd ps sp) (hr : Room k X.A) (hg : Gl X x) (hm : X.mg x = some (.ref f)) (hk : PySem.W.keepIn X.K (.ref f) = true) (hb : Binds X.K fd ps ds) (hd : Vals dvs ds) (hx : Passes CX X E)
    (ha : PA X (e :: es) t) (hdb : (x == ("__debug__" : Str)) = false := by decide) (he : starEach (e :: es) X.env = (false, eval e X.env) :: starEach es X.env := by rfl) (hpl : (backTo pos (starEach es X.env)).any (·.1) = false := by rfl) :
    PE X (.Call (.Name x p) (e :: es) [] pos) (tCall sp dvs E t) := by
  intro pins s σ H Q I h
  refine wpAny_Call_Name_kw (ld_glob I hg hm ?_ hdb)
  refine PySem.W.callWith_K (h₀ := X.base) I.ok.mod.kin hk (thn (ha pos pins s σ H _ I h) fun us s1 ⟨vs, H1, I1, r, q⟩ => ⟨I1.kIn, ?_⟩) he hpl
  exact run_fn F hr hb hd hx I1 r q
end
section
variable {X : Cx} {CX : CXT} {k : Nat} {f C : Addr} {fd : FuncData} {ps ks : List Str} {sp : Sp} {E : XK} {x m : Str} {p pos apos kpos : Pos} {e o : Expr} {es : List Expr} {kws : List Keyword} {te ta : TE} {t tk : TA} {nm : Option Str}
variable {g : List Value → List Value → List Value} {gV : List V → List V → List V}
end
structure FnScope (N P : List Str) (sc : Scope) : Prop where
  kind : sc.kind = .function
  co : sc.isCoroutine = false
  gen : sc.isGenerator = false
  nd : N.Nodup
  pre : N.take P.length = P
  par : ∀ x ∈ P, sc.names.lookup x = some .local ∨ sc.names.lookup x = some .cell
  nofree : ∀ y ∈ sc.names, y.2 ≠ .free
theorem bindL_out {kindOf : Str → Option NameKind} {x : Str} : ∀ {binds : List (Str × Value)} {m : Str → Option Value}, (∀ v, (x, v) ∉ binds) → bindL kindOf binds m x = m x
  | [], _, _ => rfl
  | (n, v) :: r, m, h => by
    unfold bindL
    rw [bindL_out fun w hw => h w (List.mem_cons_of_mem _ hw)]
    split
    · have : x ≠ n := by rintro rfl; exact h v List.mem_cons_self
      simp [this]
    · rfl
theorem bindC_out {kindOf : Str → Option NameKind} {x : Str} : ∀ {binds : List (Str × Value)} {m : Str → Option Value}, (∀ v, (x, v) ∉ binds) → bindC kindOf binds m x = m x
  | [], _, _ => rfl
  | (n, v) :: r, m, h => by
    unfold bindC
    rw [bindC_out fun w hw => h w (List.mem_cons_of_mem _ hw)]
    split
    · rfl
    · have : x ≠ n := by rintro rfl; exact h v List.mem_cons_self
      simp [this]
theorem bindL_get {kindOf : Str → Option NameKind} {x : Str} {v : Value} : ∀ {P : List Str} {vs : List Value} {i : Nat} {m : Str → Option Value}, P.Nodup → P[i]? = some x → vs[i]? = some v → kindOf x = some .local →
    bindL kindOf (P.zip vs) m x = some v
  | [], _, _, _, _, h, _, _ => by simp at h
  | _ :: _, [], _, _, _, _, h, _ => by simp at h
  | p :: P, w :: vs, 0, m, nd, h1, h2, hk => by
    simp at h1 h2; subst h1; subst h2
    show bindL kindOf ((p, w) :: P.zip vs) m p = _
    unfold bindL
    rw [bindL_out fun v hv => (List.nodup_cons.mp nd).1 (List.of_mem_zip hv).1, if_pos hk]
    simp
  | p :: P, w :: vs, i + 1, m, nd, h1, h2, hk => by
    show bindL kindOf ((p, w) :: P.zip vs) m x = _
    unfold bindL
    exact bindL_get (i := i) (List.nodup_cons.mp nd).2 (by simpa using h1) (by simpa using h2) hk
theorem bindC_get {kindOf : Str → Option NameKind} {x : Str} {v : Value} : ∀ {P : List Str} {vs : List Value} {i : Nat} {m : Str → Option Value}, P.Nodup → P[i]? = some x → vs[i]? = some v → kindOf x ≠ some .local →
    bindC kindOf (P.zip vs) m x = some v
  | [], _, _, _, _, h, _, _ => by simp at h
  | _ :: _, [], _, _, _, _, h, _ => by simp at h
  | p :: P, w :: vs, 0, m, nd, h1, h2, hk => by
    simp at h1 h2; subst h1; subst h2
    show bindC kindOf ((p, w) :: P.zip vs) m p = _
    unfold bindC
    rw [bindC_out fun v hv => (List.nodup_cons.mp nd).1 (List.of_mem_zip hv).1, if_neg hk]
    simp
  | p :: P, w :: vs, i + 1, m, nd, h1, h2, hk => by
    show bindC kindOf ((p, w) :: P.zip vs) m x = _
    unfold bindC
    exact bindC_get (i := i) (List.nodup_cons.mp nd).2 (by simpa using h1) (by simpa using h2) hk
noncomputable def start (N : List Str) (vs : List V) : St := vs.map some ++ List.replicate (N.length - vs.length) none
noncomputable def cxOf (CX : CXT) (P : Program) (w : World) (K : PySem.W.Frag) (mg : Str → Option Value) (base : Heap) (N : List Str) (qual : Str) (scope : Scope) (f : Addr) (cd : Value) (A : Around) (outer : List Env) (s : Shared) (H : Hp) (E : XK) : Cx where
  prog := P
  w := w
  K := K
  mg := mg
  base := base
  A := A.deeper (envOfC qual scope s.heap.objs.size f cd)
  N := N
  s₀ := s
  H₀ := H
  env := envOfC qual scope s.heap.objs.size f cd
  outer := outer
  stack := envOfC qual scope s.heap.objs.size f cd :: outer
  ex := []
  calm := true
  fn := fun _ => true
  pn := []
  xe := fun e s' => wpAny (model P w) (A.deeper (envOfC qual scope s.heap.objs.size f cd)) (leaving (envOfC qual scope s.heap.objs.size f cd) e) (fun _ s'' => CX outer H s E e s'') (fun e' s'' => CX outer H s E e' s'') s'
theorem cell_has {sc : Scope} {n : Nat} {x : Str} (h : sc.names.lookup x = some .cell) : ∃ c, (cellsFrom n sc.names []).lookup x = some c := by
  have q := PySem.W.cellsFrom_some sc.names n [] (.inl h)
  exact Option.isSome_iff_exists.mp q
theorem inv_start {CX : CXT} {P : Program} {w : World} {K : PySem.W.Frag} {mg : Str → Option Value} {base : Heap} {N ps : List Str} {qual : Str} {scope : Scope} {f : Addr} {cd : Value} {A : Around} {outer : List Env} {s s1 : Shared} {H : Hp} {E : XK} {us : List Value} {vs : List V}
    (S : FnScope N ps scope) (hd : A.handled = none) (e0 : Env0 P w K mg base A outer s H) (hl : vs.length = ps.length) (r : Vals vs us)
    (x : InCallC s s.heap.objs.size (bindL (envOfC qual scope s.heap.objs.size f cd).kindOf (ps.zip us) fun _ => none) (cellsFrom (s.heap.objs.size + 1) scope.names []) (bindC (envOfC qual scope s.heap.objs.size f cd).kindOf (ps.zip us) fun _ => none) s1) :
    Inv (cxOf CX P w K mg base N qual scope f cd A outer s H E) [] (start N vs) H s1 := by
  have hpl : ps.length ≤ N.length := by have := congrArg List.length S.pre; rw [List.length_take] at this; omega
  obtain ⟨h1, tk, rfl, hk⟩ := x.done
  have noA : ∀ b : Addr, b ∉ (cxOf CX P w K mg base N qual scope f cd A outer s H E).ex := fun b z => absurd (show b ∈ ([] : List Addr) from z) (by simp)
  refine ⟨⟨e0.mod, S.kind, rfl, rfl, Nat.le_refl _, fun y z c h1 h2 => ?_, fun y hy => ?_, fun y c _ h => ?_, fun _ => hd, Around.frames_deeper e0.frames, .inr ⟨rfl, rfl⟩, fun b z => absurd z (noA b), e0.bs, e0.bsz, fun b _ _ => noA b, fun b z => absurd z (noA b), e0.funs, e0.frf⟩,
    rfl, e0.bare, Un.kept hk, ⟨_, x.toInCall.ns, fun i y v h1 h2 h3 => ?_⟩, fun y c h => ⟨_, x.cell y c h⟩, e0.hok.fresh (Nat.le_refl _), fun y c h => ?_, fun p hp => absurd (show p ∈ ([] : List (Addr × Obj)) from hp) (by simp), e0.hok.kept hk, ?_⟩
  · exact name_of_addr x.apart (PySem.mem_of_lookup h1) (PySem.mem_of_lookup h2)
  · have hy : scope.names.lookup y = some .cell ∨ scope.names.lookup y = some .free := hy
    rcases hy with hy | hy
    · exact cell_has hy
    · exact absurd rfl (S.nofree _ (PySem.mem_of_lookup hy))
  · exact Nat.le_of_lt (x.above y c (PySem.mem_of_lookup h))
  · have hi : i < vs.length := by
      unfold start at h2
      by_cases hi : i < vs.length
      · exact hi
      · rw [List.getElem?_append_right (by simpa using hi)] at h2
        rw [List.getElem?_replicate] at h2
        split at h2 <;> cases h2
    have ha : vs[i]? = some v := by
      unfold start at h2
      rw [List.getElem?_append_left (by simpa using hi), List.getElem?_map] at h2
      cases e : vs[i]? with
      | none => rw [e] at h2; cases h2
      | some a => rw [e] at h2; cases h2; rfl
    obtain ⟨u, hu, rv⟩ := r.get ha
    have hp : ps[i]? = some y := by
      rw [← S.pre, List.getElem?_take_of_lt (by omega)]; exact h1
    have ndP : ps.Nodup := by rw [← S.pre]; exact S.nd.sublist (List.take_sublist _ _)
    refine ⟨u, rv, ?_⟩
    rcases S.par y (List.mem_of_getElem? hp) with k | k
    · exact .inl ⟨k, bindL_get ndP hp hu k⟩
    · obtain ⟨c, e⟩ := cell_has (n := s.heap.objs.size + 1) k
      refine .inr ⟨.inl k, c, e, ?_⟩
      have q := x.cell y c e
      rw [bindC_get ndP hp hu (by show scope.names.lookup y ≠ _; rw [k]; decide)] at q
      exact q
  · exact e0.hok.fresh (Nat.le_of_lt (x.above y c (PySem.mem_of_lookup h)))
  · unfold start
    show _ = N.length
    rw [List.length_append, List.length_map, List.length_replicate]
    omega
theorem fn_of {CX : CXT} {P : Program} {w : World} {K : PySem.W.Frag} {mg : Str → Option Value} {base : Heap} {k : Nat} {f : Addr} {name qual : Str} {params : Arguments} {body : List Stmt} {scope : Scope} {dV kV doc pm cdv ct oc : Value} {an od : Option Addr}
    {osl : Array (Option Value)} {N ps : List Str} {sp : Sp} (lk : K.lookup f = some ⟨oc, od, .func (PySem.W.fnOf name qual params body scope dV kV doc pm an cdv ct), osl⟩) (hcd : PySem.W.codeIn K cdv qual = true) (S : FnScope N ps scope)
    (len : ∀ vs H Q E, sp vs H Q E → vs.length = ps.length)
    (hbody : ∀ (A : Around) (outer : List Env) (s : Shared) (H : Hp) (vs : List V) (Q : VK) (E : XK), Room k (A.deeper (envOfC qual scope s.heap.objs.size f cdv)) → sp vs H Q E →
      ∃ t, PSs (cxOf CX P w K mg base N qual scope f cdv A outer s H E) body t ∧ t { nx := fun _ H' => Q .non H', rt := Q } (start N vs) H) :
    FnOk P w K mg base CX (k + 1) f (PySem.W.fnOf name qual params body scope dV kV doc pm an cdv ct) ps sp := by
  refine ⟨len, fun A outer s H args us vs Q E hr e0 hb r hsp => ?_⟩
  have hl := len _ _ _ _ hsp
  have KX : K.In s.heap := e0.mod.kin.keeps fun b o e => (e0.bs b o e).1
  have lim : s.heap.NoLimit := e0.mod.nolimit.keeps fun b o e => (e0.bs b o e).1
  have hkind : ∀ y ∈ ps.zip us, scope.names.lookup y.1 = some .local ∨ (scope.names.lookup y.1 = some .cell ∧ ((cellsFrom (s.heap.objs.size + 1) scope.names []).lookup y.1).isSome = true) := fun ⟨n, v⟩ hy => by
    rcases S.par n (List.of_mem_zip hy).1 with q | q
    · exact .inl q
    · exact .inr ⟨q, PySem.W.cellsFrom_some _ _ _ (.inl q)⟩
  refine codeAny_call_function hr.depth (KX _ _ lk) rfl S.co S.gen rfl (PySem.W.codeRec_of KX hcd) (hb _ _ _ _ ?_)
  refine wpAny_newFunctionEnv_cells S.kind hkind fun env he s1 x => ?_
  subst he
  refine ⟨lim.keeps x.toInCall.keep, codeAny_func ?_⟩
  obtain ⟨t, ht, hq⟩ := hbody A outer s H vs Q E (hr.deeper _) hsp
  have I : Inv (cxOf CX P w K mg base N qual scope f cdv A outer s H E) [] (start N vs) H s1 := inv_start S hr.hd e0 hl r x
  refine wpAny_mono (ht [] s1 (start N vs) H _ I hq) (fun fl s' hs => ?_) fun e s' hs => hs
  have fin : ∀ {σ' : St} {H' : Hp} {v : V} {u : Value}, Inv (cxOf CX P w K mg base N qual scope f cdv A outer s H E) [] σ' H' s' → RelV v u → Q v H' → CE outer P w H s Q u s' :=
    fun {σ' H' v u} J rv q => ⟨v, H', J.os, J.bare, J.base, J.hok, rv, q⟩
  cases fl with
  | ret u =>
    obtain ⟨v, σ', H', J, rv, q⟩ := hs
    exact fin J rv q
  | next =>
    obtain ⟨σ', H', J, q⟩ := hs
    exact fin (v := V.non) (u := Value.none) J rfl q
  | brk =>
    obtain ⟨_, _, _, q⟩ := hs
    exact False.elim q
  | cont =>
    obtain ⟨_, _, _, q⟩ := hs
    exact False.elim q
end L2
namespace L2
open PySem PySem.Spec PyProof.Rows
section
variable {X : Cx} {x : Str} {p pos : Pos} {e : Expr} {es : List Expr} {t : TA} {id T : String} {r : List V → Hp → VK → Prop}
noncomputable def tCB (r : List V → Hp → VK → Prop) (t : TA) : TE := fun σ H Q => t σ H fun vs H1 => r vs H1 Q
theorem pe_callB (hc : CallR X (.builtin id) r) (hg : Gl X x) (hm : X.mg x = none) (hv : bootBuiltins x = some (.builtin id)) (ha : PA X (e :: es) t) (hn : x ≠ "__name__" := by decide) (hdb : (x == ("__debug__" : Str)) = false := by decide)
    (he : starEach (e :: es) X.env = (false, eval e X.env) :: starEach es X.env := by rfl) (hpl : (backTo pos (starEach es X.env)).any (·.1) = false := by rfl) : PE X (.Call (.Name x p) (e :: es) [] pos) (tCB r t) := by
  intro pins s σ H Q I h
  refine wpAny_Call_Name_kw (ld_blt I hg hm hv ?_ hn hdb)
  exact PyProof.Rows.callWith_builtin1 (thn (ha pos pins s σ H _ I h) fun us s1 ⟨vs, H1, I1, r1, q1⟩ => hc pins s1 σ H1 vs us Q I1 r1 q1) he hpl
theorem pe_callTy (hc : CallR X (.type T) r) (hg : Gl X x) (hm : X.mg x = none) (hv : bootBuiltins x = some (.type T)) (ha : PA X (e :: es) t) (hn : x ≠ "__name__" := by decide) (hdb : (x == ("__debug__" : Str)) = false := by decide)
    (he : starEach (e :: es) X.env = (false, eval e X.env) :: starEach es X.env := by rfl) (hpl : (backTo pos (starEach es X.env)).any (·.1) = false := by rfl) : PE X (.Call (.Name x p) (e :: es) [] pos) (tCB r t) := by
  intro pins s σ H Q I h
  refine wpAny_Call_Name_kw (ld_blt I hg hm hv ?_ hn hdb)
  exact PyProof.Rows.callWith_type1 (thn (ha pos pins s σ H _ I h) fun us s1 ⟨vs, H1, I1, r1, q1⟩ => hc pins s1 σ H1 vs us Q I1 r1 q1) he hpl
end
end L2
namespace L2
open PySem PySem.Spec PyProof.Rows
section
variable {κ : Type} [DecidableEq κ]
noncomputable def valV (kvs : List (κ × V)) (k : κ) : Option V := (kvs.find? fun kv => decide (kv.1 = k)).map (·.2)
noncomputable def putK (kvs : List (κ × V)) (k : κ) (v : V) : List (κ × V) :=
  if (kvs.any fun kv => decide (kv.1 = k)) = true then kvs.map (fun kv => if kv.1 = k then (kv.1, v) else kv) else kvs ++ [(k, v)]
theorem valV_pos {p : κ × V} {r : List (κ × V)} {k : κ} (e : p.1 = k) : valV (p :: r) k = some p.2 := by simp [valV, List.find?_cons, e]
theorem valV_neg {p : κ × V} {r : List (κ × V)} {k : κ} (e : ¬ p.1 = k) : valV (p :: r) k = valV r k := by simp [valV, List.find?_cons, e]
theorem valV_any (k : κ) : ∀ kvs : List (κ × V), (kvs.any fun kv => decide (kv.1 = k)) = (valV kvs k).isSome
  | [] => rfl
  | p :: r => by
    rw [List.any_cons]
    by_cases e : p.1 = k
    · simp only [valV_pos e, decide_eq_true e, Bool.true_or, Option.isSome_some]
    · rw [valV_neg e, decide_eq_false e, Bool.false_or]; exact valV_any k r
theorem length_putK (kvs : List (κ × V)) (k : κ) (v : V) : (putK kvs k v).length ≤ kvs.length + 1 := by
  unfold putK
  split
  · rw [List.length_map]; omega
  · rw [List.length_append, List.length_cons, List.length_nil]; omega
theorem RelO.isSome_eq {o : Option V} {u : Option Value} (r : RelO o u) : o.isSome = u.isSome := by
  cases o with
  | none => cases u with
    | none => rfl
    | some _ => exact (show False from r).elim
  | some _ => cases u with
    | none => exact (show False from r).elim
    | some _ => rfl
theorem KV.val {kvs : List (κ × V)} {vs : List (κ × Value)} (r : KV kvs vs) (k : κ) : RelO (valV kvs k) (valueAt vs k) := by
  unfold KV at r
  induction r with
  | nil => exact True.intro
  | @cons p q ps qs h t ih =>
    obtain ⟨h1, h2⟩ := h
    by_cases e : p.1 = k
    · have e' : q.1 = k := h1.symm.trans e
      have b : valueAt (q :: qs) k = some q.2 := by simp [valueAt, List.find?_cons, e']
      rw [valV_pos e, b]; exact h2
    · have e' : ¬ q.1 = k := fun z => e (h1.trans z)
      have b : valueAt (q :: qs) k = valueAt qs k := by simp [valueAt, List.find?_cons, e']
      rw [valV_neg e, b]; exact ih
theorem KV.any {kvs : List (κ × V)} {vs : List (κ × Value)} (r : KV kvs vs) (k : κ) : (kvs.any fun kv => decide (kv.1 = k)) = vs.any fun kv => decide (kv.1 = k) := by
  unfold KV at r
  induction r with
  | nil => rfl
  | cons h t ih => rw [List.any_cons, List.any_cons, ih, h.1]
theorem KV.repl {kvs : List (κ × V)} {vs : List (κ × Value)} (r : KV kvs vs) (k : κ) {y : V} {u : Value} (ry : RelV y u) :
    KV (kvs.map fun kv => if kv.1 = k then (kv.1, y) else kv) (vs.map fun kv => if kv.1 = k then (kv.1, u) else kv) := by
  unfold KV at r ⊢
  induction r with
  | nil => exact .nil
  | @cons p q ps qs h t ih =>
    rw [List.map_cons, List.map_cons]
    refine .cons ?_ ih
    obtain ⟨h1, h2⟩ := h
    by_cases e : p.1 = k
    · rw [if_pos e, if_pos (h1.symm.trans e)]; exact ⟨h1, ry⟩
    · rw [if_neg e, if_neg (fun z => e (h1.trans z))]; exact ⟨h1, h2⟩
theorem KV.put {kvs : List (κ × V)} {vs : List (κ × Value)} (r : KV kvs vs) (k : κ) {y : V} {u : Value} (ry : RelV y u) : KV (putK kvs k y) (stored vs k u) := by
  unfold putK stored
  rw [r.any k]
  by_cases e : (vs.any fun kv => decide (kv.1 = k)) = true
  · rw [if_pos e, if_pos e]; exact r.repl k ry
  · rw [if_neg e, if_neg e]; exact Paired.snoc r ⟨rfl, ry⟩
theorem KV.length {kvs : List (κ × V)} {vs : List (κ × Value)} (r : KV kvs vs) : kvs.length = vs.length := Paired.length r
end
theorem kV_is {P : Program} {w : World} {k : Key} {u : Value} (r : RelV (kV k) u) : (mixKind P w).is k u = true := by
  cases k with
  | inl i => obtain ⟨t, e⟩ := (show ∃ t, u = Value.int i t from r); subst e; exact mixKind_int P w i t
  | inr x => obtain ⟨t, e⟩ := (show ∃ t, u = Value.str x t from r); subst e; exact mixKind_str P w x t
theorem items_are {P : Program} {w : World} : ∀ {ks : List Key} {us : List Value}, Vals (ks.map kV) us → ItemsAre (mixKind P w) ks us
  | [], _, r => by rw [List.map_nil] at r; cases r; exact .nil
  | k :: ks, _, r => by
    rw [List.map_cons] at r
    cases r with
    | cons h t => exact .cons (kV_is h) (items_are t)
noncomputable abbrev KT (H : Hp) : List (List Key × V) → List (List Key × Addr × Value) → Prop := Paired fun p q => p.1 = q.1 ∧ H q.2.1 = some (.tup (p.1.map kV)) ∧ RelV p.2 q.2.2
theorem KT.val {H : Hp} {kvs : List (List Key × V)} {xs : List (List Key × Addr × Value)} (r : KT H kvs xs) (k : List Key) : RelO (valV kvs k) ((atKey xs k).map (·.2)) := by
  induction r with
  | nil => exact True.intro
  | @cons p q ps qs h t ih =>
    obtain ⟨h1, _, h2⟩ := h
    by_cases e : p.1 = k
    · have e' : q.1 = k := h1.symm.trans e
      have b : atKey (q :: qs) k = some q.2 := by simp [atKey, List.find?_cons, e']
      rw [valV_pos e, b]; exact h2
    · have e' : ¬ q.1 = k := fun z => e (h1.trans z)
      have b : atKey (q :: qs) k = atKey qs k := by simp [atKey, List.find?_cons, e']
      rw [valV_neg e, b]; exact ih
theorem KT.repl {H : Hp} {kvs : List (List Key × V)} {xs : List (List Key × Addr × Value)} (r : KT H kvs xs) (k : List Key) {y : V} {u : Value} (ry : RelV y u) :
    KT H (kvs.map fun kv => if kv.1 = k then (kv.1, y) else kv) (xs.map (putAt k u)) := by
  induction r with
  | nil => exact .nil
  | @cons p q ps qs h t ih =>
    rw [List.map_cons, List.map_cons]
    refine .cons ?_ ih
    obtain ⟨h1, h2, h3⟩ := h
    unfold putAt
    by_cases e : p.1 = k
    · rw [if_pos e, if_pos (h1.symm.trans e)]; exact ⟨h1, h2, ry⟩
    · rw [if_neg e, if_neg (fun z => e (h1.trans z))]; exact ⟨h1, h2, h3⟩
theorem KT.put {H : Hp} {kvs : List (List Key × V)} {xs : List (List Key × Addr × Value)} (r : KT H kvs xs) (k : List Key) {b : Addr} {y : V} {u : Value} (hb : H b = some (.tup (k.map kV))) (ry : RelV y u) :
    KT H (putK kvs k y) (storedH xs k b u) := by
  have e : (kvs.any fun kv => decide (kv.1 = k)) = (atKey xs k).isSome := by
    rw [valV_any, (r.val k).isSome_eq, Option.isSome_map]
  unfold putK storedH
  rw [e]
  by_cases q : (atKey xs k).isSome = true
  · rw [if_pos q, if_pos q]; exact r.repl k ry
  · rw [if_neg q, if_neg q]; exact Paired.snoc r ⟨rfl, hb, ry⟩
theorem KT.keeps {H H' : Hp} {kvs : List (List Key × V)} {xs : List (List Key × Addr × Value)} (r : KT H kvs xs) (ht : ∀ b ys, H b = some (.tup ys) → H' b = some (.tup ys)) : KT H' kvs xs :=
  Paired.mapP r fun _ _ z => ⟨z.1, ht _ _ z.2.1, z.2.2⟩
section
variable {P : Program} {w : World} {H : Hp} {h : Heap} {a : Addr}
theorem rd_of {u : HO} (ok : HOk P w H h) (e : Rd H a u) : ObjOk P w H h a u := e.ok ok
theorem dk_rd {kvs : List (Key × V)} (ok : HOk P w H h) (e : Rd H a (.dK kvs)) : kvs.length ≤ sizeLine ∧ (a == sysModules) = false ∧ ∃ vs, KV kvs vs ∧ h.DictOf (mixKind P w) a vs :=
  show ObjOk P w H h a (.dK kvs) from rd_of ok e
theorem dk_of {kvs : List (Key × V)} (ok : HOk P w H h) (e : H a = some (.dK kvs)) : kvs.length ≤ sizeLine ∧ (a == sysModules) = false ∧ ∃ vs, KV kvs vs ∧ h.DictOf (mixKind P w) a vs := dk_rd ok (.inl e)
theorem key_of {ks : List Key} (ok : HOk P w H h) (e : H a = some (.tup (ks.map kV))) : (tupleKind (mixKind P w)).is h ks a := by
  obtain ⟨_, its, r, o, h1, h2, n, h3⟩ := (show ObjOk P w H h a (.tup (ks.map kV)) from ok a _ e)
  exact ⟨o, its.toArray, n, h1, h2, h3, by simpa using items_are r⟩
theorem dt_rd {kvs : List (List Key × V)} (ok : HOk P w H h) (e : Rd H a (.dT kvs)) : kvs.length ≤ sizeLine ∧ (a == sysModules) = false ∧
    ∃ xs, KT H kvs xs ∧ h.DictOfH (tupleKind (mixKind P w)) a xs := by
  obtain ⟨z, y, xs, r, o, es, ep, h1, h2, h3, h4, h5⟩ := (show ObjOk P w H h a (.dT kvs) from rd_of ok e)
  refine ⟨z, y, xs, r, o, es, ep, h1, h2, h3, h4, fun x hx => ?_, h5⟩
  have all : ∀ {l : List (List Key × V)} {m : List (List Key × Addr × Value)}, KT H l m → ∀ x ∈ m, (tupleKind (mixKind P w)).is h x.1 x.2.1 := by
    intro l m q
    induction q with
    | nil => intro x hx; exact nomatch hx
    | @cons p q ps qs hq t ih =>
      intro x hx
      rcases List.mem_cons.mp hx with e | hx
      · subst e
        exact key_of ok (by rw [← hq.1]; exact hq.2.1)
      · exact ih x hx
  exact all r x hx
theorem dt_of {kvs : List (List Key × V)} (ok : HOk P w H h) (e : H a = some (.dT kvs)) : kvs.length ≤ sizeLine ∧ (a == sysModules) = false ∧
    ∃ xs, KT H kvs xs ∧ h.DictOfH (tupleKind (mixKind P w)) a xs := dt_rd ok (.inl e)
end
noncomputable def DGet (H : Hp) (a : Addr) (y : V) (r : Option V) : Prop :=
  (∃ kvs k, Rd H a (.dK kvs) ∧ y = kV k ∧ r = valV kvs k) ∨ ∃ kvs k b, Rd H a (.dT kvs) ∧ y = .ref b ∧ H b = some (.tup (k.map kV)) ∧ r = valV kvs k
noncomputable def DPut (H : Hp) (a : Addr) (y v : V) (H' : Hp) : Prop :=
  (∃ kvs k, H a = some (.dK kvs) ∧ y = kV k ∧ kvs.length < sizeLine ∧ H' = upd H a (.dK (putK kvs k v))) ∨
  ∃ kvs k b, H a = some (.dT kvs) ∧ y = .ref b ∧ H b = some (.tup (k.map kV)) ∧ kvs.length < sizeLine ∧ H' = upd H a (.dT (putK kvs k v))
theorem DGet.k {H : Hp} {a : Addr} {kvs : List (Key × V)} {k : Key} (e : H a = some (.dK kvs)) : DGet H a (kV k) (valV kvs k) := .inl ⟨kvs, k, .inl e, rfl, rfl⟩
theorem DPut.k {H : Hp} {a : Addr} {kvs : List (Key × V)} {k : Key} {v : V} (e : H a = some (.dK kvs)) (hl : kvs.length < sizeLine) : DPut H a (kV k) v (upd H a (.dK (putK kvs k v))) := .inl ⟨kvs, k, e, rfl, hl, rfl⟩
section
variable {X : Cx} {pins : List (Addr × Obj)} {σ : St} {H : Hp} {s : Shared} {a : Addr} {y v : V} {u r : Value} {o : Option V} {A : Around} {E : Value → Shared → Prop}
theorem Inv.big (I : Inv X pins σ H s) : sysModules < s.heap.objs.size := by
  have h : mainGlobals < s.heap.objs.size := (I.mod.glob.keeps I.bk).lt
  exact Nat.lt_trans (by decide) h
theorem d_getItem {Q : Value → Shared → Prop} (hu : A.units + 1 < cLine) (I : Inv X pins σ H s) (g : DGet H a y (some v)) (ry : RelV y u) (h : ∀ w' s', Inv X pins σ H s' → RelV v w' → Q w' s') :
    wpAny (model X.prog X.w) A (getItem (.ref a) u) Q E s := by
  rcases g with ⟨kvs, k, e, ey, l⟩ | ⟨kvs, k, b, e, ey, eb, l⟩
  · subst ey
    obtain ⟨z, hd, vs, rel, dd⟩ := dk_rd I.hok e
    obtain ⟨w', hw, rw'⟩ := RelO.some_of (v := v) (o := valueAt vs k) (by rw [l]; exact rel.val k)
    exact wpAny_getItem_of (kV_is ry) dd.mapOf hw (h w' _ (I.tok _) rw')
  · subst ey
    cases (show u = Value.ref b from ry)
    obtain ⟨z, hd, xs, rel, dd⟩ := dt_rd I.hok e
    obtain ⟨w', hw, rw'⟩ := RelO.some_of (v := v) (o := (atKey xs k).map (·.2)) (by rw [l]; exact rel.val k)
    obtain ⟨p, hp, hp2⟩ := Option.map_eq_some_iff.mp hw
    refine wpAny_getItem_heap (tupleKind_room_in1 hu) (key_of I.hok eb) dd hp ?_
    rw [hp2]
    exact h w' _ (I.tok _) rw'
theorem d_write {h' : Heap} {t' : Nat} {ob : HO} (I : Inv X pins σ H s) (mu : Mut (H a)) (hs : Heap.SameBut a s.heap h') (he : ∃ q, h'.get? a = some q) (new : ObjOk X.prog X.w (upd H a ob) h' a ob) :
    Inv X pins σ (upd H a ob) { s with heap := h', toks := t' } :=
  I.write (x := a) (e := a) mu (.inl rfl) (fun b q hb z => (hs.2 b hb).trans z) he new
theorem dk_new {P : Program} {w : World} {H' : Hp} {h' : Heap} {kvs : List (Key × V)} {vs : List (Key × Value)} (z : kvs.length ≤ sizeLine) (hd : (a == sysModules) = false) (rel : KV kvs vs) (dd : h'.DictOf (mixKind P w) a vs) :
    ObjOk P w H' h' a (.dK kvs) := ⟨z, hd, vs, rel, dd⟩
theorem d_setItem {H' : Hp} {Q : Unit → Shared → Prop} (hu : A.units + 1 < cLine) (I : Inv X pins σ H s) (g : DPut H a y v H') (ry : RelV y u) (rv : RelV v r) (h : ∀ s', Inv X pins σ H' s' → Q () s') :
    wpAny (model X.prog X.w) A (setItem (.ref a) u r) Q E s := by
  rcases g with ⟨kvs, k, e, ey, l, eH⟩ | ⟨kvs, k, b, e, ey, eb, l, eH⟩
  · subst ey eH
    obtain ⟨z, hd, vs, rel, dd⟩ := dk_of I.hok e
    have hz : vs.length ≤ sizeLine := by rw [← rel.length]; exact z
    have hl : (putK kvs k v).length ≤ sizeLine := by have := length_putK kvs k v; omega
    refine wpAny_setItem_pairs (hsz := hz) (kV_is ry) dd fun h' dd' hs => h _ ?_
    have he : ∃ q, h'.get? a = some q := let ⟨q, _, _, hq, _⟩ := dd'; ⟨q, hq⟩
    exact d_write I (by rw [e]; exact True.intro) hs he (dk_new hl hd (rel.put k rv) dd')
  · subst ey eH
    cases (show u = Value.ref b from ry)
    obtain ⟨z, hd, xs, rel, dd⟩ := dt_of I.hok e
    have hz : xs.length ≤ sizeLine := by rw [← Paired.length rel]; exact z
    have hl : (putK kvs k v).length ≤ sizeLine := by have := length_putK kvs k v; omega
    refine wpAny_setItem_heap (hsz := hz) (tupleKind_room_in1 hu) (key_of I.hok eb) dd fun h' dd' hs => h _ ?_
    obtain ⟨q, es, ep, hq, h2, h3, h4, _, h5⟩ := dd'
    refine d_write I (by rw [e]; exact True.intro) hs ⟨q, hq⟩ ⟨hl, hd, _, (rel.put k eb rv).keeps fun c ys ec => ?_, q, es, ep, hq, h2, h3, h4, h5⟩
    rw [upd_ne (ne_of ec e (fun z => nomatch z))]
    exact ec
end
section
variable {X : Cx} {pins : List (Addr × Obj)} {σ : St} {H : Hp} {s : Shared} {a : Addr} {kvs : List (Key × V)} {k : Key} {u : Value} {A : Around} {E : Value → Shared → Prop}
theorem d_len {Q : Value → Shared → Prop} (I : Inv X pins σ H s) (e : Rd H a (.dK kvs)) (h : ∀ t s', Inv X pins σ H s' → Q (.int kvs.length t) s') : wpAny (model X.prog X.w) A (call (.builtin "len") [.ref a]) Q E s := by
  obtain ⟨z, hd, vs, rel, dd⟩ := dk_rd I.hok e
  refine call_len_dict hd dd (by rw [← rel.length]; rw [sizeLine_eq] at z; omega) ?_
  rw [← rel.length]
  exact h _ _ (I.tok _)
end
noncomputable def NoSl (i : Expr) : Prop := ∀ ov iv, subscripted i false ov iv = operate [ov, iv] (getItem ov iv)
theorem subD_of {prog : Program} {w : World} {A : Around} {E : Value → Shared → Prop} {s : Shared} {env : Env} {value slice : Expr} {pos : Pos} {T id : String} {Q : Value → Shared → Prop}
    (hl : typeLookup (.type T) "__getitem__" = pure (some (.builtin id))) (hs : NoSl slice)
    (h : wpAny (model prog w) A (eval value env) (fun o s₁ => wpAny (model prog w) A (eval slice env) (fun i s₂ => s₂.TypeIs o T ∧ wpAny (model prog w) A (getItem o i) Q E s₂) E s₁) E s) :
    wpAny (model prog w) A (eval (.Subscript value slice pos) env) Q E s := by
  refine Subscript_ (wpAny_mono h (fun o s₁ h₁ => wpAny_mono h₁ (fun i s₂ h₂ => ?_) fun _ _ x => x) fun _ _ x => x)
  obtain ⟨hT, h₂⟩ := h₂
  unfold subscriptTail
  refine wpAny_bind ?_
  rw [getitemInPython_of_ne hT.not_modules]
  refine wpAny_bind (wpAny_specialOf hT hl ?_)
  have fin : wpAny (model prog w) A (subscripted slice false o i) (fun r s₃ => wpAny (model prog w) A (letTemporaryGo value o r >>= fun _ => pure r) Q E s₃) E s₂ := by
    rw [hs o i]
    exact wpAny_operating (wpAny_mono h₂ (fun r s₃ h₃ => wpAny_bind (wpAny_letTemporaryGo (wpAny_pure h₃))) fun _ _ x => x)
  first
    | exact wpAny_pure (wpAny_bind fin)
    | exact wpAny_bind (wpAny_pure (wpAny_bind fin))
    | exact wpAny_bind fin
theorem dict_typeIs {X : Cx} {pins : List (Addr × Obj)} {σ : St} {H : Hp} {s : Shared} {a : Addr} {y : V} {o : Option V} (I : Inv X pins σ H s) (g : DGet H a y o) : s.TypeIs (.ref a) "dict" := by
  rcases g with ⟨kvs, k, e, _, _⟩ | ⟨kvs, k, b, e, _, _, _⟩
  · obtain ⟨_, _, vs, _, dd⟩ := dk_rd I.hok e
    exact dd.typeIs
  · obtain ⟨_, _, xs, _, dd⟩ := dt_rd I.hok e
    exact dd.typeIs
noncomputable def tDGet (td ty : TE) : TE := fun σ H Q => td σ H fun x H1 => ty σ H1 fun y H2 => ∃ a v, x = .ref a ∧ DGet H2 a y (some v) ∧ Q v H2
noncomputable def sDPut (td ty tv : TE) : TS := fun D σ H => tv σ H fun v H1 => td σ H1 fun x H2 => ty σ H2 fun y H3 => ∃ a H4, x = .ref a ∧ DPut H3 a y v H4 ∧ D.nx σ H4
section
variable {X : Cx} {o i e value : Expr} {pos pos' tpos : Pos} {td ty tv : TE}
theorem pe_dget (hu : X.A.units + 1 < cLine) (ho : PE X o td) (hi : PE X i ty) (hs : NoSl i) : PE X (.Subscript o i pos) (tDGet td ty) := by
  intro pins s σ H Q I h
  refine subD_of PySem.F.slot_dict_getitem.lookup hs (thn (ho pins s σ H _ I h) fun u s1 ⟨x, H1, I1, rx, q1⟩ => thn (hi pins s1 σ H1 _ I1 q1) fun iv s2 ⟨y, H2, I2, ry, a, v, ex, g, q2⟩ => ?_)
  subst ex
  obtain rfl : u = Value.ref a := rx
  exact ⟨dict_typeIs I2 g, d_getItem hu I2 g ry fun w' s3 I3 rw' => ⟨v, H2, I3, rw', q2⟩⟩
theorem ps_dput (hu : X.A.units + 1 < cLine) (ho : PE X o td) (hi : PE X i ty) (hv : PE X value tv) (hs : swapsWith value (some (.Subscript o i pos')) pos.line X.env = pure false) :
    PS X (.Assign [.Subscript o i pos'] value pos) (sDPut td ty tv) := by
  intro pins s σ H D I h
  refine wpAny_Assign_Subscript (thn (hv pins s σ H _ I h) fun r s1 ⟨v, H1, I1, rv, q1⟩ => thn (ho pins s1 σ H1 _ I1 q1) fun u s2 ⟨x, H2, I2, rx, q2⟩ => thn (hi pins s2 σ H2 _ I2 q2) fun iv s3 ⟨y, H3, I3, ry, a, H4, ex, g, q3⟩ => ?_) hs
  subst ex
  obtain rfl : u = Value.ref a := rx
  exact d_setItem hu I3 g ry rv fun s4 I4 => ⟨σ, H4, I4, q3⟩
end
theorem dk_empty {P : Program} {w : World} {H : Hp} (h : Heap) (hb : sysModules < h.objs.size) : ObjOk P w H (h.push { cls := .type "dict", data := .dict #[] }) h.objs.size (.dK []) :=
  ⟨Nat.zero_le _, beq_eq_false_iff_ne.mpr (Ne.symm (Nat.ne_of_lt hb)), [], .nil, Heap.DictOf.new h⟩
section
variable {X : Cx} {pos : Pos}
end
noncomputable def tPairs : List (TE × TE) → St → Hp → (List (V × V) → Hp → Prop) → Prop
  | [], _, H, Q => Q [] H
  | (tk, tv) :: r, σ, H, Q => tk σ H fun x H1 => tv σ H1 fun y H2 => tPairs r σ H2 fun ps H3 => Q ((x, y) :: ps) H3
noncomputable abbrev VV : List (V × V) → List (Value × Value) → Prop := Paired fun p q => RelV p.1 q.1 ∧ RelV p.2 q.2
noncomputable def PPs (X : Cx) (pos : Pos) (keys : List (Option Expr)) (values : List Expr) (trs : List (TE × TE)) : Prop :=
  ∀ (pins : List (Addr × Obj)) (s : Shared) (σ : St) (H : Hp) (Q : List (V × V) → Hp → Prop), Inv X pins σ H s → tPairs trs σ H Q →
    wpAny (model X.prog X.w) X.A (evalPairs (pairTrees keys values X.env pos)) (fun vs s' => ∃ ps H', Inv X pins σ H' s' ∧ VV ps vs ∧ Q ps H') X.xe s
theorem pps_nil {X : Cx} {pos : Pos} : PPs X pos [] [] [] := fun pins s σ H Q I h => pairTrees_nil_walk ⟨[], H, I, .nil, h⟩
theorem pps_cons {X : Cx} {pos : Pos} {k v : Expr} {ks : List (Option Expr)} {vs : List Expr} {tk tv : TE} {trs : List (TE × TE)} (hk : PE X k tk) (hv : PE X v tv) (hr : PPs X pos ks vs trs) :
    PPs X pos (some k :: ks) (v :: vs) ((tk, tv) :: trs) := fun pins s σ H Q I h =>
  pairTrees_cons_walk (thn (hk pins s σ H _ I h) fun u s1 ⟨x, H1, I1, rx, q1⟩ => thn (hv pins s1 σ H1 _ I1 q1) fun w2 s2 ⟨y, H2, I2, ry, q2⟩ =>
    thn (hr pins s2 σ H2 _ I2 q2) fun ws s3 ⟨ps, H3, I3, rel, q3⟩ => ⟨(x, y) :: ps, H3, I3, .cons ⟨rx, ry⟩ rel, q3⟩)
noncomputable def mergeK (kvs more : List (Key × V)) : List (Key × V) := more.foldl (fun acc kv => putK acc kv.1 kv.2) kvs
theorem KV.merge : ∀ {more : List (Key × V)} {rs : List (Key × Value)} {kvs : List (Key × V)} {vs : List (Key × Value)}, KV more rs → KV kvs vs → KV (mergeK kvs more) (merged vs rs) := by
  intro more rs kvs vs r
  unfold KV at r
  induction r generalizing kvs vs with
  | nil => intro q; exact q
  | @cons p q ps qs h t ih =>
    intro r0
    have e : KV (putK kvs p.1 p.2) (stored vs q.1 q.2) := by
      have := r0.put p.1 h.2
      rw [← h.1]; exact this
    exact ih e
theorem length_mergeK : ∀ (more kvs : List (Key × V)), (mergeK kvs more).length ≤ kvs.length + more.length
  | [], kvs => by show kvs.length ≤ kvs.length + 0; omega
  | p :: r, kvs => by
    have h1 := length_mergeK r (putK kvs p.1 p.2)
    have h2 := length_putK kvs p.1 p.2
    show (mergeK (putK kvs p.1 p.2) r).length ≤ _
    rw [List.length_cons]; omega
theorem carries_of {P : Program} {w : World} : ∀ {kvs : List (Key × V)} {ws : List (Value × Value)}, VV (kvs.map fun kv => (kV kv.1, kv.2)) ws → ∃ rs, Carries (mixKind P w) ws rs ∧ KV kvs rs
  | [], _, r => by rw [List.map_nil] at r; cases r; exact ⟨[], True.intro, .nil⟩
  | p :: kvs, _, r => by
    rw [List.map_cons] at r
    cases r with
    | @cons a b as bs h t =>
      obtain ⟨rs, c, q⟩ := carries_of (P := P) (w := w) t
      obtain ⟨b1, b2⟩ := b
      exact ⟨(p.1, b2) :: rs, ⟨kV_is h.1, rfl, c⟩, .cons ⟨rfl, h.2⟩ q⟩
noncomputable def tDisp (trs : List (TE × TE)) : TE := fun σ H Q => ∀ p, H p = none → tPairs trs σ (upd H p (.dK [])) fun ps H2 => H2 p = some (.dK []) ∧ ∃ kvs : List (Key × V), ps = kvs.map (fun kv => (kV kv.1, kv.2)) ∧ kvs.length ≤ 15 ∧ Q (.ref p) (upd H2 p (.dK (mergeK [] kvs)))
theorem pe_disp {X : Cx} {pos : Pos} {keys : List (Option Expr)} {values : List Expr} {trs : List (TE × TE)} (h : PPs X pos keys values trs) (hall : keys.all (·.isSome) = true) (hl : keys.length = values.length) (h0 : keys ≠ [])
    (h15 : keys.length ≤ 15) : PE X (.Dict keys values pos) (tDisp trs) := by
  intro pins s σ H Q I q
  have hn := I.hok.fresh (Nat.le_refl s.heap.objs.size)
  have I1 := I.laid (a := s.heap.objs.size) (o := .dK []) (h' := s.heap.push { cls := .type "dict", data := .dict #[] }) (t' := s.toks) (fun _ _ q => Heap.get?_push_of_some _ q) (Nat.le_refl _) (dk_empty s.heap I.big)
  refine wpAny_Dict_walk (knd := mixKind X.prog X.w) hall hl h0 h15 (thn (h pins _ σ _ _ I1 (q _ hn)) fun ws s2 ⟨ps, H2, I2, rel, e, kvs, ep, lk, q2⟩ => ?_)
  subst ep
  obtain ⟨rs, c, rk⟩ := carries_of (P := X.prog) (w := X.w) rel
  obtain ⟨z, hd, vs0, r0, dd⟩ := dk_of I2.hok e
  cases r0
  refine ⟨rs, c, dd, fun h' dd' hs => ⟨.ref s.heap.objs.size, _, ?_, rfl, q2⟩⟩
  have hz : (mergeK [] kvs).length ≤ sizeLine := by
    have h1 := length_mergeK kvs []
    rw [List.length_nil] at h1
    rw [sizeLine_eq]; omega
  have he : ∃ q, h'.get? s.heap.objs.size = some q := let ⟨q, _, _, hq, _⟩ := dd'; ⟨q, hq⟩
  exact d_write I2 (by rw [e]; exact True.intro) hs he (dk_new hz hd (rk.merge .nil) dd')
section
variable {X : Cx} {pins : List (Addr × Obj)} {σ : St} {H : Hp} {s : Shared} {a : Addr} {y d : V} {u r : Value} {o : Option V} {A : Around} {E : Value → Shared → Prop}
end
section
variable {X : Cx} {o e f : Expr} {apos cpos : Pos} {td ty tx : TE}
end
section
variable {X : Cx} {pins : List (Addr × Obj)} {σ : St} {H : Hp} {s : Shared} {a : Addr} {kvs : List (Key × V)} {A : Around} {E : Value → Shared → Prop}
end
section
variable {X : Cx} {pins : List (Addr × Obj)} {σ : St} {H : Hp} {s : Shared} {a : Addr} {y : V} {u : Value} {A : Around} {E : Value → Shared → Prop}
end
end L2
namespace HT
open PySem PyProof.Rows
section
open PySem.SeqAt
open PySem.AutoSeq1 (wpAny_loadPart')
open PySem.MeetsSeq PySem.MeetsSeq2 PySem.MeetsSeq3
end
section
variable {prog : Program} {w : World} {A : Around} {E : Value → Shared → Prop} {s : Shared}
theorem cat_tup {t b : Addr} {vs ws : List Value} {Q : Value → Shared → Prop} (ht : IsTup s.heap t vs.toArray) (hb : IsTup s.heap b ws.toArray) (hv : vs ≠ [])
    (h1 : ws = [] → Q (.ref t) s) (h2 : ws ≠ [] → Q (.ref s.heap.objs.size) { s with heap := s.heap.push { cls := .type "tuple", data := .seq (vs ++ ws).toArray } })
    (hsz : vs.length + ws.length ≤ sizeLine) : wpAny (model prog w) A (binaryOp .Add (.ref t) (.ref b)) Q E s := by
  obtain ⟨⟨cls, dd, data, sl⟩, ho, hc, n, hd⟩ := id ht
  obtain ⟨⟨cls2, dd2, data2, sl2⟩, ho2, hc2, n2, hd2⟩ := id hb
  simp only at hc hd hc2 hd2
  subst hc hd hc2 hd2
  have e : vs.toArray ++ ws.toArray = (vs ++ ws).toArray := by simp
  by_cases hw : ws = []
  · exact concat_meets ⟨_, ho, rfl⟩ ⟨_, ho2, rfl⟩ noFill_tuple_add seq_tuple_add PySem.F.slot_tuple_add PySem.F.entry_tuple_add (PySem.F.args_tuple_add_2 _ _)
      (tuple_addW1 t b vs.toArray ws.toArray n n2 dd dd2 sl sl2 (by simpa using hv) (by simp [hw])) ⟨ho, ho2, h1 hw⟩
  · refine concat_meets ⟨_, ho, rfl⟩ ⟨_, ho2, rfl⟩ noFill_tuple_add seq_tuple_add PySem.F.slot_tuple_add PySem.F.entry_tuple_add (PySem.F.args_tuple_add_2 _ _)
      (tuple_addW2 t b vs.toArray ws.toArray n n2 dd dd2 sl sl2 (by simpa using hv) (by simpa using hw) (by rw [List.size_toArray, List.size_toArray]; exact hsz)) ⟨ho, ho2, ?_⟩
    rw [e]
    exact h2 hw
noncomputable def sIx (n d : Nat) : Option Int → Nat
  | none => d
  | some v => if v < 0 then (v + (n : Int)).toNat else min v.toNat n
theorem sIx_nat (n d k : Nat) : sIx n d (some (k : Int)) = min k n := by
  show (if (k : Int) < 0 then ((k : Int) + (n : Int)).toNat else min (k : Int).toNat n) = min k n
  rw [if_neg (by omega), Int.toNat_natCast]
theorem sIx_le (n d : Nat) (hd : d ≤ n) (o : Option Int) : sIx n d o ≤ n := by
  cases o with
  | none => exact hd
  | some v =>
    show (if v < 0 then (v + (n : Int)).toNat else min v.toNat n) ≤ n
    by_cases hv : v < 0
    · rw [if_pos hv]; omega
    · rw [if_neg hv]; exact Nat.min_le_right _ _
theorem clip_eq (v : Int) (n d : Nat) : (if v < 0 then max (v + (n : Int)) 0 else min v (n : Int)) = ((sIx n d (some v) : Nat) : Int) := by
  show (if v < 0 then max (v + (n : Int)) 0 else min v (n : Int)) = (((if v < 0 then (v + (n : Int)).toNat else min v.toNat n) : Nat) : Int)
  by_cases hv : v < 0
  · simp only [if_pos hv]; omega
  · simp only [if_neg hv]; omega
theorem adjust_gen (lo hi : Option Int) (n : Nat) : Builtin.Slice.sliceAdjust lo hi 1 (n : Int) = (((sIx n 0 lo : Nat) : Int), ((sIx n n hi : Nat) : Int)) := by
  have h1 : ¬ ((1 : Int) < 0) := by omega
  unfold Builtin.Slice.sliceAdjust
  simp only [h1, if_false]
  refine Prod.ext ?_ ?_
  · cases lo with
    | none => rfl
    | some v => exact clip_eq v n 0
  · cases hi with
    | none => rfl
    | some v => exact clip_eq v n n
theorem places_gen (i j : Nat) : Builtin.Slice.slicePlaces (i : Int) (j : Int) 1 = j - i := by
  unfold Builtin.Slice.slicePlaces
  have h1 : (1 : Int) > 0 := by omega
  simp only [h1, if_true, Int.ediv_one]
  split <;> omega
theorem slicePart_ {v : Value} {o : Option Int} {Q : Option Int → Shared → Prop} (p : IsPart v o) (h : Q o s) : wpAny (model prog w) A (Builtin.Slice.slicePartIndex v) Q E s := by
  cases p with
  | none => exact slicePart_none h
  | int i t => exact slicePart_int h
theorem sliceApplied_gen {sl : Addr} {vl vu : Value} {lo hi : Option Int} {n : Nat} {Q : Int × Int × Nat → Shared → Prop} (hs : s.heap.IsSliceOf sl vl vu .none) (pl : IsPart vl lo) (pu : IsPart vu hi)
    (h : Q (((sIx n 0 lo : Nat) : Int), 1, sIx n n hi - sIx n 0 lo) s) : wpAny (model prog w) A (Builtin.Slice.sliceApplied (.ref sl) (pure (n : Int))) Q E s := by
  obtain ⟨os, hos, hcs, hds⟩ := id hs
  unfold Builtin.Slice.sliceApplied Builtin.Slice.sliceFields
  refine wpAny_bind (wpAny_bind (wpAny_field hos hds (x := vl) rfl (wpAny_bind (wpAny_field hos hds (x := vu) rfl (wpAny_bind (wpAny_field hos hds (x := .none) rfl (wpAny_pure ?_)))))))
  refine wpAny_bind (slicePart_none ?_)
  show wpAny _ _ (if ((1 : Int) == 0) = true then _ else _) _ _ s
  rw [if_neg (by decide)]
  refine wpAny_bind (slicePart_ pl (wpAny_bind (slicePart_ pu (wpAny_bind (wpAny_pure ?_)))))
  show wpAny _ _ (match Builtin.Slice.sliceAdjust lo hi 1 (n : Int) with | (lo, hi) => pure (lo, (1 : Int), Builtin.Slice.slicePlaces lo hi 1)) _ _ s
  rw [adjust_gen lo hi n]
  show wpAny _ _ (pure (((sIx n 0 lo : Nat) : Int), (1 : Int), Builtin.Slice.slicePlaces ((sIx n 0 lo : Nat) : Int) ((sIx n n hi : Nat) : Int) 1)) _ _ s
  rw [places_gen]
  exact wpAny_pure h
theorem pick_gen (xs : Array Value) (i k : Nat) : ((List.range k).filterMap fun (m : Nat) => xs[((i : Int) + (m : Int) * 1).toNat]?).toArray = ((xs.toList.drop i).take k).toArray := by
  have e : (fun (m : Nat) => xs[((i : Int) + (m : Int) * 1).toNat]?) = fun m => xs[i + m]? := by
    funext m
    have : ((i : Int) + (m : Int) * 1).toNat = i + m := by omega
    rw [this]
  rw [e]
  have := pick_run xs i k
  rw [List.filterMap_map] at this
  have e2 : ((fun x => xs[x]?) ∘ fun x => i + x) = fun m => xs[i + m]? := rfl
  rw [e2] at this
  rw [this]
theorem getItem_tuple_cut {t sl : Addr} {items : Array Value} {vl vu : Value} {lo hi : Option Int} {Q : Value → Shared → Prop} (ht : IsTup s.heap t items) (hs : s.heap.IsSliceOf sl vl vu .none) (pl : IsPart vl lo) (pu : IsPart vu hi)
    (hw : ¬ (sIx items.size 0 lo = 0 ∧ sIx items.size items.size hi = items.size))
    (h : Q (.ref s.heap.objs.size) { s with heap := s.heap.push { cls := .type "tuple", data := .seq ((items.toList.drop (sIx items.size 0 lo)).take (sIx items.size items.size hi - sIx items.size 0 lo)).toArray } })
    (hsz : items.size ≤ sizeLine) : wpAny (model prog w) A (getItem (.ref t) (.ref sl)) Q E s := by
  have htake : sizeOk (.seq ((items.toList.drop (sIx items.size 0 lo)).take (sIx items.size items.size hi - sIx items.size 0 lo)).toArray) := by
    show ((items.toList.drop (sIx items.size 0 lo)).take (sIx items.size items.size hi - sIx items.size 0 lo)).toArray.size ≤ sizeLine
    rw [List.size_toArray, List.length_take, List.length_drop, Array.length_toList]
    omega
  have hj : sIx items.size items.size hi ≤ items.size := sIx_le _ _ (Nat.le_refl _) hi
  obtain ⟨os, hos, hcs, hds⟩ := id hs
  have hTs : s.TypeIs (.ref sl) "slice" := ⟨os, hos, hcs⟩
  unfold getItem
  try with_reducible refine wpAny_holding ?_
  first | refine wpAny_bind (wpAny_pure ?_) | skip
  refine wpAny_bind (wpAny_sequenceKey ht.typeIs (by decide) ?_)
  refine wpAny_bind (wpAny_callSpecial?_slot (name := Str.ofString "__getitem__") ht.typeIs PyProof.Rows.slot_tuple_getitem
    (wpAny_call_entry PyProof.Rows.slot_tuple_getitem ht.typeIs entry_tuple_getitem ?_ (args_tuple_getitem _ _)))
  show wpAny _ _ (Builtin.Tuple.tupleItemsOf (.ref t) >>= _) _ _ s
  refine wpAny_bind (tupleItemsOf_ ht ?_)
  refine wpAny_bind (wpAny_typeOf hTs ?_)
  rw [if_pos (by decide)]
  refine wpAny_bind (sliceApplied_gen hs pl pu ?_)
  have hno : ¬ ((((sIx items.size 0 lo : Nat) : Int) == 0 && (1 : Int) == 1 && (sIx items.size items.size hi - sIx items.size 0 lo) == items.size) = true) := by
    intro q
    rw [Bool.and_eq_true, Bool.and_eq_true] at q
    have q1 : ((sIx items.size 0 lo : Nat) : Int) = 0 := eq_of_beq q.1.1
    have q2 : sIx items.size items.size hi - sIx items.size 0 lo = items.size := eq_of_beq q.2
    exact hw ⟨by omega, by omega⟩
  show wpAny _ _ (if (((sIx items.size 0 lo : Nat) : Int) == 0 && (1 : Int) == 1 && (sIx items.size items.size hi - sIx items.size 0 lo) == items.size) = true then _ else _) _ _ s
  rw [if_neg hno, pick_gen]
  first
    | exact wpAny_bind (m := Builtin.Tuple.tupleExact _) (wpAny_newObj_type (wpAny_pure ⟨_, rfl, wpAny_pure h⟩) htake)
    | exact wpAny_bind (m := Builtin.Tuple.tupleExact _) (wpAny_newObj_type (wpAny_bind (wpAny_pure (wpAny_pure ⟨_, rfl, wpAny_pure h⟩))) htake)
    | exact wpAny_bind (wpAny_bind (m := Builtin.Tuple.tupleExact _) (wpAny_newObj_type (wpAny_pure (wpAny_pure ⟨_, rfl, wpAny_pure h⟩)) htake))
    | exact wpAny_bind (wpAny_bind (m := Builtin.Tuple.tupleExact _) (wpAny_newObj_type (wpAny_pure ⟨_, rfl, wpAny_pure h⟩) htake))
end
end HT
namespace L2
open PySem PySem.Spec PyProof.Rows
noncomputable abbrev TO := St → Hp → (Option Int → Hp → Prop) → Prop
noncomputable def PO (X : Cx) (e : Option Expr) (t : TO) : Prop :=
  ∀ (pins : List (Addr × Obj)) (s : Shared) (σ : St) (H : Hp) (Q : Option Int → Hp → Prop), Inv X pins σ H s → t σ H Q →
    wpAny (model X.prog X.w) X.A (evalPart e X.env) (fun u s' => ∃ o H', Inv X pins σ H' s' ∧ IsPart u o ∧ Q o H') X.xe s
noncomputable def tNoPart : TO := fun _ H Q => Q none H
noncomputable def tPart (t : TE) : TO := fun σ H Q => t σ H fun x H1 => ∃ i, x = .int i ∧ Q (some i) H1
section
variable {X : Cx} {e : Expr} {te : TE} {lo hi : Option Expr} {tl th : TO} {pos p2 : Pos}
theorem po_none : PO X none tNoPart := by
  intro pins s σ H Q I h
  rw [evalPart_none]
  exact wpAny_pure ⟨none, H, I, .none, h⟩
theorem po_some (h : PE X e te) : PO X (some e) (tPart te) := by
  intro pins s σ H Q I hw
  rw [evalPart_some]
  refine thn (h pins s σ H _ I hw) fun u s1 ⟨x, H1, I1, r1, q1⟩ => ?_
  obtain ⟨i, rfl, q⟩ := q1
  obtain ⟨t, rfl⟩ := r1
  exact ⟨some i, H1, I1, .int i t, q⟩
noncomputable def SlR (X : Cx) (r : V → Option Int → Option Int → Hp → VK → Prop) : Prop :=
  ∀ (pins : List (Addr × Obj)) (s : Shared) (σ : St) (H : Hp) (x : V) (v vl vu : Value) (lo hi : Option Int) (sl : Addr) (Q : VK), Inv X pins σ H s → RelV x v → s.heap.IsSliceOf sl vl vu .none → IsPart vl lo → IsPart vu hi → r x lo hi H Q →
    ∃ T id, typeLookup (.type T) "__getitem__" = pure (some (.builtin id)) ∧ s.TypeIs v T ∧ wpAny (model X.prog X.w) X.A (getItem v (.ref sl)) (EP X pins σ Q) X.xe s
theorem SlR.or {r r' : V → Option Int → Option Int → Hp → VK → Prop} (h : SlR X r) (h' : SlR X r') : SlR X (fun x lo hi H Q => r x lo hi H Q ∨ r' x lo hi H Q) := by
  intro pins s σ H x v vl vu lo hi sl Q I rx hs pl pu q
  rcases q with q | q
  · exact h pins s σ H x v vl vu lo hi sl Q I rx hs pl pu q
  · exact h' pins s σ H x v vl vu lo hi sl Q I rx hs pl pu q
noncomputable def tSl (r : V → Option Int → Option Int → Hp → VK → Prop) (te : TE) (tl th : TO) : TE := fun σ H Q => te σ H fun x H1 => tl σ H1 fun l H2 => th σ H2 fun u H3 => r x l u H3 Q
theorem pe_slice {r : V → Option Int → Option Int → Hp → VK → Prop} (hr : SlR X r) (he : PE X e te) (hl : PO X lo tl) (hu : PO X hi th) : PE X (.Subscript e (.Slice lo hi none p2) pos) (tSl r te tl th) := by
  intro pins s σ H Q I h
  refine Subscript_ (thn (he pins s σ H _ I h) fun v s1 ⟨x, H1, I1, r1, q1⟩ => ?_)
  refine wpAny_Slice (thn (hl pins s1 σ H1 _ I1 q1) fun vl s2 ⟨l, H2, I2, pl, q2⟩ => thn (hu pins s2 σ H2 _ I2 q2) fun vu s3 ⟨u, H3, I3, pu, q3⟩ => ?_)
  rw [evalPart_none]
  refine wpAny_pure ?_
  have I4 : Inv X pins σ H3 { s3 with heap := s3.heap.push { cls := .type "slice", data := .fields #[vl, vu, .none] } } := I3.kept (t' := s3.toks) fun b ob q => Heap.get?_push_of_some _ q
  obtain ⟨T, id, hT, ht, hg⟩ := hr pins { s3 with heap := s3.heap.push { cls := .type "slice", data := .fields #[vl, vu, .none] } } σ H3 x v vl vu l u s3.heap.objs.size Q I4 r1 (Heap.IsSliceOf.new ..) pl pu q3
  show wpAny (model X.prog X.w) X.A (subscriptTail e (.Slice lo hi none p2) v (.ref s3.heap.objs.size)) (EP X pins σ Q) X.xe { s3 with heap := s3.heap.push { cls := .type "slice", data := .fields #[vl, vu, .none] } }
  exact tail_any (ops := [.ref s3.heap.objs.size, v]) ht hT hg (by with_unfolding_all rfl)
noncomputable def cutV (xs : List V) (lo hi : Option Int) : List V := (xs.drop (HT.sIx xs.length 0 lo)).take (HT.sIx xs.length xs.length hi - HT.sIx xs.length 0 lo)
theorem cutV_length (xs : List V) (lo hi : Option Int) : (cutV xs lo hi).length ≤ xs.length := by
  unfold cutV
  rw [List.length_take, List.length_drop]
  omega
noncomputable def rSlT (K : PySem.W.Frag) : V → Option Int → Option Int → Hp → VK → Prop := fun x lo hi H Q => ∃ a xs, x = .ref a ∧ SqT K H a xs ∧
  ¬ (HT.sIx xs.length 0 lo = 0 ∧ HT.sIx xs.length xs.length hi = xs.length) ∧ ∀ p, H p = none → Q (.ref p) (upd H p (.tup (cutV xs lo hi)))
theorem sl_tup : SlR X (rSlT X.K) := by
  intro pins s σ H x v vl vu lo hi sl Q I rx hs pl pu h
  obtain ⟨a, xs, rfl, hx, hw, q⟩ := h
  cases rx
  obtain ⟨its, r, ht, hz⟩ := I.tuple hx
  have hlen : its.toArray.size = xs.length := by rw [List.size_toArray]; exact r.length.symm
  refine ⟨"tuple", _, PyProof.Rows.slot_tuple_getitem.lookup, ht.typeIs, ?_⟩
  refine HT.getItem_tuple_cut ht hs pl pu (by rw [hlen]; exact hw) ?_ (by rw [hlen]; exact hz)
  rw [hlen]
  refine ⟨.ref s.heap.objs.size, _, I.laid (t' := s.toks) (o := .tup (cutV xs lo hi)) (fun b ob q => Heap.get?_push_of_some _ q) (Nat.le_refl _) ?_, rfl, q _ (I.hok.fresh (Nat.le_refl _))⟩
  exact ⟨Nat.le_trans (cutV_length xs lo hi) hz, _, (r.drop (HT.sIx xs.length 0 lo)).take (HT.sIx xs.length xs.length hi - HT.sIx xs.length 0 lo), IsTup.new _ _⟩
noncomputable def rCatT (K : PySem.W.Frag) : R2 := fun x y H Q => ∃ a b xs ys, x = .ref a ∧ y = .ref b ∧ SqT K H a xs ∧ SqT K H b ys ∧ xs ≠ [] ∧ xs.length + ys.length ≤ sizeLine ∧
  (ys = [] → Q (.ref a) H) ∧ (ys ≠ [] → ∀ p, H p = none → Q (.ref p) (upd H p (.tup (xs ++ ys))))
theorem Vals.nil_iff {xs : List V} {us : List Value} (r : Vals xs us) : us = [] ↔ xs = [] := by
  cases r with
  | nil => simp
  | cons _ _ => simp
theorem op_catT : OpR X (binaryOp .Add) (rCatT X.K) := by
  intro pins s σ H x y v u Q I rx ry h
  obtain ⟨a, b, xs, ys, rfl, rfl, ha, hb, hx, hz, q1, q2⟩ := h
  cases rx
  cases ry
  obtain ⟨its, r1, p1, _⟩ := I.tuple ha
  obtain ⟨its2, r2, p2, _⟩ := I.tuple hb
  refine HT.cat_tup p1 p2 (fun z => hx (r1.nil_iff.mp z)) (fun z => ⟨.ref a, H, I, rfl, q1 (r2.nil_iff.mp z)⟩) (fun z => ?_) (by rw [← r1.length, ← r2.length]; exact hz)
  refine ⟨.ref s.heap.objs.size, _, I.laid (t' := s.toks) (o := .tup (xs ++ ys)) (fun b ob q => Heap.get?_push_of_some _ q) (Nat.le_refl _) ?_, rfl, q2 (fun w => z (r2.nil_iff.mpr w)) _ (I.hok.fresh (Nat.le_refl _))⟩
  exact ⟨by rw [List.length_append]; exact hz, _, r1.append r2, IsTup.new _ _⟩
end
end L2
namespace L2
open PySem PySem.Spec PyProof.Rows
noncomputable def ixN (n : Nat) (i : Int) : Option Nat := if 0 ≤ i then (if i < n then some i.toNat else none) else if -(n : Int) ≤ i then some (i + n).toNat else none
noncomputable def atI {α : Type} (xs : List α) (i : Int) : Option α := (ixN xs.length i).bind fun j => xs[j]?
theorem ixN_seq {n : Nat} {i : Int} {j : Nat} (h : ixN n i = some j) : seqIndex? i n = some j ∧ j < n ∧ -(n : Int) ≤ i ∧ i < n := by
  unfold ixN at h
  by_cases h0 : 0 ≤ i
  · rw [if_pos h0] at h
    by_cases h1 : i < n
    · rw [if_pos h1] at h
      have e : i.toNat = j := Option.some.inj h
      exact ⟨by rw [seqIndex_of h0 h1, e], by omega, by omega, h1⟩
    · rw [if_neg h1] at h; cases h
  · rw [if_neg h0] at h
    by_cases h1 : -(n : Int) ≤ i
    · rw [if_pos h1] at h
      have e : (i + n).toNat = j := Option.some.inj h
      exact ⟨by rw [seqIndex_neg (by omega) h1, e], by omega, h1, by omega⟩
    · rw [if_neg h1] at h; cases h
theorem atI_get {α : Type} {xs : List α} {i : Int} {v : α} (h : atI xs i = some v) : ∃ j, seqIndex? i xs.length = some j ∧ xs[j]? = some v ∧ j < xs.length ∧ -(xs.length : Int) ≤ i ∧ i < xs.length := by
  unfold atI at h
  cases e : ixN xs.length i with
  | none => rw [e] at h; cases h
  | some j =>
    rw [e] at h
    obtain ⟨h1, h2, h3, h4⟩ := ixN_seq e
    exact ⟨j, h1, h, h2, h3, h4⟩
theorem atI_nat {α : Type} {xs : List α} {j : Nat} {v : α} (h : xs[j]? = some v) : atI xs (j : Int) = some v := by
  have hj : j < xs.length := (List.getElem?_eq_some_iff.mp h).1
  have e : ixN xs.length (j : Int) = some j := by
    unfold ixN
    rw [if_pos (by omega), if_pos (by omega)]; simp
  unfold atI; rw [e]; exact h
noncomputable def PlainIx (b : Expr) : Prop := ∀ o i, subscripted b false o i = operate [o, i] (getItem o i)
noncomputable def IxR (X : Cx) (r : R2) : Prop :=
  ∀ (value slice : Expr) (pins : List (Addr × Obj)) (s : Shared) (σ : St) (H : Hp) (x y : V) (v u : Value) (Q : VK), Inv X pins σ H s → RelV x v → RelV y u → r x y H Q →
    subscripted slice false v u = operate [v, u] (getItem v u) → wpAny (model X.prog X.w) X.A (subscriptTail value slice v u) (EP X pins σ Q) X.xe s
noncomputable def MtR (X : Cx) (id : String) (r : V → List V → Hp → VK → Prop) : Prop :=
  ∀ (pins : List (Addr × Obj)) (s : Shared) (σ : St) (H : Hp) (x : V) (xs : List V) (v : Value) (us : List Value) (Q : VK), Inv X pins σ H s → RelV x v → Vals xs us → r x xs H Q →
    wpAny (model X.prog X.w) X.A (call (.builtin id) (v :: us)) (EP X pins σ Q) X.xe s
section
variable {X : Cx} {a b : Expr} {ta tb : TE} {pos : Pos}
theorem IxR.or {r r' : R2} (h : IxR X r) (h' : IxR X r') : IxR X (fun x y H Q => r x y H Q ∨ r' x y H Q) := by
  intro value slice pins s σ H x y v u Q I rx ry q hs
  rcases q with q | q
  · exact h value slice pins s σ H x y v u Q I rx ry q hs
  · exact h' value slice pins s σ H x y v u Q I rx ry q hs
theorem MtR.or {id : String} {r r' : V → List V → Hp → VK → Prop} (h : MtR X id r) (h' : MtR X id r') : MtR X id (fun x xs H Q => r x xs H Q ∨ r' x xs H Q) := by
  intro pins s σ H x xs v us Q I rx rs q
  rcases q with q | q
  · exact h pins s σ H x xs v us Q I rx rs q
  · exact h' pins s σ H x xs v us Q I rx rs q
theorem pe_ix {r : R2} (hr : IxR X r) (ha : PE X a ta) (hb : PE X b tb) (hs : PlainIx b) : PE X (.Subscript a b pos) (tOp r ta tb) := by
  intro pins s σ H Q I h
  exact Subscript_ (binT ha hb I h fun v u s2 x y H2 I2 rx ry q => hr a b pins s2 σ H2 x y v u Q I2 rx ry q (hs _ _))
noncomputable def rIxL (K : PySem.W.Frag) : R2 := fun x y H Q => ∃ p xs i v, x = .ref p ∧ y = .int i ∧ SqL K H p xs ∧ atI xs i = some v ∧ Q v H
noncomputable def rIxT (K : PySem.W.Frag) : R2 := fun x y H Q => ∃ p xs i v, x = .ref p ∧ y = .int i ∧ SqT K H p xs ∧ atI xs i = some v ∧ Q v H
noncomputable def rIxS : R2 := fun x y H Q => ∃ z i c, x = .str z ∧ y = .int i ∧ z.length ≤ sizeLine ∧ atI z.cps.toList i = some c ∧ Q (.str ⟨#[c]⟩) H
theorem ix_list : IxR X (rIxL X.K) := by
  intro value slice pins s σ H x y v u Q I rx ry h hs
  obtain ⟨p, xs, i, z, rfl, rfl, hq, he, q⟩ := h
  cases rx
  obtain ⟨t, rfl⟩ := ry
  obtain ⟨its, r, pl, hz⟩ := I.list hq
  obtain ⟨j, h1, h2, h3, h4, h5⟩ := atI_get he
  obtain ⟨w, ew, rw'⟩ := r.get h2
  have hl := r.length
  have hn := line63
  have fin : EP X pins σ Q w s := ⟨z, H, I, rw', q⟩
  by_cases h0 : 0 ≤ i
  · have hj : i.toNat = j := by
      rw [seqIndex_of h0 h5] at h1
      exact Option.some.inj h1
    exact item_listR pl.isList h0 (by omega) (by rw [hj]; simpa using ew) fin hs
  · have hj : (i + (its.toArray.size : Int)).toNat = j := by
      rw [seqIndex_neg (by omega) h4] at h1
      rw [List.size_toArray, ← hl]
      exact Option.some.inj h1
    exact subscriptTail_builtinR (x := w) pl.isList.typeIs slot_list_getitem.lookup
      (wpAny_getItem_list_neg (Q := fun r s' => r = w ∧ EP X pins σ Q r s') pl.isList (by omega) (by rw [List.size_toArray] <;> omega) (by omega) (by rw [hj]; simpa using ew) ⟨rfl, fin⟩) hs
theorem ix_tup : IxR X (rIxT X.K) := by
  intro value slice pins s σ H x y v u Q I rx ry h hs
  obtain ⟨p, xs, i, z, rfl, rfl, hq, he, q⟩ := h
  cases rx
  obtain ⟨t, rfl⟩ := ry
  obtain ⟨its, r, pl, hz⟩ := I.tuple hq
  obtain ⟨j, h1, h2, h3, h4, h5⟩ := atI_get he
  obtain ⟨w, ew, rw'⟩ := r.get h2
  have hl := r.length
  have hn := line63
  have fin : EP X pins σ Q w s := ⟨z, H, I, rw', q⟩
  exact subscriptTail_builtinR (x := w) pl.typeIs slot_tuple_getitem.lookup
    (getItem_tuple (j := j) (Q := fun r s' => r = w ∧ EP X pins σ Q r s') pl (by omega) (by omega) (by rw [List.size_toArray, ← hl]; exact h1) (by simpa using ew) ⟨rfl, fin⟩) hs
theorem ix_str : IxR X rIxS := by
  intro value slice pins s σ H x y v u Q I rx ry h hs
  obtain ⟨z, i, c, rfl, rfl, hz, he, q⟩ := h
  obtain ⟨t, rfl⟩ := rx
  obtain ⟨t', rfl⟩ := ry
  obtain ⟨j, h1, h2, h3, h4, h5⟩ := atI_get he
  have hl : z.cps.toList.length = z.length := by simp [Str.length]
  rw [hl] at h1 h4 h5
  have hn := line63
  exact tail_any (typeIs_str s z t) slot_str_getitem.lookup (getItem_str (c := c) (by
    have e1 : decide (i < -(2 ^ 63 : Int)) = false := decide_eq_false (by omega)
    have e2 : decide (i ≥ 2 ^ 63) = false := decide_eq_false (by omega)
    rw [e1, e2, Bool.or_false]) (by rw [h1]; simpa using h2) ⟨.str ⟨#[c]⟩, H, I.tok _, ⟨_, rfl⟩, q⟩) hs
noncomputable def rIx (K : PySem.W.Frag) : R2 := fun x y H Q => rIxL K x y H Q ∨ rIxT K x y H Q ∨ rIxS x y H Q
theorem ix_seq : IxR X (rIx X.K) := ix_list.or (ix_tup.or ix_str)
theorem mapSeq_set (its : List Value) (n j : Nat) (u : Value) : Obj.mapSeq (·.setIfInBounds j u) { cls := .type "list", data := .seq its.toArray n } = { cls := .type "list", data := .seq (its.set j u).toArray n } := by
  simp [Obj.mapSeq]
theorem Inv.lst {pins : List (Addr × Obj)} {σ : St} {H : Hp} {s : Shared} {p : Addr} {xs : List V} (I : Inv X pins σ H s) (h : H p = some (.lst xs)) :
    ∃ (its : List Value) (n : Nat), Vals xs its ∧ s.heap.get? p = some { cls := .type "list", data := .seq its.toArray n } ∧ xs.length ≤ sizeLine := by
  obtain ⟨z, its, n, r, e⟩ := I.hok p _ h
  exact ⟨its, n, r, e, z⟩
theorem Inv.lstUpd {pins : List (Addr × Obj)} {σ : St} {H : Hp} {s : Shared} {p : Addr} {xs ys : List V} {its its' : List Value} {n n' : Nat} {f : Obj → Obj} (I : Inv X pins σ H s) (h : H p = some (.lst xs))
    (ho : s.heap.get? p = some { cls := .type "list", data := .seq its.toArray n }) (hf : f { cls := .type "list", data := .seq its.toArray n } = { cls := .type "list", data := .seq its'.toArray n' }) (r : Vals ys its') (hz : ys.length ≤ sizeLine) (t : Nat) :
    Inv X pins σ (upd H p (.lst ys)) { s with heap := s.heap.update p f, toks := t } := by
  have e : (s.heap.update p f).get? p = some { cls := .type "list", data := .seq its'.toArray n' } := by
    rw [Heap.get?_update_self f ho (by rw [hf] <;> rfl), hf]
  refine I.write (x := p) (e := p) (by rw [h]; trivial) (.inl rfl) (fun b u hb q => (Heap.get?_update_other _ _ (Ne.symm hb)).trans q) ⟨_, e⟩ ?_
  exact ⟨hz, its', n', r, e⟩
noncomputable def rSetL : V → V → V → Hp → (Hp → Prop) → Prop := fun o i v H Q => ∃ p xs k j, o = .ref p ∧ i = .int k ∧ H p = some (.lst xs) ∧ ixN xs.length k = some j ∧ Q (upd H p (.lst (xs.set j v)))
theorem set_list : PSet X rSetL := by
  intro pins s σ H o i v ov iv u Q I ro ri rv h
  obtain ⟨p, xs, k, j, rfl, rfl, hp, hj, q⟩ := h
  cases ro
  obtain ⟨t, rfl⟩ := ri
  obtain ⟨its, n, r, ho, hz⟩ := I.lst hp
  obtain ⟨h1, h2, h3, h4⟩ := ixN_seq hj
  have hl := r.length
  have hn := line63
  have I' : Inv X pins σ (upd H p (.lst (xs.set j v))) { s with heap := s.heap.update p (Obj.mapSeq (·.setIfInBounds j u)) } :=
    I.lstUpd hp ho (mapSeq_set its n j u) (r.set rv j) (by rw [List.length_set]; exact hz) s.toks
  by_cases h0 : 0 ≤ k
  · have hk : k.toNat = j := by
      rw [seqIndex_of h0 h4] at h1
      exact Option.some.inj h1
    exact PySem.W.ki_setAt ho h0 (by omega) (by rw [List.size_toArray, ← hl]; exact h4) (by rw [hk]; exact ⟨_, I', q⟩)
  · have hk : (k + (its.toArray.size : Int)).toNat = j := by
      rw [seqIndex_neg (by omega) h3] at h1
      rw [List.size_toArray, ← hl]
      exact Option.some.inj h1
    exact PySem.W.ki_setBack ho (by omega) (by rw [List.size_toArray, ← hl]; exact h3) (by omega) (by rw [hk]; exact ⟨_, I', q⟩)
theorem slice_bounds (lo hi : Option Int) (n : Nat) : (sliceBounds lo hi none n).1 = ((HT.sIx n 0 lo : Nat) : Int) ∧ (sliceBounds lo hi none n).2.1 = ((HT.sIx n n hi : Nat) : Int) ∧ (sliceBounds lo hi none n).2.2 = 1 := by
  refine ⟨?_, ?_, rfl⟩
  · cases lo with
    | none => simp [sliceBounds, HT.sIx]
    | some i =>
      simp only [sliceBounds, HT.sIx, Option.getD_none, show (1 : Int) > 0 by decide, if_true]
      by_cases h : i < 0
      · simp only [h, if_true] <;> omega
      · simp only [h, if_false] <;> omega
  · cases hi with
    | none => simp [sliceBounds, HT.sIx]
    | some i =>
      simp only [sliceBounds, HT.sIx, Option.getD_none, show (1 : Int) > 0 by decide, if_true]
      by_cases h : i < 0
      · simp only [h, if_true] <;> omega
      · simp only [h, if_false] <;> omega
theorem slicePick_cut (its : List Value) (lo hi : Option Int) : slicePick its.toArray lo hi none = ((its.drop (HT.sIx its.length 0 lo)).take (HT.sIx its.length its.length hi - HT.sIx its.length 0 lo)).toArray := by
  obtain ⟨h1, h2, h3⟩ := slice_bounds lo hi its.toArray.size
  unfold slicePick
  rw [h1, h2, h3]
  simp only [sliceRange_one, pick_run, List.size_toArray] <;> rfl
noncomputable def rSlL (K : PySem.W.Frag) : V → Option Int → Option Int → Hp → VK → Prop := fun x lo hi H Q => ∃ a xs, x = .ref a ∧ SqL K H a xs ∧ ∀ p, H p = none → Q (.ref p) (upd H p (.lst (cutV xs lo hi)))
theorem sl_list : SlR X (rSlL X.K) := by
  intro pins s σ H x v vl vu lo hi sl Q I rx hs pl pu h
  obtain ⟨a, xs, rfl, hx, q⟩ := h
  cases rx
  obtain ⟨its, r, ht, hz⟩ := I.list hx
  have hlen := r.length
  refine ⟨"list", _, slot_list_getitem.lookup, ht.isList.typeIs, ?_⟩
  refine wpAny_getItem_list_slice ht.isList hs pl pu .none (by simp) ?_ (by rw [List.size_toArray] <;> omega)
  rw [slicePick_cut, ← hlen]
  refine ⟨.ref s.heap.objs.size, _, I.laid (t' := s.toks) (o := .lst (cutV xs lo hi)) (fun b ob q => Heap.get?_push_of_some _ q) (Nat.le_refl _) ?_, rfl, q _ (I.hok.fresh (Nat.le_refl _))⟩
  exact ⟨Nat.le_trans (cutV_length xs lo hi) hz, _, 0, (r.drop (HT.sIx xs.length 0 lo)).take (HT.sIx xs.length xs.length hi - HT.sIx xs.length 0 lo), Heap.get?_push_size _ rfl⟩
theorem call_list_of : CallR X (.type "list") (fun xs H Q => ∃ p ys, xs = [.ref p] ∧ (SqL X.K H p ys ∨ SqT X.K H p ys) ∧ ∀ l, H l = none → Q (.ref l) (upd H l (.lst ys))) := by
  intro pins s σ H xs us Q I r h
  obtain ⟨p, ys, rfl, hq, q⟩ := h
  obtain ⟨u, rfl, rx⟩ := vals1 r
  cases rx
  have fin : ∀ (its : List Value), Vals ys its → ys.length ≤ sizeLine → ∀ (h' : Heap) (c' : Nat), (∀ b o', s.heap.get? b = some o' → h'.get? b = some o') →
      h'.get? s.heap.objs.size = some { cls := .type "list", dict := none, data := .seq its.toArray c', slots := #[] } → EP X pins σ Q (.ref s.heap.objs.size) { s with heap := h' } := fun its r' hz h' c' kp e =>
    ⟨.ref s.heap.objs.size, _, I.laid (t' := s.toks) kp (Nat.le_refl _) (show ObjOk X.prog X.w _ h' _ (.lst ys) from ⟨hz, its, c', r', e⟩), rfl, q _ (I.hok.fresh (Nat.le_refl _))⟩
  rcases hq with hq | hq
  · obtain ⟨its, r', pl, hz⟩ := I.list hq
    have hlen := r'.length
    obtain ⟨o, ho, hc, n, hd⟩ := pl.isList
    exact call_list_seq p (.inl rfl) ho hc hd (fun h' c' kp e => fin its r' hz h' c' kp e) (by simp only [List.size_toArray] <;> omega)
  · obtain ⟨its, r', pl, hz⟩ := I.tuple hq
    have hlen := r'.length
    obtain ⟨o, ho, hc, n, hd⟩ := pl
    exact call_list_seq p (.inr rfl) ho hc hd (fun h' c' kp e => fin its r' hz h' c' kp e) (by simp only [List.size_toArray] <;> omega)
theorem call_tuple_of : CallR X (.type "tuple") (fun xs H Q => ∃ p ys, xs = [.ref p] ∧ ((SqL X.K H p ys ∧ ∀ l, H l = none → Q (.ref l) (upd H l (.tup ys))) ∨ (SqT X.K H p ys ∧ Q (.ref p) H))) := by
  intro pins s σ H xs us Q I r h
  obtain ⟨p, ys, rfl, h⟩ := h
  obtain ⟨u, rfl, rx⟩ := vals1 r
  cases rx
  rcases h with ⟨hq, q⟩ | ⟨hq, q⟩
  · obtain ⟨its, r', pl, hz⟩ := I.list hq
    have hlen := r'.length
    refine call_tuple_list pl.isList (fun h' kp => ?_) (by simp only [List.size_toArray] <;> omega)
    have I1 : Inv X pins σ H { s with heap := h' } := I.kept (t' := s.toks) kp
    have I2 : Inv X pins σ (upd H h'.objs.size (.tup ys)) { s with heap := h'.push { cls := .type "tuple", data := .seq its.toArray } } :=
      I1.laid (t' := s.toks) (fun b o e => Heap.get?_push_of_some _ e) (Nat.le_refl _) (show ObjOk X.prog X.w _ _ _ (.tup ys) from ⟨hz, its, r', IsTup.new _ _⟩)
    exact ⟨.ref h'.objs.size, _, I2, rfl, q _ (I1.hok.fresh (Nat.le_refl _))⟩
  · obtain ⟨its, r', pl, hz⟩ := I.tuple hq
    exact call_tuple_same pl ⟨.ref p, H, I, rfl, q⟩
noncomputable def tyV (K : PySem.W.Frag) (T : String) (x : V) (H : Hp) : Prop := match x with
  | .str _ => T = "str"
  | .int _ => T = "int"
  | .ref p => (T = "list" ∧ ∃ xs, SqL K H p xs) ∨ (T = "tuple" ∧ ∃ o, K.lookup p = some o ∧ o.cls = .type "tuple" ∧ o.dict = none) ∨
      (T = "dict" ∧ ((∃ kvs, H p = some (.dK kvs)) ∨ ∃ kvs, H p = some (.dT kvs))) ∨ (T = "set" ∧ ∃ S n, H p = some (.set S n))
  | _ => False
theorem tyV_is {pins : List (Addr × Obj)} {σ : St} {H : Hp} {s : Shared} {T : String} {x : V} {v : Value} (I : Inv X pins σ H s) (r : RelV x v) (ty : tyV X.K T x H) :
    s.TypeIs v T ∧ ∀ a, v = .ref a → ∃ ob, s.heap.get? a = some ob ∧ ob.dict = none := by
  cases x with
  | str z =>
    obtain ⟨t, rfl⟩ := r
    cases (show T = "str" from ty)
    exact ⟨typeIs_str s z t, fun _ e => nomatch e⟩
  | int i =>
    obtain ⟨t, rfl⟩ := r
    cases (show T = "int" from ty)
    exact ⟨typeIs_int s i t, fun _ e => nomatch e⟩
  | ref p =>
    cases r
    rcases ty with ⟨rfl, xs, hq⟩ | ⟨rfl, o, hk, hc, hd⟩ | ⟨rfl, hk⟩ | ⟨rfl, S, n, hk⟩
    · obtain ⟨its, _, pl, _⟩ := I.list hq
      refine ⟨pl.isList.typeIs, fun a e => ?_⟩
      cases e
      obtain ⟨o, n, e, c, hd, _⟩ := pl
      exact ⟨o, e, hd⟩
    · refine ⟨⟨o, I.kIn p o hk, hc⟩, fun a e => ?_⟩
      cases e
      exact ⟨o, I.kIn _ o hk, hd⟩
    · have z : ∃ o, s.heap.get? p = some o ∧ o.ExactDict := by
        rcases hk with ⟨kvs, hk⟩ | ⟨kvs, hk⟩
        · obtain ⟨_, _, _, _, o, _, _, e, ex, _⟩ := I.hok p _ hk
          exact ⟨o, e, ex⟩
        · obtain ⟨_, _, _, _, o, _, _, e, ex, _⟩ := I.hok p _ hk
          exact ⟨o, e, ex⟩
      obtain ⟨o, e, ex⟩ := z
      refine ⟨⟨o, e, ex.1⟩, fun a e2 => ?_⟩
      cases e2
      exact ⟨o, e, ex.2.1⟩
    · obtain ⟨o, _, _, _, e, ex, _⟩ := I.hok p _ hk
      refine ⟨⟨o, e, ex.1⟩, fun a e2 => ?_⟩
      cases e2
      exact ⟨o, e, ex.2.1⟩
  | _ => exact False.elim ty
noncomputable def tBM (K : PySem.W.Frag) (T : String) (r : V → List V → Hp → VK → Prop) (to : TE) (t : TA) : TE := fun σ H Q => to σ H fun x H1 => tyV K T x H1 ∧ t σ H1 fun xs H2 => r x xs H2 Q
variable {o e : Expr} {es : List Expr} {to : TE} {t : TA} {name : Str} {apos cpos : Pos} {T id : String} {r : V → List V → Hp → VK → Prop}
theorem pe_bm (pa : PlainAttrs T) (slot : Slot T name id) (hty : typeOf (.builtin id) = pure (.type "method_descriptor")) (hm : MtR X id r) (ho : PE X o to) (ha : PA X (e :: es) t)
    (hbase : attributeBase o name X.env (eval o X.env) = eval o X.env := by rfl)
    (hfew : ((backTo cpos (starEach (e :: es) X.env)).all (fun x => !x.1) && (backToKw cpos (keywordEach [] X.env)).all (fun x => x.1.isSome)
      && decide ((e :: es).length + ([] : List Keyword).length + (if ([] : List Keyword).isEmpty then 0 else 1) < 30)) = true := by rfl)
    (hline : (apos.endLine == cpos.line) = true := by rfl) (hs : starEach (e :: es) X.env = (false, eval e X.env) :: starEach es X.env := by rfl) (hplain : (backTo cpos (starEach es X.env)).any (·.1) = false := by rfl) :
    PE X (.Call (.Attribute o name apos) (e :: es) [] cpos) (tBM X.K T r to t) := by
  intro pins s σ H Q I h
  refine wpAny_Call_method_late hbase hfew hline rfl (thn (ho pins s σ H _ I h) fun v s1 ⟨x, H1, I1, r1, ty, q1⟩ => ?_)
  obtain ⟨h1, h2⟩ := tyV_is I1 r1 ty
  refine ⟨T, id, pa, slot, hty, h1, h2, ?_⟩
  have hA := ha cpos pins s1 σ H1 _ I1 q1
  rw [hs] at hA ⊢
  refine Calls.callWith_builtin (by show (false || (backTo cpos (starEach es X.env)).any (·.1)) = false; rw [hplain] <;> rfl) (Calls.evalArgs_plain ?_)
  exact thn hA fun us s2 ⟨vs, H2, I2, r2, q2⟩ => hm pins s2 σ H2 x vs v us Q I2 r1 r2 q2
/- xs.append(e), list.index on a module's tuple .. are MtR facts of 06m -/
end
end L2
namespace L2
open PySem PySem.Spec PyProof.Rows
noncomputable def MtM (X : Cx) (id : String) (r : V → List V → Hp → VK → Prop) : Prop :=
  ∀ (pins : List (Addr × Obj)) (s : Shared) (σ : St) (H : Hp) (x : V) (xs : List V) (v : Value) (us : List Value) (Q : VK), Inv X pins σ H s → RelV x v → Vals xs us → r x xs H Q →
    wpAny (model X.prog X.w) X.A (call (.builtin id) (v :: us)) (EP X pins σ Q) X.xe s
theorem Vals.one : ∀ {x : V} {us : List Value}, Vals [x] us → ∃ u, us = [u] ∧ RelV x u
  | _, _, .cons r .nil => ⟨_, rfl, r⟩
theorem Vals.rep {xs : List V} {us : List Value} (h : Vals xs us) : ∀ k : Nat, Vals (List.replicate k xs).flatten (List.replicate k us).flatten
  | 0 => .nil
  | k + 1 => by
    rw [List.replicate_succ, List.replicate_succ, List.flatten_cons, List.flatten_cons]
    exact Vals.append h (Vals.rep h k)
theorem foldl_rep (its : List Value) : ∀ (k : Nat) (acc : List Value),
    List.foldl (fun x1 x2 => x1 ++ x2) acc.toArray (List.replicate k its.toArray) = (acc ++ (List.replicate k its).flatten).toArray
  | 0, acc => by simp
  | k + 1, acc => by
    have e : acc.toArray ++ its.toArray = (acc ++ its).toArray := by simp
    have e2 : (acc ++ its) ++ (List.replicate k its).flatten = acc ++ (List.replicate (k + 1) its).flatten := by
      rw [List.replicate_succ, List.flatten_cons, List.append_assoc]
    rw [← e2, ← foldl_rep its k (acc ++ its), ← e, List.replicate_succ, List.foldl_cons]
section
variable {X : Cx} {pins : List (Addr × Obj)} {σ : St} {H : Hp} {s : Shared} {l b : Addr} {xs ys zs : List V}
theorem Inv.lset {its its' : List Value} {n : Nat} {f : Array Value → Array Value} {t' : Nat} (I : Inv X pins σ H s) (hH : H l = some (.lst xs))
    (e : s.heap.get? l = some { cls := .type "list", data := .seq its.toArray n }) (hf : f its.toArray = its'.toArray) (hv : Vals ys its') (hz : ys.length ≤ sizeLine) :
    Inv X pins σ (upd H l (.lst ys)) { s with heap := s.heap.update l (Obj.mapSeq f), toks := t' } := by
  have q := PySem.IsL.update e f
  rw [hf] at q
  refine I.write (x := l) (e := l) (by rw [hH]; exact trivial) (.inl rfl) (fun b' u hb hu => (Heap.get?_update_other s.heap (Obj.mapSeq f) (Ne.symm hb)).trans hu) ⟨_, q⟩ ?_
  exact ⟨hz, its', _, hv, q⟩
theorem Inv.lnew {its : List Value} {t' : Nat} (I : Inv X pins σ H s) (hv : Vals ys its) (hz : ys.length ≤ sizeLine) :
    Inv X pins σ (upd H s.heap.objs.size (.lst ys)) { s with heap := s.heap.push { cls := .type "list", data := .seq its.toArray }, toks := t' } :=
  I.laid (fun _ _ q => Heap.get?_push_of_some _ q) (Nat.le_refl _) ⟨hz, its, 0, hv, Heap.get?_push_size _ rfl⟩
theorem Inv.fresh (I : Inv X pins σ H s) : H s.heap.objs.size = none := I.hok.fresh (Nat.le_refl _)
theorem Inv.lstM (I : Inv X pins σ H s) (hH : H l = some (.lst xs)) : xs.length ≤ sizeLine ∧ ∃ (its : List Value) (n : Nat), Vals xs its ∧ xs.length = its.length ∧ s.heap.get? l = some { cls := .type "list", data := .seq its.toArray n } := by
  obtain ⟨z, its, n, r, e⟩ := I.hok l _ hH
  exact ⟨z, its, n, r, r.length, e⟩
theorem notLongL {n : Nat} (h : n ≤ sizeLine) : Builtin.List.listTooLong n = false := by
  unfold Builtin.List.listTooLong
  exact decide_eq_false (by omega)
end
section
variable {X : Cx}
noncomputable def rAppend : V → List V → Hp → VK → Prop := fun x vs H Q => ∃ l xs y, x = .ref l ∧ vs = [y] ∧ H l = some (.lst xs) ∧ xs.length < sizeLine ∧ Q .non (upd H l (.lst (xs ++ [y])))
theorem mt_append : MtM X "list.append" rAppend := by
  intro pins s σ H x vs v us Q I rx rv h
  obtain ⟨l, xs, y, rfl, rfl, hH, hz, q⟩ := h
  cases rx
  obtain ⟨u, rfl, ru⟩ := rv.one
  obtain ⟨z, its, n, r, hl, e⟩ := I.lstM hH
  refine call_meets F.slot_list_append ⟨_, e, rfl⟩ F.entry_list_append (F.args_list_append_2 _ _) (PySem.list_append l its.toArray n u (by rw [List.size_toArray]; omega)) ⟨e, ?_⟩
  refine ⟨.non, _, I.lset (its' := its ++ [u]) hH e (by simp) (r.append (.cons ru .nil)) ?_, rfl, q⟩
  rw [List.length_append, List.length_singleton]
  omega
noncomputable def rExtend : V → List V → Hp → VK → Prop := fun x vs H Q => ∃ l b xs zs, x = .ref l ∧ vs = [.ref b] ∧ H l = some (.lst xs) ∧ H b = some (.lst zs) ∧ xs.length + zs.length ≤ sizeLine ∧ Q .non (upd H l (.lst (xs ++ zs)))
theorem mt_extend : MtM X "list.extend" rExtend := by
  intro pins s σ H x vs v us Q I rx rv h
  obtain ⟨l, b, xs, zs, rfl, rfl, hH, hB, hz, q⟩ := h
  cases rx
  obtain ⟨u, rfl, ru⟩ := rv.one
  cases ru
  obtain ⟨z, its, n, r, hl, e⟩ := I.lstM hH
  obtain ⟨z2, its2, n2, r2, hl2, e2⟩ := I.lstM hB
  have hsz : its.toArray.size + its2.toArray.size ≤ sizeLine := by rw [List.size_toArray, List.size_toArray]; omega
  have hlong : ¬ (!its.toArray.isEmpty && Builtin.List.listTooLong (its.toArray.size + its2.toArray.size)) = true := by
    rw [notLongL hsz, Bool.and_false]
    exact Bool.false_ne_true
  refine call_meets F.slot_list_extend ⟨_, e, rfl⟩ F.entry_list_extend (F.args_list_extend_2 _ _)
    (AutoSeq1.list_extend_list_list_0 l its.toArray n b its2.toArray n2 hlong (by rw [List.size_toArray]; omega) (by omega)) ⟨e, e2, ?_⟩
  refine ⟨.non, _, I.lset (its' := its ++ its2) hH e (by simp) (r.append r2) ?_, rfl, q⟩
  rw [List.length_append]
  omega
noncomputable def rCat : R2 := fun x y H Q => ∃ l b xs zs, x = .ref l ∧ y = .ref b ∧ H l = some (.lst xs) ∧ H b = some (.lst zs) ∧ xs.length + zs.length ≤ sizeLine ∧ ∀ p, H p = none → Q (.ref p) (upd H p (.lst (xs ++ zs)))
theorem op_cat : OpR X (binaryOp .Add) rCat := by
  intro pins s σ H x y v u Q I rx ry h
  obtain ⟨l, b, xs, zs, rfl, rfl, hH, hB, hz, q⟩ := h
  cases rx
  cases ry
  obtain ⟨z, its, n, r, hl, e⟩ := I.lstM hH
  obtain ⟨z2, its2, n2, r2, hl2, e2⟩ := I.lstM hB
  refine PySem.P.add_list e e2 ?_ (by rw [List.size_toArray, List.size_toArray]; omega)
  have ea : its.toArray ++ its2.toArray = (its ++ its2).toArray := by simp
  rw [ea]
  exact ⟨.ref _, _, I.lnew (t' := s.toks) (r.append r2) (by rw [List.length_append]; omega), rfl, q _ I.fresh⟩
noncomputable def rRep : R2 := fun x y H Q => ∃ l k xs, x = .ref l ∧ y = .int k ∧ H l = some (.lst xs) ∧ -(2 ^ 63) ≤ k ∧ k < 2 ^ 63 ∧ xs.length * k.toNat ≤ sizeLine ∧
  ∀ p, H p = none → Q (.ref p) (upd H p (.lst (List.replicate k.toNat xs).flatten))
theorem len_rep {α : Type} (xs : List α) (k : Nat) : (List.replicate k xs).flatten.length = k * xs.length := by
  induction k with
  | zero => simp
  | succ k ih => rw [List.replicate_succ, List.flatten_cons, List.length_append, ih, Nat.succ_mul, Nat.add_comm]
theorem op_rep : OpR X (binaryOp .Mult) rRep := by
  intro pins s σ H x y v u Q I rx ry h
  obtain ⟨l, k, xs, rfl, rfl, hH, h1, h2, hz, q⟩ := h
  cases rx
  obtain ⟨t, rfl⟩ := ry
  obtain ⟨z, its, n, r, hl, e⟩ := I.lstM hH
  have hlen : its.toArray.size * k.toNat ≤ sizeLine := by rw [List.size_toArray, ← hl]; exact hz
  have hcap : ¬ its.toArray.size * k.toNat > (2 ^ 63 - 1) / 8 := by
    have : (sizeLine : Nat) ≤ (2 ^ 63 - 1) / 8 := by decide
    omega
  have hfit : ¬ (!Builtin.List.listFitsIndex k) = true := by
    rw [fitsIndex_both h1 h2]
    exact Bool.false_ne_true
  have hlong : ¬ Builtin.List.listTooLong (its.toArray.size * k.toNat) = true := by
    rw [notLongL hlen]
    exact Bool.false_ne_true
  have hnew : List.foldl (fun x1 x2 => x1 ++ x2) #[] (List.replicate (if its.toArray.isEmpty = true then 0 else k.toNat) its.toArray) = (List.replicate k.toNat its).flatten.toArray := by
    have f0 : ∀ m : Nat, List.foldl (fun x1 x2 => x1 ++ x2) #[] (List.replicate m its.toArray) = (List.replicate m its).flatten.toArray := fun m => by
      have := foldl_rep its m []
      rw [List.nil_append] at this
      exact this
    rw [f0]
    cases its with
    | nil => simp
    | cons a r' => rw [if_neg (by simp)]
  refine wpAny_binaryOp_repeat_ref (T := "list") (U := "int") (by decide) ⟨_, e, rfl⟩ (fun s' => typeIs_int s' k t) noFill_list_mul F.fills_int_mul F.slot_int_rmul repeat_list F.slot_int_index.lookup
    (call_meets F.slot_int_rmul (typeIs_int s k t) F.entry_int_rmul (F.args_int_rmul_2 _ _) (int___rmul___int_list k t l its.toArray n)
      ⟨e, rfl, ⟨_, e, rfl⟩, call_meets F.slot_list_mul ⟨_, e, rfl⟩ F.entry_list_mul (F.args_list_mul_2 _ _) (AutoListH.list___mul___list_int_3 l its.toArray n k t hfit hcap hlong) ⟨e, ?_⟩⟩)
  rw [hnew]
  exact ⟨.ref _, _, I.lnew (t' := s.toks) (r.rep k.toNat) (by rw [len_rep, Nat.mul_comm]; exact hz), rfl, q _ I.fresh⟩
end
section
variable {prog : Program} {w : World} {A : Around} {E : Value → Shared → Prop} {s : Shared}
end
section
variable {X : Cx}
end
end L2
namespace Att
open PySem PySem.W PySem.Calls PyProof.Rows
theorem ints_of_wellAll {P : Params} {h : Heap} : ∀ (ns : List Int) (vs : List Value), WellAll P h vs (ns.map WData.int) → IntsAre vs ns := by
  intro ns
  induction ns with
  | nil =>
    intro vs w
    rw [List.map_nil] at w
    cases w
    exact .nil
  | cons n ns ih =>
    intro vs w
    rw [List.map_cons] at w
    cases w with
    | cons a b =>
      cases a
      exact .cons _ _ (ih _ b)
theorem script_of {l : OpenLaw} {n : Nat} (hn : l.most = some n) {P : Params} {h : Heap} {args : List WData} {vals : List Value}
    (hpre : l.row.toRowW.claim.pre args = true) (hwl : WellAll P h vals args) :
    ∃ a vs ns, vals = [Value.ref a] ∧ args = [WData.list (ns.map WData.int)] ∧ h.get? a = some { cls := .type "list", data := .seq vs.toArray } ∧ IntsAre vs ns ∧ ns.length ≤ n := by
  have hsh : WShape.hasAll [] args [.list .int] = true := (pre_splitW hpre).1
  have hc : l.pre.holds [] { args := args } = true := (pre_splitW hpre).2
  obtain ⟨d, r, rfl, h1, h2⟩ := hasAllW_cons hsh
  obtain rfl := hasAllW_nil h2
  obtain ⟨xs, rfl, h3⟩ := hasW_list h1
  obtain ⟨ns, rfl⟩ := items_int h3
  have hlen : ns.length ≤ n := by
    unfold OpenLaw.pre at hc
    have h4 : (WTm.not (.lt (.lit (.int (n : Int))) (.len (.arg 0)))).holds [] { args := [.list (ns.map .int)] } = true := by
      have h4 := (holds_andW hc).1
      rw [hn] at h4
      exact h4
    have h5 := condW_of h4 (w_not (w_lt w_lit (w_len_list (w_arg rfl))))
    rw [List.length_map] at h5
    refine Nat.le_of_not_lt fun q => ?_
    have q' : (n : Int) < ((ns.length : Nat) : Int) := by omega
    first
      | (rw [decide_eq_true q'] at h5; exact absurd h5 (by decide))
      | (simp at h5; omega)
  cases hwl with
  | cons w1 w2 =>
    cases w2
    cases w1 with
    | list ho hall => exact ⟨_, _, ns, rfl, rfl, ho, ints_of_wellAll ns _ hall, hlen⟩
theorem post_true (l : OpenLaw) (args : List WData) : l.row.toRowW.claim.post args (.bool true) args = true :=
  postW_of (r := l.row.toRowW) (X := (true == true))
    (show WShape.has [] (.bool true) .bool = true by first | rfl | decide | simp [WShape.has, WShape.arms, WShape.armsAll])
    (show (WTm.eq .res (.lit (.bool true))).value [] { args := args, res := some (.bool true), after := args } = some (.bool (true == true)) from w_eq_bool (w_res rfl) w_lit) rfl
theorem attach_call {l : OpenLaw} {n : Nat} {q : Program} {loose : List Str} {XP : (Str → Option Value) → Heap → Prop} {YP : World → Heap → Prop} {d : DefRec}
    (hn : l.most = some n) (hdf : d.params.defaults = [])
    (call : ∀ (w : World) (s₀ s₁ : Shared) (mg mb : Str → Option Value) (fa : Addr) (o : Obj) (pm cd doc : Value) (a : Addr) (vs : List Value) (ns : List Int),
      Ground q loose [] XP w s₀ mg mb s₁.heap → YP w s₁.heap →
      s₁.heap.get? fa = some o → o.data = .func (docDef d.name d.params d.body d.scope pm cd doc) → s₁.heap.CodeRec cd d.name → mg d.name = some (.ref fa) →
      s₁.heap.get? a = some { cls := .type "list", data := .seq vs.toArray } → IntsAre vs ns → ns.length ≤ n → s₁.gens = #[] →
      codeAny (model l.prog w) callerA (.call (.ref fa) ⟨[.ref a], []⟩) (fun r s' => r = .ok (.ret (.bool true)) ∧ OldK s₁.heap s'.heap ∧ s'.os = s₁.os ∧ AllBare s'.gens) s₁) :
    WalkO q loose XP YP l.row.toRowW d [] (fun f vs => PySem.call f vs) := by
  intro w s₀ s₁ mg mb G Y fa o pm cd doc dV kV ho hd hcd hD hmg hg args vals as hpre hlay hrd hwl hlo
  obtain rfl : dV = .none := Dflts.none hD hdf
  obtain rfl : kV = .none := Dflts.noKw hD
  obtain ⟨a, vs, ns, rfl, rfl, hobj, hints, hlen⟩ := script_of hn hpre hwl
  refine enter_call (codeAny_mono (call w s₀ s₁ mg mb fa o pm cd doc a vs ns G Y ho (fd_plain hd) hcd hmg hobj hints hlen hg) fun r s' hq => ?_)
  obtain ⟨rfl, h2, h3, h4⟩ := hq
  exact ⟨.inl ⟨.bool true, .bool true, [], rfl, fun _ => rfl, .bool true, post_true l _, fun _ => ⟨List.Pairwise.nil, fun _ hm => (nomatch hm)⟩⟩, h2, h3, h4⟩
section
variable {prog : Program} {w : World} {A : Around} {E : Value → Shared → Prop} {s : Shared} {K : Frag}
end
end Att
namespace L2
open PySem PySem.Spec PyProof.Rows
theorem vals_ints : ∀ {vs : List Value} {ns : List Int}, IntsAre vs ns → Vals (ns.map V.int) vs
  | _, _, .nil => .nil
  | _, _, .cons n t h => .cons ⟨t, rfl⟩ (vals_ints h)
noncomputable def Only (H : Hp) : Prop := ∀ b, H b = none ∨ ∃ o xs, H b = some (.frz o (.lst xs))
theorem law_call {P : Program} {w : World} {K : PySem.W.Frag} {mg mb : Str → Option Value} {CX : CXT} {k : Nat} {fa a : Addr} {fd : FuncData} {x : Str} {sp : Sp} {s₁ : Shared} {vs : List Value} {ns : List Int}
    (KX : K.In s₁.heap) (hns : s₁.heap.Ns mainGlobals mg) (hb : s₁.heap.Ns builtinsNs mb) (hbb : ∀ x : Str, x ≠ "__name__" → mb x = bootBuiltins x) (hlim : s₁.heap.NoLimit) (hg : s₁.gens = #[])
    (ha : s₁.heap.get? a = some { cls := .type "list", data := .seq vs.toArray }) (hi : IntsAre vs ns) (hl : ns.length ≤ sizeLine) (hr : Room k callerA)
    (F : ∀ base : Heap, K.In base → base.Ns mainGlobals mg → FnOk P w K mg base CX k fa fd [x] sp) (hbind : ∀ (s : Shared) (u : Value), BindsTo s fd ⟨[u], []⟩ [(x, u)])
    (hsp : ∀ H : Hp, Only H → SqL K H a (ns.map V.int) → sp [.ref a] H (fun v _ => v = .bl true) fun _ _ _ => False)
    (hCX : ∀ H e s', CX [] H s₁ (fun _ _ _ => False) e s' → False) :
    codeAny (model P w) callerA (.call (.ref fa) ⟨[.ref a], []⟩) (fun r s' => r = .ok (.ret (.bool true)) ∧ OldK s₁.heap s'.heap ∧ s'.os = s₁.os ∧ AllBare s'.gens) s₁ := by
  have rv := vals_ints hi
  have lenV := hi.length
  have core : ∀ H : Hp, Only H → SqL K H a (ns.map V.int) → HOk P w H s₁.heap → (∀ b, H b ≠ none → b = a) → (H a ≠ none → K.lookup a = none) →
      codeAny (model P w) callerA (.call (.ref fa) ⟨[.ref a], []⟩) (fun r s' => r = .ok (.ret (.bool true)) ∧ OldK s₁.heap s'.heap ∧ s'.os = s₁.os ∧ AllBare s'.gens) s₁ := by
    intro H hO hS hok hA hK
    have base_of : ∀ {b : Addr} {o : Obj}, s₁.heap.get? b = some o → H b = none → (hidT s₁.heap H).get? b = some o := fun e n => hidT_get e n
    have noA : ∀ {b : Addr} {o : Obj} {es : Array DictEntry} {ep : Nat}, s₁.heap.get? b = some o → o.data = .dict es ep → H b = none := fun {b o es ep} e d => by
      cases q : H b with
      | none => rfl
      | some u =>
        have e' : b = a := hA b (by rw [q]; simp)
        subst e'
        rw [ha] at e; cases e
        have d' : Data.seq vs.toArray _ = Data.dict es ep := d
        cases d'
    have nsK : ∀ {b : Addr} {m : Str → Option Value}, s₁.heap.Ns b m → (hidT s₁.heap H).Ns b m := fun {b m} ⟨o, es, ep, e, d, r⟩ => ⟨o, es, ep, base_of e (noA e d), d, r⟩
    have hKb : K.In (hidT s₁.heap H) := fun b o e => base_of (KX b o e) (by
      cases q : H b with
      | none => rfl
      | some u =>
        have e' : b = a := hA b (by rw [q]; simp)
        subst e'
        rw [hK (by rw [q]; simp)] at e; cases e)
    have hM : Mod K mg (hidT s₁.heap H) := ⟨hKb, nsK hns, ⟨mb, nsK hb, hbb⟩, let ⟨mc, h1, h2⟩ := hlim; ⟨mc, nsK h1, h2⟩⟩
    have e0 : Env0 P w K mg (hidT s₁.heap H) callerA [] s₁ H := ⟨rfl, hM, fun b o e => of_hidT e, Nat.le_of_eq (hidT_size _ _), trivial, fun b hb => absurd (show b ∈ ([] : List Addr) from hb) (by simp), hok, .of_eq hg⟩
    refine codeAny_mono ((F _ hKb (nsK hns)).run callerA [] s₁ H ⟨[.ref a], []⟩ [.ref a] [.ref a] _ _ hr e0 (hbind s₁ (.ref a)) (.cons rfl .nil) (hsp H hO hS)) fun r s' h => ?_
    cases r with
    | error e => exact (hCX H e s' h).elim
    | ok fl =>
      cases fl with
      | next => exact False.elim h
      | brk => exact False.elim h
      | cont => exact False.elim h
      | ret u =>
        obtain ⟨v, H', os, bare, un, hok', r', q⟩ := h
        have q' : v = .bl true := q
        subst q'
        obtain rfl : u = Value.bool true := r'
        refine ⟨rfl, OldK.of_keep fun b o e => ?_, os, bare⟩
        cases q : H b with
        | none => exact un.keep b o e q (by intro z; exact absurd (show b ∈ ([] : List Addr) from z) (by simp)) (by simp)
        | some u =>
          rcases hO b with z | ⟨ob, xs, z⟩
          · rw [q] at z; cases z
          · have z2 := un.frzs b ob _ z
            obtain ⟨e1, _⟩ := hok b _ z
            obtain ⟨e2, _⟩ := hok' b _ z2
            rw [e] at e1; cases e1
            exact e2
  cases hk : K.lookup a with
  | some o =>
    have e := KX a o hk
    rw [ha] at e
    cases e
    refine core (fun _ => none) (fun _ => .inl rfl) (.inr ⟨_, vs.toArray, _, hk, rfl, rfl, rfl, by rw [List.size_toArray, lenV]; exact hl, by simpa using rv⟩) (fun b u z => by have z' : (none : Option HO) = some u := z; cases z') (fun b z => absurd rfl z) fun z => absurd rfl z
  | none =>
    refine core (fun b => if b = a then some (.frz { cls := .type "list", data := .seq vs.toArray } (.lst (ns.map V.int))) else none) (fun b => ?_) (.inl (.inr ⟨{ cls := .type "list", data := .seq vs.toArray }, if_pos rfl⟩)) (fun b u z => ?_) (fun b z => ?_) fun _ => hk
    · by_cases hb : b = a
      · exact .inr ⟨_, _, if_pos hb⟩
      · exact .inl (if_neg hb)
    · by_cases hb : b = a
      · have z' := (if_pos hb).symm.trans z
        cases z'
        subst hb
        exact ⟨ha, by rw [List.length_map]; exact hl, vs, _, rv, ha⟩
      · have z' := (if_neg hb).symm.trans z
        cases z'
    · by_cases hb : b = a
      · exact hb
      · exact absurd (if_neg hb) z
end L2
namespace L2
open PySem PySem.Spec PyProof.Rows
theorem walk_of {l : PySem.W.OpenLaw} {n k : Nat} {q : Program} {loose : List Str} {XP : (Str → Option Value) → Heap → Prop} {YP : World → Heap → Prop} {d : DefRec} {K : Params → PySem.W.Frag} {CX : World → CXT} {sp : World → Sp} {x : Str}
    (hn : l.most = some n) (hn2 : n ≤ sizeLine) (hdf : d.params.defaults = []) (hr : Room k callerA)
    (hY : ∀ (w : World) (h : Heap), YP w h → (K w.params).In h)
    (F : ∀ (w : World) (mg : Str → Option Value) (fa : Addr) (h : Heap), (K w.params).In h → h.Ns mainGlobals mg → mg d.name = some (.ref fa) →
      ∃ fd : FuncData, (∀ (s : Shared) (u : Value), BindsTo s fd ⟨[u], []⟩ [(x, u)]) ∧
        ∀ base : Heap, (K w.params).In base → base.Ns mainGlobals mg → FnOk l.prog w (K w.params) mg base (CX w) k fa fd [x] (sp w))
    (hsp : ∀ (w : World) (H : Hp) (a : Addr) (ns : List Int), ns.length ≤ n → Only H → SqL (K w.params) H a (ns.map V.int) → sp w [.ref a] H (fun v _ => v = .bl true) fun _ _ _ => False)
    (hCX : ∀ (w : World) (H : Hp) (s : Shared) (e : Value) (s' : Shared), CX w [] H s (fun _ _ _ => False) e s' → False) :
    PySem.W.WalkO q loose XP YP l.row.toRowW d [] (fun f vs => PySem.call f vs) := by
  refine Att.attach_call hn hdf fun w s₀ s₁ mg mb fa o pm cd doc a vs ns G Y ho hd hcd hmg hobj hints hlen hg => ?_
  have KX := hY w _ Y
  obtain ⟨fd, hb, hF⟩ := F w mg fa _ KX G.T.g hmg
  exact law_call KX G.T.g G.T.b G.T.builtins G.T.nolimit hg hobj hints (Nat.le_trans hlen hn2) hr hF hb (fun H hO hS => hsp w H a ns hlen hO hS) fun H e s' => hCX w H s₁ e s'
end L2
/- THE LAST THEOREM (shape; LID, My.* are yours):
   My.Adr: a structure of the addresses that your layer names (classes, functions); My.Txt K t: a structure (Prop) of the equations over K;
   My.txt_mk : {K} {implicit addresses ..} (e1 : nsIn K mainGlobals "law" = some (some (.ref f))) (e2 : K.lookup f = some ⟨oc, od, .func (fnOf "law" "law" params body scope dV kV doc pm an cdv ct), sl⟩) (e3 : codeIn K cdv "law" = true) .. : ∃ t, My.Txt K t
set_option maxRecDepth 100000 in
set_option maxHeartbeats 0 in
theorem PySem.Challenge.cw_LID_holds : PySem.Challenge.rw_LID.Holds := by
  w_on; o_law; k_head; (case hw => w_witness2)
  k_fill
  refine L2.walk_of (l := PySem.Challenge.rw_LID) (n := 63) (k := 40) (x := "script") (CX := fun w => ..) (sp := fun _ => My.sp_law) rfl (by decide) rfl ⟨rfl, by decide, by decide⟩ (fun w h Y => PySem.W.kIn_of Y) ?F ?S ?C
  case F =>
    intro w mg fa h KX G hmg
    have T : ∃ t, My.Txt (L2.KOf KX) t := by
      dsimp only [L2.KOf]                          -- K must stand as «<heap const> w.params» for k_is
      refine' My.txt_mk ?e1 ?e2 ?e3 ..
      (case e1 => PySem.W.k_is)                    -- in the order: a name -> its address -> its object -> its parts
      (case e2 => PySem.W.k_is)
      ..
    obtain ⟨t, T⟩ := T
    have e0 := hmg.symm.trans (PySem.W.mg_of KX G T.law)
    cases e0                                       -- fa is the law's own address
    exact ⟨_, fun s u => .of_eq rfl, fun base kb nb => My.law_fn T kb nb⟩     -- if «.of_eq rfl» comes too early: refine' ⟨_, ?b, fun base kb nb => My.law_fn T kb nb⟩; exact fun s u => .of_eq rfl
  case S => exact fun w H a ns hl hO hS => ..
  case C => exact ..
(the tactic k_is has no namespace: write k_is) -/
namespace L2
open PySem PySem.Spec PyProof.Rows
noncomputable def defArgs (s : Stmt) : Arguments := match s with
  | .FunctionDef _ a _ _ _ _ _ _ _ _ => a
  | _ => { posonlyargs := [], args := [], vararg := none, kwonlyargs := [], kw_defaults := [], kwarg := none, defaults := [] }
noncomputable def defBody (s : Stmt) : List Stmt := match s with
  | .FunctionDef _ _ b _ _ _ _ _ _ _ => b
  | _ => []
noncomputable def defScope (s : Stmt) : Scope := match s with
  | .FunctionDef _ _ _ _ _ _ sc _ _ _ => sc
  | _ => { kind := .function, names := [], isGenerator := false, isCoroutine := false }
noncomputable abbrev CX0 : CXT := fun _ _ _ _ _ _ => False
noncomputable abbrev E0 : XK := fun _ _ _ => False
theorem pass0 {X : Cx} : Passes CX0 X E0 := fun _ _ _ _ _ _ _ h => h.elim
structure Fun (K : PySem.W.Frag) (x qual : Str) (st : Stmt) (f : Addr) (fd : FuncData) : Prop where
  ex : ∃ (oc : Value) (od : Option Addr) (kV doc pm : Value) (an : Option Addr) (cdv ct : Value) (osl : Array (Option Value)),
    fd = PySem.W.fnOf x qual (defArgs st) (defBody st) (defScope st) .none kV doc pm an cdv ct ∧ K.lookup f = some ⟨oc, od, .func fd, osl⟩ ∧ PySem.W.codeIn K cdv qual = true
  kp : PySem.W.keepIn K (.ref f) = true
section
variable {P : Program} {w : World} {K : PySem.W.Frag} {mg : Str → Option Value} {base : Heap}
theorem Fun.ok {x qual : Str} {st : Stmt} {f : Addr} {fd : FuncData} {N ps : List Str} {k : Nat} {sp : Sp} (F : Fun K x qual st f fd) (S : FnScope N ps (defScope st)) (len : ∀ vs H Q E, sp vs H Q E → vs.length = ps.length)
    (hbody : ∀ (cdv : Value) (A : Around) (outer : List Env) (s : Shared) (H : Hp) (vs : List V) (Q : VK) (E : XK), Room k (A.deeper (envOfC qual (defScope st) s.heap.objs.size f cdv)) → sp vs H Q E →
      ∃ t, PSs (cxOf CX0 P w K mg base N qual (defScope st) f cdv A outer s H E).nox (defBody st) t ∧ t { nx := fun _ H' => Q .non H', rt := Q } (start N vs) H) : FnOk P w K mg base CX0 (k + 1) f fd ps sp := by
  obtain ⟨oc, od, kV, doc, pm, an, cdv, ct, osl, rfl, lk, hcd⟩ := F.ex
  refine fn_of lk hcd S len fun A outer s H vs Q E hr hsp => ?_
  obtain ⟨t, h, q⟩ := hbody cdv A outer s H vs Q E hr hsp
  exact ⟨t, h.nox, q⟩
theorem Fun.binds {x qual : Str} {st : Stmt} {f : Addr} {fd : FuncData} {ps : List Str} (F : Fun K x qual st f fd)
    (h : ∀ (kV doc pm : Value) (an : Option Addr) (cdv ct : Value) (us : List Value), us.length = ps.length → bindArgs (PySem.W.fnOf x qual (defArgs st) (defBody st) (defScope st) .none kV doc pm an cdv ct) ⟨us, []⟩ = pure (ps.zip us)) : Binds K fd ps [] := by
  obtain ⟨oc, od, kV, doc, pm, an, cdv, ct, osl, rfl, lk, hcd⟩ := F.ex
  exact .all (h kV doc pm an cdv ct)
theorem fun_mk {x qual : Str} {st : Stmt} {f : Addr} {oc : Value} {od an : Option Addr} {osl : Array (Option Value)} {kV doc pm cdv ct : Value} (l : K.lookup f = some ⟨oc, od, .func (PySem.W.fnOf x qual (defArgs st) (defBody st) (defScope st) .none kV doc pm an cdv ct), osl⟩)
    (c : PySem.W.codeIn K cdv qual = true) (k : PySem.W.keepIn K (.ref f) = true) : Fun K x qual st f (PySem.W.fnOf x qual (defArgs st) (defBody st) (defScope st) .none kV doc pm an cdv ct) := ⟨⟨oc, od, kV, doc, pm, an, cdv, ct, osl, rfl, l, c⟩, k⟩
end
theorem hu_of {A : Around} {k : Nat} (hr : Room k A) : A.units + 1 < cLine := Nat.lt_of_le_of_lt (Nat.add_le_add_left (by decide : 1 ≤ 64) _) hr.units
section
variable {X : Cx}
theorem call_lenD : CallR X (.builtin "len") (fun xs H Q => ∃ a kvs, xs = [V.ref a] ∧ H a = some (.dK kvs) ∧ Q (.int kvs.length) H) := by
  intro pins s σ H xs us Q I r h
  obtain ⟨a, kvs, rfl, ha, q⟩ := h
  obtain ⟨u, rfl, ru⟩ := vals1 r
  cases ru
  exact d_len I (.inl ha) fun t s' I' => ⟨.int kvs.length, H, I', ⟨t, rfl⟩, q⟩
end
theorem iteF {A B : Prop} (h : B) : if false = true then A else B := by
  rw [if_neg Bool.false_ne_true]
  exact h
theorem iteT {A B : Prop} (h : A) : if true = true then A else B := by
  rw [if_pos rfl]
  exact h
theorem ite2 {c A B : Prop} [Decidable c] (h1 : c → A) (h2 : ¬ c → B) : if c then A else B := by
  by_cases h : c
  · rw [if_pos h]
    exact h1 h
  · rw [if_neg h]
    exact h2 h
noncomputable def Same (H H' : Hp) : Prop := ∀ b o, H b = some o → H' b = some o
theorem Same.refl (H : Hp) : Same H H := fun _ _ h => h
theorem Same.trans {H H1 H2 : Hp} (a : Same H H1) (b : Same H1 H2) : Same H H2 := fun c o h => b c o (a c o h)
theorem Same.free {H H' : Hp} (e : Same H H') {l : Addr} (h : H' l = Option.none) : H l = Option.none := by
  cases q : H l with
  | none => rfl
  | some o =>
    rw [e l o q] at h
    cases h
theorem Same.seq {K : PySem.W.Frag} {H H' : Hp} {a : Addr} {xs : List V} (e : Same H H') (h : SqL K H a xs) : SqL K H' a xs := by
  rcases h with (h | ⟨o, h⟩) | h
  · exact .inl (.inl (e _ _ h))
  · exact .inl (.inr ⟨o, e _ _ h⟩)
  · exact .inr h
section
variable {κ : Type} [DecidableEq κ]
end
end L2
set_option Elab.async false
set_option linter.all false
set_option maxRecDepth 100000
set_option maxHeartbeats 4000000
namespace L2
open PySem PySem.Spec PyProof.Rows
section
variable {X : Cx} {pins : List (Addr × Obj)} {σ : List (Option V)} {H : Hp} {s : Shared}
theorem HOk.track {P : Program} {w : World} {h : Heap} {D : Addr} {o : HO} (ok : HOk P w H h) (hn : H D = none) (new : ObjOk P w (upd H D o) h D o) : HOk P w (upd H D o) h := fun b u e => by
  by_cases hb : b = D
  · subst hb; rw [upd_same] at e; cases e; exact new
  · rw [upd_ne hb] at e
    refine (ok b u e).stay (fun _ _ _ q => q) (fun c q => ?_) (fun c xs q => ?_)
    · rw [upd_ne (ne_of_none q hn)]; exact q
    · rw [upd_ne (ne_of_none q hn)]; exact q
theorem Inv.track {D : Addr} {o : HO} (I : Inv X pins σ H s) (hn : H D = none) (hD : X.s₀.heap.objs.size ≤ D) (hL : D ≠ X.env.locals) (hc : ∀ x c, X.env.cells.lookup x = some c → c ≠ D) (hp : ∀ p ∈ X.pn ++ pins, p.1 ≠ D)
    (new : ObjOk X.prog X.w (upd H D o) s.heap D o) : Inv X pins σ (upd H D o) s := by
  refine ⟨I.ok, I.os, I.bare, ⟨I.base.keep, I.base.slot, fun b ob e n hx => ?_, I.base.there, fun b xs e => ?_, fun b ob u e => ?_, fun b ps e => ?_⟩, I.loc, I.cell, ?_, fun x c e => ?_, fun p hp' => ?_, I.hok.track hn new, I.len⟩
  · rw [upd_ne (Nat.ne_of_lt (Nat.lt_of_lt_of_le (Heap.lt_size e) hD))]; exact I.base.free b ob e n hx
  · have q := I.base.tups b xs e; rw [upd_ne (ne_of_none q hn)]; exact q
  · have q := I.base.frzs b ob u e; rw [upd_ne (ne_of_none q hn)]; exact q
  · obtain ⟨m, q⟩ := I.base.tbls b ps e; exact ⟨m, by rw [upd_ne (ne_of_none q hn)]; exact q⟩
  · rw [upd_ne (Ne.symm hL)]; exact I.free
  · rw [upd_ne (hc x c e)]; exact I.freeC x c e
  · obtain ⟨e, n, a, b, d⟩ := I.pin p hp'
    exact ⟨e, by rw [upd_ne (hp p hp')]; exact n, a, b, d⟩
end
noncomputable def clOf (env : Env) : List (Str × NameKind) → List (Str × Addr) → List (Str × Addr)
  | [], acc => acc
  | (n, k) :: r, acc => clOf env r (if k == NameKind.free then (n, (env.cells.lookup n).getD 0) :: acc else acc)
theorem closure_go (env : Env) : ∀ (l : List (Str × NameKind)) (acc : List (Str × Addr)), (∀ n, (n, NameKind.free) ∈ l → ∃ c, env.cells.lookup n = some c) →
    (forIn l acc (fun (x : Str × NameKind) (r : List (Str × Addr)) => if (x.2 == NameKind.free) = true then (do let a ← cellOf env x.1; pure (ForInStep.yield ((x.1, a) :: r))) else pure (ForInStep.yield r)) : Sem (List (Str × Addr))) = pure (clOf env l acc)
  | [], acc, _ => rfl
  | (n, k) :: r, acc, h => by
    rw [List.forIn_cons]
    by_cases hk : (k == NameKind.free) = true
    · have e : k = .free := by simpa using hk
      subst e
      obtain ⟨c, hc⟩ := h n List.mem_cons_self
      have e1 : cellOf env n = pure c := by unfold cellOf; rw [hc]
      have e2 : ((NameKind.free == NameKind.free) = true) = True := by simp
      simp only [e2, if_true, e1, pure_bind]
      rw [closure_go env r _ fun m hm => h m (List.mem_cons_of_mem _ hm)]
      show _ = pure (clOf env r (if (NameKind.free == NameKind.free) = true then (n, (env.cells.lookup n).getD 0) :: acc else acc))
      simp only [e2, if_true, hc, Option.getD_some]
    · simp only [if_neg hk, pure_bind]
      rw [closure_go env r _ fun m hm => h m (List.mem_cons_of_mem _ hm)]
      show _ = pure (clOf env r (if (k == NameKind.free) = true then (n, (env.cells.lookup n).getD 0) :: acc else acc))
      rw [if_neg hk]
theorem closureFor_eq {scope : Scope} {env : Env} (h : ∀ n, (n, NameKind.free) ∈ scope.names → ∃ c, env.cells.lookup n = some c) : closureFor scope env = pure (clOf env scope.names []) := by
  unfold closureFor
  have e := closure_go env scope.names [] h
  first
    | exact e
    | (simp only [bind_pure]; exact e)
    | (rw [show (forIn scope.names ([] : List (Str × Addr)) _ : Sem (List (Str × Addr))) = _ from e]; rfl)
theorem clOf_mem (env : Env) : ∀ (l : List (Str × NameKind)) (acc : List (Str × Addr)) (x : Str) (c : Addr), (clOf env l acc).lookup x = some c → acc.lookup x = some c ∨ (x, NameKind.free) ∈ l ∧ c = (env.cells.lookup x).getD 0
  | [], acc, x, c, h => .inl h
  | (n, k) :: r, acc, x, c, h => by
    rcases clOf_mem env r _ x c h with e | ⟨e1, e2⟩
    · by_cases hk : (k == NameKind.free) = true
      · rw [if_pos hk] at e
        have ek : k = .free := by simpa using hk
        subst ek
        rw [List.lookup_cons] at e
        by_cases hx : (x == n) = true
        · have ex : x = n := by simpa using hx
          subst ex
          rw [hx] at e
          exact .inr ⟨List.mem_cons_self, (Option.some.inj e).symm⟩
        · have hx' : (x == n) = false := by simpa using hx
          rw [hx'] at e
          exact .inl e
      · rw [if_neg hk] at e
        exact .inl e
    · exact .inr ⟨List.mem_cons_of_mem _ e1, e2⟩
theorem clOf_has (env : Env) : ∀ (l : List (Str × NameKind)) (acc : List (Str × Addr)) (x : Str), ((x, NameKind.free) ∈ l ∨ ∃ c, acc.lookup x = some c) → ∃ c, (clOf env l acc).lookup x = some c
  | [], acc, x, h => by
    rcases h with h | h
    · simp at h
    · exact h
  | (n, k) :: r, acc, x, h => by
    refine clOf_has env r _ x ?_
    rcases h with h | ⟨c, h⟩
    · rcases List.mem_cons.mp h with e | e
      · injection e with e1 e2
        subst e1 e2
        right
        exact ⟨(env.cells.lookup x).getD 0, by rw [if_pos (by rfl), List.lookup_cons]; simp⟩
      · exact .inl e
    · right
      by_cases hk : (k == NameKind.free) = true
      · rw [if_pos hk, List.lookup_cons]
        by_cases hx : (x == n) = true
        · rw [hx]; exact ⟨_, rfl⟩
        · have hx' : (x == n) = false := by simpa using hx
          rw [hx']; exact ⟨c, h⟩
      · rw [if_neg hk]; exact ⟨c, h⟩
theorem lookup_relabel {scope : Scope} {env : Env} {x : Str} {k : NameKind} : ∀ {names : List (Str × NameKind)}, (names.map fun (n, k) => if (k == NameKind.free && env.scope.kind == .function && env.kindOf n == some .cell) then (n, NameKind.cell) else (n, k)).lookup x = some k →
    names.lookup x = some k ∨ (k = .cell ∧ names.lookup x = some .free)
  | [], h => by simp at h
  | (n, j) :: r, h => by
    have ih := @lookup_relabel scope env x k r
    rw [List.map_cons, List.lookup_cons] at h
    rw [List.lookup_cons]
    by_cases hc : (j == NameKind.free && env.scope.kind == .function && env.kindOf n == some .cell) = true
    · simp only [hc, if_true] at h
      cases hx : x == n with
      | true =>
        rw [hx] at h
        have ej : j = .free := by
          simp only [Bool.and_eq_true] at hc
          simpa using hc.1.1
        exact .inr ⟨(Option.some.inj h).symm, by rw [ej]⟩
      | false => rw [hx] at h; exact ih h
    · simp only [if_neg hc] at h
      cases hx : x == n with
      | true => rw [hx] at h; exact .inl h
      | false => rw [hx] at h; exact ih h
theorem relabel_free {scope : Scope} {env : Env} {x : Str} : ∀ {names : List (Str × NameKind)}, names.lookup x = some .free → ∃ k, (k = NameKind.cell ∨ k = .free) ∧
    (names.map fun (n, k) => if (k == NameKind.free && env.scope.kind == .function && env.kindOf n == some .cell) then (n, NameKind.cell) else (n, k)).lookup x = some k
  | [], h => by simp at h
  | (n, j) :: r, h => by
    have ih := @relabel_free scope env x r
    rw [List.lookup_cons] at h
    rw [List.map_cons, List.lookup_cons]
    by_cases hc : (j == NameKind.free && env.scope.kind == .function && env.kindOf n == some .cell) = true
    · simp only [hc, if_true]
      cases hx : x == n with
      | true => exact ⟨.cell, .inl rfl, rfl⟩
      | false => rw [hx] at h; exact ih h
    · simp only [if_neg hc]
      cases hx : x == n with
      | true => rw [hx] at h; exact ⟨.free, .inr rfl, h⟩
      | false => rw [hx] at h; exact ih h
noncomputable def capt (caps : List (Option Nat)) (σ : St) : St := caps.map fun o => o.bind fun i => (σ[i]?).getD none
noncomputable def capOk (XN : List Str) (env : Env) (scope : Scope) (N : List Str) (caps : List (Option Nat)) : Bool :=
  caps.length == N.length && (caps.zip N).all fun p => match p.1 with
    | none => scope.names.lookup p.2 == some .local
    | some i => XN[i]? == some p.2 && scope.names.lookup p.2 == some .free && (env.scope.names.lookup p.2 == some .cell || env.scope.names.lookup p.2 == some .free)
noncomputable def blk (X : Cx) (scope : Scope) (N : List Str) (s₀ : Shared) (H₀ : Hp) (C : Addr) (fp : List Addr) : Cx where
  prog := X.prog
  w := X.w
  K := X.K
  mg := X.mg
  base := X.base
  A := X.A
  N := N
  s₀ := s₀
  H₀ := H₀
  env := compEnvC scope (clOf X.env scope.names []) C X.env
  outer := X.stack
  stack := X.stack
  ex := fp
  fn := fun _ => false
  calm := X.calm
  pn := []
  xe := fun _ _ => False
structure BlkScope (scope : Scope) (N : List Str) : Prop where
  kind : scope.kind = .function
  nd : N.Nodup
  nocell : ∀ y ∈ scope.names, y.2 ≠ .cell
  names : ∀ y ∈ scope.names, scope.names.lookup y.1 = some y.2
section
variable {X : Cx} {pins : List (Addr × Obj)} {σ : List (Option V)} {H : Hp} {s : Shared}
theorem capOk_at {XN : List Str} {env : Env} {scope : Scope} {N : List Str} {caps : List (Option Nat)} (h : capOk XN env scope N caps = true) :
    caps.length = N.length ∧ ∀ (j i : Nat) (x : Str), caps[j]? = some (some i) → N[j]? = some x → XN[i]? = some x ∧ scope.names.lookup x = some .free ∧ (env.kindOf x = some .cell ∨ env.kindOf x = some .free) := by
  unfold capOk at h
  rw [Bool.and_eq_true] at h
  obtain ⟨h1, h2⟩ := h
  refine ⟨by simpa using h1, fun j i x e1 e2 => ?_⟩
  have hm : (some i, x) ∈ caps.zip N := by
    refine List.mem_of_getElem? (i := j) ?_
    rw [List.getElem?_zip_eq_some]
    exact ⟨e1, e2⟩
  have q := List.all_eq_true.mp h2 _ hm
  simp only [Bool.and_eq_true, Bool.or_eq_true, beq_iff_eq] at q
  exact ⟨q.1.1, q.1.2, q.2⟩
theorem Inv.block {scope : Scope} {N : List Str} {caps : List (Option Nat)} {C : Addr} {fp : List Addr} {s1 : Shared} {h1 : Heap} {tk : Nat} {m : Str → Option Value} (S : BlkScope scope N) (hcap : capOk X.N X.env scope N caps = true)
    (hfree : ∀ n, (n, NameKind.free) ∈ scope.names → ∃ c, X.env.cells.lookup n = some c)
    (I : Inv X pins σ H s) (hf : ∀ b ∈ fp, FpOk X pins H b) (hfl : ∀ b ∈ fp, b < s.heap.objs.size) (hC : s.heap.objs.size ≤ C) (hk : ∀ b o, s.heap.get? b = some o → h1.get? b = some o) (hn : h1.Ns C m) :
    Inv (blk X scope N s H C fp) [] (capt caps σ) H { s with heap := h1, toks := tk } := by
  obtain ⟨hlen, hat⟩ := capOk_at hcap
  have clsub : ∀ x c, (clOf X.env scope.names []).lookup x = some c → X.env.cells.lookup x = some c := fun x c e => by
    rcases clOf_mem X.env scope.names [] x c e with z | ⟨z1, z2⟩
    · simp at z
    · obtain ⟨c', hc'⟩ := hfree x z1
      rw [hc', z2, hc']; rfl
  have clt : ∀ x c, X.env.cells.lookup x = some c → c < s.heap.objs.size := fun x c e => by
    obtain ⟨v, o, ho, _⟩ := I.cell x c e
    exact Heap.lt_size ho
  have relk : ∀ x, ((compEnvC scope (clOf X.env scope.names []) C X.env).kindOf x = some .cell ∨ (compEnvC scope (clOf X.env scope.names []) C X.env).kindOf x = some .free) → (x, NameKind.free) ∈ scope.names := fun x hx => by
    have sub : ∀ k, (compEnvC scope (clOf X.env scope.names []) C X.env).kindOf x = some k → scope.names.lookup x = some k ∨ (k = .cell ∧ scope.names.lookup x = some .free) := fun k e => lookup_relabel (scope := scope) (env := X.env) e
    rcases hx with e | e
    · rcases sub _ e with z | ⟨_, z⟩
      · exact absurd rfl (S.nocell _ (PySem.mem_of_lookup z))
      · exact PySem.mem_of_lookup z
    · rcases sub _ e with z | ⟨z, _⟩
      · exact PySem.mem_of_lookup z
      · cases z
  refine ⟨⟨I.ok.mod, S.kind, I.ok.glob, I.ok.blt, hC, fun x y c e1 e2 => I.ok.inj x y c (clsub x c e1) (clsub y c e2), fun x hx => ?_, fun x c z _ => absurd (show false = true from z) Bool.false_ne_true, I.ok.hd, I.ok.frames, .inl rfl, fun b hb => ?_, I.bs, Nat.le_trans I.ok.bsz I.sz, fun b o e hb => ?_, fun b hb hb2 => ?_, I.stack, I.stkFree⟩,
    rfl, I.bare, Un.kept hk, ⟨m, hn, fun j x v e1 e2 e3 => ?_⟩, fun x c e => ?_, I.hok.fresh hC, fun x c e => I.freeC x c (clsub x c e), fun p hp => absurd (show p ∈ ([] : List (Addr × Obj)) from hp) (by simp), I.hok.kept hk, ?_⟩
  · exact clOf_has X.env scope.names [] x (.inl (relk x hx))
  · exact ⟨Nat.ne_of_lt (Nat.lt_of_lt_of_le (hfl b hb) hC), fun x c e => (hf b hb).2.2.2.2.1 x c (clsub x c e)⟩
  · rcases (hf b hb).2.2.2.1 with z | z
    · exact I.ok.noex b o e z
    · exact absurd (Nat.lt_of_lt_of_le (Heap.lt_size e) (Nat.le_trans I.ok.bsz z)) (Nat.lt_irrefl _)
  · rcases List.mem_cons.mp (I.stkSub b hb2) with z | z
    · exact (hf b hb).2.1 z
    · exact (hf b hb).2.2.1 z
  · have e2' : (capt caps σ)[j]? = some (some v) := e2
    unfold capt at e2'
    rw [List.getElem?_map] at e2'
    cases hc : caps[j]? with
    | none => rw [hc] at e2'; cases e2'
    | some o =>
      rw [hc] at e2'
      cases o with
      | none => cases e2'
      | some i =>
        have e4 : (σ[i]?).getD none = some v := Option.some.inj e2'
        have e5 : σ[i]? = some (some v) := by
          cases q : σ[i]? with
          | none => rw [q] at e4; cases e4
          | some y => rw [q] at e4; exact congrArg some e4
        obtain ⟨a1, a2, a3⟩ := hat j i x hc e1
        obtain ⟨mX, hnX, hl⟩ := I.loc
        obtain ⟨u, r, l⟩ := hl i x v a1 e5 (a3.elim (fun z => .inr (.inl z)) fun z => .inr (.inr z))
        refine ⟨u, r, .inr ?_⟩
        obtain ⟨c, hcx, cell⟩ : ∃ c, X.env.cells.lookup x = some c ∧ s.heap.IsCell c (some u) := by
          rcases l with ⟨k, _⟩ | ⟨_, z⟩
          · rw [k] at a3; rcases a3 with z | z <;> cases z
          · exact z
        obtain ⟨k, hk2, hk3⟩ := relabel_free (scope := scope) (env := X.env) a2
        obtain ⟨c', hc'⟩ := clOf_has X.env scope.names [] x (.inl (PySem.mem_of_lookup a2))
        have hcc : c' = c := Option.some.inj ((clsub x c' hc').symm.trans hcx)
        subst hcc
        refine ⟨?_, c', hc', ?_⟩
        · rcases hk2 with z | z
          · subst z; exact .inl hk3
          · subst z; exact .inr hk3
        · obtain ⟨o, ho, hd⟩ := cell
          exact ⟨o, hk _ _ ho, hd⟩
  · obtain ⟨v, o, ho, hd⟩ := I.cell x c (clsub x c e)
    exact ⟨v, o, hk _ _ ho, hd⟩
  · show (capt caps σ).length = N.length
    unfold capt; rw [List.length_map]; exact hlen
end
end L2
set_option Elab.async false
set_option linter.all false
set_option maxRecDepth 100000
set_option maxHeartbeats 4000000
namespace L2
open PySem PySem.Spec PyProof.Rows
theorem codeAny_compLoop_own {prog : Program} {w : World} {A : Around} {R : Result → Shared → Prop} {s : Shared} {elt target iter : Expr} {ifs : List Expr} {scope : Scope} {pos : Pos} {it acc : Value} {env : Env} (I : Nat → Shared → Prop)
    (turn : ∀ n s, I n s → wpAny (model prog w) A (pyNext it) (fun r s₁ => match r with
      | none => R (.ok .next) s₁
      | some v => wpAny (model prog w) A (letOwnedTupleGo target it v) (fun _ s₁' => wpAny (model prog w) A (assign target env v) (fun _ s₂ =>
          wpAny (model prog w) A (forIn ifs true fun c r => if r = true then do let ok ← isTrue c env (eval c env); pure (ForInStep.yield ok) else pure (ForInStep.yield r)) (fun ok s₃ =>
            if ok = true then wpAny (model prog w) A (eval elt env) (fun x s₄ =>
              wpAny (model prog w) A (call (.builtin "list.append") [acc, x]) (fun _ s₅ => ∃ m, m < n ∧ I m s₅) (fun _ _ => False) s₄) (fun _ _ => False) s₃
            else ∃ m, m < n ∧ I m s₃) (fun _ _ => False) s₂) (fun _ _ => False) s₁') (fun _ _ => False) s₁) (fun _ _ => False) s)
    (n : Nat) (h : I n s) :
    codeAny (model prog w) A (.compLoop (.ListComp elt [⟨target, iter, ifs, 0⟩] scope pos) 0 it acc env) R s := by
  refine codeAny_loop rfl I (fun n s hI => ?_) n h
  show wpAny _ A ((compTurn (.ListComp elt [⟨target, iter, ifs, 0⟩] scope pos) 0 it acc env).onRaise (fun x => do noteFrame x env; theTreesLotGoes x)) _ _ s
  refine wpAny_noted ?_
  rw [compTurn_list]
  refine wpAny_noRaise ?_
  refine wpAny_bind (wpAny_standAt (wpAny_bind (wpAny_mono (turn n s hI) (fun r s₁ h₁ => ?_) fun _ _ h' => h')))
  cases r with
  | none => exact wpAny_pure h₁
  | some v =>
    refine wpAny_bind (wpAny_mono h₁ (fun _ s₁' h₁' => ?_) fun _ _ h' => h')
    refine wpAny_bind (wpAny_mono h₁' (fun _ s₂ h₂ => wpAny_bind (wpAny_mono h₂ (fun ok s₃ h₃ => ?_) fun _ _ h' => h')) fun _ _ h' => h')
    cases ok with
    | false => exact wpAny_pure ⟨rfl, h₃⟩
    | true =>
      exact wpAny_bind (wpAny_bind (wpAny_mono h₃ (fun x s₄ h₄ => wpAny_bind (wpAny_mono h₄ (fun _ s₅ h₅ => wpAny_pure (wpAny_pure ⟨rfl, h₅⟩)) fun _ _ h' => h')) fun _ _ h' => h'))
noncomputable def PTs (X : Cx) (ifs : List Expr) (t : TT) : Prop :=
  ∀ (pins : List (Addr × Obj)) (s : Shared) (σ : St) (H : Hp) (Q : Bool → Hp → Prop), Inv X pins σ H s → t σ H Q →
    wpAny (model X.prog X.w) X.A (forIn ifs true fun c r => if r = true then do let ok ← isTrue c X.env (eval c X.env); pure (ForInStep.yield ok) else pure (ForInStep.yield r)) (TP X pins σ Q) X.xe s
noncomputable def tYes : TT := fun _ H Q => Q true H
theorem pts_nil {X : Cx} : PTs X [] tYes := fun _ _ _ H _ I h => wpAny_tests_nil ⟨H, I, h⟩
theorem pts_one {X : Cx} {c : Expr} {t : TT} (h : PT X c t) : PTs X [c] t := fun pins s σ H Q I hw => wpAny_tests_one (h pins s σ H Q I hw)
noncomputable def tLoop (J : It) (g : TG) (tt : TT) (te : TE) (τ0 : St) (H : Hp) (Qd : List V → Hp → Prop) : Prop :=
  ∃ W : Nat → Nat → List V → St → Hp → Prop, (∃ m, W 0 m [] τ0 H) ∧ ∀ i m xs τ H, W i m xs τ H →
    (J.stop i H ∧ Qd xs H) ∨ (J.go i H ∧ ∃ M : List V → St → Hp → Prop, (∀ ys τ' H', M ys τ' H' → ∃ m', m' < m ∧ W (i + 1) m' ys τ' H') ∧ ∀ x H', J.yld i H x H' → g x τ H' fun τ2 H2 => tt τ2 H2 fun b H3 =>
      if b = true then te τ2 H3 fun v H4 => xs.length < sizeLine ∧ M (xs ++ [v]) τ2 H4 else M xs τ2 H3)
section
variable {X : Cx} {pins : List (Addr × Obj)} {σ : List (Option V)} {s : Shared}
noncomputable abbrev lobj (its : List Value) (k : Nat) : Obj := { cls := .type "list", data := .seq its.toArray k }
theorem comp_run {elt tg iter : Expr} {ifs : List Expr} {scope : Scope} {N : List Str} {caps : List (Option Nat)} {pos : Pos} {g : TG} {tt : TT} {te : TE} {J : It} {fp : List Addr} {it : Addr} {tn : Nat → Heap → Prop} {H2 : Hp} {s2 : Shared} {Qd : List V → Hp → Prop}
    {E : Value → Shared → Prop} {RR : Value → Addr → Result → Shared → Prop}
    (S : BlkScope scope N) (hcap : capOk X.N X.env scope N caps = true) (hfree : ∀ n, (n, NameKind.free) ∈ scope.names → ∃ c, X.env.cells.lookup n = some c) (hc : X.calm = true)
    (hg : ∀ s₀ H₀ C fp, PG (blk X scope N s₀ H₀ C fp) tg g) (ht : ∀ s₀ H₀ C fp, PTs (blk X scope N s₀ H₀ C fp) ifs tt) (he : ∀ s₀ H₀ C fp, PE (blk X scope N s₀ H₀ C fp) elt te)
    (I2 : Inv X pins σ H2 s2) (T : Turn X.prog X.w X.K tg J fp it tn) (st2 : tn 0 s2.heap) (f2 : ∀ b ∈ fp, FpOk X pins H2 b) (h : tLoop J g tt te (capt caps σ) H2 Qd)
    (hRR : ∀ (D C : Addr) m xs H3 (s4 : Shared), Inv X pins σ (upd H3 D (.lst xs)) s4 → H3 D = none → s4.heap.Ns C m → FpOk X pins (upd H3 D (.lst xs)) C → Qd xs H3 → RR (.ref D) C (.ok .next) s4) :
    wpAny (model X.prog X.w) X.A (newList []) (fun acc s₃ => wpAny (model X.prog X.w) X.A (newFunctionEnv scope X.env.globals (clOf X.env scope.names []) [] X.env.qual none .none (some X.env)) (fun cenv s₄ =>
      codeAny (model X.prog X.w) X.A (.compStart (.ListComp elt [⟨tg, iter, ifs, 0⟩] scope pos) 0 (.ref it) acc { cenv with scope := relabel scope X.env }) (RR acc cenv.locals) s₄) E s₃) E s2 := by
  have hfl : ∀ b ∈ fp, b < s2.heap.objs.size := fun b hb => by
    obtain ⟨o, e, _⟩ := T.obj 0 s2.heap st2 b hb
    exact Heap.lt_size e
  refine wpAny_newObj_type (wpAny_newFunctionEnv S.nocell (by intro y hy; simp at hy) (fun h₁ hns hsb => ?_) S.kind)
  dsimp only at hns hsb ⊢
  generalize hHD : s2.heap.push { cls := .type "list", dict := none, data := .seq ([] : List Value).toArray } = HD at hns hsb ⊢
  have hC : HD.objs.size = s2.heap.objs.size + 1 := by rw [← hHD, Heap.size_push]
  have hDC : s2.heap.objs.size ≠ HD.objs.size := by rw [hC]; exact Nat.ne_of_lt (Nat.lt_succ_self _)
  have hCle : s2.heap.objs.size ≤ HD.objs.size := by rw [hC]; exact Nat.le_succ _
  have old : ∀ b o, s2.heap.get? b = some o → h₁.get? b = some o := fun b o e =>
    hsb.extBut b o (by rw [hC]; exact Nat.ne_of_lt (Nat.lt_succ_of_lt (Heap.lt_size e))) (Heap.get?_push_of_some _ (hHD ▸ Heap.get?_push_of_some _ e))
  have hacc : h₁.get? s2.heap.objs.size = some (lobj [] 0) := hsb.extBut _ _ hDC (Heap.get?_push_of_some _ (hHD ▸ Heap.get?_push_size _ rfl))
  obtain ⟨W, ⟨m0, w0⟩, turn⟩ := h
  have IY0 := Inv.block (caps := caps) (C := HD.objs.size) (fp := fp) (s1 := s2) (h1 := h₁) (tk := s2.toks + ([] : List (Str × Value)).length) S hcap hfree I2 f2 hfl hCle old hns
  have freshD : H2 s2.heap.objs.size = none := I2.hok.fresh (Nat.le_refl _)
  have pinOf : ∀ {τ : St} {H' : Hp} {s' : Shared} {its : List Value} {k : Nat}, Inv (blk X scope N s2 H2 HD.objs.size fp) [] τ H' s' → H' s2.heap.objs.size = none → s'.heap.get? s2.heap.objs.size = some (lobj its k) →
      Inv (blk X scope N s2 H2 HD.objs.size fp) [(s2.heap.objs.size, lobj its k)] τ H' s' := fun {τ H' s' its k} I hn e => I.pins_of fun p hp => by
    have ep : p = (s2.heap.objs.size, lobj its k) := by simpa using hp
    subst ep
    exact ⟨e, hn, hDC, fun z => by
      rcases List.mem_cons.mp (I2.stkSub _ z) with q | q
      · exact absurd (q ▸ I2.lt) (Nat.lt_irrefl _)
      · exact I2.nofs (Nat.le_refl _) q, fun v z => by cases z⟩
  have fY : ∀ {H' : Hp} {its : List Value} {k : Nat}, (∀ b ∈ fp, H' b = none) → ∀ b ∈ fp, FpOk (blk X scope N s2 H2 HD.objs.size fp) [(s2.heap.objs.size, lobj its k)] H' b := fun {H' its k} hn b hb => by
    have z := f2 b hb
    refine ⟨hn b hb, Nat.ne_of_lt (Nat.lt_of_lt_of_le (hfl b hb) hCle), fun q => ?_, .inl hb, fun x c e => IY0.ok.exf b hb |>.2 x c e, fun p hp => ?_⟩
    · rcases List.mem_cons.mp (I2.stkSub b q) with q | q
      · exact z.2.1 q
      · exact z.2.2.1 q
    · have ep : p = (s2.heap.objs.size, lobj its k) := by
        have : p ∈ [] ++ [(s2.heap.objs.size, lobj its k)] := hp
        simpa using this
      subst ep
      exact Nat.ne_of_gt (hfl b hb)
  have fin : ∀ {τ : St} {H3 : Hp} {s4 : Shared} {xs : List V} {its : List Value} {k : Nat}, Inv (blk X scope N s2 H2 HD.objs.size fp) [(s2.heap.objs.size, lobj its k)] τ H3 s4 → Vals xs its → xs.length ≤ sizeLine → Qd xs H3 →
      RR (.ref s2.heap.objs.size) HD.objs.size (.ok .next) s4 := fun {τ H3 s4 xs its k} I r hz q => by
    have hD := I.pin (s2.heap.objs.size, lobj its k) (by show _ ∈ [] ++ [_]; simp)
    have IX : Inv X pins σ H3 s4 := I2.call' (s' := s4) (ch := fp) I.os I.base I.hok I.bare fun b hb => ⟨(f2 b hb).2.2.2.1, (f2 b hb).2.1, (f2 b hb).2.2.2.2.1, (f2 b hb).2.2.2.2.2⟩
    have fD : FpOk X pins H3 s2.heap.objs.size := I2.fpOk (Nat.le_refl _) hD.2.1
    have fC : FpOk X pins H3 HD.objs.size := I2.fpOk hCle I.free
    have IT : Inv X pins σ (upd H3 s2.heap.objs.size (.lst xs)) s4 := IX.track hD.2.1 I2.sz fD.2.1 (fun x c e => fD.2.2.2.2.1 x c e) (fun p hp => fD.2.2.2.2.2 p hp) ⟨hz, its, k, r, hD.1⟩
    obtain ⟨m, hn, _⟩ := I.loc
    exact hRR _ _ m xs H3 s4 IT hD.2.1 hn ⟨by rw [upd_ne (Ne.symm hDC)]; exact fC.1, fC.2⟩ q
  have loop : ∀ s₃ : Shared, s₃ = { s2 with heap := h₁, toks := s2.toks + ([] : List (Str × Value)).length } →
      codeAny (model X.prog X.w) X.A (.compLoop (.ListComp elt [⟨tg, iter, ifs, 0⟩] scope pos) 0 (.ref it) (.ref s2.heap.objs.size) (compEnvC scope (clOf X.env scope.names []) HD.objs.size X.env)) (RR (.ref s2.heap.objs.size) HD.objs.size) s₃ := by
    rintro s₃ rfl
    refine codeAny_compLoop_own (fun n s' => ∃ i xs its k τ H', Inv (blk X scope N s2 H2 HD.objs.size fp) [(s2.heap.objs.size, lobj its k)] τ H' s' ∧ tn i s'.heap ∧ (∀ b ∈ fp, H' b = none) ∧ Vals xs its ∧ xs.length ≤ sizeLine ∧ W i n xs τ H') ?_ m0
      ⟨0, [], [], 0, _, _, pinOf IY0 freshD hacc, T.keep 0 _ _ st2 fun b _ o e => old b o e, fun b hb => (f2 b hb).1, .nil, Nat.zero_le _, w0⟩
    rintro n s3 ⟨i, xs, its, k, τ, H3, I3, st3, fr3, r3, z3, w3⟩
    rcases turn i n xs τ H3 w3 with ⟨stop, qn⟩ | ⟨go, M, hM, step⟩
    · refine wpAny_mono (T.done (blk X scope N s2 H2 HD.objs.size fp) rfl rfl rfl hc i _ s3 τ H3 (fun _ _ => False) I3 (fY fr3) st3 stop) (fun r s4 ⟨hr, I4⟩ => ?_) fun _ _ z => z
      subst hr
      exact fin I4 r3 z3 qn
    · refine wpAny_mono (T.item (blk X scope N s2 H2 HD.objs.size fp) rfl rfl rfl hc i _ s3 τ H3 (fun _ _ => False) I3 (fY fr3) st3 go) (fun r s4 ⟨u, hr, h4⟩ => ?_) fun _ _ z => z
      subst hr
      refine wpAny_mono h4 (fun _ s5 ⟨x, H5, I5, r5, y5, st5, fr5⟩ => ?_) fun _ _ z => z
      have I5' := I5.pinned (fY fr5) (T.obj _ _ st5)
      have keepT : ∀ {τ7 : St} {H7 : Hp} {s7 : Shared}, Inv (blk X scope N s2 H2 HD.objs.size fp) ([(s2.heap.objs.size, lobj its k)] ++ pinsAt fp s5.heap) τ7 H7 s7 → tn (i + 1) s7.heap ∧ ∀ b ∈ fp, H7 b = none := fun {τ7 H7 s7} I7 => by
        refine ⟨T.keep _ _ _ st5 fun b hb o e => (I7.pin (b, o) (List.mem_append_right _ (List.mem_append_right _ (mem_pinsAt hb e)))).1, fun b hb => ?_⟩
        obtain ⟨o, e, d⟩ := T.obj _ _ st5 b hb
        exact (I7.pin (b, o) (List.mem_append_right _ (List.mem_append_right _ (mem_pinsAt hb e)))).2.1
      refine wpAny_mono (hg _ _ _ _ _ s5 τ H5 x u _ I5' r5 (step x H5 y5)) (fun _ s6 ⟨τ6, H6, I6, q6⟩ => ?_) fun _ _ z => z
      refine wpAny_mono (ht _ _ _ _ _ s6 τ6 H6 _ I6 q6) (fun ok s7 ⟨H7, I7, q7⟩ => ?_) fun _ _ z => z
      cases ok with
      | false =>
        rw [if_neg Bool.false_ne_true] at q7 ⊢
        obtain ⟨m', hm, w7⟩ := hM _ _ _ q7
        obtain ⟨a1, a2⟩ := keepT I7
        exact ⟨m', hm, i + 1, xs, its, k, τ6, H7, I7.unpinned, a1, a2, r3, z3, w7⟩
      | true =>
        rw [if_pos rfl] at q7 ⊢
        refine wpAny_mono (he _ _ _ _ _ s7 τ6 H7 _ I7 q7) (fun v s8 ⟨y, H8, I8, r8, q8⟩ => ?_) fun _ _ z => z
        obtain ⟨hz, q8⟩ := q8
        obtain ⟨m', hm, w8⟩ := hM _ _ _ q8
        obtain ⟨a1, a2⟩ := keepT I8
        have hD := I8.pin (s2.heap.objs.size, lobj its k) (List.mem_append_right _ (List.mem_append_left _ (by simp)))
        have hlen := r3.length
        refine wpAny_list_append_plain (items := its.toArray) ⟨k, hD.1⟩ (fun h' hp hs => ?_) (by rw [List.size_toArray]; omega)
        obtain ⟨k', hp⟩ := hp
        have I9 : Inv (blk X scope N s2 H2 HD.objs.size fp) [] τ6 H8 { s8 with heap := h' } :=
          (I8.pins_of (pins' := []) (by simp)).turned (t' := s8.toks) (it := s2.heap.objs.size) (fun b o hb e => (hs.2 b hb).trans e) hD.2.1 hD.2.2.1 (.inr (Nat.le_refl _))
            (fun x c e z => by
              have q := IY0.cell x c e
              obtain ⟨v, o, ho, hd⟩ := I8.cell x c e
              have e1 : s8.heap.get? s2.heap.objs.size = some (lobj its k) := hD.1
              rw [z, e1] at ho
              cases ho
              cases hd) (by intro p hp; exact absurd (show p ∈ ([] : List (Addr × Obj)) ++ [] from hp) (by simp))
        have hp' : ({ s8 with heap := h' } : Shared).heap.get? s2.heap.objs.size = some (lobj (its ++ [v]) k') := by
          show h'.get? _ = _
          rw [hp]; simp
        have hkt : tn (i + 1) h' := T.keep _ _ _ a1 fun b hb o e => (hs.2 b (Nat.ne_of_lt (hfl b hb))).trans e
        refine ⟨m', hm, i + 1, xs ++ [y], its ++ [v], k', τ6, H8, pinOf I9 hD.2.1 hp', hkt, a2, r3.append (.cons r8 .nil), ?_, w8⟩
        rw [List.length_append]
        exact hz
  exact codeAny_compStart_list (loop _ rfl) (T.self X.A 0 _ _ _ (T.keep 0 _ _ st2 fun b _ o e => old b o e) (loop _ rfl))
noncomputable def freeOk (env : Env) (scope : Scope) : Bool := scope.names.all fun p => p.2 != .free || env.scope.names.lookup p.1 == some .cell || env.scope.names.lookup p.1 == some .free
theorem Inv.freeOk {H : Hp} {scope : Scope} (I : Inv X pins σ H s) (h : freeOk X.env scope = true) : ∀ n, (n, NameKind.free) ∈ scope.names → ∃ c, X.env.cells.lookup n = some c := fun n hn => by
  have q := List.all_eq_true.mp h _ hn
  simp only [Bool.or_eq_true, beq_iff_eq, bne_iff_ne] at q
  refine I.ok.has n ?_
  rcases q with (q | q) | q
  · exact absurd rfl q
  · exact .inl q
  · exact .inr q
noncomputable def tComp (caps : List (Option Nat)) (wi : TI) (g : TG) (tt : TT) (te : TE) : TE := fun σ H Q => wi σ H fun J H1 => tLoop J g tt te (capt caps σ) H1 fun xs H3 => ∀ p, H3 p = none → Q (.ref p) (upd H3 p (.lst xs))
theorem pe_comp {elt tg iter : Expr} {ifs : List Expr} {scope : Scope} {N : List Str} {caps : List (Option Nat)} {pos : Pos} {wi : TI} {g : TG} {tt : TT} {te : TE}
    (S : BlkScope scope N) (hcap : capOk X.N X.env scope N caps = true) (hfr : L2.freeOk X.env scope = true) (hc : X.calm = true) (hi : PI X tg iter wi)
    (hg : ∀ s₀ H₀ C fp, PG (blk X scope N s₀ H₀ C fp) tg g) (ht : ∀ s₀ H₀ C fp, PTs (blk X scope N s₀ H₀ C fp) ifs tt) (he : ∀ s₀ H₀ C fp, PE (blk X scope N s₀ H₀ C fp) elt te)
    (hs : ∀ x, foldedSetIterable iter X.env x = pure x := by intro _; rfl) : PE X (.ListComp elt [⟨tg, iter, ifs, 0⟩] scope pos) (tComp caps wi g tt te) := by
  intro pins s σ H Q I h
  rw [eval_ListComp]
  refine wpAny_comprehension_free (use := none) rfl hs (closureFor_eq (I.freeOk hfr)) S.kind (fun x hx hl => hl ▸ S.names x hx) ?_
  refine thn (hi pins s σ H _ I h) fun v s1 h1 => thn h1 fun itv s2 h2 => ?_
  obtain ⟨it, fp, tn, J, H2, rfl, I2, T, st2, f2, hl⟩ := h2
  refine comp_run (RR := fun acc C => compPost (model X.prog X.w) X.A X.xe none (EP X pins σ Q) acc C) S hcap (I.freeOk hfr) hc hg ht he I2 T st2 f2 hl ?_
  intro D C m xs H3 s4 IT hD hn fC q
  refine ⟨m, hn, fun h' sb => ⟨.ref D, _, ?_, rfl, q D hD⟩⟩
  exact IT.turned (t' := s4.toks) (it := C) (fun b o hb e => (sb.2 b hb).trans e) fC.1 fC.2.1 fC.2.2.2.1 fC.2.2.2.2.1 fC.2.2.2.2.2
theorem ps_setComp {elt tg iter : Expr} {ifs : List Expr} {scope : Scope} {N : List Str} {caps : List (Option Nat)} {pos pos' spos : Pos} {wi : TI} {g : TG} {tt : TT} {te : TE} {i : Nat} {x : Str}
    (hN : X.N.Nodup) (hix : X.N[i]? = some x) (hx : X.env.scope.names.lookup x = some .local)
    (S : BlkScope scope N) (hcap : capOk X.N X.env scope N caps = true) (hfr : L2.freeOk X.env scope = true) (hc : X.calm = true) (hi : PI X tg iter wi)
    (hg : ∀ s₀ H₀ C fp, PG (blk X scope N s₀ H₀ C fp) tg g) (ht : ∀ s₀ H₀ C fp, PTs (blk X scope N s₀ H₀ C fp) ifs tt) (he : ∀ s₀ H₀ C fp, PE (blk X scope N s₀ H₀ C fp) elt te)
    (hsw : swapsWith (.ListComp elt [⟨tg, iter, ifs, 0⟩] scope pos) (some (.Name x pos')) spos.line X.env = pure true := by rfl)
    (hs : ∀ x, foldedSetIterable iter X.env x = pure x := by intro _; rfl) : PS X (.Assign [.Name x pos'] (.ListComp elt [⟨tg, iter, ifs, 0⟩] scope pos) spos) (tAsg (tComp caps wi g tt te) (gName i)) := by
  intro pins s σ H D I h
  rw [exec_Assign_Name_used _ _ _ _ hsw]
  refine wpAny_bind (wpAny_standAt (wpAny_bind ?_))
  show wpAny _ X.A (do let _ ← comprehension (.ListComp elt [⟨tg, iter, ifs, 0⟩] scope pos) scope X.env _ (newList []) false (eval iter X.env) (some (assign (.Name x pos') X.env))) _ _ s
  refine wpAny_bind (wpAny_mono (wpAny_comprehension_free (use := some (assign (.Name x pos') X.env)) (Q := fun _ s' => SP X pins D .next s') rfl hs (closureFor_eq (I.freeOk hfr)) S.kind (fun x hx hl => hl ▸ S.names x hx)
    (thn (hi pins s σ H _ I h) fun v s1 h1 => thn h1 fun itv s2 h2 => ?_)) (fun _ s' hq => wpAny_pure (wpAny_pure hq)) fun _ _ e => e)
  obtain ⟨it, fp, tn, J, H2, rfl, I2, T, st2, f2, hl⟩ := h2
  refine comp_run (RR := fun acc C => compPost (model X.prog X.w) X.A X.xe (some (assign (.Name x pos') X.env)) (fun _ s' => SP X pins D .next s') acc C) S hcap (I.freeOk hfr) hc hg ht he I2 T st2 f2 hl ?_
  intro Dl C m xs H3 s4 IT hD hn fC q
  show wpAny _ X.A (assign (.Name x pos') X.env (.ref Dl)) _ _ _
  obtain ⟨oC, es, ep, hoC, hdC, rC⟩ := id hn
  have IP : Inv X (pins ++ [(C, oC)]) σ (upd H3 Dl (.lst xs)) s4 := IT.pins_of fun p hp => (List.mem_append.mp hp).elim (fun z => IT.pin p (List.mem_append_right _ z)) fun z => by
    have e : p = (C, oC) := by simpa using z
    subst e
    exact ⟨hoC, fC.1, fC.2.1, fC.2.2.1, fun v z => by rw [hdC] at z; cases z⟩
  refine wpAny_assign_Name (store_ok (v := .ref Dl) IP hN hix (.inl hx) rfl (fun s5 I5 => ?_) (.inr hx))
  have hC5 := I5.pin (C, oC) (List.mem_append_right _ (List.mem_append_right _ (by simp)))
  refine ⟨m, ⟨oC, es, ep, hC5.1, hdC, rC⟩, fun h' sb => ⟨_, _, ?_, q Dl hD⟩⟩
  exact I5.unpinned.turned (t' := s5.toks) (it := C) (fun b o hb e => (sb.2 b hb).trans e) fC.1 fC.2.1 fC.2.2.2.1 fC.2.2.2.2.1 fC.2.2.2.2.2
end
noncomputable def Its (x : Str) : It := ⟨fun i _ => i < x.cps.size, fun i H v H' => H' = H ∧ ∃ c, x.cps[i]? = some c ∧ v = .str ⟨#[c]⟩, fun i _ => i = x.cps.size⟩
theorem walks_str {prog : Program} {w : World} {A : Around} (hh : A.handled = none) (I : Addr) (x : Str) (t : Tok) : Walks prog w A I [I] [I] x.cps.size (SignAt x) (fun i h => h.IsStrIter I (strIterType x) x t i) := by
  unfold strIterType
  split
  · exact Walks.strAscii hh I x t
  · exact Walks.strWide hh I x t
theorem turn_str {P : Program} {w : World} {K : PySem.W.Frag} {tg : Expr} (it : Addr) (x : Str) (t : Tok) : Turn P w K tg (Its x) [it] it (fun i h => h.IsStrIter it (strIterType x) x t i) where
  mem := by simp
  obj := fun i h st b hb => by
    have e : b = it := by simpa using hb
    subst e
    obtain ⟨o, e, c, d⟩ := st
    exact ⟨o, e, fun v z => by rw [d] at z; cases z⟩
  keep := fun i h h' st k => let ⟨o, ho, r⟩ := st; ⟨o, k it (by simp) o ho, r⟩
  item := by
    intro X hP hw hK hc i pins s σ H E I hf st hg
    subst hP hw hK
    obtain ⟨f0, f1, f2, f3, f4, f5⟩ := hf it (by simp)
    have W := walks_str (prog := X.prog) (w := X.w) (I.ok.hd hc) it x t
    refine W.item i s _ _ hg st fun v h' tk hv st' kk => ?_
    obtain ⟨c, u, hcx, rfl⟩ := hv
    have I1 : Inv X pins σ H { s with heap := h', toks := tk } := I.turned (fun b o hb e => kk b o (by simpa using hb) e) f0 f1 f3 f4 f5
    obtain ⟨o, ho, hcl, hda⟩ := id st'
    refine ⟨_, rfl, go_of (s := { s with heap := h', toks := tk }) ho hcl hda (by unfold strIterType; split <;> decide) ⟨.str ⟨#[c]⟩, H, I1, ⟨u, rfl⟩, ⟨rfl, c, hcx, rfl⟩, st', fun b hb => (hf b hb).1⟩⟩
  done := by
    intro X hP hw hK hc i pins s σ H E I hf st hg
    subst hP hw hK
    obtain ⟨f0, f1, f2, f3, f4, f5⟩ := hf it (by simp)
    have W := walks_str (prog := X.prog) (w := X.w) (I.ok.hd hc) it x t
    have e : i = x.cps.size := hg
    subst e
    exact W.done s _ _ st fun h' tk kk => ⟨rfl, I.turned (t' := tk) (fun b o hb e => kk b o (by simpa using hb) e) f0 f1 f3 f4 f5⟩
  self := fun A i s Q E st h => by
    have st : s.heap.IsStrIter it (strIterType x) x t i := st
    unfold strIterType at st
    split at st
    · exact wpAny_pyIter_striter_ascii st h
    · exact wpAny_pyIter_striter_wide st h
end L2
set_option Elab.async false
set_option linter.all false
set_option maxRecDepth 100000
set_option maxHeartbeats 4000000
namespace L2
open PySem PySem.Spec PyProof.Rows
mutual
noncomputable def DatV (K : PySem.W.Frag) (H : Hp) : PyData → V → Prop
  | .none, v => v = .non
  | .bool b, v => v = .bl b
  | .int i, v => v = .int i
  | .str x, v => v = .str x
  | .list ds, v => ∃ a xs, v = .ref a ∧ SqL K H a xs ∧ DatVs K H ds xs
  | .tuple ds, v => ∃ a xs, v = .ref a ∧ SqT K H a xs ∧ DatVs K H ds xs
  | .dict _, _ => False
noncomputable def DatVs (K : PySem.W.Frag) (H : Hp) : List PyData → List V → Prop
  | [], xs => xs = []
  | d :: ds, xs => ∃ x r, xs = x :: r ∧ DatV K H d x ∧ DatVs K H ds r
end
theorem SqT.same {K : PySem.W.Frag} {H H' : Hp} {a : Addr} {xs : List V} (e : ∀ b o, H b = some o → H' b = some o) (h : SqT K H a xs) : SqT K H' a xs := by
  rcases h with (h | ⟨o, h⟩) | h
  · exact .inl (.inl (e _ _ h))
  · exact .inl (.inr ⟨o, e _ _ h⟩)
  · exact .inr h
section
variable {X : Cx} {pins : List (Addr × Obj)} {σ : St} {H : Hp} {s : Shared}
mutual
theorem Inv.reads (I : Inv X pins σ H s) : ∀ (d : PyData) (v : V) (u : Value), DatV X.K H d v → RelV v u → ∃ as, Reads s.heap u d as
  | .none, v, u, h, r => by
    simp only [DatV] at h
    subst h
    cases r
    exact ⟨_, .none⟩
  | .bool b, v, u, h, r => by
    simp only [DatV] at h
    subst h
    cases r
    exact ⟨_, .bool b⟩
  | .int i, v, u, h, r => by
    simp only [DatV] at h
    subst h
    obtain ⟨t, rfl⟩ := r
    exact ⟨_, .int i t⟩
  | .str x, v, u, h, r => by
    simp only [DatV] at h
    subst h
    obtain ⟨t, rfl⟩ := r
    exact ⟨_, .str x t⟩
  | .list ds, v, u, h, r => by
    simp only [DatV] at h
    obtain ⟨a, xs, rfl, h2, h3⟩ := h
    cases r
    obtain ⟨its, rv, ⟨o, n, e, hc, _, hd⟩, _⟩ := I.list h2
    obtain ⟨as, q⟩ := Inv.readsAll I ds xs its h3 rv
    exact ⟨_, .list e hc hd (by simpa using q)⟩
  | .tuple ds, v, u, h, r => by
    simp only [DatV] at h
    obtain ⟨a, xs, rfl, h2, h3⟩ := h
    cases r
    obtain ⟨its, rv, ⟨o, e, hc, n, hd⟩, _⟩ := I.tuple h2
    obtain ⟨as, q⟩ := Inv.readsAll I ds xs its h3 rv
    exact ⟨_, .tuple e hc hd (by simpa using q)⟩
  | .dict _, _, _, h, _ => by simp only [DatV] at h
theorem Inv.readsAll (I : Inv X pins σ H s) : ∀ (ds : List PyData) (xs : List V) (us : List Value), DatVs X.K H ds xs → Vals xs us → ∃ as, ReadsAll s.heap us ds as
  | [], xs, us, h, r => by
    simp only [DatVs] at h
    subst h
    cases r
    exact ⟨_, .nil⟩
  | d :: ds, xs, us, h, r => by
    simp only [DatVs] at h
    obtain ⟨x, rr, rfl, h2, h3⟩ := h
    cases r with
    | cons r1 r2 =>
      obtain ⟨as, q1⟩ := Inv.reads I d x _ h2 r1
      obtain ⟨bs, q2⟩ := Inv.readsAll I ds rr _ h3 r2
      exact ⟨_, .cons q1 q2⟩
end
noncomputable def rIsi (K : PySem.W.Frag) : List V → Hp → VK → Prop := fun xs H Q => ∃ x c t u b, xs = [x, c] ∧ RelV c u ∧ (∀ u', RelV c u' → u' = u) ∧ TyOf K H x t ∧ PySem.W.kitOne K t u = some b ∧ Q (.bl b) H
theorem call_isi : CallR X (.builtin "isinstance") (rIsi X.K) := by
  intro pins s σ H xs us Q I r h
  obtain ⟨x, c, t, u, b, rfl, rc, uc, ty, e, q⟩ := h
  obtain ⟨v, w', rfl, rx, rw'⟩ := vals2 r
  cases uc w' rw'
  exact isinst_ok I rx ty e fun tk => ⟨.bl b, H, I.tok tk, rfl, q⟩
theorem relTy {n : String} : RelV (.ty n) (.type n) ∧ ∀ u', RelV (.ty n) u' → u' = .type n := ⟨rfl, fun u' h => h⟩
theorem bls_of : ∀ {bs : List Bool} {its : List Value}, Vals (bs.map V.bl) its → its = bs.map Value.bool
  | [], _, .nil => rfl
  | b :: bs, _, .cons r t => by rw [List.map_cons, bls_of t, show _ = Value.bool b from r]
theorem all_range (bs : List Bool) : (List.range bs.length).all (fun i => bs.getD i true) = bs.all id := by
  induction bs with
  | nil => rfl
  | cons b r ih =>
    rw [List.length_cons, List.range_succ_eq_map, List.all_cons, List.all_map, List.all_cons]
    have e : ((fun i => (b :: r).getD i true) ∘ Nat.succ) = fun i => r.getD i true := by funext i; simp
    rw [e, ih]
    simp
theorem bl_iter {E : Value → Shared → Prop} {A : Around} {Q : Value → Shared → Prop} {l : Addr} {its : Array Value} (hl : s.heap.IsList l its)
    (h : ∀ s₂ : Shared, s₂ = { s with heap := s.heap.push { cls := .type "list_iterator", data := .fields #[.ref l, .int 0 0] } } →
      (s₂.heap.IsListIter s.heap.objs.size l 0 ∧ s₂.heap.IsList l its) → l ≠ s.heap.objs.size → Q (.ref s.heap.objs.size) s₂) :
    wpAny (model X.prog X.w) A (pyIter (.ref l)) Q E s := by
  have hlt : l < s.heap.objs.size := by obtain ⟨_, e, _⟩ := hl; exact Heap.lt_size e
  exact wpAny_pyIter_list hl (h _ rfl ⟨⟨_, Heap.get?_push_size _ rfl, rfl, rfl⟩, hl.push _⟩ (Nat.ne_of_lt hlt))
theorem call_all (hc : X.calm = true) : CallR X (.builtin "all") (fun xs H Q => ∃ (a : Addr) (bs : List Bool), xs = [.ref a] ∧ SqL X.K H a (bs.map V.bl) ∧ Q (.bl (bs.all id)) H) := by
  intro pins s σ H xs us Q I r h
  obtain ⟨a, bs, rfl, ha, q⟩ := h
  obtain ⟨u, rfl, ru⟩ := vals1 r
  cases ru
  obtain ⟨its, rv, pl, hz⟩ := I.list ha
  have eb := bls_of rv
  subst eb
  refine call_all_walk (bl_iter pl.isList fun s₂ e st hne => ?_)
  subst e
  refine ⟨_, _, _, _, _, _, fun i => bs.getD i true, rfl, Walks.list (A := X.A.in1) (I.ok.hd hc) _ a hne _, st, fun i v s Q' E' hP hQ => ?_, fun h' tk hk => ?_⟩
  · have hP : (bs.map Value.bool).toArray[i]? = some v := hP
    rw [List.getElem?_toArray, List.getElem?_map] at hP
    cases hb : bs[i]? with
    | none => rw [hb] at hP; cases hP
    | some b =>
      rw [hb] at hP
      cases hP
      refine wpAny_truthy_bool ?_
      have : bs.getD i true = b := by rw [List.getD_eq_getElem?_getD, hb]; rfl
      have hQ : Q' (bs.getD i true) s := hQ
      rw [this] at hQ
      exact hQ
  · refine ⟨.bl (bs.all id), H, I.kept (t' := tk) fun b o e => hk b o (by simp; intro z; exact absurd (z ▸ Heap.lt_size e) (Nat.lt_irrefl _)) (Heap.get?_push_of_some _ e), ?_, q⟩
    rw [← all_range bs]
    show _ = _
    simp
theorem op_le_str : OpR X (compareOp .LtE) (fun x y H Q => ∃ i j, x = .str i ∧ y = .str j ∧ Q (.bl (!decide (j.cps.toList < i.cps.toList))) H) := by
  intro pins s σ H x y v u Q I rx ry h
  obtain ⟨i, j, rfl, rfl, q⟩ := h
  obtain ⟨t, rfl⟩ := rx
  obtain ⟨t', rfl⟩ := ry
  exact PySem.P.le_str (fin_bl I q rfl)
theorem op_mul_str : OpR X (binaryOp .Mult) (fun x y H Q => ∃ i n, x = .str i ∧ y = .int n ∧ MulOk i n ∧ Q (.str (Txt.mul i n)) H) := by
  intro pins s σ H x y v u Q I rx ry h
  obtain ⟨i, n, rfl, rfl, hk, q⟩ := h
  obtain ⟨t, rfl⟩ := rx
  obtain ⟨t', rfl⟩ := ry
  exact SB.mul hk fun t' k => ⟨.str _, H, I.tok _, ⟨_, rfl⟩, q⟩
theorem sl_str : SlR X (fun x lo hi H Q => ∃ y, x = .str y ∧ y.length ≤ sizeLine ∧ Q (.str (Txt.slice y lo hi)) H) := by
  intro pins s σ H x v vl vu lo hi sl Q I rx hs pl pu h
  obtain ⟨y, rfl, hz, q⟩ := h
  obtain ⟨t, rfl⟩ := rx
  have fin : ∀ (l u : Option (Int × Tok)), vl = partValue l → vu = partValue u → lo = l.map (·.1) → hi = u.map (·.1) → wpAny (model X.prog X.w) X.A (getItem (.str y t) (.ref sl)) (EP X pins σ Q) X.xe s := fun l u e1 e2 e3 e4 => by
    obtain ⟨o, ho, hc, hd⟩ := hs
    refine wpAny_getItem_str_slice (l := l) (u := u) (st := none) ⟨o, ho, hc, by rw [hd, e1, e2]; rfl⟩ rfl ?_
    subst e3 e4
    exact post_val_or_str ⟨Nat.le_trans (Txt.slice_le y _ _) hz, fun t' k => ⟨.str _, H, I.tok _, ⟨_, rfl⟩, q⟩⟩
  refine ⟨"str", _, PySem.F.slot_str_getitem.lookup, typeIs_str _ _ _, ?_⟩
  cases pl with
  | none =>
    cases pu with
    | none => exact fin none none rfl rfl rfl rfl
    | int j tj => exact fin none (some (j, tj)) rfl rfl rfl rfl
  | int i ti =>
    cases pu with
    | none => exact fin (some (i, ti)) none rfl rfl rfl rfl
    | int j tj => exact fin (some (i, ti)) (some (j, tj)) rfl rfl rfl rfl
theorem strs_of : ∀ {ys : List Str} {its : List Value}, Vals (ys.map V.str) its → StrsAre its ys
  | [], _, .nil => .nil
  | y :: ys, _, .cons r t => by
    obtain ⟨tk, e⟩ := (show ∃ t, _ = Value.str y t from r)
    subst e
    exact .cons y tk (strs_of t)
end
end L2
set_option Elab.async false
set_option linter.all false
set_option maxRecDepth 100000
set_option maxHeartbeats 4000000
namespace L2
open PySem PySem.Spec PyProof.Rows
noncomputable def notStar : Expr → Bool
  | .Starred _ _ => false
  | _ => true
theorem star_cons {e : Expr} (es : List Expr) (env : Env) (h : notStar e = true) : starEach (e :: es) env = (false, eval e env) :: starEach es env := by
  cases e <;> first | rfl | cases h
theorem star_back {pos : Pos} {env : Env} : ∀ (es : List Expr), es.all notStar = true → (backTo pos (starEach es env)).any (·.1) = false
  | [], _ => rfl
  | e :: es, h => by
    rw [List.all_cons, Bool.and_eq_true] at h
    rw [star_cons es env h.1]
    show (false || (backTo pos (starEach es env)).any (·.1)) = false
    rw [star_back es h.2]; rfl
theorem star_few {pos : Pos} {env : Env} : ∀ (es : List Expr), es.all notStar = true → (backTo pos (starEach es env)).all (fun x => !x.1) = true
  | [], _ => rfl
  | e :: es, h => by
    rw [List.all_cons, Bool.and_eq_true] at h
    rw [star_cons es env h.1]
    show (true && (backTo pos (starEach es env)).all (fun x => !x.1)) = true
    rw [star_few es h.2]; rfl
section
variable {X : Cx} {e : Expr} {es : List Expr} {te : TE} {t : TA} {x : Str} {p pos : Pos} {id T : String} {r : List V → Hp → VK → Prop}
theorem pac (ha : PE X e te) (hr : PA X es t) (hs : notStar e = true := by rfl) : PA X (e :: es) (tCons te t) := pa_cons ha hr (star_cons es X.env hs)
theorem pcb (hc : CallR X (.builtin id) r) (hg : Gl X x) (hm : X.mg x = none) (hv : bootBuiltins x = some (.builtin id)) (ha : PA X (e :: es) t) (hn : x ≠ "__name__" := by decide +kernel) (hdb : (x == ("__debug__" : Str)) = false := by decide +kernel)
    (hs : (e :: es).all notStar = true := by rfl) : PE X (.Call (.Name x p) (e :: es) [] pos) (tCB r t) := by
  have h2 := hs
  rw [List.all_cons, Bool.and_eq_true] at h2
  exact pe_callB hc hg hm hv ha hn hdb (star_cons es X.env h2.1) (star_back es h2.2)
theorem pct (hc : CallR X (.type T) r) (hg : Gl X x) (hm : X.mg x = none) (hv : bootBuiltins x = some (.type T)) (ha : PA X (e :: es) t) (hn : x ≠ "__name__" := by decide +kernel) (hdb : (x == ("__debug__" : Str)) = false := by decide +kernel)
    (hs : (e :: es).all notStar = true := by rfl) : PE X (.Call (.Name x p) (e :: es) [] pos) (tCB r t) := by
  have h2 := hs
  rw [List.all_cons, Bool.and_eq_true] at h2
  exact pe_callTy hc hg hm hv ha hn hdb (star_cons es X.env h2.1) (star_back es h2.2)
end
structure Src (K : PySem.W.Frag) (mg : Str → Option Value) (x : Str) (ps : List Str) (st : Stmt) : Prop where
  ex : ∃ f fd, Fun K x x st f fd ∧ mg x = some (.ref f) ∧ Binds K fd ps []
structure Def (P : Program) (w : World) (K : PySem.W.Frag) (mg : Str → Option Value) (base : Heap) (k : Nat) (x : Str) (ps : List Str) (sp : Sp) : Prop where
  ex : ∃ f fd, FnOk P w K mg base CX0 k f fd ps sp ∧ mg x = some (.ref f) ∧ PySem.W.keepIn K (.ref f) = true ∧ Binds K fd ps []
section
variable {P : Program} {w : World} {K : PySem.W.Frag} {mg : Str → Option Value} {base : Heap}
theorem Src.def {x : Str} {st : Stmt} {N ps : List Str} {k : Nat} {sp : Sp} (F : Src K mg x ps st) (S : FnScope N ps (defScope st)) (len : ∀ vs H Q E, sp vs H Q E → vs.length = ps.length)
    (hbody : ∀ (f : Addr) (cdv : Value) (A : Around) (outer : List Env) (s : Shared) (H : Hp) (vs : List V) (Q : VK) (E : XK), Room k (A.deeper (envOfC x (defScope st) s.heap.objs.size f cdv)) → sp vs H Q E →
      ∃ t, PSs (cxOf CX0 P w K mg base N x (defScope st) f cdv A outer s H E).nox (defBody st) t ∧ t { nx := fun _ H' => Q .non H', rt := Q } (start N vs) H) : Def P w K mg base (k + 1) x ps sp := by
  obtain ⟨f, fd, F, hm, hb⟩ := F.ex
  exact ⟨f, fd, F.ok S len (hbody f), hm, F.kp, hb⟩
end
theorem Def.imp {P : Program} {w : World} {K : PySem.W.Frag} {mg : Str → Option Value} {base : Heap} {k : Nat} {x : Str} {ps : List Str} {sp sp' : Sp} (D : Def P w K mg base k x ps sp) (h : ∀ vs H Q E, sp' vs H Q E → sp vs H Q E) : Def P w K mg base k x ps sp' := by
  obtain ⟨f, fd, F, hm, hk, hb⟩ := D.ex
  exact ⟨f, fd, F.imp h, hm, hk, hb⟩
section
variable {X : Cx} {e : Expr} {es : List Expr} {t : TA} {x : Str} {p pos : Pos} {k : Nat} {ps : List Str} {sp : Sp}
theorem pe_own (D : Def X.prog X.w X.K X.mg X.base k x ps sp) (hr : Room k X.A) (hg : Gl X x) (hx : Passes CX0 X E0) (ha : PA X (e :: es) t) (hdb : (x == ("__debug__" : Str)) = false := by decide +kernel) (hs : (e :: es).all notStar = true := by rfl) :
    PE X (.Call (.Name x p) (e :: es) [] pos) (tCall sp [] E0 t) := by
  obtain ⟨f, fd, F, hm, hk, hb⟩ := D.ex
  have h2 := hs
  rw [List.all_cons, Bool.and_eq_true] at h2
  exact pe_call F hr hg hm hk hb .nil hx ha hdb (star_cons es X.env h2.1) (star_back es h2.2)
theorem pe_ty (T : String) (hg : Gl X x) (hm : X.mg x = none) (hv : bootBuiltins x = some (.type T)) (hn : x ≠ "__name__" := by decide +kernel) (hd : (x == ("__debug__" : Str)) = false := by decide +kernel) : PE X (.Name x pos) (tC (.ty T)) :=
  pe_bltn hg hm hv rfl hn hd
end
noncomputable def bsOk (scope : Scope) (N : List Str) : Bool :=
  (match scope.kind with | .function => true | _ => false) && decide N.Nodup && scope.names.all fun y => y.2 != .cell && scope.names.lookup y.1 == some y.2
theorem bs_mk {scope : Scope} {N : List Str} (h : bsOk scope N = true) : BlkScope scope N := by
  unfold bsOk at h
  rw [Bool.and_eq_true, Bool.and_eq_true] at h
  obtain ⟨⟨h1, h2⟩, h3⟩ := h
  have h3 := List.all_eq_true.mp h3
  refine ⟨?_, of_decide_eq_true h2, fun y hy => ?_, fun y hy => ?_⟩
  · cases e : scope.kind <;> rw [e] at h1 <;> first | rfl | cases h1
  · have := h3 y hy
    rw [Bool.and_eq_true] at this
    simpa using this.1
  · have := h3 y hy
    rw [Bool.and_eq_true] at this
    simpa using this.2
section
variable {X : Cx} {K : PySem.W.Frag}
variable {o e : Expr} {es : List Expr} {to : TE} {t : TA} {name : Str} {apos cpos : Pos} {T id : String} {r : V → List V → Hp → VK → Prop}
theorem pe_bmK (pa : PlainAttrs T) (slot : Slot T name id) (hty : typeOf (.builtin id) = pure (.type "method_descriptor")) (hm : MtR X id r) (ho : PE X o to) (ha : PA X (e :: es) t)
    (hbase : attributeBase o name X.env (eval o X.env) = eval o X.env := by rfl) (hs : (e :: es).all notStar = true := by rfl) (hfew : decide ((e :: es).length + 0 + 0 < 30) = true := by rfl)
    (hline : (apos.endLine == cpos.line) = true := by rfl) (hK : X.K = K := by rfl) : PE X (.Call (.Attribute o name apos) (e :: es) [] cpos) (tBM K T r to t) := by
  subst hK
  have h2 := hs
  rw [List.all_cons, Bool.and_eq_true] at h2
  refine pe_bm pa slot hty hm ho ha hbase ?_ hline (star_cons es X.env h2.1) (star_back es h2.2)
  rw [star_few _ hs]
  show (true && true && decide ((e :: es).length + 0 + 0 < 30)) = true
  rw [hfew]; rfl
end
end L2
set_option Elab.async false
set_option linter.all false
set_option maxRecDepth 100000
set_option maxHeartbeats 4000000
namespace L2
open PySem PySem.Spec PyProof.Rows
end L2
set_option Elab.async false
set_option linter.all false
set_option maxRecDepth 100000
set_option maxHeartbeats 400000
namespace PySem.W
open PySem PySem.Calls PyProof.Rows Builtin Builtin.ObjectAttr
section
variable {prog : Program} {w : World} {A : Around} {E : Value → Shared → Prop} {s : Shared} {K : Frag} {x C : Addr} {ox : Obj} {od : Option Obj} {name : Str} {expr : Bool} {Q : Value → Shared → Prop}
end
end PySem.W
set_option Elab.async false
set_option linter.all false
set_option maxRecDepth 100000
set_option maxHeartbeats 400000
namespace PySem.W
open PySem PySem.Calls PyProof.Rows Builtin Builtin.ObjectAttr
section
variable {prog : Program} {w : World} {A : Around} {E : Value → Shared → Prop} {s : Shared} {K : Frag} {x C : Addr} {ox : Obj} {od : Option Obj}
variable {nm q : Str} {N : Addr} {bs bm : List Value} {hdct : Bool} {sn : List Str} {sub : List Value} {ab : Bool} {col : Option Bool} {dd : Option Addr} {k0 k1 k2 k3 k5 : Option Value} {newId : String}
end
end PySem.W
set_option Elab.async false
set_option linter.all false
set_option maxRecDepth 100000
set_option maxHeartbeats 1000000
namespace L2
open PySem PySem.Spec PyProof.Rows
section
variable {P : Program} {w : World} {H : Hp} {h : Heap}
end
section
variable {X : Cx} {pins : List (Addr × Obj)} {σ : St} {H : Hp} {s : Shared}
end
section
variable {X : Cx} {o e value : Expr} {es : List Expr} {f d : Str} {pos pos' apos p : Pos} {ta tv : TE} {t : TA} {K : PySem.W.Frag}
end
end L2
set_option Elab.async false
set_option linter.all false
set_option maxRecDepth 100000
set_option maxHeartbeats 1000000
namespace PySem.W
open PySem PySem.Calls PyProof.Rows Builtin Builtin.ObjectAttr
section
variable {prog : Program} {w : World} {A : Around} {E : Value → Shared → Prop} {s : Shared} {K : Frag} {x C : Addr} {ox : Obj} {od : Option Obj}
end
end PySem.W
namespace L2
open PySem PySem.Spec PyProof.Rows
section
variable {X : Cx} {K : PySem.W.Frag}
variable {C f : Addr} {fd : FuncData} {ps : List Str} {k : Nat} {sp : Sp} {ds : List Value} {dvs : List V} {CX : CXT} {E : XK}
end
end L2
set_option Elab.async false
set_option linter.all false
set_option maxRecDepth 100000
set_option maxHeartbeats 1000000
namespace L2
open PySem PySem.Spec PyProof.Rows
section
variable {X : Cx} {K : PySem.W.Frag}
end
end L2
set_option Elab.async false
set_option linter.all false
set_option maxRecDepth 100000
set_option maxHeartbeats 4000000
namespace J
open PySem PySem.Spec PyProof.Rows L2
section
variable {P : Program} {w : World} {K : PySem.W.Frag} {mg : Str → Option Value} {base : Heap}
theorem by1 {p : List Value → Prop} (h : ∀ a, p [a]) (us : List Value) (e : us.length = 1) : p us := by
  cases us with
  | nil => cases e
  | cons a r =>
    have e : r = [] := List.eq_nil_of_length_eq_zero (Nat.succ.inj e)
    subst e; exact h a
theorem by2 {p : List Value → Prop} (h : ∀ a b, p [a, b]) (us : List Value) (e : us.length = 2) : p us := by
  cases us with
  | nil => cases e
  | cons a r => exact by1 (p := fun r => p (a :: r)) (h a) r (Nat.succ.inj e)
theorem by3 {p : List Value → Prop} (h : ∀ a b c, p [a, b, c]) (us : List Value) (e : us.length = 3) : p us := by
  cases us with
  | nil => cases e
  | cons a r => exact by2 (p := fun r => p (a :: r)) (h a) r (Nat.succ.inj e)
theorem by4 {p : List Value → Prop} (h : ∀ a b c d, p [a, b, c, d]) (us : List Value) (e : us.length = 4) : p us := by
  cases us with
  | nil => cases e
  | cons a r => exact by3 (p := fun r => p (a :: r)) (h a) r (Nat.succ.inj e)
theorem src_mk {x : Str} {st : Stmt} {f : Addr} {oc : Value} {od an : Option Addr} {osl : Array (Option Value)} {kV doc pm cdv ct : Value} {h : Heap} {ps : List Str} (X : K.In h) (G : h.Ns mainGlobals mg)
    (a : PySem.W.nsIn K mainGlobals x = some (some (.ref f))) (l : K.lookup f = some ⟨oc, od, .func (PySem.W.fnOf x x (defArgs st) (defBody st) (defScope st) .none kV doc pm an cdv ct), osl⟩)
    (c : PySem.W.codeIn K cdv x = true) (k : PySem.W.keepIn K (.ref f) = true)
    (b : ∀ (kV doc pm : Value) (an : Option Addr) (cdv ct : Value) (us : List Value), us.length = ps.length → bindArgs (PySem.W.fnOf x x (defArgs st) (defBody st) (defScope st) .none kV doc pm an cdv ct) ⟨us, []⟩ = pure (ps.zip us)) : Src K mg x ps st :=
  ⟨f, _, fun_mk (st := st) l c k, PySem.W.mg_of X G a, (fun_mk (st := st) l c k).binds b⟩
end
end J
set_option Elab.async false
set_option linter.all false
set_option maxRecDepth 100000
set_option maxHeartbeats 4000000
namespace M
open PySem L2
inductive D where
  | non | bl (b : Bool) | int (i : Int) | str (x : Str) | tup (ds : List D) | lst (ds : List D) | dct (ks : List Key) (ds : List D) | loc (n : Nat) | ty (n : String) | scr (ns : List Int) | stc (xs : List Str) | fd | fn (a : Addr)
inductive MO where
  | lst (ds : List D) | dct (ks : List Key) (ds : List D) | feed (n : Nat) | ins (C : Addr) (ks : List Str) (ds : List D)
noncomputable def fd3 (l s d : Int) : List (Key × V) := [(.inr "left", .int l), (.inr "seed", .int s), (.inr "drawn", .int d)]
noncomputable abbrev Sto := List (Option MO)
noncomputable def MO.d : MO → D
  | .lst ds => .lst ds
  | .dct ks ds => .dct ks ds
  | .feed _ => .fd
  | .ins _ _ _ => .fd
inductive R where
  | dat (d : D) | new (o : MO)
noncomputable def R.d : R → D
  | .dat d => d
  | .new o => o.d
theorem al {H : Hp} {p : Addr} {o : HO} (hp : H p = none) : Same H (upd H p o) := fun b o' e => by rw [upd_ne (ne_of_none e hp)]; exact e
structure Wd where
  B : Hp
  r : Nat → Option Addr
structure Wd.le (w w' : Wd) : Prop where
  b : Same w.B w'.B
  r : ∀ n a, w.r n = some a → w'.r n = some a
theorem Wd.le.refl {w : Wd} : w.le w := ⟨Same.refl _, fun _ _ h => h⟩
theorem Wd.le.trans {w w1 w2 : Wd} (h : w.le w1) (g : w1.le w2) : w.le w2 := ⟨h.b.trans g.b, fun n a e => g.r n a (h.r n a e)⟩
mutual
noncomputable def Rep (K : PySem.W.Frag) (w : Wd) : D → V → Prop
  | .non, v => v = .non
  | .bl b, v => v = .bl b
  | .int i, v => v = .int i
  | .str x, v => v = .str x
  | .ty n, v => v = .ty n
  | .fd, v => ∃ a, v = .ref a
  | .fn a, v => v = .ref a
  | .loc n, v => ∃ a, w.r n = some a ∧ v = .ref a
  | .tup ds, v => ∃ a xs, v = .ref a ∧ w.B a = some (.tup xs) ∧ Reps K w ds xs
  | .stc ss, v => ∃ a, v = .ref a ∧ SqT K w.B a (ss.map V.str)
  | .lst ds, v => ∃ a xs, v = .ref a ∧ w.B a = some (.lst xs) ∧ Reps K w ds xs
  | .scr ns, v => ∃ a, v = .ref a ∧ SqL K w.B a (ns.map V.int)
  | .dct ks ds, v => ∃ a kvs, v = .ref a ∧ w.B a = some (.dK kvs) ∧ kvs.map (·.1) = ks ∧ Reps K w ds (kvs.map (·.2))
noncomputable def Reps (K : PySem.W.Frag) (w : Wd) : List D → List V → Prop
  | [], xs => xs = []
  | d :: ds, xs => ∃ x r, xs = x :: r ∧ Rep K w d x ∧ Reps K w ds r
end
mutual
theorem Rep.le {K : PySem.W.Frag} {w w' : Wd} (e : w.le w') : ∀ (d : D) (v : V), Rep K w d v → Rep K w' d v
  | .non, _, h => by simpa [Rep] using h
  | .bl b, _, h => by simpa [Rep] using h
  | .int i, _, h => by simpa [Rep] using h
  | .str x, _, h => by simpa [Rep] using h
  | .ty x, _, h => by simpa [Rep] using h
  | .fd, _, h => by simpa [Rep] using h
  | .fn _, _, h => by simpa [Rep] using h
  | .loc n, v, h => by
    simp only [Rep] at h ⊢
    obtain ⟨a, h1, h2⟩ := h
    exact ⟨a, e.r _ _ h1, h2⟩
  | .lst ds, v, h => by
    simp only [Rep] at h ⊢
    obtain ⟨a, xs, h1, h2, h3⟩ := h
    exact ⟨a, xs, h1, e.b _ _ h2, Reps.le e ds xs h3⟩
  | .scr ns, v, h => by
    simp only [Rep] at h ⊢
    obtain ⟨a, h1, h2⟩ := h
    exact ⟨a, h1, e.b.seq h2⟩
  | .tup ds, v, h => by
    simp only [Rep] at h ⊢
    obtain ⟨a, xs, h1, h2, h3⟩ := h
    exact ⟨a, xs, h1, e.b _ _ h2, Reps.le e ds xs h3⟩
  | .stc ns, v, h => by
    simp only [Rep] at h ⊢
    obtain ⟨a, h1, h2⟩ := h
    exact ⟨a, h1, SqT.same e.b h2⟩
  | .dct ks ds, v, h => by
    simp only [Rep] at h ⊢
    obtain ⟨a, xs, h1, h2, h3, h4⟩ := h
    exact ⟨a, xs, h1, e.b _ _ h2, h3, Reps.le e ds _ h4⟩
theorem Reps.le {K : PySem.W.Frag} {w w' : Wd} (e : w.le w') : ∀ (ds : List D) (xs : List V), Reps K w ds xs → Reps K w' ds xs
  | [], _, h => by simpa [Reps] using h
  | d :: ds, xs, h => by
    simp only [Reps] at h ⊢
    obtain ⟨x, r, h1, h2, h3⟩ := h
    exact ⟨x, r, h1, Rep.le e d x h2, Reps.le e ds r h3⟩
end
section
variable {K : PySem.W.Frag} {w w' : Wd}
theorem Reps.nil : Reps K w [] [] := by simp [Reps]
theorem Reps.cons {d : D} {v : V} {ds : List D} {vs : List V} (h : Rep K w d v) (t : Reps K w ds vs) : Reps K w (d :: ds) (v :: vs) := by
  simp only [Reps]; exact ⟨v, vs, rfl, h, t⟩
theorem Reps.length : ∀ {ds : List D} {vs : List V}, Reps K w ds vs → vs.length = ds.length
  | [], _, h => by simp only [Reps] at h; subst h; rfl
  | d :: ds, vs, h => by
    simp only [Reps] at h
    obtain ⟨x, r, rfl, _, h⟩ := h
    simp [Reps.length h]
theorem Reps.get : ∀ {ds : List D} {vs : List V} {i : Nat} {d : D}, Reps K w ds vs → ds[i]? = some d → ∃ v, vs[i]? = some v ∧ Rep K w d v
  | [], _, _, _, _, e => by simp at e
  | d :: ds, vs, 0, d', h, e => by
    simp only [Reps] at h
    obtain ⟨x, r, rfl, h1, h⟩ := h
    simp at e; subst e
    exact ⟨x, rfl, h1⟩
  | d :: ds, vs, i + 1, d', h, e => by
    simp only [Reps] at h
    obtain ⟨x, r, rfl, h1, h⟩ := h
    obtain ⟨v, e1, e2⟩ := Reps.get (i := i) h (by simpa using e)
    exact ⟨v, by simpa using e1, e2⟩
theorem Reps.append : ∀ {ds es : List D} {vs us : List V}, Reps K w ds vs → Reps K w es us → Reps K w (ds ++ es) (vs ++ us)
  | [], _, _, _, h, g => by simp only [Reps] at h; subst h; exact g
  | d :: ds, es, vs, us, h, g => by
    simp only [Reps] at h
    obtain ⟨x, r, rfl, h1, h⟩ := h
    exact Reps.cons h1 (Reps.append h g)
theorem Reps.snoc {ds : List D} {vs : List V} {d : D} {v : V} (h : Reps K w ds vs) (g : Rep K w d v) : Reps K w (ds ++ [d]) (vs ++ [v]) := h.append (.cons g .nil)
theorem Reps.take : ∀ (n : Nat) {ds : List D} {vs : List V}, Reps K w ds vs → Reps K w (ds.take n) (vs.take n)
  | 0, _, _, _ => by simp [Reps]
  | n + 1, [], _, h => by simp only [Reps] at h; subst h; simp [Reps]
  | n + 1, d :: ds, vs, h => by
    simp only [Reps] at h
    obtain ⟨x, r, rfl, h1, h⟩ := h
    exact Reps.cons h1 (Reps.take n h)
theorem Reps.drop : ∀ (n : Nat) {ds : List D} {vs : List V}, Reps K w ds vs → Reps K w (ds.drop n) (vs.drop n)
  | 0, _, _, h => h
  | n + 1, [], _, h => by simp only [Reps] at h; subst h; simp [Reps]
  | n + 1, d :: ds, vs, h => by
    simp only [Reps] at h
    obtain ⟨x, r, rfl, h1, h⟩ := h
    exact Reps.drop n h
theorem Reps.set {d : D} {v : V} (g : Rep K w d v) : ∀ (n : Nat) {ds : List D} {vs : List V}, Reps K w ds vs → Reps K w (ds.set n d) (vs.set n v)
  | _, [], _, h => by simp only [Reps] at h; subst h; simp [Reps]
  | 0, e :: ds, vs, h => by
    simp only [Reps] at h
    obtain ⟨x, r, rfl, h1, h⟩ := h
    exact Reps.cons g h
  | n + 1, e :: ds, vs, h => by
    simp only [Reps] at h
    obtain ⟨x, r, rfl, h1, h⟩ := h
    exact Reps.cons h1 (Reps.set g n h)
end
noncomputable def RepO (K : PySem.W.Frag) (w : Wd) : MO → HO → Prop
  | .lst ds, u => ∃ xs, u = .lst xs ∧ Reps K w ds xs
  | .dct ks ds, u => ∃ kvs, u = .dK kvs ∧ kvs.map (·.1) = ks ∧ Reps K w ds (kvs.map (·.2))
  | .feed n, u => ∃ l s : Int, u = .dK (fd3 l s n) ∧ 0 ≤ l ∧ 0 ≤ s ∧ s < 1000003
  | .ins C ks ds, u => ∃ dx fs, u = .ins C dx fs ∧ fs.map (·.1) = ks ∧ Reps K w ds (fs.map (·.2))
theorem RepO.le {K : PySem.W.Frag} {w w' : Wd} (e : w.le w') : ∀ {o : MO} {u : HO}, RepO K w o u → RepO K w' o u
  | .lst ds, u, ⟨xs, h1, h2⟩ => ⟨xs, h1, h2.le e⟩
  | .dct ks ds, u, ⟨xs, h1, h2, h3⟩ => ⟨xs, h1, h2, h3.le e⟩
  | .feed n, u, h => h
  | .ins C ks ds, u, ⟨dx, fs, h1, h2, h3⟩ => ⟨dx, fs, h1, h2, h3.le e⟩
structure Ok (K : PySem.W.Frag) (w : Wd) (H : Hp) (S : Sto) : Prop where
  base : Same w.B H
  live : ∀ n o, S[n]? = some (some o) → ∃ a u, w.r n = some a ∧ w.B a = none ∧ H a = some u ∧ RepO K w o u
  inj : ∀ n m o o', S[n]? = some (some o) → S[m]? = some (some o') → w.r n = w.r m → n = m
  top : ∀ n, S.length ≤ n → w.r n = none
noncomputable def RepR (K : PySem.W.Frag) (w : Wd) (H : Hp) (S : Sto) : R → V → Prop
  | .dat d, v => Rep K w d v
  | .new o, v => ∃ a u, v = .ref a ∧ w.B a = none ∧ H a = some u ∧ RepO K w o u ∧ ∀ n o', S[n]? = some (some o') → w.r n ≠ some a
noncomputable def EnvR (K : PySem.W.Frag) (w : Wd) (δ : List (Option D)) (σ : St) : Prop := δ.length = σ.length ∧ ∀ (i : Nat) (d : D), δ[i]? = some (some d) → ∃ v, σ[i]? = some (some v) ∧ Rep K w d v
theorem EnvR.le {K : PySem.W.Frag} {w w' : Wd} {δ : List (Option D)} {σ : St} (h : EnvR K w δ σ) (e : w.le w') : EnvR K w' δ σ := ⟨h.1, fun i d q => by
  obtain ⟨v, h1, h2⟩ := h.2 i d q
  exact ⟨v, h1, h2.le e⟩⟩
theorem EnvR.set {K : PySem.W.Frag} {w : Wd} {δ : List (Option D)} {σ : St} {d : D} {v : V} (h : EnvR K w δ σ) (g : Rep K w d v) (i : Nat) : EnvR K w (δ.set i (some d)) (σ.set i (some v)) := by
  refine ⟨by simp [h.1], fun j e q => ?_⟩
  by_cases hij : i = j
  · subst hij
    rw [List.getElem?_set] at q ⊢
    rw [if_pos rfl] at q ⊢
    by_cases hl : i < δ.length
    · rw [if_pos hl] at q
      rw [if_pos (by rw [← h.1]; exact hl)]
      have : d = e := by simpa using q
      subst this
      exact ⟨v, rfl, g⟩
    · rw [if_neg hl] at q; cases q
  · rw [List.getElem?_set_ne hij] at q ⊢
    exact h.2 j e q
section
variable {K : PySem.W.Frag} {w w' : Wd} {H H' : Hp} {S S' : Sto}
theorem freeze {r : R} {v : V} (k : Ok K w H S) (h : RepR K w H S r v) : ∃ w', w.le w' ∧ Ok K w' H S ∧ Rep K w' r.d v := by
  cases r with
  | dat d => exact ⟨w, .refl, k, h⟩
  | new o =>
    obtain ⟨a, u, rfl, hb, ha, ho, hn⟩ := h
    have le : w.le ⟨upd w.B a u, w.r⟩ := ⟨al hb, fun _ _ e => e⟩
    refine ⟨⟨upd w.B a u, w.r⟩, le, ⟨fun b o' e => ?_, fun n o' e => ?_, k.inj, k.top⟩, ?_⟩
    · by_cases hba : b = a
      · subst hba
        have e : upd w.B b u b = some o' := e
        rw [upd_same] at e; rw [ha]; exact e
      · have e : upd w.B a u b = some o' := e
        rw [upd_ne hba] at e; exact k.base b o' e
    · obtain ⟨a', u', h1, h2, h3, h4⟩ := k.live n o' e
      have : a' ≠ a := by intro z; subst z; exact hn n o' e h1
      exact ⟨a', u', h1, by show upd w.B a u a' = none; rw [upd_ne this]; exact h2, h3, h4.le le⟩
    · cases o with
      | lst ds =>
        obtain ⟨xs, rfl, h⟩ := ho
        show Rep K _ (.lst ds) _
        simp only [Rep]
        exact ⟨a, xs, rfl, upd_same, h.le le⟩
      | dct ks ds =>
        obtain ⟨kvs, rfl, h1, h⟩ := ho
        show Rep K _ (.dct ks ds) _
        simp only [Rep]
        exact ⟨a, kvs, rfl, upd_same, h1, h.le le⟩
      | feed n =>
        show Rep K _ .fd _
        simp only [Rep]
        exact ⟨a, rfl⟩
      | ins C ks ds =>
        show Rep K _ .fd _
        simp only [Rep]
        exact ⟨a, rfl⟩
theorem store {o : MO} {v : V} (k : Ok K w H S) (h : RepR K w H S (.new o) v) : ∃ w', w.le w' ∧ Ok K w' H (S ++ [some o]) ∧ Rep K w' (.loc S.length) v := by
  obtain ⟨a, u, rfl, hb, ha, ho, hn⟩ := h
  let r' : Nat → Option Addr := fun n => if n = S.length then some a else w.r n
  have le : w.le ⟨w.B, r'⟩ := ⟨Same.refl _, fun n b e => by
    have : n ≠ S.length := by
      intro z; subst z
      rw [k.top _ (Nat.le_refl _)] at e; cases e
    show (if n = S.length then some a else w.r n) = some b
    rw [if_neg this]; exact e⟩
  have at_ : ∀ n o', (S ++ [some o])[n]? = some (some o') → (n = S.length ∧ o' = o) ∨ (n < S.length ∧ S[n]? = some (some o')) := fun n o' e => by
    by_cases hl : n < S.length
    · rw [List.getElem?_append_left hl] at e
      exact .inr ⟨hl, e⟩
    · rw [List.getElem?_append_right (by omega)] at e
      have : n - S.length = 0 := by
        cases q : n - S.length with
        | zero => rfl
        | succ j => rw [q] at e; simp at e
      rw [this] at e
      have e : o = o' := by simpa using e
      exact .inl ⟨by omega, e.symm⟩
  refine ⟨⟨w.B, r'⟩, le, ⟨k.base, fun n o' e => ?_, fun n m o1 o2 e1 e2 e => ?_, fun n hn => ?_⟩, ?_⟩
  · rcases at_ n o' e with ⟨rfl, rfl⟩ | ⟨hl, e⟩
    · exact ⟨a, u, by show (if _ then _ else _) = _; rw [if_pos rfl], hb, ha, ho.le le⟩
    · obtain ⟨a', u', h1, h2, h3, h4⟩ := k.live n o' e
      exact ⟨a', u', le.r _ _ h1, h2, h3, h4.le le⟩
  · rcases at_ n o1 e1 with ⟨rfl, rfl⟩ | ⟨hl, q1⟩
    · rcases at_ m o2 e2 with ⟨rfl, rfl⟩ | ⟨hl2, q2⟩
      · rfl
      · exfalso
        have e : (if S.length = S.length then some a else w.r S.length) = (if m = S.length then some a else w.r m) := e
        rw [if_pos rfl, if_neg (by omega)] at e
        exact hn m o2 q2 e.symm
    · rcases at_ m o2 e2 with ⟨rfl, rfl⟩ | ⟨hl2, q2⟩
      · exfalso
        have e : (if n = S.length then some a else w.r n) = (if S.length = S.length then some a else w.r S.length) := e
        rw [if_pos rfl, if_neg (by omega)] at e
        exact hn n o1 q1 e
      · have e : (if n = S.length then some a else w.r n) = (if m = S.length then some a else w.r m) := e
        rw [if_neg (by omega), if_neg (by omega)] at e
        exact k.inj n m o1 o2 q1 q2 e
  · rw [List.length_append] at hn
    have : n ≠ S.length := by simp at hn; omega
    show (if n = S.length then some a else w.r n) = none
    rw [if_neg this]
    exact k.top n (by simp at hn; omega)
  · simp only [Rep]
    exact ⟨a, by show (if _ then _ else _) = _; rw [if_pos rfl], rfl⟩
theorem Ok.alloc {p : Addr} {o : HO} (k : Ok K w H S) (hp : H p = none) : Ok K w (upd H p o) S :=
  ⟨k.base.trans (al hp), fun n o' e => by
    obtain ⟨a, u, h1, h2, h3, h4⟩ := k.live n o' e
    exact ⟨a, u, h1, h2, al hp _ _ h3, h4⟩, k.inj, k.top⟩
theorem Ok.free {p : Addr} (k : Ok K w H S) (hp : H p = none) : w.B p = none := k.base.free hp
theorem Ok.fresh {p : Addr} {o : HO} {m : MO} (k : Ok K w H S) (hp : H p = none) (h : RepO K w m o) : RepR K w (upd H p o) S (.new m) (.ref p) :=
  ⟨p, o, rfl, k.free hp, upd_same, h, fun n o' e z => by
    obtain ⟨a, u, h1, h2, h3, h4⟩ := k.live n o' e
    rw [z] at h1; cases h1
    rw [hp] at h3; cases h3⟩
theorem Ok.newTup {p : Addr} {ds : List D} {xs : List V} (k : Ok K w H S) (hp : H p = none) (h : Reps K w ds xs) : ∃ w', w.le w' ∧ Ok K w' (upd H p (.tup xs)) S ∧ Rep K w' (.tup ds) (.ref p) := by
  have hb := k.free hp
  have le : w.le ⟨upd w.B p (.tup xs), w.r⟩ := ⟨al hb, fun _ _ e => e⟩
  refine ⟨⟨upd w.B p (.tup xs), w.r⟩, le, ⟨fun b o e => ?_, fun n o e => ?_, k.inj, k.top⟩, ?_⟩
  · by_cases hbp : b = p
    · subst hbp
      have e : upd w.B b (.tup xs) b = some o := e
      rw [upd_same] at e ⊢; exact e
    · have e : upd w.B p (.tup xs) b = some o := e
      rw [upd_ne hbp] at e ⊢; exact k.base b o e
  · obtain ⟨a, u, h1, h2, h3, h4⟩ := k.live n o e
    have hne : a ≠ p := ne_of_none h3 hp
    exact ⟨a, u, h1, by show upd w.B p _ a = none; rw [upd_ne hne]; exact h2, by rw [upd_ne hne]; exact h3, h4.le le⟩
  · simp only [Rep]
    exact ⟨p, xs, rfl, upd_same, h.le le⟩
theorem Ok.put {n : Nat} {a : Addr} {o o' : MO} {u' : HO} (k : Ok K w H S) (e : S[n]? = some (some o)) (ha : w.r n = some a) (h : RepO K w o' u') : Ok K w (upd H a u') (S.set n (some o')) := by
  have hn : n < S.length := by
    rcases Nat.lt_or_ge n S.length with h | h
    · exact h
    · rw [List.getElem?_eq_none h] at e; cases e
  have at_ : ∀ m q, (S.set n (some o'))[m]? = some (some q) → (m = n ∧ q = o') ∨ (m ≠ n ∧ S[m]? = some (some q)) := fun m q z => by
    by_cases hm : n = m
    · subst hm
      rw [List.getElem?_set, if_pos rfl, if_pos hn] at z
      have z : o' = q := by simpa using z
      exact .inl ⟨rfl, z.symm⟩
    · rw [List.getElem?_set_ne hm] at z
      exact .inr ⟨fun y => hm y.symm, z⟩
  obtain ⟨a0, u0, h1, h2, h3, _⟩ := k.live n o e
  rw [ha] at h1; cases h1
  refine ⟨fun b q z => ?_, fun m q z => ?_, fun m l q q' z z' y => ?_, fun m hm => k.top m (by simpa using hm)⟩
  · rw [upd_ne (by intro y; subst y; rw [h2] at z; cases z)]
    exact k.base b q z
  · rcases at_ m q z with ⟨rfl, rfl⟩ | ⟨hm, z⟩
    · exact ⟨a, u', ha, h2, upd_same, h⟩
    · obtain ⟨b, u, g1, g2, g3, g4⟩ := k.live m q z
      have : b ≠ a := by
        intro y; subst y
        exact hm (k.inj m n q o z e (g1.trans ha.symm))
      exact ⟨b, u, g1, g2, by rw [upd_ne this]; exact g3, g4⟩
  · have old : ∀ m q, (S.set n (some o'))[m]? = some (some q) → ∃ q0, S[m]? = some (some q0) := fun m q z => by
      rcases at_ m q z with ⟨rfl, rfl⟩ | ⟨hm, z⟩
      · exact ⟨o, e⟩
      · exact ⟨q, z⟩
    obtain ⟨q0, z0⟩ := old m q z
    obtain ⟨q1, z1⟩ := old l q' z'
    exact k.inj m l q0 q1 z0 z1 y
end
noncomputable def see (S : Sto) : D → D
  | .loc n => match S[n]? with
    | some (some o) => o.d
    | _ => .loc n
  | d => d
section
variable {K : PySem.W.Frag} {w : Wd} {H : Hp} {S : Sto} {v : V}
theorem see_lst {d : D} {ds : List D} (k : Ok K w H S) (h : Rep K w d v) (e : see S d = .lst ds) : ∃ a xs, v = .ref a ∧ H a = some (.lst xs) ∧ Reps K w ds xs := by
  cases d with
  | loc n =>
    simp only [Rep] at h
    obtain ⟨a, h1, rfl⟩ := h
    simp only [see] at e
    split at e
    next o q =>
      obtain ⟨a', u, g1, g2, g3, g4⟩ := k.live n o q
      rw [h1] at g1; cases g1
      cases o with
      | lst es =>
        have : es = ds := by simpa [MO.d] using e
        subst this
        obtain ⟨xs, rfl, g⟩ := g4
        exact ⟨a, xs, rfl, g3, g⟩
      | dct ks es => simp [MO.d] at e
      | feed n => simp [MO.d] at e
      | ins C ks ds => simp [MO.d] at e
    next => cases e
  | lst es =>
    have : es = ds := by simpa [see] using e
    subst this
    simp only [Rep] at h
    obtain ⟨a, xs, h1, h2, h3⟩ := h
    exact ⟨a, xs, h1, k.base _ _ h2, h3⟩
  | _ => simp [see] at e
theorem see_tup {d : D} {ds : List D} (k : Ok K w H S) (h : Rep K w d v) (e : see S d = .tup ds) : ∃ a xs, v = .ref a ∧ H a = some (.tup xs) ∧ Reps K w ds xs := by
  cases d with
  | loc n =>
    simp only [see] at e
    split at e
    next o q => cases o <;> simp [MO.d] at e
    next => cases e
  | tup es =>
    have : es = ds := by simpa [see] using e
    subst this
    simp only [Rep] at h
    obtain ⟨a, xs, h1, h2, h3⟩ := h
    exact ⟨a, xs, h1, k.base _ _ h2, h3⟩
  | _ => simp [see] at e
theorem see_dct {d : D} {ks : List Key} {ds : List D} (k : Ok K w H S) (h : Rep K w d v) (e : see S d = .dct ks ds) : ∃ a kvs, v = .ref a ∧ H a = some (.dK kvs) ∧ kvs.map (·.1) = ks ∧ Reps K w ds (kvs.map (·.2)) := by
  cases d with
  | loc n =>
    simp only [Rep] at h
    obtain ⟨a, h1, rfl⟩ := h
    simp only [see] at e
    split at e
    next o q =>
      obtain ⟨a', u, g1, g2, g3, g4⟩ := k.live n o q
      rw [h1] at g1; cases g1
      cases o with
      | lst es => simp [MO.d] at e
      | feed n => simp [MO.d] at e
      | ins C ks ds => simp [MO.d] at e
      | dct ks' es =>
        have : ks' = ks ∧ es = ds := by simpa [MO.d] using e
        obtain ⟨rfl, rfl⟩ := this
        obtain ⟨kvs, rfl, g⟩ := g4
        exact ⟨a, kvs, rfl, g3, g⟩
    next => cases e
  | dct ks' es =>
    have : ks' = ks ∧ es = ds := by simpa [see] using e
    obtain ⟨rfl, rfl⟩ := this
    simp only [Rep] at h
    obtain ⟨a, xs, h1, h2, h3⟩ := h
    exact ⟨a, xs, h1, k.base _ _ h2, h3⟩
  | _ => simp [see] at e
end
end M
set_option Elab.async false
set_option linter.all false
set_option maxRecDepth 100000
set_option maxHeartbeats 4000000
namespace M
open PySem L2
noncomputable abbrev AEnv := List (Option D)
noncomputable abbrev AK := R → Sto → Prop
noncomputable abbrev AE := AEnv → Sto → AK → Prop
noncomputable abbrev AT := AEnv → Sto → (Bool → Sto → Prop) → Prop
noncomputable abbrev AA := AEnv → Sto → (List D → Sto → Prop) → Prop
noncomputable abbrev AO := AEnv → Sto → (Option Int → Sto → Prop) → Prop
structure AEnds where
  nx : AEnv → Sto → Prop
  rt : AK
  bk : AEnv → Sto → Prop := fun _ _ => False
  ct : AEnv → Sto → Prop := fun _ _ => False
noncomputable abbrev AS := AEnds → AEnv → Sto → Prop
noncomputable abbrev AG := D → AEnv → Sto → (AEnv → Sto → Prop) → Prop
noncomputable abbrev AGs := List D → AEnv → Sto → (AEnv → Sto → Prop) → Prop
noncomputable abbrev AI := AEnv → Sto → (List D → (Sto → Prop) → Sto → Prop) → Prop
noncomputable abbrev A2 := D → D → Sto → AK → Prop
noncomputable abbrev A1 := D → Sto → AK → Prop
noncomputable abbrev AN := List D → Sto → AK → Prop
section
variable (K : PySem.W.Frag) (w : Wd)
noncomputable def BackV (Qa : AK) (Q : VK) : Prop := ∀ r S' v w' H', w.le w' → Ok K w' H' S' → RepR K w' H' S' r v → Qa r S' → Q v H'
noncomputable def BackB (Qa : Bool → Sto → Prop) (Q : Bool → Hp → Prop) : Prop := ∀ b S' w' H', w.le w' → Ok K w' H' S' → Qa b S' → Q b H'
noncomputable def BackL (Qa : List D → Sto → Prop) (Q : List V → Hp → Prop) : Prop := ∀ ds S' vs w' H', w.le w' → Ok K w' H' S' → Reps K w' ds vs → Qa ds S' → Q vs H'
noncomputable def BackO (Qa : Option Int → Sto → Prop) (Q : Option Int → Hp → Prop) : Prop := ∀ i S' w' H', w.le w' → Ok K w' H' S' → Qa i S' → Q i H'
noncomputable def BackE (Qa : AEnv → Sto → Prop) (Q : St → Hp → Prop) : Prop := ∀ δ S' σ w' H', w.le w' → Ok K w' H' S' → EnvR K w' δ σ → Qa δ S' → Q σ H'
structure BackS (Da : AEnds) (D : Ends) : Prop where
  nx : BackE K w Da.nx D.nx
  rt : BackV K w Da.rt D.rt
  bk : BackE K w Da.bk D.bk
  ct : BackE K w Da.ct D.ct
structure ItR (J : It) (ds : List D) (P : Sto → Prop) : Prop where
  go : ∀ i H S w' d, w.le w' → Ok K w' H S → P S → ds[i]? = some d → J.go i H
  yld : ∀ i H S w' d x H', w.le w' → Ok K w' H S → P S → ds[i]? = some d → J.yld i H x H' → H' = H ∧ Rep K w' d x
  stop : ∀ i H S w', w.le w' → Ok K w' H S → P S → i = ds.length → J.stop i H
noncomputable def BackI (Qa : List D → (Sto → Prop) → Sto → Prop) (R : It → Hp → Prop) : Prop := ∀ ds P S' J w' H', w.le w' → Ok K w' H' S' → ItR K w' J ds P → Qa ds P S' → R J H'
end
section
variable {K : PySem.W.Frag} {w w' : Wd}
theorem BackV.le {Qa : AK} {Q : VK} (h : BackV K w Qa Q) (e : w.le w') : BackV K w' Qa Q := fun r S v w2 H l => h r S v w2 H (e.trans l)
theorem BackB.le {Qa} {Q} (h : BackB K w Qa Q) (e : w.le w') : BackB K w' Qa Q := fun r S w2 H l => h r S w2 H (e.trans l)
theorem BackE.le {Qa} {Q} (h : BackE K w Qa Q) (e : w.le w') : BackE K w' Qa Q := fun r S v w2 H l => h r S v w2 H (e.trans l)
theorem BackS.le {Da : AEnds} {D : Ends} (h : BackS K w Da D) (e : w.le w') : BackS K w' Da D := ⟨h.nx.le e, h.rt.le e, h.bk.le e, h.ct.le e⟩
end
section
variable (K : PySem.W.Frag)
noncomputable def conE (a : AE) : TE := fun σ H Q => ∃ w δ S Qa, Ok K w H S ∧ EnvR K w δ σ ∧ a δ S Qa ∧ BackV K w Qa Q
noncomputable def conT (a : AT) : TT := fun σ H Q => ∃ w δ S Qa, Ok K w H S ∧ EnvR K w δ σ ∧ a δ S Qa ∧ BackB K w Qa Q
noncomputable def conA (a : AA) : TA := fun σ H Q => ∃ w δ S Qa, Ok K w H S ∧ EnvR K w δ σ ∧ a δ S Qa ∧ BackL K w Qa Q
noncomputable def conO (a : AO) : TO := fun σ H Q => ∃ w δ S Qa, Ok K w H S ∧ EnvR K w δ σ ∧ a δ S Qa ∧ BackO K w Qa Q
noncomputable def conS (a : AS) : TS := fun D σ H => ∃ w δ S Da, Ok K w H S ∧ EnvR K w δ σ ∧ a Da δ S ∧ BackS K w Da D
noncomputable def conG (a : AG) : TG := fun x σ H Q => ∃ w d δ S Qa, Ok K w H S ∧ EnvR K w δ σ ∧ Rep K w d x ∧ a d δ S Qa ∧ BackE K w Qa Q
noncomputable def conGs (a : AGs) : TGs := fun xs σ H Q => ∃ w ds δ S Qa, Ok K w H S ∧ EnvR K w δ σ ∧ Reps K w ds xs ∧ a ds δ S Qa ∧ BackE K w Qa Q
noncomputable def conI (a : AI) : TI := fun σ H R => ∃ w δ S Qa, Ok K w H S ∧ EnvR K w δ σ ∧ a δ S Qa ∧ BackI K w Qa R
noncomputable def con2 (a : A2) : R2 := fun x y H Q => ∃ w d e S Qa, Ok K w H S ∧ Rep K w d x ∧ Rep K w e y ∧ a d e S Qa ∧ BackV K w Qa Q
noncomputable def con1 (a : A1) : V → Hp → VK → Prop := fun x H Q => ∃ w d S Qa, Ok K w H S ∧ Rep K w d x ∧ a d S Qa ∧ BackV K w Qa Q
noncomputable def conN (a : AN) : List V → Hp → VK → Prop := fun xs H Q => ∃ w ds S Qa, Ok K w H S ∧ Reps K w ds xs ∧ a ds S Qa ∧ BackV K w Qa Q
noncomputable def conM (a : D → List D → Sto → AK → Prop) : V → List V → Hp → VK → Prop := fun x xs H Q => ∃ w d ds S Qa, Ok K w H S ∧ Rep K w d x ∧ Reps K w ds xs ∧ a d ds S Qa ∧ BackV K w Qa Q
noncomputable def conSp (a : AN) : Sp := fun vs H Q _ => conN K a vs H Q
end
structure GE (X : Cx) (e : Expr) (a : AE) : Prop where
  p : PE X e (conE X.K a)
structure GT (X : Cx) (e : Expr) (a : AT) : Prop where
  p : PT X e (conT X.K a)
structure GW (X : Cx) (e : Expr) (a : AT) : Prop where
  p : PW X e (conT X.K a)
structure GA (X : Cx) (e : List Expr) (a : AA) : Prop where
  p : PA X e (conA X.K a)
structure GO (X : Cx) (e : Option Expr) (a : AO) : Prop where
  p : PO X e (conO X.K a)
structure GS (X : Cx) (s : Stmt) (a : AS) : Prop where
  p : PS X s (conS X.K a)
structure GSs (X : Cx) (s : List Stmt) (a : AS) : Prop where
  p : PSs X s (conS X.K a)
structure GG (X : Cx) (e : Expr) (a : AG) : Prop where
  p : PG X e (conG X.K a)
structure GGs (X : Cx) (e : List Expr) (a : AGs) : Prop where
  p : PGs X e (conGs X.K a)
structure GI (X : Cx) (tg e : Expr) (a : AI) : Prop where
  p : PI X tg e (conI X.K a)
structure GTs (X : Cx) (e : List Expr) (a : AT) : Prop where
  p : PTs X e (conT X.K a)
structure Op2 (X : Cx) (f : Value → Value → Sem Value) (a : A2) : Prop where
  p : OpR X f (con2 X.K a)
structure Op1 (X : Cx) (f : Value → Sem Value) (a : A1) : Prop where
  p : UnR X f (con1 X.K a)
structure OpC (X : Cx) (f : Value) (a : AN) : Prop where
  p : CallR X f (conN X.K a)
structure OpI (X : Cx) (a : A2) : Prop where
  p : IxR X (con2 X.K a)
section
variable {X : Cx}
theorem mE {e : Expr} {t u : TE} (h : PE X e t) (m : ∀ σ H Q, u σ H Q → t σ H Q) : PE X e u := fun pins s σ H Q I q => h pins s σ H Q I (m σ H Q q)
theorem mT {e : Expr} {t u : TT} (h : PT X e t) (m : ∀ σ H Q, u σ H Q → t σ H Q) : PT X e u := fun pins s σ H Q I q => h pins s σ H Q I (m σ H Q q)
theorem mW {e : Expr} {t u : TT} (h : PW X e t) (m : ∀ σ H Q, u σ H Q → t σ H Q) : PW X e u := fun wh pins s σ H Q I q => h wh pins s σ H Q I (m σ H Q q)
theorem mA {e : List Expr} {t u : TA} (h : PA X e t) (m : ∀ σ H Q, u σ H Q → t σ H Q) : PA X e u := fun pos pins s σ H Q I q => h pos pins s σ H Q I (m σ H Q q)
theorem mO {e : Option Expr} {t u : TO} (h : PO X e t) (m : ∀ σ H Q, u σ H Q → t σ H Q) : PO X e u := fun pins s σ H Q I q => h pins s σ H Q I (m σ H Q q)
theorem mS {e : Stmt} {t u : TS} (h : PS X e t) (m : ∀ D σ H, u D σ H → t D σ H) : PS X e u := fun pins s σ H D I q => h pins s σ H D I (m D σ H q)
theorem mSs {e : List Stmt} {t u : TS} (h : PSs X e t) (m : ∀ D σ H, u D σ H → t D σ H) : PSs X e u := fun pins s σ H D I q => h pins s σ H D I (m D σ H q)
theorem mG {e : Expr} {t u : TG} (h : PG X e t) (m : ∀ x σ H Q, u x σ H Q → t x σ H Q) : PG X e u := fun pins s σ H x v Q I r q => h pins s σ H x v Q I r (m x σ H Q q)
theorem mGs {e : List Expr} {t u : TGs} (h : PGs X e t) (m : ∀ x σ H Q, u x σ H Q → t x σ H Q) : PGs X e u := fun pins s σ H x v Q I r q => h pins s σ H x v Q I r (m x σ H Q q)
theorem mI {g e : Expr} {t u : TI} (h : PI X g e t) (m : ∀ σ H R, u σ H R → t σ H R) : PI X g e u := fun pins s σ H R I q => h pins s σ H R I (m σ H R q)
theorem mTs {e : List Expr} {t u : TT} (h : PTs X e t) (m : ∀ σ H Q, u σ H Q → t σ H Q) : PTs X e u := fun pins s σ H Q I q => h pins s σ H Q I (m σ H Q q)
theorem m2 {f : Value → Value → Sem Value} {t u : R2} (h : OpR X f t) (m : ∀ x y H Q, u x y H Q → t x y H Q) : OpR X f u := fun pins s σ H x y v u Q I r r' q => h pins s σ H x y v u Q I r r' (m x y H Q q)
theorem m1 {f : Value → Sem Value} {t u : V → Hp → VK → Prop} (h : UnR X f t) (m : ∀ x H Q, u x H Q → t x H Q) : UnR X f u := fun pins s σ H x v Q I r q => h pins s σ H x v Q I r (m x H Q q)
theorem mC {f : Value} {t u : List V → Hp → VK → Prop} (h : CallR X f t) (m : ∀ x H Q, u x H Q → t x H Q) : CallR X f u := fun pins s σ H x v Q I r q => h pins s σ H x v Q I r (m x H Q q)
end
noncomputable def aVar (i : Nat) : AE := fun δ S Q => ∃ d, δ[i]? = some (some d) ∧ Q (.dat d) S
noncomputable def aC (d : D) : AE := fun _ S Q => Q (.dat d) S
noncomputable def aOp (r : A2) (a b : AE) : AE := fun δ S Q => a δ S fun x S1 => b δ S1 fun y S2 => r x.d y.d S2 Q
noncomputable def aUn (r : A1) (a : AE) : AE := fun δ S Q => a δ S fun x S1 => r x.d S1 Q
noncomputable def aNil : AA := fun _ S Q => Q [] S
noncomputable def aCons (a : AE) (b : AA) : AA := fun δ S Q => a δ S fun x S1 => b δ S1 fun xs S2 => Q (x.d :: xs) S2
noncomputable def aTup (a : AA) : AE := fun δ S Q => a δ S fun ds S1 => ds.length ≤ sizeLine ∧ Q (.dat (.tup ds)) S1
noncomputable def aLst (a : AA) : AE := fun δ S Q => a δ S fun ds S1 => ds.length ≤ sizeLine ∧ Q (.new (.lst ds)) S1
noncomputable def aAlloc (a : AE) : AE := fun δ S Q => a δ S fun r S1 => match r with
  | .new o => Q (.dat (.loc S1.length)) (S1 ++ [some o])
  | .dat d => Q (.dat d) S1
noncomputable def aCall (sp : AN) (a : AA) : AE := fun δ S Q => a δ S fun ds S1 => sp ds S1 Q
noncomputable def aB (a : AE) : AT := fun δ S Q => a δ S fun r S1 => ∃ b, r.d = .bl b ∧ Q b S1
noncomputable def aTruD : D → Option Bool
  | .non => some false
  | .bl b => some b
  | .int i => some (i != 0)
  | .str y => if y.length ≤ sizeLine then some ((y.length : Int) != 0) else none
  | .tup ds => some (!ds.isEmpty)
  | .lst ds => some (!ds.isEmpty)
  | .dct ks _ => some (!ks.isEmpty)
  | _ => none
noncomputable def aTru (a : AE) : AT := fun δ S Q => a δ S fun r S1 => ∃ b, aTruD (see S1 r.d) = some b ∧ Q b S1
noncomputable def aAndV (a b : AE) : AE := fun δ S Q => a δ S fun x S1 => ∃ c, x.d = .bl c ∧ if c = true then b δ S1 Q else Q (.dat (.bl false)) S1
noncomputable def aOrV (a b : AE) : AE := fun δ S Q => a δ S fun x S1 => ∃ c, x.d = .bl c ∧ if c = true then Q (.dat (.bl true)) S1 else b δ S1 Q
noncomputable def aNotV (a : AE) : AE := fun δ S Q => a δ S fun x S1 => ∃ c, x.d = .bl c ∧ Q (.dat (.bl (!c))) S1
noncomputable def aAnd (a b : AT) : AT := fun δ S Q => a δ S fun c S1 => if c = true then b δ S1 Q else Q false S1
noncomputable def aOr (a b : AT) : AT := fun δ S Q => a δ S fun c S1 => if c = true then Q true S1 else b δ S1 Q
noncomputable def aNot (a : AT) : AT := fun δ S Q => a δ S fun c S1 => Q (!c) S1
noncomputable def aIf (t : AT) (a b : AE) : AE := fun δ S Q => t δ S fun c S1 => if c = true then a δ S1 Q else b δ S1 Q
noncomputable def aChain (r r' : A2) (a b c : AE) : AE := fun δ S Q => a δ S fun x S1 => b δ S1 fun y S2 => r x.d y.d S2 fun z S3 => ∃ k, z.d = .bl k ∧ if k = true then c δ S3 fun z' S4 => r' y.d z'.d S4 Q else Q (.dat (.bl false)) S3
noncomputable def aNoPart : AO := fun _ S Q => Q none S
noncomputable def aPart (a : AE) : AO := fun δ S Q => a δ S fun r S1 => ∃ i, r.d = .int i ∧ Q (some i) S1
noncomputable def aSl (r : D → Option Int → Option Int → Sto → AK → Prop) (a : AE) (l u : AO) : AE := fun δ S Q => a δ S fun x S1 => l δ S1 fun i S2 => u δ S2 fun j S3 => r x.d i j S3 Q
noncomputable def aNext : AS := fun D δ S => D.nx δ S
noncomputable def aSeq (a b : AS) : AS := fun D δ S => a { D with nx := b D } δ S
noncomputable def aRet (a : AE) : AS := fun D δ S => a δ S D.rt
noncomputable def aRetN : AS := fun D _ S => D.rt (.dat .non) S
noncomputable def aDrop (a : AE) : AS := fun D δ S => a δ S fun _ S1 => D.nx δ S1
noncomputable def aIfS (c : AT) (a b : AS) : AS := fun D δ S => c δ S fun k S1 => if k = true then a D δ S1 else b D δ S1
noncomputable def agName (i : Nat) : AG := fun d δ S Q => Q (δ.set i (some d)) S
noncomputable def agNil : AGs := fun ds δ S Q => ds = [] ∧ Q δ S
noncomputable def agCons (a : AG) (b : AGs) : AGs := fun ds δ S Q => ∃ d r, ds = d :: r ∧ a d δ S fun δ1 S1 => b r δ1 S1 Q
noncomputable def agTup (n : Nat) (a : AGs) : AG := fun d δ S Q => ∃ ds, d = .tup ds ∧ ds.length = n ∧ a ds δ S Q
noncomputable def aAsg (a : AE) (g : AG) : AS := fun D δ S => a δ S fun r S1 => g r.d δ S1 D.nx
noncomputable def loopD (P : Sto → Prop) (g : AG) (b : AS) : List D → AEnds → AEnv → Sto → Prop
  | [], D, δ, S => P S ∧ D.nx δ S
  | x :: xs, D, δ, S => P S ∧ g x δ S fun δ2 S2 => b { D with nx := loopD P g b xs D, ct := loopD P g b xs D, bk := D.nx } δ2 S2
noncomputable def aFor (i : AI) (g : AG) (b : AS) : AS := fun D δ S => i δ S fun ds P S1 => loopD P g b ds D δ S1
noncomputable def aWhile (c : AT) (b : AS) : AS := fun D δ S => ∃ W : Nat → AEnv → Sto → Prop, (∃ m, W m δ S) ∧ ∀ m δ S, W m δ S →
  c δ S fun k S1 => if k = true then ∃ N : AEnv → Sto → Prop, (∀ δ' S', N δ' S' → ∃ m', m' < m ∧ W m' δ' S') ∧ b { D with nx := N, ct := N, bk := D.nx } δ S1 else D.nx δ S1
noncomputable def aYes : AT := fun _ S Q => Q true S
noncomputable def compD (P : Sto → Prop) (g : AG) (t : AT) (e : AE) : List D → List D → AEnv → Sto → (List D → Sto → Prop) → Prop
  | [], acc, _, S, Q => P S ∧ Q acc S
  | x :: xs, acc, δ, S, Q => P S ∧ g x δ S fun δ2 S2 => t δ2 S2 fun b S3 => if b = true then e δ2 S3 fun r S4 => acc.length < sizeLine ∧ compD P g t e xs (acc ++ [r.d]) δ2 S4 Q else compD P g t e xs acc δ2 S3 Q
noncomputable def captA (caps : List (Option Nat)) (δ : AEnv) : AEnv := caps.map fun o => o.bind fun i => (δ[i]?).getD none
noncomputable def aComp (caps : List (Option Nat)) (i : AI) (g : AG) (t : AT) (e : AE) : AE := fun δ S Q => i δ S fun ds P S1 => compD P g t e ds [] (captA caps δ) S1 fun ds' S2 => Q (.new (.lst ds')) S2
noncomputable def iRngD (lo : Int) (n : Nat) : List D := (List.range n).map fun k : Nat => .int (lo + (k : Int))
noncomputable def iRng (a : AA) : AI := fun δ S Q => a δ S fun ds S1 => ∃ j : Int, ds = [.int j] ∧ (-(2 ^ 62) ≤ j ∧ j < 2 ^ 62) ∧ Q (iRngD 0 j.toNat) (fun _ => True) S1
noncomputable def signs (x : Str) : List D := x.cps.toList.map fun c => .str ⟨#[c]⟩
end M
set_option Elab.async false
set_option linter.all false
set_option maxRecDepth 100000
set_option maxHeartbeats 4000000
namespace M
open PySem L2
section
variable {K : PySem.W.Frag}
theorem BackV.go {w : Wd} {Qa : AK} {Q : VK} (h : ∀ r S' v w' H', w.le w' → Ok K w' H' S' → Rep K w' r.d v → Qa r S' → Q v H') : BackV K w Qa Q := fun r S' v w' H' le ok rep q => by
  obtain ⟨w2, le2, ok2, rep2⟩ := freeze ok rep
  exact h r S' v w2 H' (le.trans le2) ok2 rep2 q
theorem BackV.dat {w w' : Wd} {Qa : AK} {Q : VK} {d : D} {v : V} {S : Sto} {H : Hp} (h : BackV K w Qa Q) (le : w.le w') (ok : Ok K w' H S) (rep : Rep K w' d v) (q : Qa (.dat d) S) : Q v H := h (.dat d) S v w' H le ok rep q
theorem s_var {i : Nat} : ∀ σ H Q, conE K (aVar i) σ H Q → tVar i σ H Q := by
  rintro σ H Q ⟨w, δ, S, Qa, ok, env, ⟨d, e, q⟩, bk⟩
  obtain ⟨v, e1, e2⟩ := env.2 i d e
  exact ⟨v, e1, bk.dat .refl ok e2 q⟩
theorem s_c {d : D} {v : V} (h : ∀ w, Rep K w d v) : ∀ σ H Q, conE K (aC d) σ H Q → tC v σ H Q := by
  rintro σ H Q ⟨w, δ, S, Qa, ok, env, q, bk⟩
  exact bk.dat .refl ok (h w) q
theorem s_op {r : A2} {a b : AE} : ∀ σ H Q, conE K (aOp r a b) σ H Q → tOp (con2 K r) (conE K a) (conE K b) σ H Q := by
  rintro σ H Q ⟨w, δ, S, Qa, ok, env, q, bk⟩
  refine ⟨w, δ, S, _, ok, env, q, .go fun r1 S1 v1 w1 H1 le1 ok1 rep1 q1 => ?_⟩
  refine ⟨w1, δ, S1, _, ok1, env.le le1, q1, .go fun r2 S2 v2 w2 H2 le2 ok2 rep2 q2 => ?_⟩
  exact ⟨w2, r1.d, r2.d, S2, Qa, ok2, rep1.le le2, rep2, q2, bk.le (le1.trans le2)⟩
theorem s_un {r : A1} {a : AE} : ∀ σ H Q, conE K (aUn r a) σ H Q → tUn (con1 K r) (conE K a) σ H Q := by
  rintro σ H Q ⟨w, δ, S, Qa, ok, env, q, bk⟩
  refine ⟨w, δ, S, _, ok, env, q, .go fun r1 S1 v1 w1 H1 le1 ok1 rep1 q1 => ?_⟩
  exact ⟨w1, r1.d, S1, Qa, ok1, rep1, q1, bk.le le1⟩
theorem s_nil : ∀ σ H Q, conA K aNil σ H Q → tNil σ H Q := by
  rintro σ H Q ⟨w, δ, S, Qa, ok, env, q, bk⟩
  exact bk [] S [] w H .refl ok .nil q
theorem s_cons {a : AE} {b : AA} : ∀ σ H Q, conA K (aCons a b) σ H Q → tCons (conE K a) (conA K b) σ H Q := by
  rintro σ H Q ⟨w, δ, S, Qa, ok, env, q, bk⟩
  refine ⟨w, δ, S, _, ok, env, q, .go fun r1 S1 v1 w1 H1 le1 ok1 rep1 q1 => ?_⟩
  refine ⟨w1, δ, S1, _, ok1, env.le le1, q1, fun ds S2 vs w2 H2 le2 ok2 rep2 q2 => ?_⟩
  exact bk _ S2 _ w2 H2 (le1.trans le2) ok2 (.cons (rep1.le le2) rep2) q2
theorem s_tup {a : AA} : ∀ σ H Q, conE K (aTup a) σ H Q → tTup (conA K a) σ H Q := by
  rintro σ H Q ⟨w, δ, S, Qa, ok, env, q, bk⟩
  refine ⟨w, δ, S, _, ok, env, q, fun ds S1 vs w1 H1 le1 ok1 rep1 ⟨hl, q1⟩ => ⟨by rw [rep1.length]; exact hl, fun p hp => ?_⟩⟩
  obtain ⟨w2, le2, ok2, rep2⟩ := ok1.newTup hp rep1
  exact bk.dat (le1.trans le2) ok2 rep2 q1
theorem s_lst {a : AA} : ∀ σ H Q, conE K (aLst a) σ H Q → tLst (conA K a) σ H Q := by
  rintro σ H Q ⟨w, δ, S, Qa, ok, env, q, bk⟩
  refine ⟨w, δ, S, _, ok, env, q, fun ds S1 vs w1 H1 le1 ok1 rep1 ⟨hl, q1⟩ => ⟨by rw [rep1.length]; exact hl, fun p hp => ?_⟩⟩
  exact bk (.new (.lst ds)) S1 _ w1 _ le1 (ok1.alloc hp) (ok1.fresh hp ⟨vs, rfl, rep1⟩) q1
theorem s_alloc {a : AE} : ∀ σ H Q, conE K (aAlloc a) σ H Q → conE K a σ H Q := by
  rintro σ H Q ⟨w, δ, S, Qa, ok, env, q, bk⟩
  refine ⟨w, δ, S, _, ok, env, q, fun r S1 v w1 H1 le1 ok1 rep1 q1 => ?_⟩
  cases r with
  | dat d => exact bk.dat le1 ok1 rep1 q1
  | new o =>
    obtain ⟨w2, le2, ok2, rep2⟩ := store ok1 rep1
    exact bk.dat (le1.trans le2) ok2 rep2 q1
theorem s_call {sp : AN} {a : AA} {E : XK} : ∀ σ H Q, conE K (aCall sp a) σ H Q → tCall (conSp K sp) [] E (conA K a) σ H Q := by
  rintro σ H Q ⟨w, δ, S, Qa, ok, env, q, bk⟩
  refine ⟨w, δ, S, _, ok, env, q, fun ds S1 vs w1 H1 le1 ok1 rep1 q1 => ?_⟩
  exact ⟨w1, ds, S1, Qa, ok1, by rw [List.append_nil]; exact rep1, q1, bk.le le1⟩
theorem s_cb {r : AN} {a : AA} : ∀ σ H Q, conE K (aCall r a) σ H Q → tCB (conN K r) (conA K a) σ H Q := by
  rintro σ H Q ⟨w, δ, S, Qa, ok, env, q, bk⟩
  refine ⟨w, δ, S, _, ok, env, q, fun ds S1 vs w1 H1 le1 ok1 rep1 q1 => ?_⟩
  exact ⟨w1, ds, S1, Qa, ok1, rep1, q1, bk.le le1⟩
theorem rep_bl {w : Wd} {b : Bool} {v : V} {d : D} (h : Rep K w d v) (e : d = .bl b) : v = .bl b := by subst e; simpa [Rep] using h
theorem rep_int {w : Wd} {b : Int} {v : V} {d : D} (h : Rep K w d v) (e : d = .int b) : v = .int b := by subst e; simpa [Rep] using h
theorem rep_str {w : Wd} {b : Str} {v : V} {d : D} (h : Rep K w d v) (e : d = .str b) : v = .str b := by subst e; simpa [Rep] using h
theorem rep_ty {w : Wd} {n : String} {v : V} {d : D} (h : Rep K w d v) (e : d = .ty n) : v = .ty n := by subst e; simpa [Rep] using h
theorem Rep.bl {w : Wd} {b : Bool} : Rep K w (.bl b) (.bl b) := by simp [Rep]
theorem Rep.int {w : Wd} {b : Int} : Rep K w (.int b) (.int b) := by simp [Rep]
theorem Rep.str {w : Wd} {b : Str} : Rep K w (.str b) (.str b) := by simp [Rep]
theorem Rep.non {w : Wd} : Rep K w .non .non := by simp [Rep]
theorem Rep.ty {w : Wd} {n : String} : Rep K w (.ty n) (.ty n) := by simp [Rep]
theorem s_b {a : AE} : ∀ σ H Q, conT K (aB a) σ H Q → tB (conE K a) σ H Q := by
  rintro σ H Q ⟨w, δ, S, Qa, ok, env, q, bk⟩
  refine ⟨w, δ, S, _, ok, env, q, .go fun r1 S1 v1 w1 H1 le1 ok1 rep1 ⟨b, e, q1⟩ => ⟨b, rep_bl rep1 e, bk b S1 w1 H1 le1 ok1 q1⟩⟩
theorem tru_see {w : Wd} {H : Hp} {S : Sto} {d : D} {v : V} {b : Bool} (ok : Ok K w H S) (h : Rep K w d v) (e : aTruD (see S d) = some b) : TruV K v H b := by
  cases q : see S d with
  | lst ds =>
    rw [q] at e
    obtain ⟨a, xs, rfl, h1, h2⟩ := see_lst ok h q
    refine Or.inl ⟨xs, SqL.of h1, ?_⟩
    have : b = !ds.isEmpty := by simpa [aTruD] using e.symm
    rw [this]
    have := h2.length
    cases ds <;> cases xs <;> simp at this ⊢
  | tup ds =>
    rw [q] at e
    obtain ⟨a, xs, rfl, h1, h2⟩ := see_tup ok h q
    refine Or.inr (Or.inl ⟨xs, SqT.of h1, ?_⟩)
    have : b = !ds.isEmpty := by simpa [aTruD] using e.symm
    rw [this]
    have := h2.length
    cases ds <;> cases xs <;> simp at this ⊢
  | dct ks ds =>
    rw [q] at e
    obtain ⟨a, kvs, rfl, h1, h2, h3⟩ := see_dct ok h q
    refine Or.inr (Or.inr ⟨kvs, h1, ?_⟩)
    have : b = !ks.isEmpty := by simpa [aTruD] using e.symm
    rw [this, ← h2]
    cases kvs <;> simp
  | _ =>
    rw [q] at e
    cases d <;> simp [see] at q <;> first
      | (subst q; simp only [Rep] at h; subst h; simp [aTruD] at e; simp [TruV, e]; done)
      | (simp [aTruD] at e; done)
      | skip
    all_goals first
      | (simp only [Rep] at h; subst h; subst q; simp only [aTruD, Option.some.injEq] at e; subst e; rfl)
      | (simp only [Rep] at h; subst h; simp only [aTruD, Option.some.injEq] at e; subst e; rfl)
      | (split at q <;> first | (rename_i o _; cases o <;> simp [MO.d] at q) | (cases q; simp [aTruD] at e) | cases q)
      | (simp only [Rep] at h; subst h; subst q; simp only [aTruD] at e; split at e; next hl => exact ⟨hl, by simpa using e.symm⟩; next => cases e)
      | skip
end
end M
set_option Elab.async false
set_option linter.all false
set_option maxRecDepth 100000
set_option maxHeartbeats 4000000
namespace M
open PySem L2
section
variable {K : PySem.W.Frag}
theorem s_tru {a : AE} : ∀ σ H Q, conT K (aTru a) σ H Q → (conE K a) σ H (fun x H' => ∃ k, TruV K x H' k ∧ Q k H') := by
  rintro σ H Q ⟨w, δ, S, Qa, ok, env, q, bk⟩
  exact ⟨w, δ, S, _, ok, env, q, .go fun r1 S1 v1 w1 H1 le1 ok1 rep1 ⟨b, e, q1⟩ => ⟨b, tru_see ok1 rep1 e, bk b S1 w1 H1 le1 ok1 q1⟩⟩
theorem s_andV {a b : AE} : ∀ σ H Q, conE K (aAndV a b) σ H Q → tAndV (conE K a) (conE K b) σ H Q := by
  rintro σ H Q ⟨w, δ, S, Qa, ok, env, q, bk⟩
  refine ⟨w, δ, S, _, ok, env, q, .go fun r1 S1 v1 w1 H1 le1 ok1 rep1 ⟨c, e, q1⟩ => ⟨c, rep_bl rep1 e, ?_⟩⟩
  cases c with
  | true => exact iteT ⟨w1, δ, S1, Qa, ok1, env.le le1, by simpa using q1, bk.le le1⟩
  | false => exact iteF (bk.dat le1 ok1 .bl (by simpa using q1))
theorem s_orV {a b : AE} : ∀ σ H Q, conE K (aOrV a b) σ H Q → tOrV (conE K a) (conE K b) σ H Q := by
  rintro σ H Q ⟨w, δ, S, Qa, ok, env, q, bk⟩
  refine ⟨w, δ, S, _, ok, env, q, .go fun r1 S1 v1 w1 H1 le1 ok1 rep1 ⟨c, e, q1⟩ => ⟨c, rep_bl rep1 e, ?_⟩⟩
  cases c with
  | false => exact iteF ⟨w1, δ, S1, Qa, ok1, env.le le1, by simpa using q1, bk.le le1⟩
  | true => exact iteT (bk.dat le1 ok1 .bl (by simpa using q1))
theorem s_and {a b : AT} : ∀ σ H Q, conT K (aAnd a b) σ H Q → tAnd (conT K a) (conT K b) σ H Q := by
  rintro σ H Q ⟨w, δ, S, Qa, ok, env, q, bk⟩
  refine ⟨w, δ, S, _, ok, env, q, fun c S1 w1 H1 le1 ok1 q1 => ?_⟩
  cases c with
  | true => exact iteT ⟨w1, δ, S1, Qa, ok1, env.le le1, by simpa using q1, bk.le le1⟩
  | false => exact iteF (bk _ S1 w1 H1 le1 ok1 (by simpa using q1))
theorem s_or {a b : AT} : ∀ σ H Q, conT K (aOr a b) σ H Q → tOr (conT K a) (conT K b) σ H Q := by
  rintro σ H Q ⟨w, δ, S, Qa, ok, env, q, bk⟩
  refine ⟨w, δ, S, _, ok, env, q, fun c S1 w1 H1 le1 ok1 q1 => ?_⟩
  cases c with
  | false => exact iteF ⟨w1, δ, S1, Qa, ok1, env.le le1, by simpa using q1, bk.le le1⟩
  | true => exact iteT (bk _ S1 w1 H1 le1 ok1 (by simpa using q1))
theorem s_not {a : AT} : ∀ σ H Q, conT K (aNot a) σ H Q → tNot (conT K a) σ H Q := by
  rintro σ H Q ⟨w, δ, S, Qa, ok, env, q, bk⟩
  exact ⟨w, δ, S, _, ok, env, q, fun c S1 w1 H1 le1 ok1 q1 => bk _ S1 w1 H1 le1 ok1 q1⟩
theorem s_if {t : AT} {a b : AE} : ∀ σ H Q, conE K (aIf t a b) σ H Q → tIf (conT K t) (conE K a) (conE K b) σ H Q := by
  rintro σ H Q ⟨w, δ, S, Qa, ok, env, q, bk⟩
  refine ⟨w, δ, S, _, ok, env, q, fun c S1 w1 H1 le1 ok1 q1 => ?_⟩
  cases c with
  | true => exact iteT ⟨w1, δ, S1, Qa, ok1, env.le le1, by simpa using q1, bk.le le1⟩
  | false => exact iteF ⟨w1, δ, S1, Qa, ok1, env.le le1, by simpa using q1, bk.le le1⟩
theorem s_chain {r r' : A2} {a b c : AE} : ∀ σ H Q, conE K (aChain r r' a b c) σ H Q → tChain (con2 K r) (con2 K r') (conE K a) (conE K b) (conE K c) σ H Q := by
  rintro σ H Q ⟨w, δ, S, Qa, ok, env, q, bk⟩
  refine ⟨w, δ, S, _, ok, env, q, .go fun r1 S1 v1 w1 H1 le1 ok1 rep1 q1 => ?_⟩
  refine ⟨w1, δ, S1, _, ok1, env.le le1, q1, .go fun r2 S2 v2 w2 H2 le2 ok2 rep2 q2 => ?_⟩
  refine ⟨w2, r1.d, r2.d, S2, _, ok2, rep1.le le2, rep2, q2, .go fun r3 S3 v3 w3 H3 le3 ok3 rep3 ⟨k, e3, q3⟩ => ⟨k, rep_bl rep3 e3, ?_⟩⟩
  have le13 := le1.trans (le2.trans le3)
  cases k with
  | false => exact iteF (bk.dat le13 ok3 .bl (by simpa using q3))
  | true =>
    rw [if_pos rfl] at q3
    refine iteT ⟨w3, δ, S3, _, ok3, env.le le13, q3, .go fun r4 S4 v4 w4 H4 le4 ok4 rep4 q4 => ?_⟩
    exact ⟨w4, r2.d, r4.d, S4, _, ok4, rep2.le (le3.trans le4), rep4, q4, bk.le (le13.trans le4)⟩
theorem s_noPart : ∀ σ H Q, conO K aNoPart σ H Q → tNoPart σ H Q := by
  rintro σ H Q ⟨w, δ, S, Qa, ok, env, q, bk⟩
  exact bk none S w H .refl ok q
theorem s_part {a : AE} : ∀ σ H Q, conO K (aPart a) σ H Q → tPart (conE K a) σ H Q := by
  rintro σ H Q ⟨w, δ, S, Qa, ok, env, q, bk⟩
  exact ⟨w, δ, S, _, ok, env, q, .go fun r1 S1 v1 w1 H1 le1 ok1 rep1 ⟨i, e, q1⟩ => ⟨i, rep_int rep1 e, bk _ S1 w1 H1 le1 ok1 q1⟩⟩
noncomputable def conSl (K : PySem.W.Frag) (a : D → Option Int → Option Int → Sto → AK → Prop) : V → Option Int → Option Int → Hp → VK → Prop := fun x i j H Q => ∃ w d S Qa, Ok K w H S ∧ Rep K w d x ∧ a d i j S Qa ∧ BackV K w Qa Q
theorem s_sl {r : D → Option Int → Option Int → Sto → AK → Prop} {a : AE} {l u : AO} : ∀ σ H Q, conE K (aSl r a l u) σ H Q → tSl (conSl K r) (conE K a) (conO K l) (conO K u) σ H Q := by
  rintro σ H Q ⟨w, δ, S, Qa, ok, env, q, bk⟩
  refine ⟨w, δ, S, _, ok, env, q, .go fun r1 S1 v1 w1 H1 le1 ok1 rep1 q1 => ?_⟩
  refine ⟨w1, δ, S1, _, ok1, env.le le1, q1, fun i S2 w2 H2 le2 ok2 q2 => ?_⟩
  refine ⟨w2, δ, S2, _, ok2, env.le (le1.trans le2), q2, fun j S3 w3 H3 le3 ok3 q3 => ?_⟩
  exact ⟨w3, r1.d, S3, Qa, ok3, rep1.le (le2.trans le3), q3, bk.le (le1.trans (le2.trans le3))⟩
theorem s_next : ∀ D σ H, conS K aNext D σ H → tNext D σ H := by
  rintro D σ H ⟨w, δ, S, Da, ok, env, q, bk⟩
  exact bk.nx δ S σ w H .refl ok env q
theorem s_seq {a b : AS} : ∀ D σ H, conS K (aSeq a b) D σ H → tSeq (conS K a) (conS K b) D σ H := by
  rintro D σ H ⟨w, δ, S, Da, ok, env, q, bk⟩
  refine ⟨w, δ, S, _, ok, env, q, ⟨fun δ1 S1 σ1 w1 H1 le1 ok1 env1 q1 => ?_, bk.rt, bk.bk, bk.ct⟩⟩
  exact ⟨w1, δ1, S1, Da, ok1, env1, q1, bk.le le1⟩
theorem s_ret {a : AE} : ∀ D σ H, conS K (aRet a) D σ H → tRet (conE K a) D σ H := by
  rintro D σ H ⟨w, δ, S, Da, ok, env, q, bk⟩
  exact ⟨w, δ, S, _, ok, env, q, bk.rt⟩
theorem s_drop {a : AE} : ∀ D σ H, conS K (aDrop a) D σ H → tDrop (conE K a) D σ H := by
  rintro D σ H ⟨w, δ, S, Da, ok, env, q, bk⟩
  exact ⟨w, δ, S, _, ok, env, q, .go fun r1 S1 v1 w1 H1 le1 ok1 rep1 q1 => bk.nx δ S1 σ w1 H1 le1 ok1 (env.le le1) q1⟩
theorem s_ifS {c : AT} {a b : AS} : ∀ D σ H, conS K (aIfS c a b) D σ H → tIfS (conT K c) (conS K a) (conS K b) D σ H := by
  rintro D σ H ⟨w, δ, S, Da, ok, env, q, bk⟩
  refine ⟨w, δ, S, _, ok, env, q, fun k S1 w1 H1 le1 ok1 q1 => ?_⟩
  cases k with
  | true => exact iteT ⟨w1, δ, S1, Da, ok1, env.le le1, by simpa using q1, bk.le le1⟩
  | false => exact iteF ⟨w1, δ, S1, Da, ok1, env.le le1, by simpa using q1, bk.le le1⟩
theorem s_gName {i : Nat} : ∀ x σ H Q, conG K (agName i) x σ H Q → gName i x σ H Q := by
  rintro x σ H Q ⟨w, d, δ, S, Qa, ok, env, rep, q, bk⟩
  exact bk _ S _ w H .refl ok (env.set rep i) q
theorem s_gNil : ∀ x σ H Q, conGs K agNil x σ H Q → gNil x σ H Q := by
  rintro x σ H Q ⟨w, ds, δ, S, Qa, ok, env, rep, ⟨rfl, q⟩, bk⟩
  exact ⟨by simpa [Reps] using rep, bk _ S _ w H .refl ok env q⟩
theorem s_gCons {a : AG} {b : AGs} : ∀ x σ H Q, conGs K (agCons a b) x σ H Q → gCons (conG K a) (conGs K b) x σ H Q := by
  rintro x σ H Q ⟨w, ds, δ, S, Qa, ok, env, rep, ⟨d, r, rfl, q⟩, bk⟩
  simp only [Reps] at rep
  obtain ⟨v, vs, rfl, h1, h2⟩ := rep
  refine ⟨v, vs, rfl, w, d, δ, S, _, ok, env, h1, q, fun δ1 S1 σ1 w1 H1 le1 ok1 env1 q1 => ?_⟩
  exact ⟨w1, r, δ1, S1, Qa, ok1, env1, h2.le le1, q1, bk.le le1⟩
theorem s_gTup {n : Nat} {a : AGs} : ∀ x σ H Q, conG K (agTup n a) x σ H Q → gTup K n (conGs K a) x σ H Q := by
  rintro x σ H Q ⟨w, d, δ, S, Qa, ok, env, rep, ⟨ds, rfl, hl, q⟩, bk⟩
  simp only [Rep] at rep
  obtain ⟨p, xs, rfl, h1, h2⟩ := rep
  exact ⟨p, xs, rfl, SqT.of (ok.base _ _ h1), by rw [h2.length]; exact hl, w, ds, δ, S, Qa, ok, env, h2, q, bk⟩
theorem s_asg {a : AE} {g : AG} : ∀ D σ H, conS K (aAsg a g) D σ H → tAsg (conE K a) (conG K g) D σ H := by
  rintro D σ H ⟨w, δ, S, Da, ok, env, q, bk⟩
  refine ⟨w, δ, S, _, ok, env, q, .go fun r1 S1 v1 w1 H1 le1 ok1 rep1 q1 => ?_⟩
  exact ⟨w1, r1.d, δ, S1, _, ok1, env.le le1, rep1, q1, bk.nx.le le1⟩
theorem s_for {i : AI} {g : AG} {b : AS} : ∀ D σ H, conS K (aFor i g b) D σ H → tFor (conI K i) (conG K g) (conS K b) D σ H := by
  rintro D σ H ⟨w, δ, S, Da, ok, env, q, bk⟩
  refine ⟨w, δ, S, _, ok, env, q, fun ds P S1 J w1 H1 le1 ok1 it q1 => ?_⟩
  refine ⟨fun i m σ H => m = ds.length - i ∧ i ≤ ds.length ∧ ∃ w2 δ2 S2, w1.le w2 ∧ Ok K w2 H S2 ∧ EnvR K w2 δ2 σ ∧ loopD P g b (ds.drop i) Da δ2 S2, ⟨ds.length, by simp, Nat.zero_le _, w1, δ, S1, .refl, ok1, env.le le1, by simpa using q1⟩, ?_⟩
  rintro i m σ2 H2 ⟨rfl, hi, w2, δ2, S2, le2, ok2, env2, lp⟩
  by_cases hlt : i < ds.length
  · rw [List.drop_eq_getElem_cons hlt] at lp
    obtain ⟨hP, lp⟩ := lp
    have hd : ds[i]? = some ds[i] := List.getElem?_eq_getElem hlt
    refine .inr ⟨it.go i H2 S2 w2 _ le2 ok2 hP hd, fun σ' H' => ∃ w3 δ3 S3, w1.le w3 ∧ Ok K w3 H' S3 ∧ EnvR K w3 δ3 σ' ∧ loopD P g b (ds.drop (i + 1)) Da δ3 S3, fun σ' H' h => ⟨_, by omega, rfl, hlt, h⟩, fun x H' y => ?_⟩
    obtain ⟨rfl, rx⟩ := it.yld i H2 S2 w2 _ x H' le2 ok2 hP hd y
    refine ⟨w2, ds[i], δ2, S2, _, ok2, env2, rx, lp, fun δ3 S3 σ3 w3 H3 le3 ok3 env3 q3 => ?_⟩
    have lew := le1.trans (le2.trans le3)
    refine ⟨w3, δ3, S3, _, ok3, env3, q3, ⟨?_, bk.rt.le lew, bk.nx.le lew, ?_⟩⟩
    · exact fun δ4 S4 σ4 w4 H4 le4 ok4 env4 q4 => ⟨w4, δ4, S4, le2.trans (le3.trans le4), ok4, env4, q4⟩
    · exact fun δ4 S4 σ4 w4 H4 le4 ok4 env4 q4 => ⟨w4, δ4, S4, le2.trans (le3.trans le4), ok4, env4, q4⟩
  · have e : i = ds.length := by omega
    subst e
    rw [List.drop_length] at lp
    exact .inl ⟨it.stop _ H2 S2 w2 le2 ok2 lp.1 rfl, bk.nx δ2 S2 σ2 w2 H2 (le1.trans le2) ok2 env2 lp.2⟩
theorem s_while {c : AT} {b : AS} : ∀ D σ H, conS K (aWhile c b) D σ H → tWhile (conT K c) (conS K b) D σ H := by
  rintro D σ H ⟨w, δ, S, Da, ok, env, ⟨W, ⟨m0, w0⟩, turn⟩, bk⟩
  refine ⟨fun m σ H => ∃ w1 δ1 S1, w.le w1 ∧ Ok K w1 H S1 ∧ EnvR K w1 δ1 σ ∧ W m δ1 S1, ⟨m0, w, δ, S, .refl, ok, env, w0⟩, ?_⟩
  rintro m σ1 H1 ⟨w1, δ1, S1, le1, ok1, env1, h1⟩
  refine ⟨w1, δ1, S1, _, ok1, env1, turn m δ1 S1 h1, fun k S2 w2 H2 le2 ok2 q2 => ?_⟩
  cases k with
  | false => exact iteF (bk.nx δ1 S2 σ1 w2 H2 (le1.trans le2) ok2 (env1.le le2) (by simpa using q2))
  | true =>
    rw [if_pos rfl] at q2
    obtain ⟨N, hN, q2⟩ := q2
    have lew := le1.trans le2
    refine iteT ⟨fun σ' H' => ∃ w3 δ3 S3, w.le w3 ∧ Ok K w3 H' S3 ∧ EnvR K w3 δ3 σ' ∧ N δ3 S3, ?_, w2, δ1, S2, _, ok2, env1.le le2, q2, ⟨?_, bk.rt.le lew, bk.nx.le lew, ?_⟩⟩
    · rintro σ' H' ⟨w3, δ3, S3, le3, ok3, env3, n3⟩
      obtain ⟨m', hm, h3⟩ := hN δ3 S3 n3
      exact ⟨m', hm, w3, δ3, S3, le3, ok3, env3, h3⟩
    · exact fun δ4 S4 σ4 w4 H4 le4 ok4 env4 q4 => ⟨w4, δ4, S4, lew.trans le4, ok4, env4, q4⟩
    · exact fun δ4 S4 σ4 w4 H4 le4 ok4 env4 q4 => ⟨w4, δ4, S4, lew.trans le4, ok4, env4, q4⟩
theorem s_yes : ∀ σ H Q, conT K aYes σ H Q → tYes σ H Q := by
  rintro σ H Q ⟨w, δ, S, Qa, ok, env, q, bk⟩
  exact bk true S w H .refl ok q
theorem env_capt {w : Wd} {δ : AEnv} {σ : St} (h : EnvR K w δ σ) (caps : List (Option Nat)) : EnvR K w (captA caps δ) (capt caps σ) := by
  refine ⟨by simp [captA, capt], fun i d e => ?_⟩
  simp only [captA, List.getElem?_map] at e
  cases q : caps[i]? with
  | none => rw [q] at e; cases e
  | some o =>
    rw [q] at e
    cases o with
    | none => simp at e
    | some j =>
      cases z : δ[j]? with
      | none => rw [Option.map_some] at e; simp [z] at e
      | some d' =>
        simp [z] at e
        subst e
        obtain ⟨v, h1, h2⟩ := h.2 j d z
        exact ⟨v, by simp [capt, List.getElem?_map, q, h1], h2⟩
theorem s_comp {caps : List (Option Nat)} {i : AI} {g : AG} {t : AT} {e : AE} : ∀ σ H Q, conE K (aComp caps i g t e) σ H Q → tComp caps (conI K i) (conG K g) (conT K t) (conE K e) σ H Q := by
  rintro σ H Q ⟨w, δ, S, Qa, ok, env, q, bk⟩
  refine ⟨w, δ, S, _, ok, env, q, fun ds P S1 J w1 H1 le1 ok1 it q1 => ?_⟩
  refine ⟨fun i m xs τ H => m = ds.length - i ∧ i ≤ ds.length ∧ ∃ w2 δ2 S2 acc, w1.le w2 ∧ Ok K w2 H S2 ∧ EnvR K w2 δ2 τ ∧ Reps K w2 acc xs ∧ compD P g t e (ds.drop i) acc δ2 S2 (fun ds' S2 => Qa (.new (.lst ds')) S2),
    ⟨ds.length, by simp, Nat.zero_le _, w1, captA caps δ, S1, [], .refl, ok1, env_capt (env.le le1) caps, .nil, by simpa using q1⟩, ?_⟩
  rintro i m xs τ2 H2 ⟨rfl, hi, w2, δ2, S2, acc, le2, ok2, env2, reps, lp⟩
  by_cases hlt : i < ds.length
  · rw [List.drop_eq_getElem_cons hlt] at lp
    obtain ⟨hP, lp⟩ := lp
    have hd : ds[i]? = some ds[i] := List.getElem?_eq_getElem hlt
    refine .inr ⟨it.go i H2 S2 w2 _ le2 ok2 hP hd, fun ys τ' H' => ∃ w3 δ3 S3 acc, w1.le w3 ∧ Ok K w3 H' S3 ∧ EnvR K w3 δ3 τ' ∧ Reps K w3 acc ys ∧ compD P g t e (ds.drop (i + 1)) acc δ3 S3 (fun ds' S2 => Qa (.new (.lst ds')) S2), fun ys σ' H' h => ⟨_, by omega, rfl, hlt, h⟩, fun x H' y => ?_⟩
    obtain ⟨rfl, rx⟩ := it.yld i H2 S2 w2 _ x H' le2 ok2 hP hd y
    refine ⟨w2, ds[i], δ2, S2, _, ok2, env2, rx, lp, fun δ3 S3 σ3 w3 H3 le3 ok3 env3 q3 => ?_⟩
    refine ⟨w3, δ3, S3, _, ok3, env3, q3, fun k S4 w4 H4 le4 ok4 q4 => ?_⟩
    cases k with
    | false =>
      exact iteF ⟨w4, δ3, S4, acc, le2.trans (le3.trans le4), ok4, env3.le le4, reps.le (le3.trans le4), by simpa using q4⟩
    | true =>
      rw [if_pos rfl] at q4
      refine iteT ⟨w4, δ3, S4, _, ok4, env3.le le4, q4, .go fun r5 S5 v5 w5 H5 le5 ok5 rep5 ⟨hz, q5⟩ => ?_⟩
      exact ⟨by rw [reps.length]; exact hz, w5, δ3, S5, acc ++ [r5.d], le2.trans (le3.trans (le4.trans le5)), ok5, env3.le (le4.trans le5), (reps.le (le3.trans (le4.trans le5))).snoc rep5, q5⟩
  · have e : i = ds.length := by omega
    subst e
    rw [List.drop_length] at lp
    refine .inl ⟨it.stop _ H2 S2 w2 le2 ok2 lp.1 rfl, fun p hp => ?_⟩
    exact bk (.new (.lst acc)) S2 _ w2 _ (le1.trans le2) (ok2.alloc hp) (ok2.fresh hp ⟨xs, rfl, reps⟩) lp.2
theorem itr_lst {w : Wd} {p : Addr} {xs : List V} {ds : List D} (h1 : w.B p = some (.lst xs)) (h : Reps K w ds xs) : ItR K w (Itl K p) ds (fun _ => True) where
  go := fun i H S w' d le ok hP e => by
    obtain ⟨v, e1, _⟩ := h.get e
    exact ⟨xs, v, SqL.of ((le.b.trans ok.base) _ _ h1), e1⟩
  yld := fun i H S w' d x H' le ok hP e y => by
    obtain ⟨v, e1, e2⟩ := h.get e
    obtain ⟨y1, y2⟩ := y
    have := y2 xs (SqL.of ((le.b.trans ok.base) _ _ h1))
    rw [e1] at this; cases this
    exact ⟨y1, e2.le le⟩
  stop := fun i H S w' le ok hP e => ⟨xs, SqL.of ((le.b.trans ok.base) _ _ h1), by rw [h.length]; omega⟩
theorem itr_loc {w : Wd} {p : Addr} {n : Nat} {ds : List D} (hp : w.r n = some p) : ItR K w (Itl K p) ds (fun S => S[n]? = some (some (.lst ds))) where
  go := fun i H S w' d le ok hP e => by
    obtain ⟨b, u, k1, k2, k3, ys, rfl, k5⟩ := ok.live n _ hP
    rw [le.r n p hp] at k1; cases k1
    obtain ⟨v, e1, _⟩ := k5.get e
    exact ⟨ys, v, SqL.of k3, e1⟩
  yld := fun i H S w' d x H' le ok hP e y => by
    obtain ⟨b, u, k1, k2, k3, ys, rfl, k5⟩ := ok.live n _ hP
    rw [le.r n p hp] at k1; cases k1
    obtain ⟨v, e1, e2⟩ := k5.get e
    obtain ⟨y1, y2⟩ := y
    have := y2 ys (SqL.of k3)
    rw [e1] at this; cases this
    exact ⟨y1, e2⟩
  stop := fun i H S w' le ok hP e => by
    obtain ⟨b, u, k1, k2, k3, ys, rfl, k5⟩ := ok.live n _ hP
    rw [le.r n p hp] at k1; cases k1
    exact ⟨ys, SqL.of k3, by rw [k5.length]; omega⟩
theorem itr_tup {w : Wd} {p : Addr} {xs : List V} {ds : List D} (h1 : w.B p = some (.tup xs)) (h2 : Reps K w ds xs) : ItR K w (Itt K p) ds (fun _ => True) where
  go := fun i H S w' d le ok hP e => by
    obtain ⟨v, e1, _⟩ := h2.get e
    exact ⟨xs, v, SqT.of ((le.b.trans ok.base) _ _ h1), e1⟩
  yld := fun i H S w' d x H' le ok hP e y => by
    obtain ⟨v, e1, e2⟩ := h2.get e
    obtain ⟨y1, y2⟩ := y
    have := y2 xs (SqT.of ((le.b.trans ok.base) _ _ h1))
    rw [e1] at this; cases this
    exact ⟨y1, e2.le le⟩
  stop := fun i H S w' le ok hP e => ⟨xs, SqT.of ((le.b.trans ok.base) _ _ h1), by rw [h2.length]; omega⟩
theorem itr_str {w : Wd} {x : Str} : ItR K w (Its x) (signs x) (fun _ => True) where
  go := fun i H S w' d le ok hP e => by
    have : i < (signs x).length := by
      rcases Nat.lt_or_ge i (signs x).length with h | h
      · exact h
      · rw [List.getElem?_eq_none h] at e; cases e
    show i < x.cps.size
    simpa [signs] using this
  yld := fun i H S w' d y H' le ok hP e z => by
    obtain ⟨z1, c, z2, rfl⟩ := z
    refine ⟨z1, ?_⟩
    rw [signs, List.getElem?_map] at e
    have z2' : x.cps.toList[i]? = some c := by simpa using z2
    rw [z2'] at e
    have : D.str ⟨#[c]⟩ = d := by simpa using e
    subst this
    exact .str
  stop := fun i H S w' le ok hP e => by
    show _ = _
    rw [e]; simp [signs]
noncomputable def iAnyD (S1 : Sto) (Q : List D → (Sto → Prop) → Sto → Prop) : D → Prop
  | .lst ds => Q ds (fun _ => True) S1
  | .tup ds => Q ds (fun _ => True) S1
  | .str x => Q (signs x) (fun _ => True) S1
  | .loc n => ∃ ds, S1[n]? = some (some (.lst ds)) ∧ Q ds (fun S => S[n]? = some (some (.lst ds))) S1
  | _ => False
noncomputable def iAny (t : AE) : AI := fun δ S Q => t δ S fun r S1 => iAnyD S1 Q r.d
theorem s_iAny {t : AE} : ∀ σ H R, conI K (iAny t) σ H R → (conE K t) σ H fun x H1 => (∃ a, x = .ref a ∧ (∃ xs, SqL K H1 a xs) ∧ R (Itl K a) H1) ∨ (∃ a, x = .ref a ∧ (∃ xs, SqT K H1 a xs) ∧ R (Itt K a) H1) ∨ ∃ y, x = .str y ∧ R (Its y) H1 := by
  rintro σ H R ⟨w, δ, S, Qa, ok, env, q, bk⟩
  refine ⟨w, δ, S, _, ok, env, q, .go fun r1 S1 v1 w1 H1 le1 ok1 rep1 q1 => ?_⟩
  generalize r1.d = d at rep1 q1
  cases d with
  | lst ds =>
    simp only [Rep] at rep1
    obtain ⟨p, xs, rfl, h1, h2⟩ := rep1
    exact .inl ⟨p, rfl, ⟨xs, SqL.of (ok1.base _ _ h1)⟩, bk ds _ S1 _ w1 H1 le1 ok1 (itr_lst h1 h2) q1⟩
  | tup ds =>
    simp only [Rep] at rep1
    obtain ⟨p, xs, rfl, h1, h2⟩ := rep1
    exact .inr (.inl ⟨p, rfl, ⟨xs, SqT.of (ok1.base _ _ h1)⟩, bk ds _ S1 _ w1 H1 le1 ok1 (itr_tup h1 h2) q1⟩)
  | str x => exact .inr (.inr ⟨x, rep_str rep1 rfl, bk _ _ S1 _ w1 H1 le1 ok1 itr_str q1⟩)
  | loc n =>
    simp only [Rep] at rep1
    obtain ⟨p, hp, rfl⟩ := rep1
    obtain ⟨ds, e, q1⟩ := q1
    obtain ⟨p', u, g1, g2, g3, xs, rfl, g5⟩ := ok1.live n _ e
    rw [hp] at g1; cases g1
    exact .inl ⟨p, rfl, ⟨xs, SqL.of g3⟩, bk ds _ S1 _ w1 H1 le1 ok1 (itr_loc hp) q1⟩
  | _ => exact q1.elim
theorem rng_at {lo : Int} {n i : Nat} {d : D} (e : (iRngD lo n)[i]? = some d) : i < n ∧ d = .int (lo + (i : Int)) := by
  unfold iRngD at e
  rw [List.getElem?_map] at e
  by_cases h : i < n
  · rw [List.getElem?_range h] at e
    exact ⟨h, by simpa using e.symm⟩
  · rw [List.getElem?_eq_none (by simpa using h)] at e; cases e
theorem s_iRng {a : AA} : ∀ σ H R, conI K (iRng a) σ H R → iRng1 (conA K a) σ H R := by
  rintro σ H R ⟨w, δ, S, Qa, ok, env, q, bk⟩
  refine ⟨w, δ, S, _, ok, env, q, fun ds S1 vs w1 H1 le1 ok1 rep1 ⟨j, hd, ⟨h1, h2⟩, q1⟩ => ⟨j, ?_, h1, h2, ?_⟩⟩
  · subst hd
    simp only [Reps, Rep] at rep1
    obtain ⟨x, r, rfl, rfl, rfl⟩ := rep1
    rfl
  · refine bk _ _ S1 _ w1 H1 le1 ok1 ⟨fun i H S w' d le ok hP e => ?_, fun i H S w' d x H' le ok hP e y => ?_, fun i H S w' le ok hP e => ?_⟩ q1
    · exact (rng_at e).1
    · obtain ⟨y1, y2⟩ := y
      obtain ⟨e1, rfl⟩ := rng_at e
      subst y2
      exact ⟨y1, .int⟩
    · show _ ≤ _
      rw [e]; simp [iRngD]
end
end M
set_option Elab.async false
set_option linter.all false
set_option maxRecDepth 100000
set_option maxHeartbeats 4000000
namespace M
open PySem PySem.Spec PyProof.Rows L2
section
variable {X : Cx} {pos : Pos} {e a b c : Expr} {es : List Expr}
theorem pv (i : Nat) {x : Str} (hN : X.N[i]? = some x := by rfl) (hv : Vis X.env.scope x := by first | exact Or.inl rfl | exact Or.inr (Or.inl rfl) | exact Or.inr (Or.inr rfl)) (hd : (x == ("__debug__" : Str)) = false := by decide)
    (hcd : (x == ("__classdict__" : Str)) = false := by decide) : GE X (.Name x pos) (aVar i) := ⟨mE (L2.pe_var hN hv hd hcd) s_var⟩
theorem pe_int {i j} : GE X (.Constant (.int i) j pos) (aC (.int i)) := ⟨mE L2.pe_int (s_c fun _ => .int)⟩
theorem pe_bl {i j} : GE X (.Constant (.bool i) j pos) (aC (.bl i)) := ⟨mE L2.pe_bl (s_c fun _ => .bl)⟩
theorem pe_str {i j} : GE X (.Constant (.str i) j pos) (aC (.str i)) := ⟨mE L2.pe_str (s_c fun _ => .str)⟩
theorem pe_ty (T : String) {x : Str} (hg : Gl X x) (hm : X.mg x = none) (hv : bootBuiltins x = some (.type T)) (hn : x ≠ "__name__" := by decide +kernel) (hd : (x == ("__debug__" : Str)) = false := by decide +kernel) : GE X (.Name x pos) (aC (.ty T)) :=
  ⟨mE (L2.pe_ty T hg hm hv hn hd) (s_c fun _ => .ty)⟩
theorem pe_glob {x : Str} {d : D} {v : V} {u : Value} (hg : Gl X x) (hm : X.mg x = some u) (r : RelV v u) (h : ∀ w, Rep X.K w d v) (hd : (x == ("__debug__" : Str)) = false := by decide) : GE X (.Name x pos) (aC d) :=
  ⟨mE (L2.pe_glob hg hm r hd) (s_c h)⟩
theorem pe_op {op : Operator} {r : A2} {ta tb : AE} (ho : Op2 X (binaryOp op) r) (ha : GE X a ta) (hb : GE X b tb) : GE X (.BinOp a op b pos) (aOp r ta tb) := ⟨mE (L2.pe_op ho.p ha.p hb.p) s_op⟩
theorem pe_un {op : UnaryOp} {r : A1} {ta : AE} (ho : Op1 X (unaryOp op) r) (ha : GE X a ta) : GE X (.UnaryOp op a pos) (aUn r ta) := ⟨mE (L2.pe_un ho.p ha.p) s_un⟩
theorem pe_cmpR {op : CmpOp} {r : A2} {ta tb : AE} (ho : Op2 X (compareOp op) r) (ha : GE X a ta) (hb : GE X b tb) (hm : behindInMarks op b = false) : GE X (.Compare a [op] [b] pos) (aOp r ta tb) := ⟨mE (L2.pe_cmpR ho.p ha.p hb.p hm) s_op⟩
theorem pe_ix {r : A2} {ta tb : AE} (ho : OpI X r) (ha : GE X a ta) (hb : GE X b tb) (hs : PlainIx b) : GE X (.Subscript a b pos) (aOp r ta tb) := ⟨mE (L2.pe_ix ho.p ha.p hb.p hs) s_op⟩
theorem pa_nil : GA X [] aNil := ⟨mA L2.pa_nil s_nil⟩
theorem pac {ta : AE} {t : AA} (ha : GE X e ta) (hr : GA X es t) (hs : notStar e = true := by rfl) : GA X (e :: es) (aCons ta t) := ⟨mA (L2.pac ha.p hr.p hs) s_cons⟩
theorem pe_tup {k : Nat} {t : AA} (h : GA X es t) : GE X (.Tuple es k pos) (aTup t) := ⟨mE (L2.pe_tup h.p) s_tup⟩
theorem pe_lst {t : AA} (h : GA X es t) : GE X (.List es pos) (aLst t) := ⟨mE (L2.pe_lst h.p) s_lst⟩
theorem alo {t : AE} (h : GE X e t) : GE X e (aAlloc t) := ⟨mE h.p s_alloc⟩
theorem pe_one {op} {t : AE} (h : GE X a t) : GE X (.BoolOp op [a] pos) t := ⟨L2.pe_one h.p⟩
theorem pe_and {rest : List Expr} {ta tb : AE} (ha : GE X a ta) (hb : GE X (.BoolOp .And (b :: rest) pos) tb) : GE X (.BoolOp .And (a :: b :: rest) pos) (aAndV ta tb) := ⟨mE (L2.pe_and ha.p hb.p) s_andV⟩
theorem pe_or {rest : List Expr} {ta tb : AE} (ha : GE X a ta) (hb : GE X (.BoolOp .Or (b :: rest) pos) tb) : GE X (.BoolOp .Or (a :: b :: rest) pos) (aOrV ta tb) := ⟨mE (L2.pe_or ha.p hb.p) s_orV⟩
theorem pe_ifExp {t : AT} {ta tb : AE} (hc : GT X c t) (ha : GE X a ta) (hb : GE X b tb) : GE X (.IfExp c a b pos) (aIf t ta tb) := ⟨mE (L2.pe_ifExp hc.p ha.p hb.p) s_if⟩
theorem pe_chain {op op' : CmpOp} {r r' : A2} {ta tb tc : AE} (ho : Op2 X (compareOp op) r) (ho' : Op2 X (compareOp op') r') (ha : GE X a ta) (hb : GE X b tb) (hc : GE X c tc) (hm : lastMarks [op, op'] [b, c] = false := by with_unfolding_all rfl) :
    GE X (.Compare a [op, op'] [b, c] pos) (aChain r r' ta tb tc) := ⟨mE (L2.pe_chain ho.p ho'.p ha.p hb.p hc.p hm) s_chain⟩
theorem po_none : GO X none aNoPart := ⟨mO L2.po_none s_noPart⟩
theorem po_some {t : AE} (h : GE X e t) : GO X (some e) (aPart t) := ⟨mO (L2.po_some h.p) s_part⟩
structure OpS (X : Cx) (r : D → Option Int → Option Int → Sto → AK → Prop) : Prop where
  p : SlR X (conSl X.K r)
theorem pe_slice {lo hi : Option Expr} {p2 : Pos} {r : D → Option Int → Option Int → Sto → AK → Prop} {te : AE} {tl th : AO} (hr : OpS X r) (he : GE X e te) (hl : GO X lo tl) (hu : GO X hi th) : GE X (.Subscript e (.Slice lo hi none p2) pos) (aSl r te tl th) :=
  ⟨mE (L2.pe_slice hr.p he.p hl.p hu.p) s_sl⟩
theorem pcb {id : String} {r : AN} {t : AA} {x : Str} {p : Pos} (hc : OpC X (.builtin id) r) (hg : Gl X x) (hm : X.mg x = none) (hv : bootBuiltins x = some (.builtin id)) (ha : GA X (e :: es) t) (hn : x ≠ "__name__" := by decide +kernel) (hdb : (x == ("__debug__" : Str)) = false := by decide +kernel)
    (hs : (e :: es).all notStar = true := by rfl) : GE X (.Call (.Name x p) (e :: es) [] pos) (aCall r t) := ⟨mE (L2.pcb hc.p hg hm hv ha.p hn hdb hs) s_cb⟩
theorem pct {T : String} {r : AN} {t : AA} {x : Str} {p : Pos} (hc : OpC X (.type T) r) (hg : Gl X x) (hm : X.mg x = none) (hv : bootBuiltins x = some (.type T)) (ha : GA X (e :: es) t) (hn : x ≠ "__name__" := by decide +kernel) (hdb : (x == ("__debug__" : Str)) = false := by decide +kernel)
    (hs : (e :: es).all notStar = true := by rfl) : GE X (.Call (.Name x p) (e :: es) [] pos) (aCall r t) := ⟨mE (L2.pct hc.p hg hm hv ha.p hn hdb hs) s_cb⟩
theorem pe_own {k : Nat} {ps : List Str} {sp : AN} {t : AA} {x : Str} {p : Pos} (D : Def X.prog X.w X.K X.mg X.base k x ps (conSp X.K sp)) (hr : Room k X.A) (hg : Gl X x) (ha : GA X (e :: es) t) (hdb : (x == ("__debug__" : Str)) = false := by decide +kernel) (hs : (e :: es).all notStar = true := by rfl) :
    GE X (.Call (.Name x p) (e :: es) [] pos) (aCall sp t) := ⟨mE (L2.pe_own D hr hg pass0 ha.p hdb hs) s_call⟩
theorem pt_val {t : AE} (h : GE X e t) (he : ∀ whole, isTrue e X.env whole = (do let v ← whole; standAt e.pos; holding [v] (truthy v)) := by intro _; rfl) : GT X e (aTru t) := ⟨mT (L2.pt_truth h.p he) s_tru⟩
theorem pt_cmpR {op : CmpOp} {r : A2} {ta tb : AE} (ho : Op2 X (compareOp op) r) (ha : GE X a ta) (hb : GE X b tb) (hm : behindInMarks op b = false) : GT X (.Compare a [op] [b] pos) (aB (aOp r ta tb)) :=
  ⟨mT (L2.pt_cmpR ho.p ha.p hb.p hm) fun σ H Q h => by
    obtain ⟨w, δ, S, Qa, ok, env, q, bk⟩ := s_b σ H Q h
    exact s_op σ H _ ⟨w, δ, S, Qa, ok, env, q, bk⟩⟩
theorem pw_pt {t : AT} (h : GW X e t) : GT X e t := ⟨h.p.pt⟩
theorem pw_and1 {t : AT} (h : GT X a t) : GW X (.BoolOp .And [a] pos) t := ⟨L2.pw_and1 h.p⟩
theorem pw_or1 {t : AT} (h : GT X a t) : GW X (.BoolOp .Or [a] pos) t := ⟨L2.pw_or1 h.p⟩
theorem pw_and {rest : List Expr} {t u : AT} (ha : GT X a t) (hb : GW X (.BoolOp .And (b :: rest) pos) u) : GW X (.BoolOp .And (a :: b :: rest) pos) (aAnd t u) := ⟨mW (L2.pw_and ha.p hb.p) s_and⟩
theorem pw_or {rest : List Expr} {t u : AT} (ha : GT X a t) (hb : GW X (.BoolOp .Or (b :: rest) pos) u) : GW X (.BoolOp .Or (a :: b :: rest) pos) (aOr t u) := ⟨mW (L2.pw_or ha.p hb.p) s_or⟩
theorem pt_not {t : AT} (h : GT X a t) : GT X (.UnaryOp .Not a pos) (aNot t) := ⟨mT (L2.pt_not h.p) s_not⟩
theorem pts_nil : GTs X [] aYes := ⟨mTs L2.pts_nil s_yes⟩
theorem pts_one {t : AT} (h : GT X c t) : GTs X [c] t := ⟨L2.pts_one h.p⟩
theorem pi_range1 {tg : Expr} {t : AA} {p : Pos} (hg : Gl X "range") (hm : X.mg "range" = none) (ha : GA X [a] t) (hs : starEach [a] X.env = [(false, eval a X.env)] := by rfl) : GI X tg (.Call (.Name "range" p) [a] [] pos) (iRng t) := ⟨mI (L2.pi_range1 hg hm ha.p hs) s_iRng⟩
theorem pi_any0 {tg l : Expr} {tl : TE} (hl : PE X l tl) : PI X tg l (fun σ H R => tl σ H fun x H1 => (∃ a, x = .ref a ∧ (∃ xs, SqL X.K H1 a xs) ∧ R (Itl X.K a) H1) ∨ (∃ a, x = .ref a ∧ (∃ xs, SqT X.K H1 a xs) ∧ R (Itt X.K a) H1) ∨ ∃ y, x = .str y ∧ R (Its y) H1) := by
  intro pins s σ H R I h
  refine thn (hl pins s σ H _ I h) fun v s1 ⟨x, H1, I1, r1, q1⟩ => ?_
  rcases q1 with ⟨a, rfl, ⟨xs, hq⟩, q⟩ | ⟨a, rfl, ⟨xs, hq⟩, q⟩ | ⟨y, rfl, q⟩
  · cases r1
    obtain ⟨its, rv, p, hz⟩ := I1.list hq
    refine wpAny_pyIter_list p.isList ?_
    refine ⟨s1.heap.objs.size, [s1.heap.objs.size], _, _, H1, rfl, I1.kept (t' := s1.toks) fun b o e => Heap.get?_push_of_some _ e, turn_list a _, ⟨_, Heap.get?_push_size _ rfl, rfl, rfl⟩, fun b hb => ?_, q⟩
    have e : b = s1.heap.objs.size := by simpa using hb
    subst e
    exact I1.fpOk (Nat.le_refl _) (I1.hok.fresh (Nat.le_refl _))
  · cases r1
    obtain ⟨its, rv, p, hz⟩ := I1.tuple hq
    refine wpAny_pyIter_tuple (show s1.heap.IsTuple a its.toArray from p) ?_
    refine ⟨s1.heap.objs.size, [s1.heap.objs.size], _, _, H1, rfl, I1.kept (t' := s1.toks) fun b o e => Heap.get?_push_of_some _ e, turn_tuple a _, ⟨_, Heap.get?_push_size _ rfl, rfl, rfl⟩, fun b hb => ?_, q⟩
    have e : b = s1.heap.objs.size := by simpa using hb
    subst e
    exact I1.fpOk (Nat.le_refl _) (I1.hok.fresh (Nat.le_refl _))
  · obtain ⟨t, rfl⟩ := r1
    refine wpAny_pyIter_strU ?_
    refine ⟨s1.heap.objs.size, [s1.heap.objs.size], _, _, H1, rfl, I1.kept (t' := s1.toks) fun b o e => Heap.get?_push_of_some _ e, turn_str _ y t, ⟨_, Heap.get?_push_size _ rfl, rfl, rfl⟩, fun b hb => ?_, q⟩
    have e : b = s1.heap.objs.size := by simpa using hb
    subst e
    exact I1.fpOk (Nat.le_refl _) (I1.hok.fresh (Nat.le_refl _))
theorem pi_any {tg l : Expr} {tl : AE} (hl : GE X l tl) : GI X tg l (iAny tl) := ⟨mI (pi_any0 hl.p) s_iAny⟩
theorem pe_comp {elt tg iter : Expr} {ifs : List Expr} {scope : Scope} {N : List Str} {caps : List (Option Nat)} {wi : AI} {g : AG} {tt : AT} {te : AE}
    (S : BlkScope scope N) (hcap : capOk X.N X.env scope N caps = true) (hfr : L2.freeOk X.env scope = true) (hc : X.calm = true) (hi : GI X tg iter wi)
    (hg : ∀ s₀ H₀ C fp, GG (blk X scope N s₀ H₀ C fp) tg g) (ht : ∀ s₀ H₀ C fp, GTs (blk X scope N s₀ H₀ C fp) ifs tt) (he : ∀ s₀ H₀ C fp, GE (blk X scope N s₀ H₀ C fp) elt te)
    (hs : ∀ x, foldedSetIterable iter X.env x = pure x := by intro _; rfl) : GE X (.ListComp elt [⟨tg, iter, ifs, 0⟩] scope pos) (aComp caps wi g tt te) :=
  ⟨mE (L2.pe_comp S hcap hfr hc hi.p (fun s₀ H₀ C fp => (hg s₀ H₀ C fp).p) (fun s₀ H₀ C fp => (ht s₀ H₀ C fp).p) (fun s₀ H₀ C fp => (he s₀ H₀ C fp).p) hs) s_comp⟩
theorem pss_nil : GSs X [] aNext := ⟨mSs L2.pss_nil s_next⟩
theorem pss_one {st : Stmt} {t : AS} (h : GS X st t) : GSs X [st] t := ⟨L2.pss_one h.p⟩
theorem pss_cons {st : Stmt} {rest : List Stmt} {t u : AS} (h : GS X st t) (g : GSs X rest u) : GSs X (st :: rest) (aSeq t u) := ⟨mSs (L2.pss_cons h.p g.p) s_seq⟩
theorem ps_expr {t : AE} (h : GE X e t) (hs : swapsWith e none pos.line X.env = pure false := by rfl) : GS X (.Expr e pos) (aDrop t) := ⟨mS (L2.ps_expr h.p hs) s_drop⟩
theorem ps_ret {t : AE} (h : GE X e t) : GS X (.Return (some e) pos) (aRet t) := ⟨mS (L2.ps_ret h.p) s_ret⟩
theorem ps_if {p q : List Stmt} {tc : AT} {t u : AS} (hc : GT X c tc) (ha : GSs X p t) (hb : GSs X q u) : GS X (.If c p q pos) (aIfS tc t u) := ⟨mS (L2.ps_if hc.p ha.p hb.p) s_ifS⟩
theorem pg_name {i : Nat} {x : Str} (hN : X.N.Nodup) (hi : X.N[i]? = some x) (hx : Loc X.env.scope x) (hf : X.fn x = true ∨ X.env.scope.names.lookup x = some .local := by first | exact .inl rfl | exact .inr rfl | assumption) : GG X (.Name x pos) (agName i) := ⟨mG (L2.pg_name hN hi hx hf) s_gName⟩
theorem pgs_nil : GGs X [] agNil := ⟨mGs L2.pgs_nil s_gNil⟩
theorem pgs_cons {t : AG} {u : AGs} (h1 : GG X e t) (h2 : GGs X es u) (hs : (assignEach (e :: es) X.env).map (·.2) = assign e X.env :: (assignEach es X.env).map (·.2) := by rfl) : GGs X (e :: es) (agCons t u) := ⟨mGs (L2.pgs_cons h1.p h2.p hs) s_gCons⟩
theorem pg_tup {k : Nat} {t : AGs} {n : Nat} (hc : X.calm = true) (h : GGs X es t) (hn : (assignEach es X.env).length = n := by rfl) (hst : (assignEach es X.env).findIdx? (·.1) = none := by rfl) : GG X (.Tuple es k pos) (agTup n t) := ⟨mG (L2.pg_tup hc h.p hn hst) s_gTup⟩
theorem ps_set {i : Nat} {x : Str} {t : AE} {pos' : Pos} (hN : X.N.Nodup) (hi : X.N[i]? = some x) (hx : Loc X.env.scope x) (he : GE X e t) (hs : swapsWith e (some (.Name x pos')) pos.line X.env = pure false := by rfl) (hf : X.fn x = true ∨ X.env.scope.names.lookup x = some .local := by first | exact .inl rfl | exact .inr rfl | assumption) :
    GS X (.Assign [.Name x pos'] e pos) (aAsg t (agName i)) := ⟨mS (L2.ps_set hN hi hx he.p hs hf) fun D σ H h => by
    obtain ⟨w, δ, S, Qa, ok, env, q, bk⟩ := s_asg D σ H h
    exact ⟨w, δ, S, Qa, ok, env, q, fun r S' v w' H' le ok' rep q' => s_gName _ _ _ _ (bk r S' v w' H' le ok' rep q')⟩⟩
theorem ps_setComp {elt tg iter : Expr} {ifs : List Expr} {scope : Scope} {N : List Str} {caps : List (Option Nat)} {pos' spos : Pos} {wi : AI} {g : AG} {tt : AT} {te : AE} {i : Nat} {x : Str}
    (hN : X.N.Nodup) (hix : X.N[i]? = some x) (hx : X.env.scope.names.lookup x = some .local)
    (S : BlkScope scope N) (hcap : capOk X.N X.env scope N caps = true) (hfr : L2.freeOk X.env scope = true) (hc : X.calm = true) (hi : GI X tg iter wi)
    (hg : ∀ s₀ H₀ C fp, GG (blk X scope N s₀ H₀ C fp) tg g) (ht : ∀ s₀ H₀ C fp, GTs (blk X scope N s₀ H₀ C fp) ifs tt) (he : ∀ s₀ H₀ C fp, GE (blk X scope N s₀ H₀ C fp) elt te)
    (hsw : swapsWith (.ListComp elt [⟨tg, iter, ifs, 0⟩] scope pos) (some (.Name x pos')) spos.line X.env = pure true := by rfl)
    (hs : ∀ x, foldedSetIterable iter X.env x = pure x := by intro _; rfl) : GS X (.Assign [.Name x pos'] (.ListComp elt [⟨tg, iter, ifs, 0⟩] scope pos) spos) (aAsg (aComp caps wi g tt te) (agName i)) :=
  ⟨mS (L2.ps_setComp hN hix hx S hcap hfr hc hi.p (fun s₀ H₀ C fp => (hg s₀ H₀ C fp).p) (fun s₀ H₀ C fp => (ht s₀ H₀ C fp).p) (fun s₀ H₀ C fp => (he s₀ H₀ C fp).p) hsw hs) fun D σ H h => by
    obtain ⟨w, δ, S, Qa, ok, env, q, bk⟩ := s_asg D σ H h
    exact s_comp _ _ _ ⟨w, δ, S, Qa, ok, env, q, fun r S' v w' H' le ok' rep q' => s_gName _ _ _ _ (bk r S' v w' H' le ok' rep q')⟩⟩
theorem ps_for {tg iter : Expr} {body : List Stmt} {wi : AI} {g : AG} {tb : AS} (hp : PassesOwn (model X.prog X.w) X.A X.env X.xe) (hc : X.calm = true) (hi : GI X tg iter wi) (hg : GG X tg g) (hb : GSs X body tb)
    (hs : ∀ x, foldedSetIterable iter X.env x = pure x := by intro _; rfl) : GS X (.For tg iter body [] pos) (aFor wi g tb) := ⟨mS (L2.ps_for hp hc hi.p hg.p hb.p hs) s_for⟩
theorem ps_while {body : List Stmt} {tc : AT} {tb : AS} (hp : PassesOwn (model X.prog X.w) X.A X.env X.xe) (hc : GT X c tc) (hb : GSs X body tb) : GS X (.While c body [] pos) (aWhile tc tb) := ⟨mS (L2.ps_while hp hc.p hb.p) s_while⟩
end
end M
set_option Elab.async false
set_option linter.all false
set_option maxRecDepth 100000
set_option maxHeartbeats 4000000
namespace M
open PySem PySem.Spec PyProof.Rows L2
section
variable {X : Cx}
theorem or2 {f : Value → Value → Sem Value} {r r' : R2} (h : OpR X f r) (h' : OpR X f r') : OpR X f (fun x y H Q => r x y H Q ∨ r' x y H Q) := by
  intro pins s σ H x y v u Q I rx ry q
  rcases q with q | q
  · exact h pins s σ H x y v u Q I rx ry q
  · exact h' pins s σ H x y v u Q I rx ry q
theorem orC {f : Value} {r r' : List V → Hp → VK → Prop} (h : CallR X f r) (h' : CallR X f r') : CallR X f (fun x H Q => r x H Q ∨ r' x H Q) := by
  intro pins s σ H x v Q I rx q
  rcases q with q | q
  · exact h pins s σ H x v Q I rx q
  · exact h' pins s σ H x v Q I rx q
variable {K : PySem.W.Frag} {w : Wd} {H : Hp} {S : Sto} {v u : V} {d e : D}
theorem see_int {i : Int} (h : Rep K w d v) (z : see S d = .int i) : v = .int i := by
  cases d <;> simp only [see] at z
  case loc n => split at z <;> first | (rename_i o _; cases o <;> simp [MO.d] at z) | cases z
  all_goals first | cases z | skip
  simpa [Rep] using h
theorem see_str {i : Str} (h : Rep K w d v) (z : see S d = .str i) : v = .str i := by
  cases d <;> simp only [see] at z
  case loc n => split at z <;> first | (rename_i o _; cases o <;> simp [MO.d] at z) | cases z
  all_goals first | cases z | skip
  simpa [Rep] using h
theorem see_bl {i : Bool} (h : Rep K w d v) (z : see S d = .bl i) : v = .bl i := by
  cases d <;> simp only [see] at z
  case loc n => split at z <;> first | (rename_i o _; cases o <;> simp [MO.d] at z) | cases z
  all_goals first | cases z | skip
  simpa [Rep] using h
theorem see_non (h : Rep K w d v) (z : see S d = .non) : v = .non := by
  cases d <;> simp only [see] at z
  case loc n => split at z <;> first | (rename_i o _; cases o <;> simp [MO.d] at z) | cases z
  all_goals first | cases z | skip
  simpa [Rep] using h
theorem see_scr {ns : List Int} (k : Ok K w H S) (h : Rep K w d v) (z : see S d = .scr ns) : ∃ a, v = .ref a ∧ SqL K H a (ns.map V.int) := by
  cases d <;> simp only [see] at z
  case loc n => split at z <;> first | (rename_i o _; cases o <;> simp [MO.d] at z) | cases z
  all_goals first | cases z | skip
  simp only [Rep] at h
  obtain ⟨a, h1, h2⟩ := h
  exact ⟨a, h1, k.base.seq h2⟩
noncomputable def aI (C : Int → Int → Prop) (g : Int → Int → D) : A2 := fun x y S Q => ∃ i j, x = .int i ∧ y = .int j ∧ C i j ∧ Q (.dat (g i j)) S
theorem c_I {C : Int → Int → Prop} {g : Int → Int → D} {g' : Int → Int → V} (h : ∀ w i j, Rep K w (g i j) (g' i j)) : ∀ x y H Q, con2 K (aI C g) x y H Q → rI C g' x y H Q := by
  rintro x y H Q ⟨w, d, e, S, Qa, ok, r1, r2, ⟨i, j, e1, e2, hc, q⟩, bk⟩
  exact ⟨i, j, rep_int r1 e1, rep_int r2 e2, hc, bk.dat .refl ok (h w i j) q⟩
theorem rI_of0 {g : Int → Int → V} : ∀ x y H Q, rI (fun _ _ => True) g x y H Q → rI0 g x y H Q := by
  rintro x y H Q ⟨i, j, h1, h2, _, q⟩
  exact ⟨i, j, h1, h2, q⟩
theorem o_sub : Op2 X (binaryOp .Sub) (aI (fun _ _ => True) fun i j => .int (i - j)) := ⟨m2 L2.op_sub fun x y H Q h => rI_of0 x y H Q (c_I (g' := fun i j => .int (i - j)) (fun _ _ _ => .int) x y H Q h)⟩
theorem o_fdiv : Op2 X (binaryOp .FloorDiv) (aI CDiv fun i j => .int (i / j)) := ⟨m2 L2.op_fdiv (c_I fun _ _ _ => .int)⟩
theorem o_mod : Op2 X (binaryOp .Mod) (aI (fun _ j => 0 < j) fun i j => .int (i % j)) := ⟨m2 L2.op_mod (c_I fun _ _ _ => .int)⟩
theorem o_pow : Op2 X (binaryOp .Pow) (aI CPow fun i j => .int (i ^ j.toNat)) := ⟨m2 L2.op_pow (c_I fun _ _ _ => .int)⟩
theorem o_gt : Op2 X (compareOp .Gt) (aI (fun _ _ => True) fun i j => .bl (decide (j < i))) := ⟨m2 L2.op_gt fun x y H Q h => rI_of0 x y H Q (c_I (g' := fun i j => .bl (decide (j < i))) (fun _ _ _ => .bl) x y H Q h)⟩
theorem o_ge : Op2 X (compareOp .GtE) (aI (fun _ _ => True) fun i j => .bl (decide (j ≤ i))) := ⟨m2 L2.op_ge fun x y H Q h => rI_of0 x y H Q (c_I (g' := fun i j => .bl (decide (j ≤ i))) (fun _ _ _ => .bl) x y H Q h)⟩
noncomputable def aLt : A2 := fun x y S Q => match x, y with
  | .int i, .int j => Q (.dat (.bl (decide (i < j)))) S
  | .str i, .str j => Q (.dat (.bl (decide (i.cps.toList < j.cps.toList)))) S
  | _, _ => False
noncomputable def aLe : A2 := fun x y S Q => match x, y with
  | .int i, .int j => Q (.dat (.bl (decide (i ≤ j)))) S
  | .str i, .str j => Q (.dat (.bl (!decide (j.cps.toList < i.cps.toList)))) S
  | _, _ => False
theorem o_lt : Op2 X (compareOp .Lt) aLt := ⟨m2 (or2 L2.op_lt L2.op_lt_str) fun x y H Q h => by
  obtain ⟨w, d, e, S, Qa, ok, r1, r2, q, bk⟩ := h
  cases d <;> cases e <;> first | exact q.elim | skip
  · exact .inl ⟨_, _, rep_int r1 rfl, rep_int r2 rfl, bk.dat .refl ok .bl q⟩
  · exact .inr ⟨_, _, rep_str r1 rfl, rep_str r2 rfl, bk.dat .refl ok .bl q⟩⟩
theorem o_le : Op2 X (compareOp .LtE) aLe := ⟨m2 (or2 L2.op_le L2.op_le_str) fun x y H Q h => by
  obtain ⟨w, d, e, S, Qa, ok, r1, r2, q, bk⟩ := h
  cases d <;> cases e <;> first | exact q.elim | skip
  · exact .inl ⟨_, _, rep_int r1 rfl, rep_int r2 rfl, bk.dat .refl ok .bl q⟩
  · exact .inr ⟨_, _, rep_str r1 rfl, rep_str r2 rfl, bk.dat .refl ok .bl q⟩⟩
noncomputable def aAdd : A2 := fun x y S Q => match see S x, see S y with
  | .int i, .int j => Q (.dat (.int (i + j))) S
  | .str i, .str j => i.length + j.length ≤ sizeLine ∧ Q (.dat (.str (i ++ j))) S
  | .lst xs, .lst ys => xs.length + ys.length ≤ sizeLine ∧ Q (.new (.lst (xs ++ ys))) S
  | .tup xs, .tup ys => xs ≠ [] ∧ xs.length + ys.length ≤ sizeLine ∧ Q (.dat (.tup (xs ++ ys))) S
  | _, _ => False
theorem o_add : Op2 X (binaryOp .Add) aAdd := ⟨m2 (or2 L2.op_add (or2 L2.op_add_str (or2 L2.op_cat L2.op_catT))) fun x y H Q h => by
  obtain ⟨w, d, e, S, Qa, ok, r1, r2, q, bk⟩ := h
  unfold aAdd at q
  cases z1 : see S d <;> cases z2 : see S e <;> rw [z1, z2] at q <;> first | exact q.elim | skip
  · exact .inl ⟨_, _, see_int r1 z1, see_int r2 z2, bk.dat .refl ok .int q⟩
  · exact .inr (.inl ⟨_, _, see_str r1 z1, see_str r2 z2, q.1, bk.dat .refl ok .str q.2⟩)
  · obtain ⟨a, xs, rfl, h1, g1⟩ := see_tup ok r1 z1
    obtain ⟨b, ys, rfl, h2, g2⟩ := see_tup ok r2 z2
    obtain ⟨hne, hl, q⟩ := q
    refine .inr (.inr (.inr ⟨a, b, xs, ys, rfl, rfl, SqT.of h1, SqT.of h2, ?_, by rw [g1.length, g2.length]; exact hl, fun hy => ?_, fun hy p hp => ?_⟩))
    · intro z; subst z
      have := g1.length
      simp at this
      exact hne (List.eq_nil_of_length_eq_zero this.symm)
    · subst hy
      have : _ = [] := List.eq_nil_of_length_eq_zero g2.length.symm
      rw [this, List.append_nil] at q
      cases d <;> simp only [see] at z1
      case tup => cases z1; exact bk.dat .refl ok r1 q
      case loc n => split at z1 <;> first | (rename_i o _; cases o <;> simp [MO.d] at z1) | cases z1
      all_goals cases z1
    · obtain ⟨w2, le2, ok2, rep2⟩ := ok.newTup hp (g1.append g2)
      exact bk.dat le2 ok2 rep2 q
  · obtain ⟨a, xs, rfl, h1, g1⟩ := see_lst ok r1 z1
    obtain ⟨b, ys, rfl, h2, g2⟩ := see_lst ok r2 z2
    refine .inr (.inr (.inl ⟨a, b, xs, ys, rfl, rfl, h1, h2, by rw [g1.length, g2.length]; exact q.1, fun p hp => ?_⟩))
    exact bk (.new (.lst _)) S _ w _ .refl (ok.alloc hp) (ok.fresh hp ⟨_, rfl, g1.append g2⟩) q.2⟩
end
end M
set_option Elab.async false
set_option linter.all false
set_option maxRecDepth 100000
set_option maxHeartbeats 4000000
namespace M
open PySem PySem.Spec PyProof.Rows PySem.SeqAt L2
mutual
noncomputable def pur : D → Bool
  | .non | .bl _ | .int _ | .str _ => true
  | .tup ds | .lst ds => purs ds
  | _ => false
noncomputable def purs : List D → Bool
  | [] => true
  | d :: ds => pur d && purs ds
end
mutual
noncomputable def py : D → PyData
  | .non => .none
  | .bl b => .bool b
  | .int i => .int i
  | .str x => .str x
  | .tup ds => .tuple (pys ds)
  | .lst ds => .list (pys ds)
  | _ => .none
noncomputable def pys : List D → List PyData
  | [] => []
  | d :: ds => py d :: pys ds
end
section
variable {K : PySem.W.Frag} {w : Wd} {H : Hp} {S : Sto}
mutual
theorem dat_of (e : Same w.B H) : ∀ (d : D) (v : V), pur d = true → Rep K w d v → DatV K H (py d) v
  | .non, v, _, h => by simpa [Rep, py, DatV] using h
  | .bl _, v, _, h => by simpa [Rep, py, DatV] using h
  | .int _, v, _, h => by simpa [Rep, py, DatV] using h
  | .str _, v, _, h => by simpa [Rep, py, DatV] using h
  | .tup ds, v, hp, h => by
    simp only [Rep, py, DatV] at h ⊢
    obtain ⟨a, xs, h1, h2, h3⟩ := h
    exact ⟨a, xs, h1, SqT.of (e _ _ h2), dats_of e ds xs (by simpa [pur] using hp) h3⟩
  | .lst ds, v, hp, h => by
    simp only [Rep, py, DatV] at h ⊢
    obtain ⟨a, xs, h1, h2, h3⟩ := h
    exact ⟨a, xs, h1, SqL.of (e _ _ h2), dats_of e ds xs (by simpa [pur] using hp) h3⟩
  | .dct _ _, _, hp, _ => by simp [pur] at hp
  | .loc _, _, hp, _ => by simp [pur] at hp
  | .ty _, _, hp, _ => by simp [pur] at hp
  | .scr _, _, hp, _ => by simp [pur] at hp
  | .stc _, _, hp, _ => by simp [pur] at hp
  | .fd, _, hp, _ => by simp [pur] at hp
  | .fn _, _, hp, _ => by simp [pur] at hp
theorem dats_of (e : Same w.B H) : ∀ (ds : List D) (vs : List V), purs ds = true → Reps K w ds vs → DatVs K H (pys ds) vs
  | [], vs, _, h => by simpa [Reps, pys, DatVs] using h
  | d :: ds, vs, hp, h => by
    simp only [purs, Bool.and_eq_true] at hp
    simp only [Reps, pys, DatVs] at h ⊢
    obtain ⟨x, r, h1, h2, h3⟩ := h
    exact ⟨x, r, h1, dat_of e d x hp.1 h2, dats_of e ds r hp.2 h3⟩
end
theorem see_dat (k : Ok K w H S) {d : D} {v : V} (h : Rep K w d v) (hp : pur (see S d) = true) : DatV K H (py (see S d)) v := by
  cases d with
  | loc n =>
    cases z : see S (.loc n) with
    | lst ds =>
      rw [z] at hp
      obtain ⟨a, xs, rfl, h1, h2⟩ := see_lst k h z
      simp only [py, DatV]
      exact ⟨a, xs, rfl, SqL.of h1, dats_of k.base ds xs (by simpa [pur] using hp) h2⟩
    | _ =>
      rw [z] at hp
      simp only [see] at z
      split at z <;> first | (rename_i o _; cases o <;> simp [MO.d] at z) | (cases z; simp [pur] at hp) | cases z
      all_goals simp [pur] at hp
  | _ => exact dat_of k.base _ v (by simpa [see] using hp) h
end
noncomputable def fit (d : D) : Bool := pur d && shaped (py d)
noncomputable def aEq : A2 := fun x y S Q => match see S x, see S y with
  | .str a, .str b => Q (.dat (.bl (decide (a = b)))) S
  | .int a, .int b => Q (.dat (.bl (decide (a = b)))) S
  | .bl a, .bl b => Q (.dat (.bl (decide (a = b)))) S
  | x', y' => fit x' = true ∧ fit y' = true ∧ Q (.dat (.bl (PyData.eqv (py x') (py y')))) S
noncomputable def aNe : A2 := fun x y S Q => match see S x, see S y with
  | .str a, .str b => Q (.dat (.bl (!decide (a = b)))) S
  | .int a, .int b => Q (.dat (.bl (!decide (a = b)))) S
  | .bl a, .bl b => Q (.dat (.bl (!decide (a = b)))) S
  | x', y' => fit x' = true ∧ fit y' = true ∧ Q (.dat (.bl (!PyData.eqv (py x') (py y')))) S
section
variable {X : Cx}
noncomputable def rEqD (K : PySem.W.Frag) : R2 := fun x y H Q => ∃ a b, DatV K H a x ∧ DatV K H b y ∧ shaped a = true ∧ shaped b = true ∧ Q (.bl (PyData.eqv a b)) H
noncomputable def rNeD (K : PySem.W.Frag) : R2 := fun x y H Q => ∃ a b, DatV K H a x ∧ DatV K H b y ∧ shaped a = true ∧ shaped b = true ∧ Q (.bl (!PyData.eqv a b)) H
theorem op_eqD {k : Nat} (hr : Room k X.A) : OpR X (compareOp .Eq) (rEqD X.K) := by
  intro pins s σ H x y v u Q I rx ry h
  obtain ⟨a, b, h1, h2, h3, h4, q⟩ := h
  obtain ⟨as, ra⟩ := I.reads a x v h1 rx
  obtain ⟨bs, rb⟩ := I.reads b y u h2 ry
  exact eq_dataH ra rb h3 h4 hr.units ⟨.bl _, H, I, rfl, q⟩
theorem op_neD {k : Nat} (hr : Room k X.A) : OpR X (compareOp .NotEq) (rNeD X.K) := by
  intro pins s σ H x y v u Q I rx ry h
  obtain ⟨a, b, h1, h2, h3, h4, q⟩ := h
  obtain ⟨as, ra⟩ := I.reads a x v h1 rx
  obtain ⟨bs, rb⟩ := I.reads b y u h2 ry
  exact ne_dataH ra rb h3 h4 hr.units ⟨.bl _, H, I, rfl, q⟩
theorem fit_dat {K : PySem.W.Frag} {w : Wd} {H : Hp} {S : Sto} {d : D} {v : V} (k : Ok K w H S) (h : Rep K w d v) (hf : fit (see S d) = true) : DatV K H (py (see S d)) v ∧ shaped (py (see S d)) = true := by
  unfold fit at hf
  rw [Bool.and_eq_true] at hf
  exact ⟨see_dat k h hf.1, hf.2⟩
theorem o_eq {k : Nat} (hr : Room k X.A) : Op2 X (compareOp .Eq) aEq := ⟨m2 (or2 L2.op_eq (op_eqD hr)) fun x y H Q h => by
  obtain ⟨w, d, e, S, Qa, ok, r1, r2, q, bk⟩ := h
  unfold aEq at q
  split at q
  next a b z1 z2 =>
    refine .inl ⟨by rw [see_str r1 z1, see_str r2 z2]; rfl, ?_⟩
    rw [see_str r1 z1, see_str r2 z2]
    exact bk.dat .refl ok (by rw [show decide (V.str a = V.str b) = decide (a = b) by simp]; exact .bl) q
  next a b z1 z2 =>
    refine .inl ⟨by rw [see_int r1 z1, see_int r2 z2]; rfl, ?_⟩
    rw [see_int r1 z1, see_int r2 z2]
    exact bk.dat .refl ok (by rw [show decide (V.int a = V.int b) = decide (a = b) by simp]; exact .bl) q
  next a b z1 z2 =>
    refine .inl ⟨by rw [see_bl r1 z1, see_bl r2 z2]; rfl, ?_⟩
    rw [see_bl r1 z1, see_bl r2 z2]
    exact bk.dat .refl ok (by rw [show decide (V.bl a = V.bl b) = decide (a = b) by simp]; exact .bl) q
  next =>
    obtain ⟨f1, f2, q⟩ := q
    obtain ⟨g1, s1⟩ := fit_dat ok r1 f1
    obtain ⟨g2, s2⟩ := fit_dat ok r2 f2
    exact .inr ⟨_, _, g1, g2, s1, s2, bk.dat .refl ok .bl q⟩⟩
theorem o_ne {k : Nat} (hr : Room k X.A) : Op2 X (compareOp .NotEq) aNe := ⟨m2 (or2 L2.op_ne (op_neD hr)) fun x y H Q h => by
  obtain ⟨w, d, e, S, Qa, ok, r1, r2, q, bk⟩ := h
  unfold aNe at q
  split at q
  next a b z1 z2 =>
    refine .inl ⟨by rw [see_str r1 z1, see_str r2 z2]; rfl, ?_⟩
    rw [see_str r1 z1, see_str r2 z2]
    exact bk.dat .refl ok (by rw [show decide (V.str a = V.str b) = decide (a = b) by simp]; exact .bl) q
  next a b z1 z2 =>
    refine .inl ⟨by rw [see_int r1 z1, see_int r2 z2]; rfl, ?_⟩
    rw [see_int r1 z1, see_int r2 z2]
    exact bk.dat .refl ok (by rw [show decide (V.int a = V.int b) = decide (a = b) by simp]; exact .bl) q
  next a b z1 z2 =>
    refine .inl ⟨by rw [see_bl r1 z1, see_bl r2 z2]; rfl, ?_⟩
    rw [see_bl r1 z1, see_bl r2 z2]
    exact bk.dat .refl ok (by rw [show decide (V.bl a = V.bl b) = decide (a = b) by simp]; exact .bl) q
  next =>
    obtain ⟨f1, f2, q⟩ := q
    obtain ⟨g1, s1⟩ := fit_dat ok r1 f1
    obtain ⟨g2, s2⟩ := fit_dat ok r2 f2
    exact .inr ⟨_, _, g1, g2, s1, s2, bk.dat .refl ok .bl q⟩⟩
noncomputable def inD (d : D) (ds : List D) : Bool := ds.any fun y => PyData.eqv (py y) (py d)
noncomputable def aIn (neg : Bool) : A2 := fun x y S Q => match see S y with
  | .tup ds => fit (see S x) = true ∧ fit (.tup ds) = true ∧ Q (.dat (.bl (neg != inD (see S x) ds))) S
  | .lst ds => fit (see S x) = true ∧ fit (.lst ds) = true ∧ Q (.dat (.bl (neg != inD (see S x) ds))) S
  | .stc ss => fit (see S x) = true ∧ fit (.tup (ss.map D.str)) = true ∧ Q (.dat (.bl (neg != inD (see S x) (ss.map D.str)))) S
  | _ => False
noncomputable def rInD (K : PySem.W.Frag) (neg : Bool) : R2 := fun x y H Q => ∃ d ds, DatV K H d x ∧ (DatV K H (.tuple ds) y ∨ DatV K H (.list ds) y) ∧ shaped d = true ∧ PyData.canLayAll0 ds = true ∧ Q (.bl (neg != ds.any fun y => PyData.eqv y d)) H
theorem op_inD {k : Nat} (hr : Room k X.A) : OpR X (compareOp .In) (rInD X.K false) := by
  intro pins s σ H x y v u Q I rx ry h
  obtain ⟨d, ds, h1, h2, h3, h4, q⟩ := h
  obtain ⟨as, ra⟩ := I.reads d x v h1 rx
  have hu := hr.un
  rcases h2 with h2 | h2
  · obtain ⟨bs, rb⟩ := I.reads _ y u h2 ry
    exact PySem.SeqAt.in_tuple_reads rb ra h4 (canLay_of_shaped h3) (room_in_shaped h3 (by omega)) ⟨.bl _, H, I, by simp [L2.RelV], q⟩
  · obtain ⟨bs, rb⟩ := I.reads _ y u h2 ry
    exact PySem.SeqAt.in_list_reads rb ra h4 (canLay_of_shaped h3) (room_in_shaped h3 (by omega)) ⟨.bl _, H, I, by simp [L2.RelV], q⟩
theorem op_notInD {k : Nat} (hr : Room k X.A) : OpR X (compareOp .NotIn) (rInD X.K true) := by
  intro pins s σ H x y v u Q I rx ry h
  obtain ⟨d, ds, h1, h2, h3, h4, q⟩ := h
  obtain ⟨as, ra⟩ := I.reads d x v h1 rx
  have hu := hr.un
  rcases h2 with h2 | h2
  · obtain ⟨bs, rb⟩ := I.reads _ y u h2 ry
    exact PySem.SeqAt.notIn_tuple_reads rb ra h4 (canLay_of_shaped h3) (room_in_shaped h3 (by omega)) ⟨.bl _, H, I, by simp [L2.RelV], q⟩
  · obtain ⟨bs, rb⟩ := I.reads _ y u h2 ry
    exact PySem.SeqAt.notIn_list_reads rb ra h4 (canLay_of_shaped h3) (room_in_shaped h3 (by omega)) ⟨.bl _, H, I, by simp [L2.RelV], q⟩
theorem pys_map (ds : List D) : pys ds = ds.map py := by
  induction ds with
  | nil => rfl
  | cons d ds ih => simp [pys, ih]
theorem any_pys (ds : List D) (p : PyData → Bool) : (pys ds).any p = ds.any fun y => p (py y) := by
  rw [pys_map, List.any_map]; rfl
theorem stc_dat {K : PySem.W.Frag} {H : Hp} : ∀ (ss : List Str), DatVs K H (pys (ss.map D.str)) (ss.map V.str)
  | [] => by simp [pys, DatVs]
  | s :: ss => by
    simp only [List.map_cons, pys, DatVs, py, DatV]
    exact ⟨_, _, rfl, rfl, stc_dat ss⟩
theorem see_stc {K : PySem.W.Frag} {w : Wd} {H : Hp} {S : Sto} {d : D} {v : V} {ss : List Str} (k : Ok K w H S) (h : Rep K w d v) (z : see S d = .stc ss) : ∃ a, v = .ref a ∧ SqT K H a (ss.map V.str) := by
  cases d <;> simp only [see] at z
  case loc n => split at z <;> first | (rename_i o _; cases o <;> simp [MO.d] at z) | cases z
  all_goals first | cases z | skip
  simp only [Rep] at h
  obtain ⟨a, h1, h2⟩ := h
  exact ⟨a, h1, SqT.same k.base h2⟩
theorem fit_lay {ds : List D} (h : fit (.tup ds) = true) : PyData.canLayAll0 (pys ds) = true := by
  unfold fit at h
  rw [Bool.and_eq_true] at h
  have := canLay_of_shaped h.2
  simpa [py, PyData.canLay0] using this
theorem fit_layL {ds : List D} (h : fit (.lst ds) = true) : PyData.canLayAll0 (pys ds) = true := by
  unfold fit at h
  rw [Bool.and_eq_true] at h
  have := canLay_of_shaped h.2
  simpa [py, PyData.canLay0] using this
theorem c_in {K : PySem.W.Frag} {neg : Bool} : ∀ x y H Q, con2 K (aIn neg) x y H Q → rInD K neg x y H Q := by
  rintro x y H Q ⟨w, d, e, S, Qa, ok, r1, r2, q, bk⟩
  unfold aIn at q
  split at q
  next ds z =>
    obtain ⟨f1, f2, q⟩ := q
    obtain ⟨g1, s1⟩ := fit_dat ok r1 f1
    obtain ⟨g2, s2⟩ := fit_dat ok r2 (by rw [z]; exact f2)
    rw [z] at g2
    refine ⟨_, pys ds, g1, .inl (by simpa only [py] using g2), s1, fit_lay f2, ?_⟩
    rw [any_pys]
    exact bk.dat .refl ok .bl q
  next ds z =>
    obtain ⟨f1, f2, q⟩ := q
    obtain ⟨g1, s1⟩ := fit_dat ok r1 f1
    obtain ⟨g2, s2⟩ := fit_dat ok r2 (by rw [z]; exact f2)
    rw [z] at g2
    refine ⟨_, pys ds, g1, .inr (by simpa only [py] using g2), s1, fit_layL f2, ?_⟩
    rw [any_pys]
    exact bk.dat .refl ok .bl q
  next ss z =>
    obtain ⟨f1, f2, q⟩ := q
    obtain ⟨g1, s1⟩ := fit_dat ok r1 f1
    obtain ⟨a, rfl, g2⟩ := see_stc ok r2 z
    refine ⟨_, pys (ss.map D.str), g1, .inl ?_, s1, fit_lay f2, ?_⟩
    · simp only [DatV]
      exact ⟨a, _, rfl, g2, stc_dat ss⟩
    · rw [any_pys]
      exact bk.dat .refl ok .bl q
  next => exact q.elim
theorem o_in {k : Nat} (hr : Room k X.A) : Op2 X (compareOp .In) (aIn false) := ⟨m2 (op_inD hr) c_in⟩
theorem o_notIn {k : Nat} (hr : Room k X.A) : Op2 X (compareOp .NotIn) (aIn true) := ⟨m2 (op_notInD hr) c_in⟩
end
end M
set_option Elab.async false
set_option linter.all false
set_option maxRecDepth 100000
set_option maxHeartbeats 4000000
namespace M
open PySem PySem.Spec PyProof.Rows PySem.SeqAt L2
section
variable {X : Cx} {K : PySem.W.Frag} {w : Wd} {H : Hp} {S : Sto} {d : D} {v : V}
theorem reps_atI {ds : List D} {xs : List V} {i : Int} {e : D} (h : Reps K w ds xs) (q : atI ds i = some e) : ∃ u, atI xs i = some u ∧ Rep K w e u := by
  unfold atI at q ⊢
  rw [h.length]
  cases z : ixN ds.length i with
  | none => rw [z] at q; cases q
  | some j =>
    rw [z] at q
    exact h.get q
noncomputable def aIx : A2 := fun x y S Q => match see S x, y with
  | .lst ds, .int i => ∃ e, atI ds i = some e ∧ Q (.dat e) S
  | .tup ds, .int i => ∃ e, atI ds i = some e ∧ Q (.dat e) S
  | .str z, .int i => z.length ≤ sizeLine ∧ ∃ c, atI z.cps.toList i = some c ∧ Q (.dat (.str ⟨#[c]⟩)) S
  | .scr ns, .int i => ∃ n, atI ns i = some n ∧ Q (.dat (.int n)) S
  | _, _ => False
theorem atI_map {α β : Type} {f : α → β} {xs : List α} {i : Int} {a : α} (h : atI xs i = some a) : atI (xs.map f) i = some (f a) := by
  unfold atI at h ⊢
  rw [List.length_map]
  cases z : ixN xs.length i with
  | none => rw [z] at h; cases h
  | some j =>
    rw [z] at h
    have h : xs[j]? = some a := h
    show (xs.map f)[j]? = some (f a)
    rw [List.getElem?_map, h]; rfl
theorem o_ix : OpI X aIx := ⟨fun value slice pins s σ H x y v u Q I rx ry h hs => by
  refine L2.ix_seq value slice pins s σ H x y v u Q I rx ry ?_ hs
  obtain ⟨w, d, e, S, Qa, ok, r1, r2, q, bk⟩ := h
  unfold aIx at q
  split at q
  next ds i z =>
    obtain ⟨a, xs, rfl, h1, h2⟩ := see_lst ok r1 z
    obtain ⟨e', he, q⟩ := q
    obtain ⟨u', g1, g2⟩ := reps_atI h2 he
    exact .inl ⟨a, xs, i, u', rfl, rep_int r2 rfl, SqL.of h1, g1, bk.dat .refl ok g2 q⟩
  next ds i z =>
    obtain ⟨a, xs, rfl, h1, h2⟩ := see_tup ok r1 z
    obtain ⟨e', he, q⟩ := q
    obtain ⟨u', g1, g2⟩ := reps_atI h2 he
    exact .inr (.inl ⟨a, xs, i, u', rfl, rep_int r2 rfl, SqT.of h1, g1, bk.dat .refl ok g2 q⟩)
  next y i z =>
    obtain ⟨hl, c, hc, q⟩ := q
    exact .inr (.inr ⟨y, i, c, see_str r1 z, rep_int r2 rfl, hl, hc, bk.dat .refl ok .str q⟩)
  next ns i z =>
    obtain ⟨a, rfl, h1⟩ := see_scr ok r1 z
    obtain ⟨n, hn, q⟩ := q
    exact .inl ⟨a, _, i, .int n, rfl, rep_int r2 rfl, h1, atI_map hn, bk.dat .refl ok .int q⟩
  next => exact q.elim⟩
noncomputable def cutD {α : Type} (xs : List α) (lo hi : Option Int) : List α := (xs.drop (HT.sIx xs.length 0 lo)).take (HT.sIx xs.length xs.length hi - HT.sIx xs.length 0 lo)
theorem reps_cut {ds : List D} {xs : List V} (h : Reps K w ds xs) (lo hi : Option Int) : Reps K w (cutD ds lo hi) (cutV xs lo hi) := by
  unfold cutD cutV
  rw [h.length]
  exact (h.drop _).take _
end
section
variable {prog : Program} {w : World} {A : Around} {E : Value → Shared → Prop} {s : Shared}
theorem getItem_tuple_whole {t sl : Addr} {items : Array Value} {vl vu : Value} {lo hi : Option Int} {Q : Value → Shared → Prop} (ht : IsTup s.heap t items) (hs : s.heap.IsSliceOf sl vl vu .none) (pl : IsPart vl lo) (pu : IsPart vu hi)
    (hw : HT.sIx items.size 0 lo = 0 ∧ HT.sIx items.size items.size hi = items.size) (h : Q (.ref t) s) : wpAny (model prog w) A (getItem (.ref t) (.ref sl)) Q E s := by
  obtain ⟨os, hos, hcs, hds⟩ := id hs
  have hTs : s.TypeIs (.ref sl) "slice" := ⟨os, hos, hcs⟩
  unfold getItem
  try with_reducible refine wpAny_holding ?_
  first | refine wpAny_bind (wpAny_pure ?_) | skip
  refine wpAny_bind (wpAny_sequenceKey ht.typeIs (by decide) ?_)
  refine wpAny_bind (wpAny_callSpecial?_slot (name := Str.ofString "__getitem__") ht.typeIs PyProof.Rows.slot_tuple_getitem
    (wpAny_call_entry PyProof.Rows.slot_tuple_getitem ht.typeIs PyProof.Rows.entry_tuple_getitem ?_ (PyProof.Rows.args_tuple_getitem _ _)))
  show wpAny _ _ (Builtin.Tuple.tupleItemsOf (.ref t) >>= _) _ _ s
  refine wpAny_bind (PyProof.Rows.tupleItemsOf_ ht ?_)
  refine wpAny_bind (wpAny_typeOf hTs ?_)
  rw [if_pos (by decide)]
  refine wpAny_bind (HT.sliceApplied_gen hs pl pu ?_)
  have hyes : (((HT.sIx items.size 0 lo : Nat) : Int) == 0 && (1 : Int) == 1 && (HT.sIx items.size items.size hi - HT.sIx items.size 0 lo) == items.size) = true := by
    rw [hw.1, hw.2]; simp
  show wpAny _ _ (if (((HT.sIx items.size 0 lo : Nat) : Int) == 0 && (1 : Int) == 1 && (HT.sIx items.size items.size hi - HT.sIx items.size 0 lo) == items.size) = true then _ else _) _ _ s
  rw [if_pos hyes]
  refine wpAny_bind (m := Builtin.Tuple.tupleIsExact (.ref t)) ?_
  unfold Builtin.Tuple.tupleIsExact
  refine wpAny_bind (wpAny_typeOf ht.typeIs (wpAny_pure ?_))
  rw [if_pos (by decide)]
  exact wpAny_bind (wpAny_rule (wpAny_pure ⟨_, rfl, wpAny_pure h⟩))
end
section
variable {X : Cx} {K : PySem.W.Frag} {w : Wd} {H : Hp} {S : Sto} {d : D} {v : V}
noncomputable def aSlc : D → Option Int → Option Int → Sto → AK → Prop := fun x lo hi S Q => match see S x with
  | .lst ds => Q (.new (.lst (cutD ds lo hi))) S
  | .tup ds => Q (.dat (.tup (cutD ds lo hi))) S
  | .str z => z.length ≤ sizeLine ∧ Q (.dat (.str (Txt.slice z lo hi))) S
  | .scr ns => Q (.new (.lst ((cutD ns lo hi).map D.int))) S
  | _ => False
noncomputable def rSlW (K : PySem.W.Frag) : V → Option Int → Option Int → Hp → VK → Prop := fun x lo hi H Q => ∃ a xs, x = .ref a ∧ SqT K H a xs ∧ (HT.sIx xs.length 0 lo = 0 ∧ HT.sIx xs.length xs.length hi = xs.length) ∧ Q (.ref a) H
theorem sl_whole : SlR X (rSlW X.K) := by
  intro pins s σ H x v vl vu lo hi sl Q I rx hs pl pu h
  obtain ⟨a, xs, rfl, hx, hw, q⟩ := h
  cases rx
  obtain ⟨its, r, ht, hz⟩ := I.tuple hx
  have hlen : its.toArray.size = xs.length := by rw [List.size_toArray]; exact r.length.symm
  refine ⟨"tuple", _, PyProof.Rows.slot_tuple_getitem.lookup, ht.typeIs, ?_⟩
  exact getItem_tuple_whole ht hs pl pu (by rw [hlen]; exact hw) ⟨.ref a, H, I, rfl, q⟩
theorem cut_whole {α : Type} {xs : List α} {lo hi : Option Int} (h : HT.sIx xs.length 0 lo = 0 ∧ HT.sIx xs.length xs.length hi = xs.length) : cutD xs lo hi = xs := by
  unfold cutD
  rw [h.1, h.2]; simp
theorem cut_map {α β : Type} (f : α → β) (xs : List α) (lo hi : Option Int) : cutD (xs.map f) lo hi = (cutD xs lo hi).map f := by
  unfold cutD
  rw [List.length_map, List.map_take, List.map_drop]
theorem reps_ints {w : Wd} : ∀ (ns : List Int), Reps K w (ns.map D.int) (ns.map V.int)
  | [] => .nil
  | n :: ns => .cons .int (reps_ints ns)
theorem o_slc : OpS X aSlc := ⟨by
  intro pins s σ H x v vl vu lo hi sl Q I rx hs pl pu h
  refine (L2.sl_list.or (L2.sl_tup.or (sl_whole.or L2.sl_str))) pins s σ H x v vl vu lo hi sl Q I rx hs pl pu ?_
  obtain ⟨w, d, S, Qa, ok, r1, q, bk⟩ := h
  unfold aSlc at q
  split at q
  next ds z =>
    obtain ⟨a, xs, rfl, h1, h2⟩ := see_lst ok r1 z
    exact .inl ⟨a, xs, rfl, SqL.of h1, fun p hp => bk (.new (.lst _)) S _ w _ .refl (ok.alloc hp) (ok.fresh hp ⟨_, rfl, reps_cut h2 lo hi⟩) q⟩
  next ds z =>
    obtain ⟨a, xs, rfl, h1, h2⟩ := see_tup ok r1 z
    by_cases hw : HT.sIx xs.length 0 lo = 0 ∧ HT.sIx xs.length xs.length hi = xs.length
    · refine .inr (.inr (.inl ⟨a, xs, rfl, SqT.of h1, hw, ?_⟩))
      rw [h2.length] at hw
      rw [cut_whole hw] at q
      cases d <;> simp only [see] at z
      case tup => cases z; exact bk.dat .refl ok r1 q
      case loc n => split at z <;> first | (rename_i o _; cases o <;> simp [MO.d] at z) | cases z
      all_goals cases z
    · refine .inr (.inl ⟨a, xs, rfl, SqT.of h1, hw, fun p hp => ?_⟩)
      obtain ⟨w2, le2, ok2, rep2⟩ := ok.newTup hp (reps_cut h2 lo hi)
      exact bk.dat le2 ok2 rep2 q
  next y z => exact .inr (.inr (.inr ⟨y, see_str r1 z, q.1, bk.dat .refl ok .str q.2⟩))
  next ns z =>
    obtain ⟨a, rfl, h1⟩ := see_scr ok r1 z
    refine .inl ⟨a, _, rfl, h1, fun p hp => bk (.new (.lst _)) S _ w _ .refl (ok.alloc hp) (ok.fresh hp ⟨_, rfl, ?_⟩) q⟩
    have := reps_cut (reps_ints (K := X.K) (w := w) ns) lo hi
    rw [cut_map] at this
    exact this
  next => exact q.elim⟩
noncomputable def aMul : A2 := fun x y S Q => match see S x, y with
  | .int i, .int j => CMul i j ∧ Q (.dat (.int (i * j))) S
  | .lst ds, .int k => (-(2 ^ 63) ≤ k ∧ k < 2 ^ 63) ∧ ds.length * k.toNat ≤ sizeLine ∧ Q (.new (.lst (List.replicate k.toNat ds).flatten)) S
  | .str z, .int n => MulOk z n ∧ Q (.dat (.str (Txt.mul z n))) S
  | _, _ => False
theorem reps_rep {ds : List D} {xs : List V} (h : Reps K w ds xs) : ∀ k : Nat, Reps K w (List.replicate k ds).flatten (List.replicate k xs).flatten
  | 0 => .nil
  | k + 1 => by
    rw [List.replicate_succ, List.replicate_succ, List.flatten_cons, List.flatten_cons]
    exact h.append (reps_rep h k)
theorem o_mul : Op2 X (binaryOp .Mult) aMul := ⟨m2 (or2 L2.op_mul (or2 L2.op_rep L2.op_mul_str)) fun x y H Q h => by
  obtain ⟨w, d, e, S, Qa, ok, r1, r2, q, bk⟩ := h
  unfold aMul at q
  split at q
  next i j z => exact .inl ⟨i, j, see_int r1 z, rep_int r2 rfl, q.1, bk.dat .refl ok .int q.2⟩
  next ds k z =>
    obtain ⟨a, xs, rfl, h1, h2⟩ := see_lst ok r1 z
    obtain ⟨⟨g1, g2⟩, hl, q⟩ := q
    refine .inr (.inl ⟨a, k, xs, rfl, rep_int r2 rfl, h1, g1, g2, by rw [h2.length]; exact hl, fun p hp => ?_⟩)
    exact bk (.new (.lst _)) S _ w _ .refl (ok.alloc hp) (ok.fresh hp ⟨_, rfl, reps_rep h2 k.toNat⟩) q
  next y n z => exact .inr (.inr ⟨y, n, see_str r1 z, rep_int r2 rfl, q.1, bk.dat .refl ok .str q.2⟩)
  next => exact q.elim⟩
end
end M
set_option Elab.async false
set_option linter.all false
set_option maxRecDepth 100000
set_option maxHeartbeats 4000000
namespace M
open PySem PySem.Spec PyProof.Rows PySem.SeqAt L2
mutual
noncomputable def bel (n : Nat) : D → Bool
  | .loc m => decide (m < n)
  | .tup ds | .lst ds | .dct _ ds => bels n ds
  | _ => true
noncomputable def bels (n : Nat) : List D → Bool
  | [] => true
  | d :: ds => bel n d && bels n ds
end
noncomputable def belO (n : Nat) : MO → Bool
  | .lst ds => bels n ds
  | .dct _ ds => bels n ds
  | .feed _ => true
  | .ins _ _ ds => bels n ds
mutual
theorem bel_pur (n : Nat) : ∀ d : D, pur d = true → bel n d = true
  | .non, _ => by simp [bel]
  | .bl _, _ => by simp [bel]
  | .int _, _ => by simp [bel]
  | .str _, _ => by simp [bel]
  | .tup ds, h => by simp only [bel]; exact bels_pur n ds (by simpa [pur] using h)
  | .lst ds, h => by simp only [bel]; exact bels_pur n ds (by simpa [pur] using h)
  | .dct _ _, h => by simp [pur] at h
  | .loc _, h => by simp [pur] at h
  | .ty _, h => by simp [pur] at h
  | .scr _, h => by simp [pur] at h
  | .stc _, h => by simp [pur] at h
  | .fd, h => by simp [pur] at h
  | .fn _, h => by simp [pur] at h
theorem bels_pur (n : Nat) : ∀ ds : List D, purs ds = true → bels n ds = true
  | [], _ => by simp [bels]
  | d :: ds, h => by
    simp only [purs, Bool.and_eq_true] at h
    simp only [bels, Bool.and_eq_true]
    exact ⟨bel_pur n d h.1, bels_pur n ds h.2⟩
end
noncomputable def restr (n : Nat) (w : Wd) : Wd := ⟨w.B, fun k => if k < n then w.r k else none⟩
section
variable {K : PySem.W.Frag} {w w1 : Wd} {H H1 : Hp} {S S0 S1 : Sto}
mutual
theorem rep_restr (n : Nat) : ∀ (d : D) (v : V), bel n d = true → Rep K w d v → Rep K (restr n w) d v
  | .non, _, _, h => by simpa [Rep] using h
  | .bl _, _, _, h => by simpa [Rep] using h
  | .int _, _, _, h => by simpa [Rep] using h
  | .str _, _, _, h => by simpa [Rep] using h
  | .ty _, _, _, h => by simpa [Rep] using h
  | .fd, _, _, h => by simpa [Rep] using h
  | .fn _, _, _, h => by simpa [Rep] using h
  | .scr _, _, _, h => by simpa [Rep, restr] using h
  | .stc _, _, _, h => by simpa [Rep, restr] using h
  | .loc m, v, hb, h => by
    simp only [bel, decide_eq_true_eq] at hb
    simp only [Rep] at h ⊢
    obtain ⟨a, h1, h2⟩ := h
    exact ⟨a, by show (if m < n then w.r m else none) = _; rw [if_pos hb]; exact h1, h2⟩
  | .tup ds, v, hb, h => by
    simp only [Rep] at h ⊢
    obtain ⟨a, xs, h1, h2, h3⟩ := h
    exact ⟨a, xs, h1, h2, reps_restr n ds xs (by simpa [bel] using hb) h3⟩
  | .lst ds, v, hb, h => by
    simp only [Rep] at h ⊢
    obtain ⟨a, xs, h1, h2, h3⟩ := h
    exact ⟨a, xs, h1, h2, reps_restr n ds xs (by simpa [bel] using hb) h3⟩
  | .dct ks ds, v, hb, h => by
    simp only [Rep] at h ⊢
    obtain ⟨a, xs, h1, h2, h3, h4⟩ := h
    exact ⟨a, xs, h1, h2, h3, reps_restr n ds _ (by simpa [bel] using hb) h4⟩
theorem reps_restr (n : Nat) : ∀ (ds : List D) (vs : List V), bels n ds = true → Reps K w ds vs → Reps K (restr n w) ds vs
  | [], _, _, h => by simpa [Reps] using h
  | d :: ds, vs, hb, h => by
    simp only [bels, Bool.and_eq_true] at hb
    simp only [Reps] at h ⊢
    obtain ⟨x, r, h1, h2, h3⟩ := h
    exact ⟨x, r, h1, rep_restr n d x hb.1 h2, reps_restr n ds r hb.2 h3⟩
end
mutual
theorem rep_bel (n : Nat) (ht : ∀ k, n ≤ k → w.r k = none) : ∀ (d : D) (v : V), Rep K w d v → bel n d = true
  | .non, _, _ => by simp [bel]
  | .bl _, _, _ => by simp [bel]
  | .int _, _, _ => by simp [bel]
  | .str _, _, _ => by simp [bel]
  | .ty _, _, _ => by simp [bel]
  | .fd, _, _ => by simp [bel]
  | .fn _, _, _ => by simp [bel]
  | .scr _, _, _ => by simp [bel]
  | .stc _, _, _ => by simp [bel]
  | .loc m, v, h => by
    simp only [Rep] at h
    obtain ⟨a, h1, h2⟩ := h
    simp only [bel, decide_eq_true_eq]
    rcases Nat.lt_or_ge m n with q | q
    · exact q
    · rw [ht m q] at h1; cases h1
  | .tup ds, v, h => by
    simp only [Rep] at h
    obtain ⟨a, xs, h1, h2, h3⟩ := h
    simp only [bel]; exact reps_bel n ht ds xs h3
  | .lst ds, v, h => by
    simp only [Rep] at h
    obtain ⟨a, xs, h1, h2, h3⟩ := h
    simp only [bel]; exact reps_bel n ht ds xs h3
  | .dct ks ds, v, h => by
    simp only [Rep] at h
    obtain ⟨a, xs, h1, h2, h3, h4⟩ := h
    simp only [bel]; exact reps_bel n ht ds _ h4
theorem reps_bel (n : Nat) (ht : ∀ k, n ≤ k → w.r k = none) : ∀ (ds : List D) (vs : List V), Reps K w ds vs → bels n ds = true
  | [], _, _ => by simp [bels]
  | d :: ds, vs, h => by
    simp only [Reps] at h
    obtain ⟨x, r, h1, h2, h3⟩ := h
    simp only [bels, Bool.and_eq_true]
    exact ⟨rep_bel n ht d x h2, reps_bel n ht ds r h3⟩
end
theorem repO_restr (n : Nat) : ∀ {o : MO} {u : HO}, belO n o = true → RepO K w o u → RepO K (restr n w) o u
  | .lst ds, u, hb, ⟨xs, h1, h2⟩ => ⟨xs, h1, reps_restr n ds xs hb h2⟩
  | .dct ks ds, u, hb, ⟨xs, h1, h2, h3⟩ => ⟨xs, h1, h2, reps_restr n ds _ hb h3⟩
  | .feed _, u, _, h => h
  | .ins C ks ds, u, hb, ⟨dx, fs, h1, h2, h3⟩ => ⟨dx, fs, h1, h2, reps_restr n ds _ hb h3⟩
theorem repO_bel (n : Nat) (ht : ∀ k, n ≤ k → w.r k = none) : ∀ {o : MO} {u : HO}, RepO K w o u → belO n o = true
  | .lst ds, u, ⟨xs, h1, h2⟩ => reps_bel n ht ds xs h2
  | .dct ks ds, u, ⟨xs, h1, h2, h3⟩ => reps_bel n ht ds _ h3
  | .feed _, u, h => rfl
  | .ins C ks ds, u, ⟨dx, fs, h1, h2, h3⟩ => reps_bel n ht ds _ h3
noncomputable def out (n : Nat) (S1 : Sto) : R → Option R
  | .dat (.loc m) => if m < n then some (.dat (.loc m)) else match S1[m]? with
    | some (some o) => if belO n o = true then some (.new o) else none
    | _ => none
  | .dat d => if bel n d = true then some (.dat d) else none
  | .new o => if belO n o = true then some (.new o) else none
noncomputable def chg (S0 S1 : Sto) : Prop := ∀ k o, k < S0.length → S1[k]? = some (some o) → S0[k]? = some (some o) ∨ belO S0.length o = true
noncomputable def ret (S0 S1 : Sto) (r : R) (Q : AK) : Prop := ∃ r', out S0.length S1 r = some r' ∧ chg S0 S1 ∧ Q r' (S1.take S0.length)
theorem ret_ok {r : R} {v : V} {Qa : AK} {Q : VK} (ok : Ok K w H S0) (le : w.le w1) (ok1 : Ok K w1 H1 S1) (rep : RepR K w1 H1 S1 r v) (h : ret S0 S1 r Qa) (bk : BackV K w Qa Q) : Q v H1 := by
  obtain ⟨r', ho, hc, q⟩ := h
  generalize hn : S0.length = n at *
  have lt : ∀ k a, w.r k = some a → k < n := fun k a e => by
    rcases Nat.lt_or_ge k n with z | z
    · exact z
    · rw [ok.top k (by omega)] at e; cases e
  have at_ : ∀ k o, (S1.take n)[k]? = some (some o) → k < n ∧ S1[k]? = some (some o) := fun k o e => by
    rw [List.getElem?_take] at e
    by_cases z : k < n
    · rw [if_pos z] at e; exact ⟨z, e⟩
    · rw [if_neg z] at e; cases e
  have le2 : w.le (restr n w1) := ⟨le.b, fun k a e => by show (if k < n then w1.r k else none) = _; rw [if_pos (lt k a e)]; exact le.r k a e⟩
  have bl : ∀ k o, k < n → S1[k]? = some (some o) → belO n o = true := fun k o hk e => by
    rcases hc k o (by omega) e with z | z
    · obtain ⟨a, u, _, _, _, h4⟩ := ok.live k o z
      exact repO_bel n (fun k hk => ok.top k (by omega)) h4
    · rw [hn] at z; exact z
  have ok2 : Ok K (restr n w1) H1 (S1.take n) := ⟨ok1.base, fun k o e => by
      obtain ⟨hk, e⟩ := at_ k o e
      obtain ⟨a, u, h1, h2, h3, h4⟩ := ok1.live k o e
      exact ⟨a, u, by show (if k < n then w1.r k else none) = _; rw [if_pos hk]; exact h1, h2, h3, repO_restr n (bl k o hk e) h4⟩,
    fun k m o o' e e' z => by
      obtain ⟨hk, e⟩ := at_ k o e
      obtain ⟨hm, e'⟩ := at_ m o' e'
      have z : (if k < n then w1.r k else none) = (if m < n then w1.r m else none) := z
      rw [if_pos hk, if_pos hm] at z
      exact ok1.inj k m o o' e e' z,
    fun k hk => by
      show (if k < n then w1.r k else none) = none
      by_cases z : k < n
      · rw [if_pos z]
        rw [List.length_take] at hk
        exact ok1.top k (by omega)
      · rw [if_neg z]⟩
  refine bk r' (S1.take n) v (restr n w1) H1 le2 ok2 ?_ q
  have fresh : ∀ m o a, n ≤ m → S1[m]? = some (some o) → w1.r m = some a → ∀ k o', (S1.take n)[k]? = some (some o') → (restr n w1).r k ≠ some a := fun m o a hm e ha k o' e' z => by
    obtain ⟨hk, e'⟩ := at_ k o' e'
    have z : (if k < n then w1.r k else none) = some a := z
    rw [if_pos hk] at z
    have := ok1.inj k m o' o e' e (z.trans ha.symm)
    omega
  cases r with
  | new o =>
    simp only [out] at ho
    split at ho
    next hb =>
      cases ho
      obtain ⟨a, u, rfl, h1, h2, h3, h4⟩ := rep
      refine ⟨a, u, rfl, h1, h2, repO_restr n hb h3, fun k o' e z => ?_⟩
      obtain ⟨hk, e⟩ := at_ k o' e
      have z : (if k < n then w1.r k else none) = some a := z
      rw [if_pos hk] at z
      exact h4 k o' e z
    next => cases ho
  | dat d =>
    have gen : (if bel n d = true then some (R.dat d) else none) = some r' → RepR K (restr n w1) H1 (S1.take n) r' v := fun ho => by
      split at ho
      next hb => cases ho; exact rep_restr n d v hb rep
      next => cases ho
    cases d with
    | loc m =>
      simp only [out] at ho
      split at ho
      next hm => exact gen (by simp [bel, hm, ho])
      next hm =>
        have hm : n ≤ m := by omega
        split at ho
        next o e =>
          split at ho
          next hb =>
            cases ho
            have rep : Rep K w1 (.loc m) v := rep
            simp only [Rep] at rep
            obtain ⟨a, ha, rfl⟩ := rep
            obtain ⟨a', u, h1, h2, h3, h4⟩ := ok1.live m o e
            rw [ha] at h1; cases h1
            exact ⟨a, u, rfl, h2, h3, repO_restr n hb h4, fresh m o a hm e ha⟩
          next => cases ho
        next => cases ho
    | _ => exact gen (by simpa only [out] using ho)
end
noncomputable def startA (N : List Str) (ds : List D) : AEnv := ds.map some ++ List.replicate (N.length - ds.length) none
theorem env_start {K : PySem.W.Frag} {w : Wd} {N : List Str} {ds : List D} {vs : List V} (h : Reps K w ds vs) : EnvR K w (startA N ds) (L2.start N vs) := by
  have hl := h.length
  refine ⟨by simp [startA, L2.start, hl], fun i d e => ?_⟩
  unfold startA at e
  by_cases hi : i < ds.length
  · rw [List.getElem?_append_left (by simpa using hi), List.getElem?_map] at e
    cases z : ds[i]? with
    | none => rw [z] at e; cases e
    | some d' =>
      rw [z] at e
      have e : d' = d := by simpa using e
      subst e
      obtain ⟨v, h1, h2⟩ := h.get z
      refine ⟨v, ?_, h2⟩
      unfold L2.start
      rw [List.getElem?_append_left (by rw [List.length_map, hl]; exact hi), List.getElem?_map, h1]; rfl
  · rw [List.getElem?_append_right (by simpa using hi), List.getElem?_replicate] at e
    split at e <;> cases e
section
variable {P : Program} {w : World} {K : PySem.W.Frag} {mg : Str → Option Value} {base : Heap}
theorem defA {x : Str} {st : Stmt} {N ps : List Str} {k : Nat} {sp : AN} (F : Src K mg x ps st) (S : FnScope N ps (defScope st)) (len : ∀ ds S Q, sp ds S Q → ds.length = ps.length)
    (hbody : ∀ (f : Addr) (cdv : Value) (A : Around) (outer : List Env) (s : Shared) (H : Hp) (E : XK), Room k (A.deeper (envOfC x (defScope st) s.heap.objs.size f cdv)) →
      ∃ a, GSs (cxOf CX0 P w K mg base N x (defScope st) f cdv A outer s H E).nox (defBody st) a ∧ ∀ ds S Q, sp ds S Q → a { nx := fun _ S' => ret S S' (.dat .non) Q, rt := fun r S' => ret S S' r Q } (startA N ds) S) : Def P w K mg base (k + 1) x ps (conSp K sp) :=
  F.def S (fun vs H Q E h => by
    obtain ⟨w, ds, S, Qa, ok, rep, q, bk⟩ := h
    rw [rep.length]; exact len ds S Qa q) fun f cdv A outer s H vs Q E hr h => by
    obtain ⟨a, ha, hd⟩ := hbody f cdv A outer s H E hr
    obtain ⟨w, ds, S, Qa, ok, rep, q, bk⟩ := h
    refine ⟨_, ha.p, w, startA N ds, S, _, ok, env_start rep, hd ds S Qa q, ⟨fun δ S' σ w' H' le ok' env q' => ?_, fun r S' v w' H' le ok' rep' q' => ?_, fun _ _ _ _ _ _ _ _ z => z.elim, fun _ _ _ _ _ _ _ _ z => z.elim⟩⟩
    · exact ret_ok (r := .dat .non) (v := .non) ok le ok' (show Rep K w' .non .non from .non) q' bk
    · exact ret_ok ok le ok' rep' q' bk
end
end M
set_option Elab.async false
set_option linter.all false
set_option maxRecDepth 100000
set_option maxHeartbeats 4000000
namespace M
open PySem PySem.Spec PyProof.Rows PySem.SeqAt L2
section
variable {X : Cx} {K : PySem.W.Frag} {w : Wd} {H : Hp} {S : Sto} {d : D} {v : V}
theorem reps1 {vs : List V} (h : Reps K w [d] vs) : ∃ v, vs = [v] ∧ Rep K w d v := by
  simp only [Reps] at h
  obtain ⟨x, r, rfl, h1, rfl⟩ := h
  exact ⟨x, rfl, h1⟩
theorem reps2 {e : D} {vs : List V} (h : Reps K w [d, e] vs) : ∃ v u, vs = [v, u] ∧ Rep K w d v ∧ Rep K w e u := by
  simp only [Reps] at h
  obtain ⟨x, r, rfl, h1, y, r', rfl, h2, rfl⟩ := h
  exact ⟨x, y, rfl, h1, h2⟩
noncomputable def lenD : D → Option Nat
  | .lst ds => some ds.length
  | .tup ds => some ds.length
  | .scr ns => some ns.length
  | .dct ks _ => some ks.length
  | .str z => if z.length ≤ sizeLine then some z.length else none
  | _ => none
noncomputable def aLen : AN := fun ds S Q => ∃ d n, ds = [d] ∧ lenD (see S d) = some n ∧ Q (.dat (.int n)) S
theorem o_len : OpC X (.builtin "len") aLen := ⟨mC (orC L2.call_len L2.call_lenD) fun xs H Q h => by
  obtain ⟨w, ds, S, Qa, ok, rep, ⟨d, n, rfl, e, q⟩, bk⟩ := h
  obtain ⟨v, rfl, r1⟩ := reps1 rep
  cases z : see S d with
  | lst ds =>
    rw [z] at e
    have e : ds.length = n := by simpa [lenD] using e
    obtain ⟨a, xs, rfl, h1, h2⟩ := see_lst ok r1 z
    exact .inl ⟨_, n, rfl, .inl ⟨xs, SqL.of h1, by rw [h2.length, e]⟩, bk.dat .refl ok .int q⟩
  | tup ds =>
    rw [z] at e
    have e : ds.length = n := by simpa [lenD] using e
    obtain ⟨a, xs, rfl, h1, h2⟩ := see_tup ok r1 z
    exact .inl ⟨_, n, rfl, .inr ⟨xs, SqT.of h1, by rw [h2.length, e]⟩, bk.dat .refl ok .int q⟩
  | scr ns =>
    rw [z] at e
    have e : ns.length = n := by simpa [lenD] using e
    obtain ⟨a, rfl, h1⟩ := see_scr ok r1 z
    exact .inl ⟨_, n, rfl, .inl ⟨_, h1, by rw [List.length_map, e]⟩, bk.dat .refl ok .int q⟩
  | str y =>
    rw [z] at e
    simp only [lenD] at e
    split at e
    next hl =>
      cases e
      exact .inl ⟨_, _, rfl, (by rw [see_str r1 z]; exact ⟨hl, rfl⟩), bk.dat .refl ok .int q⟩
    next => cases e
  | dct ks ds =>
    rw [z] at e
    have e : ks.length = n := by simpa [lenD] using e
    obtain ⟨a, kvs, rfl, h1, h2, _⟩ := see_dct ok r1 z
    refine .inr ⟨a, kvs, rfl, h1, ?_⟩
    rw [← List.length_map (f := (·.1)), h2, e]
    exact bk.dat .refl ok .int q
  | _ => rw [z] at e; simp [lenD] at e⟩
noncomputable def tyD : D → Option String
  | .non => some "NoneType"
  | .bl _ => some "bool"
  | .int _ => some "int"
  | .str _ => some "str"
  | .tup _ => some "tuple"
  | .lst _ => some "list"
  | _ => none
noncomputable def isiD (d : D) (T : String) : Option Bool := (tyD d).bind fun t => if T == "str" || T == "int" || T == "bool" || T == "tuple" || T == "list" then some (t == T || (t == "bool" && T == "int")) else none
noncomputable def aIsi : AN := fun ds S Q => ∃ d T b, ds = [d, .ty T] ∧ isiD (see S d) T = some b ∧ Q (.dat (.bl b)) S
theorem ty_see (ok : Ok K w H S) (h : Rep K w d v) {t : String} (e : tyD (see S d) = some t) : TyOf K H v (.type t) := by
  cases z : see S d with
  | lst ds =>
    rw [z] at e; cases e
    obtain ⟨a, xs, rfl, h1, h2⟩ := see_lst ok h z
    exact .lst h1
  | tup ds =>
    rw [z] at e; cases e
    obtain ⟨a, xs, rfl, h1, h2⟩ := see_tup ok h z
    exact .tup h1
  | non => rw [z] at e; cases e; rw [see_non h z]; exact .non
  | bl b => rw [z] at e; cases e; rw [see_bl h z]; exact .bl b
  | int b => rw [z] at e; cases e; rw [see_int h z]; exact .int b
  | str b => rw [z] at e; cases e; rw [see_str h z]; exact .str b
  | _ => rw [z] at e; simp [tyD] at e
theorem kit_of {t T : String} {b : Bool} (ht : t = "NoneType" ∨ t = "bool" ∨ t = "int" ∨ t = "str" ∨ t = "tuple" ∨ t = "list")
    (e : (if T == "str" || T == "int" || T == "bool" || T == "tuple" || T == "list" then some (t == T || (t == "bool" && T == "int")) else none) = some b) : PySem.W.kitOne K (.type t) (.type T) = some b := by
  split at e
  next hT =>
    simp only [Bool.or_eq_true, beq_iff_eq] at hT
    cases e
    rcases hT with (((rfl | rfl) | rfl) | rfl) | rfl <;> rcases ht with rfl | rfl | rfl | rfl | rfl | rfl <;> rfl
  next => cases e
theorem tyD_in {t : String} (e : tyD d = some t) : t = "NoneType" ∨ t = "bool" ∨ t = "int" ∨ t = "str" ∨ t = "tuple" ∨ t = "list" := by
  cases d <;> simp [tyD] at e <;> subst e <;> simp
theorem o_isi : OpC X (.builtin "isinstance") aIsi := ⟨mC L2.call_isi fun xs H Q h => by
  obtain ⟨w, ds, S, Qa, ok, rep, ⟨d, T, b, rfl, e, q⟩, bk⟩ := h
  obtain ⟨v, u, rfl, r1, r2⟩ := reps2 rep
  unfold isiD at e
  cases z : tyD (see S d) with
  | none => rw [z] at e; cases e
  | some t =>
    rw [z] at e
    refine ⟨v, .ty T, _, _, b, (by rw [rep_ty r2 rfl]), relTy.1, relTy.2, ty_see ok r1 z, kit_of (tyD_in z) e, bk.dat .refl ok .bl q⟩⟩
noncomputable def aListOf : AN := fun ds S Q => ∃ d, ds = [d] ∧ match see S d with
  | .lst es => Q (.new (.lst es)) S
  | .tup es => Q (.new (.lst es)) S
  | .scr ns => Q (.new (.lst (ns.map D.int))) S
  | _ => False
theorem o_listOf : OpC X (.type "list") aListOf := ⟨mC L2.call_list_of fun xs H Q h => by
  obtain ⟨w, ds, S, Qa, ok, rep, ⟨d, rfl, q⟩, bk⟩ := h
  obtain ⟨v, rfl, r1⟩ := reps1 rep
  split at q
  next es z =>
    obtain ⟨a, xs, rfl, h1, h2⟩ := see_lst ok r1 z
    exact ⟨a, xs, rfl, .inl (SqL.of h1), fun p hp => bk (.new (.lst _)) S _ w _ .refl (ok.alloc hp) (ok.fresh hp ⟨_, rfl, h2⟩) q⟩
  next es z =>
    obtain ⟨a, xs, rfl, h1, h2⟩ := see_tup ok r1 z
    exact ⟨a, xs, rfl, .inr (SqT.of h1), fun p hp => bk (.new (.lst _)) S _ w _ .refl (ok.alloc hp) (ok.fresh hp ⟨_, rfl, h2⟩) q⟩
  next ns z =>
    obtain ⟨a, rfl, h1⟩ := see_scr ok r1 z
    exact ⟨a, _, rfl, .inl h1, fun p hp => bk (.new (.lst _)) S _ w _ .refl (ok.alloc hp) (ok.fresh hp ⟨_, rfl, reps_ints ns⟩) q⟩
  next => exact q.elim⟩
noncomputable def aTupleOf : AN := fun ds S Q => ∃ d, ds = [d] ∧ match see S d with
  | .lst es => Q (.dat (.tup es)) S
  | .tup es => Q (.dat (.tup es)) S
  | _ => False
theorem o_tupleOf : OpC X (.type "tuple") aTupleOf := ⟨mC L2.call_tuple_of fun xs H Q h => by
  obtain ⟨w, ds, S, Qa, ok, rep, ⟨d, rfl, q⟩, bk⟩ := h
  obtain ⟨v, rfl, r1⟩ := reps1 rep
  split at q
  next es z =>
    obtain ⟨a, xs, rfl, h1, h2⟩ := see_lst ok r1 z
    refine ⟨a, xs, rfl, .inl ⟨SqL.of h1, fun p hp => ?_⟩⟩
    obtain ⟨w2, le2, ok2, rep2⟩ := ok.newTup hp h2
    exact bk.dat le2 ok2 rep2 q
  next es z =>
    obtain ⟨a, xs, rfl, h1, h2⟩ := see_tup ok r1 z
    refine ⟨a, xs, rfl, .inr ⟨SqT.of h1, ?_⟩⟩
    cases d <;> simp only [see] at z
    case tup => cases z; exact bk.dat .refl ok r1 q
    case loc n => split at z <;> first | (rename_i o _; cases o <;> simp [MO.d] at z) | cases z
    all_goals cases z
  next => exact q.elim⟩
theorem bls_reps : ∀ {ns : List Bool} {xs : List V}, Reps K w (ns.map D.bl) xs → xs = ns.map V.bl
  | [], _, h => by simpa [Reps] using h
  | n :: ns, xs, h => by
    simp only [List.map_cons, Reps, Rep] at h
    obtain ⟨x, r, rfl, rfl, h⟩ := h
    rw [bls_reps h]; rfl
noncomputable def aAll : AN := fun ds S Q => ∃ (d : D) (bs : List Bool), ds = [d] ∧ see S d = .lst (bs.map D.bl) ∧ Q (.dat (.bl (bs.all id))) S
theorem o_all (hc : X.calm = true) : OpC X (.builtin "all") aAll := ⟨mC (L2.call_all hc) fun xs H Q h => by
  obtain ⟨w, ds, S, Qa, ok, rep, ⟨d, bs, rfl, z, q⟩, bk⟩ := h
  obtain ⟨v, rfl, r1⟩ := reps1 rep
  obtain ⟨a, xs, rfl, h1, h2⟩ := see_lst ok r1 z
  rw [bls_reps h2] at h1
  exact ⟨a, bs, rfl, SqL.of h1, bk.dat .refl ok .bl q⟩⟩
noncomputable def aInt1 : AN := fun ds S Q => (∃ i, ds = [.int i] ∧ Q (.dat (.int i)) S) ∨ ∃ b : Bool, ds = [.bl b] ∧ Q (.dat (.int (if b then 1 else 0))) S
theorem o_int1 : OpC X (.type "int") aInt1 := ⟨mC L2.call_int1 fun xs H Q h => by
  obtain ⟨w, ds, S, Qa, ok, rep, q, bk⟩ := h
  rcases q with ⟨i, rfl, q⟩ | ⟨b, rfl, q⟩
  · obtain ⟨v, rfl, r1⟩ := reps1 rep
    exact .inl ⟨i, by rw [rep_int r1 rfl], bk.dat .refl ok .int q⟩
  · obtain ⟨v, rfl, r1⟩ := reps1 rep
    exact .inr ⟨b, by rw [rep_bl r1 rfl], bk.dat .refl ok .int q⟩⟩
end
end M
set_option Elab.async false
set_option linter.all false
set_option maxRecDepth 100000
set_option maxHeartbeats 4000000
namespace M
open PySem PySem.Spec PyProof.Rows PySem.SeqAt L2
noncomputable abbrev AM := D → List D → Sto → AK → Prop
structure OpM (X : Cx) (id : String) (r : AM) : Prop where
  p : MtR X id (conM X.K r)
noncomputable def isTy (T : String) : D → Prop
  | .lst _ => T = "list"
  | .str _ => T = "str"
  | .scr _ => T = "list"
  | .dct _ _ => T = "dict"
  | _ => False
noncomputable def aBM (T : String) (r : AM) (a : AE) (b : AA) : AE := fun δ S Q => a δ S fun x S1 => isTy T (see S1 x.d) ∧ b δ S1 fun ds S2 => r x.d ds S2 Q
section
variable {X : Cx} {K : PySem.W.Frag} {w : Wd} {H : Hp} {S : Sto} {d : D} {v : V}
theorem ty_is {T : String} (ok : Ok K w H S) (h : Rep K w d v) (t : isTy T (see S d)) : tyV K T v H := by
  cases z : see S d with
  | lst ds =>
    rw [z] at t; cases t
    obtain ⟨a, xs, rfl, h1, h2⟩ := see_lst ok h z
    exact .inl ⟨rfl, xs, SqL.of h1⟩
  | str y => rw [z] at t; cases t; rw [see_str h z]; exact rfl
  | scr ns =>
    rw [z] at t; cases t
    obtain ⟨a, rfl, h1⟩ := see_scr ok h z
    exact .inl ⟨rfl, _, h1⟩
  | dct ks ds =>
    rw [z] at t; cases t
    obtain ⟨a, kvs, rfl, h1, _⟩ := see_dct ok h z
    exact .inr (.inr (.inl ⟨rfl, .inl ⟨kvs, h1⟩⟩))
  | _ => rw [z] at t; exact t.elim
theorem s_bm {T : String} {r : AM} {a : AE} {b : AA} : ∀ σ H Q, conE K (aBM T r a b) σ H Q → tBM K T (conM K r) (conE K a) (conA K b) σ H Q := by
  rintro σ H Q ⟨w, δ, S, Qa, ok, env, q, bk⟩
  refine ⟨w, δ, S, _, ok, env, q, .go fun r1 S1 v1 w1 H1 le1 ok1 rep1 ⟨ty, q1⟩ => ⟨ty_is ok1 rep1 ty, ?_⟩⟩
  refine ⟨w1, δ, S1, _, ok1, env.le le1, q1, fun ds S2 vs w2 H2 le2 ok2 rep2 q2 => ?_⟩
  exact ⟨w2, r1.d, ds, S2, Qa, ok2, rep1.le le2, rep2, q2, bk.le (le1.trans le2)⟩
theorem pe_bm {o e : Expr} {es : List Expr} {to : AE} {t : AA} {name : Str} {apos cpos : Pos} {T id : String} {r : AM} (pa : PlainAttrs T) (slot : Slot T name id) (hty : typeOf (.builtin id) = pure (.type "method_descriptor")) (hm : OpM X id r) (ho : GE X o to) (ha : GA X (e :: es) t)
    (hbase : attributeBase o name X.env (eval o X.env) = eval o X.env := by rfl) (hs : (e :: es).all notStar = true := by rfl) (hfew : decide ((e :: es).length + 0 + 0 < 30) = true := by rfl)
    (hline : (apos.endLine == cpos.line) = true := by rfl) : GE X (.Call (.Attribute o name apos) (e :: es) [] cpos) (aBM T r to t) := ⟨mE (L2.pe_bmK pa slot hty hm.p ho.p ha.p hbase hs hfew hline) s_bm⟩
theorem mM {id : String} {t u : V → List V → Hp → VK → Prop} (h : MtR X id t) (m : ∀ x xs H Q, u x xs H Q → t x xs H Q) : MtR X id u := fun pins s σ H x xs v us Q I rx rs q => h pins s σ H x xs v us Q I rx rs (m x xs H Q q)
theorem loc_at {n : Nat} {ds : List D} (ok : Ok K w H S) (h : Rep K w (.loc n) v) (e : S[n]? = some (some (.lst ds))) : ∃ a xs, v = .ref a ∧ w.r n = some a ∧ H a = some (.lst xs) ∧ Reps K w ds xs := by
  simp only [Rep] at h
  obtain ⟨a, h1, rfl⟩ := h
  obtain ⟨a', u, g1, g2, g3, xs, rfl, g5⟩ := ok.live n _ e
  rw [h1] at g1; cases g1
  exact ⟨a, xs, rfl, h1, g3, g5⟩
theorem repO_lst {ds : List D} {xs : List V} (h : Reps K w ds xs) : RepO K w (.lst ds) (.lst xs) := ⟨xs, rfl, h⟩
noncomputable def aAppend : AM := fun x ds S Q => ∃ n es e, x = .loc n ∧ ds = [e] ∧ S[n]? = some (some (.lst es)) ∧ es.length < sizeLine ∧ Q (.dat .non) (S.set n (some (.lst (es ++ [e]))))
theorem m_append : OpM X "list.append" aAppend := ⟨mM (X := X) (t := rAppend) L2.mt_append fun x xs H Q h => by
  obtain ⟨w, d, ds, S, Qa, ok, r1, r2, ⟨n, es, e, rfl, rfl, hS, hl, q⟩, bk⟩ := h
  obtain ⟨a, ys, rfl, ha, hH, hr⟩ := loc_at ok r1 hS
  obtain ⟨v, rfl, r3⟩ := reps1 r2
  exact ⟨a, ys, v, rfl, rfl, hH, by rw [hr.length]; exact hl, bk.dat .refl (ok.put hS ha (repO_lst (hr.snoc r3))) .non q⟩⟩
noncomputable def rExtendT (K : PySem.W.Frag) : V → List V → Hp → VK → Prop := fun x vs H Q => ∃ l b xs zs, x = .ref l ∧ vs = [.ref b] ∧ H l = some (.lst xs) ∧ H b = some (.tup zs) ∧ xs.length + zs.length ≤ sizeLine ∧ Q .non (upd H l (.lst (xs ++ zs)))
theorem ext_tup {l b : Addr} {xs zs : Array Value} {n k : Nat} {dd : Option Addr} {sl : Array (Option Value)} (h0 : ¬(!xs.isEmpty && Builtin.List.listTooLong (xs.size + zs.size)) = true) (h1 : xs.size ≤ sizeLine) (h2 : xs.size + zs.size ≤ sizeLine + 1) :
    Meets (Builtin.«list.extend» ⟨[.ref l, .ref b], []⟩) (fun _ R s => s.heap.get? l = some { cls := .type "list", dict := none, data := .seq xs n, slots := #[] } ∧ s.heap.get? b = some { cls := .type "tuple", dict := dd, data := .seq zs k, slots := sl } ∧ R (.ok (.ret Value.none)) { s with heap := s.heap.update l (Obj.mapSeq fun x => x ++ zs), toks := s.toks }) :=
  .of_wp fun prog w A R s h => by
    obtain ⟨hl, hb, q⟩ := h
    obtain ⟨hp, g, dr, tk, os⟩ := s
    have e1 := AutoSeq1.idx_int
    have e2 := AutoSeq1.sub_tuple_tuple
    have e3 := AutoSeq1.sub_list_list
    have e4 := AutoSeq1.sub_tuple_list
    have e5 := AutoSeq1.sub_list_tuple
    have z : (xs ++ zs).size ≤ sizeLine + 1 := by rw [Array.size_append]; exact h2
    wp_walk using (wpAny_updateSeq hl rfl (hz := h1) (_hz' := z)), AutoSeq1.wpAny_loadPart' hl, AutoSeq1.wpAny_loadPart' hb
    exact ⟨_, rfl, q⟩
theorem mt_extendT : MtR X "list.extend" (rExtendT X.K) := by
  intro pins s σ H x vs v us Q I rx rv h
  obtain ⟨l, b, xs, zs, rfl, rfl, hH, hB, hz, q⟩ := h
  cases rx
  obtain ⟨u, rfl, ru⟩ := rv.one
  cases ru
  obtain ⟨z, its, n, r, hl, e⟩ := I.lstM hH
  obtain ⟨its2, r2, ⟨⟨c2, dd, da, sl⟩, e2, hc2, n2, d2⟩, z2⟩ := I.tuple (SqT.of hB)
  simp only at hc2 d2
  subst hc2 d2
  have hl2 := r2.length
  have hsz : its.toArray.size + its2.toArray.size ≤ sizeLine := by rw [List.size_toArray, List.size_toArray]; omega
  have hlong : ¬ (!its.toArray.isEmpty && Builtin.List.listTooLong (its.toArray.size + its2.toArray.size)) = true := by
    rw [notLongL hsz, Bool.and_false]
    exact Bool.false_ne_true
  refine call_meets F.slot_list_extend ⟨_, e, rfl⟩ F.entry_list_extend (F.args_list_extend_2 _ _)
    (ext_tup (n := n) (k := n2) (dd := dd) (sl := sl) hlong (by rw [List.size_toArray]; omega) (by omega)) ⟨e, e2, ?_⟩
  refine ⟨.non, _, I.lset (its' := its ++ its2) hH e (by simp) (r.append r2) ?_, rfl, q⟩
  rw [List.length_append]
  omega
noncomputable def aExtend : AM := fun x ds S Q => ∃ n es e fs, x = .loc n ∧ ds = [e] ∧ S[n]? = some (some (.lst es)) ∧ (see S e = .lst fs ∨ see S e = .tup fs) ∧ es.length + fs.length ≤ sizeLine ∧ Q (.dat .non) (S.set n (some (.lst (es ++ fs))))
theorem m_extend : OpM X "list.extend" aExtend := ⟨mM (MtR.or (X := X) (r := rExtend) L2.mt_extend mt_extendT) fun x xs H Q h => by
  obtain ⟨w, d, ds, S, Qa, ok, r1, r2, ⟨n, es, e, fs, rfl, rfl, hS, hf, hl, q⟩, bk⟩ := h
  obtain ⟨a, ys, rfl, ha, hH, hr⟩ := loc_at ok r1 hS
  obtain ⟨v, rfl, r3⟩ := reps1 r2
  rcases hf with hf | hf
  · obtain ⟨b, zs, rfl, g1, g2⟩ := see_lst ok r3 hf
    exact .inl ⟨a, b, ys, zs, rfl, rfl, hH, g1, by rw [hr.length, g2.length]; exact hl, bk.dat .refl (ok.put hS ha (repO_lst (hr.append g2))) .non q⟩
  · obtain ⟨b, zs, rfl, g1, g2⟩ := see_tup ok r3 hf
    exact .inr ⟨a, b, ys, zs, rfl, rfl, hH, g1, by rw [hr.length, g2.length]; exact hl, bk.dat .refl (ok.put hS ha (repO_lst (hr.append g2))) .non q⟩⟩
noncomputable def aAug (i : Nat) (a : AE) (r : A2) : AS := fun D δ S => ∃ x, δ[i]? = some (some x) ∧ a δ S fun y S1 => r x y.d S1 fun z S2 => D.nx (δ.set i (some z.d)) S2
noncomputable def aIpAdd : A2 := fun x y S Q => ∃ i j, x = .int i ∧ y = .int j ∧ Q (.dat (.int (i + j))) S
theorem ps_augAdd {i : Nat} {x : Str} {e : Expr} {t : AE} {pos pos' : Pos} (hN : X.N.Nodup) (hi : X.N[i]? = some x) (hx : Loc X.env.scope x) (he : GE X e t) (hf : X.fn x = true ∨ X.env.scope.names.lookup x = some .local := by first | exact .inl rfl | exact .inr rfl | assumption) :
    GS X (.AugAssign (.Name x pos') .Add e pos) (aAug i t aIpAdd) := ⟨mS (L2.ps_aug hN hi hx he.p L2.ip_add hf) fun D σ H h => by
  obtain ⟨w, δ, S, Da, ok, env, ⟨d, hd, q⟩, bk⟩ := h
  obtain ⟨v, h1, h2⟩ := env.2 i d hd
  refine ⟨v, h1, w, δ, S, _, ok, env, q, .go fun r1 S1 v1 w1 H1 le1 ok1 rep1 q1 => ?_⟩
  obtain ⟨a, b, rfl, e2, q1⟩ := q1
  exact ⟨a, b, rep_int h2 rfl, rep_int rep1 e2, bk.nx _ S1 _ w1 H1 le1 ok1 ((env.le le1).set .int i) q1⟩⟩
end
end M
set_option Elab.async false
set_option linter.all false
set_option maxRecDepth 100000
set_option maxHeartbeats 4000000
namespace M
open PySem L2
theorem loop_by {P : Sto → Prop} {g : AG} {b : AS} {D : AEnds} (I : List M.D → AEnv → Sto → Prop) (hn : ∀ δ S, I [] δ S → P S ∧ D.nx δ S)
    (hc : ∀ x xs δ S N, I (x :: xs) δ S → (∀ δ' S', I xs δ' S' → N δ' S') → P S ∧ g x δ S fun δ2 S2 => b { D with nx := N, ct := N, bk := D.nx } δ2 S2) : ∀ ds δ S, I ds δ S → loopD P g b ds D δ S
  | [], δ, S, h => hn δ S h
  | x :: xs, δ, S, h => hc x xs δ S _ h fun δ' S' h' => loop_by I hn hc xs δ' S' h'
theorem comp_by {P : Sto → Prop} {g : AG} {t : AT} {e : AE} {Q : List M.D → Sto → Prop} (I : List M.D → List M.D → AEnv → Sto → Prop) (hn : ∀ acc δ S, I [] acc δ S → P S ∧ Q acc S)
    (hc : ∀ x xs acc δ S (N : List M.D → AEnv → Sto → Prop), I (x :: xs) acc δ S → (∀ acc' δ' S', I xs acc' δ' S' → N acc' δ' S') → P S ∧ g x δ S fun δ2 S2 => t δ2 S2 fun b S3 => if b = true then e δ2 S3 fun r S4 => acc.length < sizeLine ∧ N (acc ++ [r.d]) δ2 S4 else N acc δ2 S3) :
    ∀ ds acc δ S, I ds acc δ S → compD P g t e ds acc δ S Q
  | [], acc, δ, S, h => hn acc δ S h
  | x :: xs, acc, δ, S, h => hc x xs acc δ S (fun acc' δ' S' => compD P g t e xs acc' δ' S' Q) h fun acc' δ' S' h' => comp_by I hn hc xs acc' δ' S' h'
theorem comp_map {P : Sto → Prop} {e : AE} {Q : List M.D → Sto → Prop} {δ : AEnv} {S : Sto} (f : M.D → M.D) (hP : P S) : ∀ (xs acc : List M.D) (δ' : AEnv), δ'.set 0 none = δ.set 0 none → (∀ x ∈ xs, ∀ Q : AK, Q (.dat (f x)) S → e (δ.set 0 (some x)) S Q) → acc.length + xs.length ≤ sizeLine → Q (acc ++ xs.map f) S →
    compD P (agName 0) aYes e xs acc δ' S Q
  | [], acc, δ', _, _, _, q => ⟨hP, by simpa using q⟩
  | x :: xs, acc, δ', hd, h, hl, q => by
    refine ⟨hP, ?_⟩
    have e1 : δ'.set 0 (some x) = δ.set 0 (some x) := by
      have := congrArg (fun l => l.set 0 (some x)) hd
      simpa [List.set_set] using this
    simp only [agName, aYes, if_true]
    rw [e1]
    refine h x (by simp) _ ⟨by simp at hl; omega, ?_⟩
    refine comp_map f hP xs _ _ (by simp [List.set_set]) (fun y hy => h y (by simp [hy])) (by simp at hl ⊢; omega) ?_
    simpa [R.d, List.append_assoc] using q
theorem see_pur {S : Sto} {d : D} (h : pur d = true) : see S d = d := by
  cases d <;> first | rfl | simp [pur] at h
theorem see_int' {S : Sto} {i : Int} : see S (.int i) = .int i := rfl
theorem see_str' {S : Sto} {i : Str} : see S (.str i) = .str i := rfl
theorem see_bl' {S : Sto} {i : Bool} : see S (.bl i) = .bl i := rfl
theorem see_non' {S : Sto} : see S .non = .non := rfl
theorem see_tup' {S : Sto} {i : List D} : see S (.tup i) = .tup i := rfl
theorem see_lst' {S : Sto} {i : List D} : see S (.lst i) = .lst i := rfl
theorem see_stc' {S : Sto} {i : List Str} : see S (.stc i) = .stc i := rfl
theorem see_scr' {S : Sto} {i : List Int} : see S (.scr i) = .scr i := rfl
theorem rd_dat {d : D} : (R.dat d).d = d := rfl
theorem rd_new {o : MO} : (R.new o).d = o.d := rfl
theorem mod_lst {ds : List D} : (MO.lst ds).d = .lst ds := rfl
theorem le_int' {i j : Int} {S : Sto} {Q : AK} : aLe (.int i) (.int j) S Q = Q (.dat (.bl (decide (i ≤ j)))) S := rfl
theorem lt_int' {i j : Int} {S : Sto} {Q : AK} : aLt (.int i) (.int j) S Q = Q (.dat (.bl (decide (i < j)))) S := rfl
theorem le_str' {i j : Str} {S : Sto} {Q : AK} : aLe (.str i) (.str j) S Q = Q (.dat (.bl (!decide (j.cps.toList < i.cps.toList)))) S := rfl
theorem aI_int {C : Int → Int → Prop} {g : Int → Int → D} {i j : Int} {S : Sto} {Q : AK} : aI C g (.int i) (.int j) S Q = (C i j ∧ Q (.dat (g i j)) S) := by
  refine propext ⟨fun ⟨a, b, e1, e2, h⟩ => ?_, fun h => ⟨i, j, rfl, rfl, h⟩⟩
  cases e1; cases e2; exact h
theorem add_int' {i j : Int} {S : Sto} {Q : AK} : aAdd (.int i) (.int j) S Q = Q (.dat (.int (i + j))) S := rfl
theorem add_lst' {i j : List D} {S : Sto} {Q : AK} : aAdd (.lst i) (.lst j) S Q = (i.length + j.length ≤ sizeLine ∧ Q (.new (.lst (i ++ j))) S) := rfl
theorem eq_int' {i j : Int} {S : Sto} {Q : AK} : aEq (.int i) (.int j) S Q = Q (.dat (.bl (decide (i = j)))) S := rfl
theorem eq_str' {i j : Str} {S : Sto} {Q : AK} : aEq (.str i) (.str j) S Q = Q (.dat (.bl (decide (i = j)))) S := rfl
theorem tru_bl {b : Bool} : aTruD (.bl b) = some b := rfl
theorem tru_lst {ds : List D} : aTruD (.lst ds) = some (!ds.isEmpty) := rfl
theorem tru_tup {ds : List D} : aTruD (.tup ds) = some (!ds.isEmpty) := rfl
theorem out_dat {n : Nat} {S : Sto} {d : D} (h : pur d = true) : out n S (.dat d) = some (.dat d) := by
  have b := bel_pur n d h
  cases d <;> first | (simp [pur] at h; done) | (simp only [out]; rw [if_pos b])
theorem chg_same {S : Sto} : chg S S := fun _ _ _ e => .inl e
theorem ret_pur {S : Sto} {d : D} {Q : AK} (h : pur d = true) (q : Q (.dat d) S) : ret S S (.dat d) Q := ⟨_, out_dat h, chg_same, by rw [List.take_length]; exact q⟩
theorem ret_bl {S : Sto} {b : Bool} {Q : AK} : ret S S (.dat (.bl b)) Q = Q (.dat (.bl b)) S := by
  refine propext ⟨fun ⟨r, h1, _, h2⟩ => ?_, ret_pur rfl⟩
  simp [out, bel] at h1
  subst h1
  rw [List.take_length] at h2; exact h2
theorem ret_int {S : Sto} {b : Int} {Q : AK} : ret S S (.dat (.int b)) Q = Q (.dat (.int b)) S := by
  refine propext ⟨fun ⟨r, h1, _, h2⟩ => ?_, ret_pur rfl⟩
  simp [out, bel] at h1
  subst h1
  rw [List.take_length] at h2; exact h2
theorem ret_new {S : Sto} {ds : List D} {Q : AK} (h : purs ds = true) (q : Q (.new (.lst ds)) S) : ret S S (.new (.lst ds)) Q :=
  ⟨_, by simp only [out]; rw [if_pos (show belO _ (.lst ds) = true from bels_pur _ ds h)], chg_same, by rw [List.take_length]; exact q⟩
theorem ret_loc {S : Sto} {ds : List D} {Q : AK} {S' : Sto} {n : Nat} (hn : S.length ≤ n) (h : purs ds = true) (e : S'[n]? = some (some (.lst ds))) (hs : S'.take S.length = S) (q : Q (.new (.lst ds)) S) : ret S S' (.dat (.loc n)) Q := by
  refine ⟨.new (.lst ds), ?_, fun k o hk e => .inl ?_, by rw [hs]; exact q⟩
  · simp only [out]
    rw [if_neg (by omega), e]
    show (if belO S.length (.lst ds) = true then some (R.new (.lst ds)) else none) = _
    rw [if_pos (show belO _ (.lst ds) = true from bels_pur _ ds h)]
  · rw [← hs, List.getElem?_take, if_pos hk]; exact e
noncomputable def okS (x : Str) : Bool := x.cps.toList.all (fun c => decide (c < 128)) && decide (x.length ≤ 100)
noncomputable def thB : Nat → D → Bool
  | _, .non => true
  | _, .bl _ => true
  | _, .int _ => true
  | _, .str x => okS x
  | n + 1, .tup ds => decide (ds.length ≤ 100) && ds.all (thB n)
  | n + 1, .lst ds => decide (ds.length ≤ 100) && ds.all (thB n)
  | _, _ => false
theorem okS_ok {x : Str} (h : okS x = true) : PyData.strOk x = true := by
  unfold okS at h
  rw [Bool.and_eq_true] at h
  unfold PyData.strOk
  rw [← Array.all_toList]
  refine List.all_eq_true.mpr fun c hc => ?_
  have := of_decide_eq_true (List.all_eq_true.mp h.1 c hc)
  exact decide_eq_true (by omega)
theorem thB_mono : ∀ {n m : Nat} {d : D}, thB n d = true → n ≤ m → thB m d = true := by
  intro n
  induction n with
  | zero =>
    intro m d h _
    cases d <;> cases m <;> first | rfl | exact h | (simp [thB] at h; done)
  | succ n ih =>
    intro m d h hm
    cases m with
    | zero => omega
    | succ m =>
      cases d <;> first | rfl | exact h | skip
      · simp only [thB, Bool.and_eq_true, List.all_eq_true] at h ⊢
        exact ⟨h.1, fun x hx => ih (h.2 x hx) (by omega)⟩
      · simp only [thB, Bool.and_eq_true, List.all_eq_true] at h ⊢
        exact ⟨h.1, fun x hx => ih (h.2 x hx) (by omega)⟩
theorem th_all : ∀ (n : Nat) (d : D), thB n d = true → pur d = true ∧ (py d).canLay0 = true ∧ (py d).depth ≤ n := by
  intro n
  induction n with
  | zero =>
    intro d h
    cases d <;> first | (simp [thB] at h; done) | skip
    · simp [pur, py, PyData.canLay0, PyData.depth]
    · simp [pur, py, PyData.canLay0, PyData.depth]
    · simp [pur, py, PyData.canLay0, PyData.depth]
    · simp only [thB] at h
      simp [pur, py, PyData.canLay0, PyData.depth, okS_ok h]
  | succ n ih =>
    have all : ∀ ds : List D, (ds.all (thB n)) = true → purs ds = true ∧ PyData.canLayAll0 (pys ds) = true ∧ PyData.depthAll (pys ds) ≤ n := by
      intro ds
      induction ds with
      | nil => intro _; simp [purs, pys, PyData.canLayAll0, PyData.depthAll]
      | cons d ds ih2 =>
        intro h
        rw [List.all_cons, Bool.and_eq_true] at h
        obtain ⟨a1, a2, a3⟩ := ih d h.1
        obtain ⟨b1, b2, b3⟩ := ih2 h.2
        refine ⟨by simp [purs, a1, b1], by simp [pys, PyData.canLayAll0, a2, b2], ?_⟩
        simp only [pys, PyData.depthAll]
        omega
    intro d h
    cases d <;> first | (simp [thB] at h; done) | skip
    · simp [pur, py, PyData.canLay0, PyData.depth]
    · simp [pur, py, PyData.canLay0, PyData.depth]
    · simp [pur, py, PyData.canLay0, PyData.depth]
    · simp only [thB] at h
      simp [pur, py, PyData.canLay0, PyData.depth, okS_ok h]
    · simp only [thB, Bool.and_eq_true] at h
      obtain ⟨a1, a2, a3⟩ := all _ h.2
      exact ⟨by simpa [pur] using a1, by simpa [py, PyData.canLay0] using a2, by simp only [py, PyData.depth]; omega⟩
    · simp only [thB, Bool.and_eq_true] at h
      obtain ⟨a1, a2, a3⟩ := all _ h.2
      exact ⟨by simpa [pur] using a1, by simpa [py, PyData.canLay0] using a2, by simp only [py, PyData.depth]; omega⟩
theorem th_pur {n : Nat} {d : D} (h : thB n d = true) : pur d = true := (th_all n d h).1
theorem th_fit {n : Nat} {d : D} (h : thB n d = true) (hn : n ≤ 64) : fit d = true := by
  obtain ⟨a, b, c⟩ := th_all n d h
  unfold fit PySem.SeqAt.shaped
  rw [a, b, decide_eq_true (by omega)]; rfl
theorem th_item {n : Nat} {ds : List D} {d : D} (h : thB (n + 1) (.tup ds) = true) (hd : d ∈ ds) : thB n d = true := by
  simp only [thB, Bool.and_eq_true, List.all_eq_true] at h
  exact h.2 d hd
noncomputable def isS (x : D) (s : Str) : Bool := match x with
  | .str a => decide (a = s)
  | _ => false
noncomputable def inS (x : D) (ss : List Str) : Bool := ss.any fun s => isS x s
theorem eqv_str {x : D} {s : Str} (h : pur x = true) : PyData.eqv (.str s) (py x) = isS x s := by
  cases x <;> first | (simp [pur] at h; done) | simp only [py, PyData.eqv, isS]
  rename_i a
  by_cases e : s = a
  · subst e; simp
  · rw [decide_eq_false (fun z => e z.symm)]
    exact beq_eq_false_iff_ne.mpr e
theorem eqv_str' {x : D} {s : Str} (h : pur x = true) : PyData.eqv (py x) (.str s) = isS x s := by
  cases x <;> first | (simp [pur] at h; done) | simp only [py, PyData.eqv, isS]
  rename_i a
  by_cases e : a = s
  · subst e; simp
  · rw [decide_eq_false e]
    exact beq_eq_false_iff_ne.mpr e
theorem inD_strs {x : D} (h : pur x = true) : ∀ ss : List Str, inD x (ss.map D.str) = inS x ss
  | [] => rfl
  | s :: ss => by
    have := inD_strs h ss
    unfold inD inS at this ⊢
    rw [List.map_cons, List.any_cons, List.any_cons, this]
    rw [show PyData.eqv (py (.str s)) (py x) = isS x s from eqv_str h]
theorem eq_text {n : Nat} {x : D} {s : Str} {S : Sto} {Q : AK} (h : thB n x = true) (hn : n ≤ 64) (hs : okS s = true) (q : Q (.dat (.bl (isS x s))) S) : aEq x (.str s) S Q := by
  have hp := th_pur h
  unfold aEq
  rw [see_pur hp, see_str']
  cases x <;> first | (simp [pur] at hp; done) | skip
  case str a => exact q
  all_goals (refine ⟨th_fit h hn, th_fit (n := 0) (d := .str s) hs (by decide), ?_⟩; rw [show py (D.str s) = .str s from rfl, eqv_str' hp]; exact q)
theorem in_texts {n : Nat} {x : D} {ss : List Str} {neg : Bool} {S : Sto} {Q : AK} (h : thB n x = true) (hn : n ≤ 64) (hs : ss.all okS = true) (q : Q (.dat (.bl (neg != inS x ss))) S) (hl : ss.length ≤ 100 := by decide) : aIn neg x (.tup (ss.map D.str)) S Q := by
  have hp := th_pur h
  unfold aIn
  rw [see_pur hp, see_tup']
  refine ⟨th_fit h hn, th_fit (n := 1) ?_ (by decide), ?_⟩
  · simp only [thB, List.all_map, List.length_map, decide_eq_true hl, Bool.true_and]
    exact hs
  · rw [inD_strs hp]; exact q
theorem in_stc {n : Nat} {x : D} {ss : List Str} {neg : Bool} {S : Sto} {Q : AK} (h : thB n x = true) (hn : n ≤ 64) (hs : ss.all okS = true) (q : Q (.dat (.bl (neg != inS x ss))) S) (hl : ss.length ≤ 100 := by decide) : aIn neg x (.stc ss) S Q := by
  have hp := th_pur h
  unfold aIn
  rw [see_pur hp, see_stc']
  refine ⟨th_fit h hn, th_fit (n := 1) ?_ (by decide), ?_⟩
  · simp only [thB, List.all_map, List.length_map, decide_eq_true hl, Bool.true_and]
    exact hs
  · rw [inD_strs hp]; exact q
end M
set_option Elab.async false
set_option linter.all false
set_option maxRecDepth 100000
set_option maxHeartbeats 4000000
namespace M
open PySem PySem.Spec PyProof.Rows PySem.SeqAt L2
section
variable {X : Cx}
noncomputable def rCat0 (K : PySem.W.Frag) : R2 := fun x y H Q => ∃ a b, x = .ref a ∧ y = .ref b ∧ SqT K H a [] ∧ (∃ ys, SqT K H b ys) ∧ Q (.ref b) H
theorem op_cat0 : OpR X (binaryOp .Add) (rCat0 X.K) := by
  intro pins s σ H x y v u Q I rx ry h
  obtain ⟨a, b, rfl, rfl, ha, ⟨ys, hb⟩, q⟩ := h
  cases rx
  cases ry
  obtain ⟨its, r1, p1, _⟩ := I.tuple ha
  obtain ⟨its2, r2, p2, _⟩ := I.tuple hb
  have e : its = [] := by cases r1; rfl
  subst e
  obtain ⟨⟨cls, dd, data, sl⟩, ho, hc, n, hd⟩ := id p1
  obtain ⟨⟨cls2, dd2, data2, sl2⟩, ho2, hc2, n2, hd2⟩ := id p2
  simp only at hc hd hc2 hd2
  subst hc hd hc2 hd2
  exact concat_meets ⟨_, ho, rfl⟩ ⟨_, ho2, rfl⟩ noFill_tuple_add seq_tuple_add PySem.F.slot_tuple_add PySem.F.entry_tuple_add (PySem.F.args_tuple_add_2 _ _)
    (tuple_addW0 a b #[] its2.toArray n n2 dd dd2 sl sl2 rfl) ⟨ho, ho2, .ref b, H, I, rfl, q⟩
noncomputable def aAdd0 : A2 := fun x y S Q => match see S x, see S y with
  | .tup [], .tup ys => Q (.dat (.tup ys)) S
  | _, _ => aAdd x y S Q
theorem see_tupD {S : Sto} {d : D} {ds : List D} (z : see S d = .tup ds) : d = .tup ds := by
  cases d <;> simp only [see] at z
  case loc n => split at z <;> first | (rename_i o _; cases o <;> simp [MO.d] at z) | cases z
  all_goals first | cases z | skip
  rfl
theorem o_add0 : Op2 X (binaryOp .Add) aAdd0 := ⟨m2 (or2 o_add.p op_cat0) fun x y H Q h => by
  obtain ⟨w, d, e, S, Qa, ok, r1, r2, q, bk⟩ := h
  unfold aAdd0 at q
  split at q
  next ys z1 z2 =>
    obtain ⟨a, xs, rfl, h1, g1⟩ := see_tup ok r1 z1
    obtain ⟨b, us, rfl, h2, g2⟩ := see_tup ok r2 z2
    have : xs = [] := by simpa [Reps] using g1
    subst this
    have e2 := see_tupD z2
    subst e2
    exact .inr ⟨a, b, rfl, rfl, SqT.of h1, ⟨us, SqT.of h2⟩, bk.dat .refl ok r2 q⟩
  next => exact .inl ⟨w, d, e, S, Qa, ok, r1, r2, q, bk⟩⟩
end
end M
set_option Elab.async false
set_option linter.all false
set_option maxRecDepth 100000
set_option maxHeartbeats 4000000
namespace M
open PySem PySem.Spec PyProof.Rows L2
theorem vals_strs : ∀ {vs : List Value} {ss : List Str}, StrsAre vs ss → Vals (ss.map V.str) vs
  | _, _, .nil => .nil
  | _, _, .cons y t h => .cons ⟨t, rfl⟩ (vals_strs h)
section
variable {X : Cx}
theorem reps_strs' {K : PySem.W.Frag} {w : Wd} : ∀ {ss : List Str} {xs : List V}, Reps K w (ss.map D.str) xs → xs = ss.map V.str
  | [], xs, h => by simpa [Reps] using h
  | s :: ss, xs, h => by
    simp only [List.map_cons, Reps] at h
    obtain ⟨x, r, rfl, h1, h2⟩ := h
    rw [rep_str h1 rfl, reps_strs' h2]; rfl
theorem reps_of_strs {K : PySem.W.Frag} {w : Wd} : ∀ ss : List Str, Reps K w (ss.map D.str) (ss.map V.str)
  | [] => by simp [Reps]
  | s :: ss => by
    simp only [List.map_cons, Reps]
    exact ⟨_, _, rfl, by simp [Rep], reps_of_strs ss⟩
end
end M
set_option Elab.async false
set_option linter.all false
set_option maxRecDepth 100000
set_option maxHeartbeats 4000000
namespace M1
open PySem PySem.Spec PyProof.Rows
namespace F
end F
section
variable {prog : Program} {w : World} {A : Around} {E : Value → Shared → Prop} {s : Shared}
end
section
variable {prog : Program} {w : World} {A : Around} {s : Shared} {R : Result → Shared → Prop} {I l : Addr} {items : Array Value}
variable {wr : List Addr} {G : Array GenState → Array GenState → Prop} {n : Nat} {P : Nat → Value → Prop} {St : Nat → Shared → Prop}
end
section
variable {prog : Program} {w : World} {A : Around} {E : Value → Shared → Prop} {s : Shared} {I l : Addr} {items : Array Value}
end
end M1
set_option Elab.async false
set_option linter.all false
set_option maxRecDepth 100000
set_option maxHeartbeats 4000000
namespace L2
open PySem PySem.Spec PyProof.Rows
theorem vals_rev : ∀ {xs : List V} {us : List Value}, Vals xs us → Vals xs.reverse us.reverse
  | _, _, .nil => .nil
  | _, _, .cons r t => by simpa using (vals_rev t).append (.cons r .nil)
section
variable {X : Cx} {e : Expr} {ta : TE} {p p2 pos pos2 : Pos}
end
end L2
namespace M
open PySem PySem.Spec PyProof.Rows L2
section
variable {K : PySem.W.Frag}
theorem reps_rev {w : Wd} : ∀ {ds : List D} {xs : List V}, Reps K w ds xs → Reps K w ds.reverse xs.reverse
  | [], _, h => by simp only [Reps] at h; subst h; simp [Reps]
  | d :: ds, xs, h => by
    simp only [Reps] at h
    obtain ⟨x, r, rfl, h1, h2⟩ := h
    rw [List.reverse_cons, List.reverse_cons]
    exact (reps_rev h2).snoc h1
end
section
variable {X : Cx} {e o value : Expr} {es : List Expr} {p p2 pos pos2 apos tpos : Pos}
end
section
variable {P : Program} {w : World} {K : PySem.W.Frag} {mg : Str → Option Value} {base : Heap} {C : Addr}
theorem okB {x qual : Str} {st : Stmt} {f : Addr} {fd : FuncData} {N ps : List Str} {k : Nat} {sp : AN} (F : Fun K x qual st f fd) (S : FnScope N ps (defScope st)) (len : ∀ ds S Q, sp ds S Q → ds.length = ps.length)
    (hbody : ∀ (f : Addr) (cdv : Value) (A : Around) (outer : List Env) (s : Shared) (H : Hp) (E : XK), Room k (A.deeper (PyProof.Rows.envOfC qual (defScope st) s.heap.objs.size f cdv)) →
      ∃ a, GSs (cxOf CX0 P w K mg base N qual (defScope st) f cdv A outer s H E).nox (defBody st) a ∧ ∀ ds S Q, sp ds S Q → a { nx := fun _ S' => M.ret S S' (.dat .non) Q, rt := fun r S' => M.ret S S' r Q } (startA N ds) S) : FnOk P w K mg base CX0 (k + 1) f fd ps (conSp K sp) :=
  F.ok S (fun vs H Q E h => by
    obtain ⟨w, ds, S, Qa, ok, rep, q, bk⟩ := h
    rw [rep.length]; exact len ds S Qa q) fun cdv A outer s H vs Q E hr h => by
    obtain ⟨a, ha, hd⟩ := hbody f cdv A outer s H E hr
    obtain ⟨w, ds, S, Qa, ok, rep, q, bk⟩ := h
    refine ⟨_, ha.p, w, startA N ds, S, _, ok, env_start rep, hd ds S Qa q, ⟨fun δ S' σ w' H' le ok' env q' => ?_, fun r S' v w' H' le ok' rep' q' => ?_, fun _ _ _ _ _ _ _ _ z => z.elim, fun _ _ _ _ _ _ _ _ z => z.elim⟩⟩
    · exact ret_ok (r := .dat .non) (v := .non) ok le ok' (show Rep K w' .non .non from .non) q' bk
    · exact ret_ok ok le ok' rep' q' bk
end
section
variable {X : Cx} {e o : Expr} {es : List Expr} {p pos apos : Pos} {C : Addr} {k : Nat} {m : Str} {ps : List Str} {sp : AN}
end
end M
set_option Elab.async false
set_option linter.all false
set_option maxRecDepth 100000
set_option maxHeartbeats 4000000
namespace M5
open PySem PySem.Spec PyProof.Rows
theorem layNew_kept (t : SetTable) (es : Array (Int × Value)) (h : Int) (x : Value) : (layNew t es h x).2.1.led = t.led ∧ ((layNew t es h x).2.1.plain = true → t.plain = true) := by
  unfold layNew
  split
  · unfold SetTable.orStandIn
    dsimp only
    split
    · exact ⟨rfl, fun z => z⟩
    · exact ⟨rfl, fun z => by cases z⟩
  · exact ⟨rfl, fun z => by cases z⟩
theorem relaid_kept {t t' : SetTable} {hs : Array Int} {n : Nat} {o : Array Nat} (h : t.relaid hs n = some (t', o)) : t'.led = t.led ∧ t'.plain = t.plain := by
  unfold SetTable.relaid SetTable.laid at h
  cases hl : SetTable.layClean (SetTable.sizeAbove n - 1) hs with
  | none => rw [hl] at h; cases h
  | some ow =>
    rw [hl] at h
    have h : some _ = some _ := h
    injection h with h
    injection h with h1 h2
    subst h1
    exact ⟨rfl, rfl⟩
theorem relayAll_kept (t : SetTable) (es : Array (Int × Value)) (n : Nat) : (relayAll t es n).2.1.led = t.led ∧ ((relayAll t es n).2.1.plain = true → t.plain = true) := by
  unfold relayAll
  split
  · rename_i t' order he
    dsimp only
    split
    · exact ⟨(relaid_kept he).1, fun z => by rw [← (relaid_kept he).2]; exact z⟩
    · exact ⟨rfl, fun z => by cases z⟩
  · exact ⟨rfl, fun z => by cases z⟩
noncomputable def TObj (prog : Program) (w : World) (o : Obj) (S : List Str) : Prop :=
  ∃ es ep t, o.ExactSet ∧ o.data = .set es ep t ∧ ElemsOf (PySem.strKind prog w) es.toList ∧ (es.toList.map fun e => strOf e.2).Perm S ∧ t.fits es.size = true ∧ t.led = (!w.params.followText "set-order") ∧ (es.size ≠ 0 → t.plain = false)
noncomputable def TAt (prog : Program) (w : World) (h : Heap) (a : Addr) (S : List Str) : Prop := ∃ o, h.get? a = some o ∧ TObj prog w o S
noncomputable def add1 (S : List Str) (x : Str) : List Str := if x ∈ S then S else S ++ [x]
section
variable {prog : Program} {w : World} {A : Around} {E : Value → Shared → Prop} {s : Shared}
theorem isK (x : Str) (t : Tok) : (PySem.strKind prog w).is x (.str x t) = true := by
  show Value.isStrOf x (.str x t) = true
  simp [Value.isStrOf]
theorem strOfK {x : Str} {v : Value} (h : (PySem.strKind prog w).is x v = true) : strOf v = x := by
  obtain ⟨t, rfl⟩ := Value.isStrOf_shape h
  rfl
theorem upd_set {h : Heap} {a : Addr} {o : Obj} {es : Array (Int × Value)} {ep : Nat} {t : SetTable} (es' : Array (Int × Value)) (t' : SetTable) (ho : h.get? a = some o) (hd : o.data = .set es ep t) :
    (h.update a (Obj.putSet es' t')).get? a = some { o with data := .set es' (ep + 1) t' } := by
  have e := Heap.get?_update_self (Obj.putSet es' t') ho
  rw [putSet_of es' t' hd] at e
  exact e rfl
theorem add_str {a : Addr} {S : List Str} {x : Str} {tk : Tok} {Q : Bool → Shared → Prop} (hS : TAt prog w s.heap a S) (hn : S.length + 1 < 4096)
    (h : ∀ b h', Heap.SameBut a s.heap h' → TAt prog w h' a (add1 S x) → Q b { s with heap := h' }) :
    wpAny (model prog w) A (setAddHashed a (.str x tk) ((PySem.strKind prog w).hash x)) Q E s := by
  obtain ⟨o, ho, es, ep, t, hex, hd, hel, hp, hf, hled, hpl⟩ := hS
  have hlen : es.size = S.length := by rw [← hp.length_eq, List.length_map, Array.length_toList]
  have hb : es.size < scanBound := by show es.size < 4096; omega
  unfold setAddHashed
  unfold setAddHashedIn
  refine wpAny_holding (wpAny_bind (wpAny_setState_of ho hd hf ?_))
  dsimp only
  rw [byScan_of (x := .str x tk) rfl hb hel, if_pos rfl]
  unfold setAddByScan
  refine wpAny_bind (wpAny_bind (wpAny_rule (wpAny_bind (wpAny_setScan_of (k := x) (isK x tk) ho hd hf hel ?_))))
  cases hr : List.findIdx? (fun e => (PySem.strKind prog w).is x e.2) es.toList with
  | some j =>
    obtain ⟨hj, hpj, _⟩ := List.findIdx?_eq_some_iff_getElem.mp hr
    have hx : x ∈ S := hp.mem_iff.mp (List.mem_map.mpr ⟨_, List.getElem_mem hj, strOfK hpj⟩)
    dsimp only
    refine wpAny_pure (wpAny_pure ?_)
    have q := h false s.heap (Heap.SameBut.refl a s.heap) (by
      unfold add1
      rw [if_pos hx]
      exact ⟨o, ho, es, ep, t, hex, hd, hel, hp, hf, hled, hpl⟩)
    exact q
  | none =>
    have hx : x ∉ S := fun hx => by
      obtain ⟨e, he, z⟩ := List.mem_map.mp (hp.mem_iff.mpr hx)
      obtain ⟨⟨k, hk, _⟩, _⟩ := hel e he
      rw [strOfK hk] at z
      subst z
      have := List.findIdx?_eq_none_iff.mp hr e he
      rw [hk] at this; cases this
    dsimp only
    have hlp := layNew_perm t es ((PySem.strKind prog w).hash x) (.str x tk)
    have hlf := layNew_fits t es ((PySem.strKind prog w).hash x) (.str x tk)
    have hlk := layNew_kept t es ((PySem.strKind prog w).hash x) (.str x tk)
    generalize layNew t es ((PySem.strKind prog w).hash x) (.str x tk) = L at hlp hlf hlk ⊢
    obtain ⟨es1, t1, wd, gv⟩ := L
    dsimp only at hlp hlf hlk ⊢
    rw [Array.toList_push] at hlp
    have hel1 : ElemsOf (PySem.strKind prog w) es1.toList := (hel.push (isK x tk) rfl).perm hlp
    have hp1 : (es1.toList.map fun e => strOf e.2).Perm (S ++ [x]) := by
      refine (hlp.map _).trans ?_
      rw [List.map_append]
      exact hp.append_right [x]
    have hsz1 : es1.size = S.length + 1 := by rw [← Array.length_toList, ← List.length_map (f := fun e : Int × Value => strOf e.2), hp1.length_eq, List.length_append]; rfl
    have gw : ∀ (b : Bool) {s₁ : Shared} {Q' : Unit → Shared → Prop}, Q' () s₁ → wpAny (model prog w) A (match b with | true => rule "set.scan.the-table-gave-way" | false => pure ()) Q' E s₁ := by
      intro b s₁ Q' q
      cases b
      · exact wpAny_pure q
      · exact wpAny_rule q
    refine wpAny_bind (gw _ ?_)
    have fin : ∀ (t2 : SetTable), t2.fits es1.size = true → t2.led = t.led → t2.plain = false → wpAny (model prog w) A (do
        storeSet a es1 t2
        if (!wd && t2.tooFull) = true then do
            (match (relayAll t2 es1 (SetTable.grown es1.size)).2.2 with | true => rule "set.scan.the-table-gave-way" | false => pure ())
            storeSet a (relayAll t2 es1 (SetTable.grown es1.size)).1 (relayAll t2 es1 (SetTable.grown es1.size)).2.1
            pure (some true)
          else pure (some true)) (fun r s' => r = some true ∧ Q true s') E s := by
      intro t2 f2 l2 p2
      refine wpAny_bind (wpAny_storeSet_of ho hd ?_ (by rw [hsz1, sizeLine_eq]; omega))
      have ho1 := upd_set es1 t2 ho hd
      have sb1 := Heap.SameBut.update s.heap a (Obj.putSet es1 t2)
      split
      · have rp := relayAll_perm t2 es1 (SetTable.grown es1.size)
        have rf := relayAll_fits t2 es1 (SetTable.grown es1.size)
        have rk := relayAll_kept t2 es1 (SetTable.grown es1.size)
        generalize relayAll t2 es1 (SetTable.grown es1.size) = Rl at rp rf rk ⊢
        obtain ⟨es2, t3, g2⟩ := Rl
        dsimp only at rp rf rk ⊢
        have hsz2 : es2.size = es1.size := by rw [← Array.length_toList, rp.length_eq, Array.length_toList]
        refine wpAny_bind (gw _ ?_)
        refine wpAny_bind (wpAny_storeSet_of ho1 rfl ?_ (by rw [hsz2, hsz1, sizeLine_eq]; omega))
        refine wpAny_pure ⟨rfl, h true _ (sb1.trans (Heap.SameBut.update _ a _)) ⟨_, upd_set es2 t3 ho1 rfl, es2, _, t3, hex, rfl, hel1.perm rp, ?_, rf, rk.1.trans (l2.trans hled), fun _ => ?_⟩⟩
        · unfold add1; rw [if_neg hx]; exact (rp.map _).trans hp1
        · cases hh : t3.plain with
          | false => rfl
          | true => rw [rk.2 hh] at p2; cases p2
      · refine wpAny_pure ⟨rfl, h true _ sb1 ⟨_, ho1, es1, _, t2, hex, rfl, hel1, ?_, f2, l2.trans hled, fun _ => p2⟩⟩
        unfold add1; rw [if_neg hx]; exact hp1
    cases hpt : t1.plain with
    | true =>
      rw [if_pos rfl]
      refine wpAny_bind ?_
      rw [hashByValue_scannable 8 (x := .str x tk) rfl]
      refine wpAny_pure ?_
      refine wpAny_mono (fin _ ?_ ?_ ?_) ?_ (fun _ _ z => z)
      · rw [if_neg (by simp [plainKind])]; exact SetTable.fits_plain_off hlf
      · rw [if_neg (by simp [plainKind])]; exact hlk.1
      · rw [if_neg (by simp [plainKind])]
      · rintro r s' ⟨rfl, q⟩
        exact wpAny_pure q
    | false =>
      rw [if_neg (by decide)]
      refine wpAny_bind (wpAny_pure ?_)
      refine wpAny_mono (fin _ ?_ ?_ ?_) ?_ (fun _ _ z => z)
      · rw [if_pos rfl]; exact hlf
      · rw [if_pos rfl]; exact hlk.1
      · rw [if_pos rfl]; exact hpt
      · rintro r s' ⟨rfl, q⟩
        exact wpAny_pure q
end
noncomputable def all1 (val : Nat → Str) : Nat → List Str
  | 0 => []
  | i + 1 => add1 (all1 val i) (val i)
theorem add1_len (S : List Str) (x : Str) : (add1 S x).length ≤ S.length + 1 := by
  unfold add1
  split
  · omega
  · rw [List.length_append]; exact Nat.le_refl _
theorem all1_len (val : Nat → Str) : ∀ i, (all1 val i).length ≤ i
  | 0 => Nat.le_refl _
  | i + 1 => Nat.le_trans (add1_len ..) (Nat.succ_le_succ (all1_len val i))
theorem TAt.keep {prog : Program} {w : World} {h h' : Heap} {a : Addr} {S : List Str} (x : TAt prog w h a S) (e : ∀ o, h.get? a = some o → h'.get? a = some o) : TAt prog w h' a S :=
  let ⟨o, ho, r⟩ := x; ⟨o, e o ho, r⟩
section
variable {prog : Program} {w : World} {A : Around} {R : Result → Shared → Prop} {I : Addr} {fp wr : List Addr} {G : Array GenState → Array GenState → Prop} {n : Nat} {P : Nat → Value → Prop} {St : Nat → Shared → Prop}
theorem loop_str (W : WalksS prog w A.in1 I fp wr G n P St) (a : Addr) (ha : a ∉ fp) (val : Nat → Str) (hval : ∀ i v, P i v → ∃ t, v = .str (val i) t) (hn : n < 4000) :
    ∀ (k i : Nat) (s : Shared), n - i = k → i ≤ n → St i s → TAt prog w s.heap a (all1 val i) →
      (∀ s', Moved (a :: wr) G s s' → TAt prog w s'.heap a (all1 val n) → R (.ok (.ret .none)) s') →
      codeAny (model prog w) A (.builtin "set.update.loop" ⟨[.ref a, .ref I], []⟩) R s := by
  have haw : a ∉ wr := fun z => ha (W.sub _ z)
  have sub : ∀ b ∈ wr, b ∈ a :: wr := fun b z => List.mem_cons_of_mem _ z
  intro k
  induction k with
  | zero =>
    intro i s hk hi hst hS hR
    obtain rfl : i = n := by omega
    refine codeAny_builtin PyProof.Rows.F.entry_set_update_loop ?_
    rw [Around.under_plainId PyProof.Rows.F.plain_set_update_loop _]
    show wpAny _ A.in1 (pyNext (.ref I) >>= _) _ _ s
    refine wpAny_bind (W.done s _ _ hst fun s' hm => ?_)
    exact wpAny_pure (hR s' (hm.mono sub) (hS.keep fun o e => hm.heap a o haw e))
  | succ k ih =>
    intro i s hk hi hst hS hR
    have hlt : i < n := by omega
    refine codeAny_builtin PyProof.Rows.F.entry_set_update_loop ?_
    rw [Around.under_plainId PyProof.Rows.F.plain_set_update_loop _]
    show wpAny _ A.in1 (pyNext (.ref I) >>= _) _ _ s
    refine wpAny_bind (W.item i s _ _ hlt hst fun v s' hP hst' hm => ?_)
    obtain ⟨t, rfl⟩ := hval i v hP
    have hS' : TAt prog w s'.heap a (all1 val i) := hS.keep fun o e => hm.heap a o haw e
    show wpAny _ A.in1 (holding [Value.str (val i) t] (setAdd a (.str (val i) t)) >>= _) _ _ s'
    refine wpAny_bind (wpAny_holding ?_)
    unfold setAdd
    refine wpAny_holding (wpAny_bind ((PySem.strKind prog w).pyHash (k := val i) (isK _ _) ?_))
    have := all1_len val i
    refine add_str (s := { s' with toks := s'.toks + 1 }) hS' (by omega) fun b h' hsb hS2 => ?_
    refine wpAny_pure ⟨plainId_quiet PyProof.Rows.F.plain_set_update_loop _, ih (i + 1) _ (by omega) hlt (W.frame _ s' _ _ hst' (Nat.le_succ _) fun b hb o e => ?_) hS2 fun s'' hm'' hS'' => ?_⟩
    · rw [hsb.2 b fun z : b = a => ha (z ▸ hb)]; exact e
    · refine hR s'' (Moved.trans W.gtrans ((hm.mono sub).then_heap (Nat.le_succ _) fun b o hb e => ?_) hm'') hS''
      rw [hsb.2 b fun z : b = a => hb (z ▸ List.mem_cons_self)]; exact e
end
namespace F
theorem sub_tuple_set : isSubtype (.type "tuple") (.type "set") = pure false := by rw [isSubtype_type]; kernel_rfl
theorem sub_tuple_frozenset : isSubtype (.type "tuple") (.type "frozenset") = pure false := by rw [isSubtype_type]; kernel_rfl
end F
noncomputable def freshSet (led : Bool) : Obj := { cls := .type "set", dict := none, data := .set #[] 0 (.fresh 0 0 led) }
section
variable {prog : Program} {w : World} {A : Around} {E : Value → Shared → Prop} {s : Shared}
theorem set_new (a : Value) {Q₁ : Value → Shared → Prop} (h : Q₁ (.ref s.heap.objs.size) { s with heap := s.heap.push (freshSet (!w.params.followText "set-order")) }) :
    codeAny (model prog w) A (.call (.builtin "set.__new__") ⟨[.type "set", a], []⟩) (wants Q₁ E) s := by
  refine codeAny_of_tree ?_
  show wpAny _ A.in1 (do checkBuiltinCall "set.__new__" ⟨[.type "set", a], []⟩; again (.builtin "set.__new__" ⟨[.type "set", a], []⟩)) _ _ s
  refine wpAny_bind (wpAny_of_eq (PySem.F.newCall_set_1 a) (wpAny_pure ⟨plainId_quiet PySem.F.plain_set_new _, codeAny_builtin PySem.F.entry_set_new ?_⟩))
  rw [Around.under_plainId PySem.F.plain_set_new _]
  unfold Builtin.«set.__new__» Builtin.Frozenset.newClass
  have hsub := sub_set_self
  obtain ⟨hp, g, d, tk, os⟩ := s
  dsimp only
  wp_walk
  refine wpAny_askSetting (wpAny_pure ?_)
  dsimp only
  simp only [newObj]
  refine wpAny_bind (wpAny_alloc (wpAny_pure ?_))
  exact wpAny_pure h
theorem TAt_fresh {h : Heap} {a : Addr} (e : h.get? a = some (freshSet (!w.params.followText "set-order"))) : TAt prog w h a [] :=
  ⟨_, e, #[], 0, _, ⟨rfl, rfl, rfl⟩, rfl, fun e he => by simp at he, .nil, rfl, rfl, fun z => absurd rfl z⟩
theorem call_set {l : Addr} {T : String} {ob : Obj} {n : Nat} {P : Nat → Value → Prop} {St : Addr → Nat → Heap → Prop} {val : Nat → Str} {Q : Value → Shared → Prop}
    (hh : A.handled = none) (hT : s.TypeIs (.ref l) T) (h1 : isSubtype (.type T) (.type "set") = pure false) (h2 : isSubtype (.type T) (.type "frozenset") = pure false) (h3 : (Value.type T == Value.type "dict") = false)
    (it : ∀ {A' : Around} {s' : Shared} {Q' : Value → Shared → Prop} {E' : Value → Shared → Prop}, (∀ b o, s.heap.get? b = some o → s'.heap.get? b = some o) → Q' (.ref s'.heap.objs.size) { s' with heap := s'.heap.push ob } → wpAny (model prog w) A' (pyIter (.ref l)) Q' E' s')
    (hob : ob.isFreed = false) (W : ∀ {A' : Around} (I : Addr), A'.handled = none → l ≠ I → Walks prog w A' I [I, l] [I] n P (St I)) (st0 : ∀ I h', (∀ b o, s.heap.get? b = some o → h'.get? b = some o) → h'.get? I = some ob → St I 0 h')
    (hval : ∀ i v, P i v → ∃ t, v = .str (val i) t) (hn : n < 4000)
    (h : ∀ (h' : Heap) (tk : Nat), TAt prog w h' s.heap.objs.size (all1 val n) → (∀ b o, b < s.heap.objs.size → s.heap.get? b = some o → h'.get? b = some o) → Q (.ref s.heap.objs.size) { s with heap := h', toks := tk }) :
    wpAny (model prog w) A (call (.type "set") [.ref l]) Q E s := by
  obtain ⟨c, tl, hmro⟩ := PySem.F.called_set.mro
  have hmade := PySem.F.called_set.made
  have hsub := PySem.F.called_set.sub
  have g1 := PySem.F.called_set.notType
  have g2 := PySem.F.called_set.canCreate
  have hct := PySem.F.typeCall_set_1 (.ref l)
  refine wpAny_call (codeAny_of_tree ?_)
  show wpAny _ _ (callAny (.type "set") _) _ _ _
  refine wpAny_pure ⟨Code.quiet_builtin _ (by decide +kernel), codeAny_builtin PySem.F.entry_type_call ?_⟩
  rw [Around.under_plain (weight_type_call_type "set" [.ref l] []) rfl]
  repeat (any_goals (first | assumption | wp_step))
  generalize hled : (!w.params.followText "set-order") = led
  refine codeAny_mono (set_new (.ref l) (E := E) (Q₁ := fun u s₁ => u = .ref s.heap.objs.size ∧ s₁ = { s with heap := s.heap.push (freshSet led) }) ⟨rfl, by rw [hled]⟩) fun r s₁ hr => ?_
  cases r with
  | error e => exact hr
  | ok fl =>
    cases fl with
    | ret u =>
      obtain ⟨rfl, rfl⟩ := hr
      have gS : (s.heap.push (freshSet led)).get? s.heap.objs.size = some (freshSet led) := Heap.get?_push_size _ rfl
      have tS : Shared.TypeIs { s with heap := s.heap.push (freshSet led) } (.ref s.heap.objs.size) "set" := ⟨_, gS, rfl⟩
      have hli := PySem.F.called_set.init.lookup
      have hbi := PySem.F.called_set.init.bind (.ref s.heap.objs.size)
      repeat (any_goals (first | assumption | wp_step))
      refine codeAny_mono (codeAny_call_builtin (R := wants (fun r s₂ => r = .none ∧ ∃ h' tk, s₂ = { s with heap := h', toks := tk } ∧ TAt prog w h' s.heap.objs.size (all1 val n) ∧ (∀ b o, b < s.heap.objs.size → s.heap.get? b = some o → h'.get? b = some o)) E) PySem.F.called_set.init.plain PySem.F.entry_set_init (check_set_init_1 tS ?_)) fun r₂ s₂ hr₂ => ?_
      · have hlS : l < s.heap.objs.size := by obtain ⟨o, ho, _⟩ := hT; exact Heap.lt_size ho
        have kp : ∀ b o, s.heap.get? b = some o → (s.heap.push (freshSet led)).get? b = some o := fun b o e => Heap.get?_push_of_some _ e
        have tl1 : Shared.TypeIs { s with heap := s.heap.push (freshSet led) } (.ref l) T := by obtain ⟨o, ho, z⟩ := hT; exact ⟨o, kp _ _ ho, z⟩
        unfold Builtin.«set.__init__» noKeywords Builtin.Frozenset.updateFrom
        generalize hPI : pyIter = PI
        wp_walk
        subst hPI
        refine it kp ?_
        have sz : (s.heap.push (freshSet led)).objs.size = s.heap.objs.size + 1 := Heap.size_push ..
        have kp2 : ∀ b o, s.heap.get? b = some o → ((s.heap.push (freshSet led)).push ob).get? b = some o := fun b o e => Heap.get?_push_of_some _ (kp b o e)
        have hne : l ≠ (s.heap.push (freshSet led)).objs.size := by rw [sz]; exact Nat.ne_of_lt (Nat.lt_succ_of_lt hlS)
        have hSf : s.heap.objs.size ∉ [(s.heap.push (freshSet led)).objs.size, l] := by
          rw [sz]
          simp only [List.mem_cons, List.not_mem_nil, or_false]
          rintro (z | z)
          · exact absurd z (by omega)
          · rw [z] at hlS; exact Nat.lt_irrefl _ hlS
        refine wpAny_bind (wpAny_runValue ?_)
        refine loop_str (W (A' := A.in1.in1.in1) _ hh hne).toS s.heap.objs.size hSf val hval hn (n - 0) 0 _ rfl (Nat.zero_le _) ?_ ?_ ?_
        · exact st0 _ _ kp2 (Heap.get?_push_size _ hob)
        · exact TAt_fresh (by rw [hled]; exact Heap.get?_push_of_some _ gS)
        · intro s' hm hS'
          obtain ⟨h', g', d', tk', os'⟩ := s'
          obtain rfl : g' = s.gens := hm.gens
          obtain rfl : d' = s.drawn := hm.drawn
          obtain rfl : os' = s.os := hm.os
          refine wpAny_pure (wpAny_pure ⟨rfl, h', tk', rfl, hS', fun b o hb e => hm.heap b o ?_ (kp2 b o e)⟩)
          rw [sz]
          simp only [List.mem_cons, List.not_mem_nil, or_false]
          rintro (z | z)
          · exact Nat.ne_of_lt hb z
          · exact Nat.ne_of_lt (Nat.lt_succ_of_lt hb) z
      · cases r₂ with
        | error e => exact hr₂
        | ok fl₂ =>
          cases fl₂ with
          | ret r =>
            obtain ⟨rfl, h', tk, rfl, hS', hk'⟩ := hr₂
            repeat (any_goals (first | assumption | wp_step))
            exact h _ _ hS' hk'
          | _ => exact hr₂.elim
    | _ => exact hr.elim
theorem set_tuple {l : Addr} {its : Array Value} {ss : List Str} {Q : Value → Shared → Prop} (hh : A.handled = none) (hl : s.heap.IsTuple l its) (hS : StrsAre its.toList ss) (hn : ss.length < 4000)
    (h : ∀ (h' : Heap) (tk : Nat), TAt prog w h' s.heap.objs.size (all1 (fun i => ss.getD i ⟨#[]⟩) ss.length) → (∀ b o, b < s.heap.objs.size → s.heap.get? b = some o → h'.get? b = some o) → Q (.ref s.heap.objs.size) { s with heap := h', toks := tk }) :
    wpAny (model prog w) A (call (.type "set") [.ref l]) Q E s := by
  have el : its.size = ss.length := by rw [← Array.length_toList, hS.length]
  rw [← el] at h
  refine call_set (T := "tuple") (St := fun I i h => h.IsTupleIter I l i ∧ h.IsTuple l its) (ob := { cls := .type "tuple_iterator", data := .fields #[.ref l, .int 0 0] }) (P := fun i v => its[i]? = some v) hh hl.typeIs F.sub_tuple_set F.sub_tuple_frozenset (by decide) (fun kp q => wpAny_pyIter_tuple (hl.at (kp l)) q) rfl (fun I h1 h2 => Walks.tuple h1 I l h2 its)
    (fun I h' kp e => ⟨⟨_, e, rfl, rfl⟩, hl.at (kp l)⟩) ?_ (by omega) h
  intro i v hv
  rw [← Array.getElem?_toList] at hv
  clear h
  revert i
  generalize its.toList = vs at hS
  clear el hn
  induction hS with
  | nil => intro i hv; simp at hv
  | cons x t r ih =>
    intro i hv
    cases i with
    | zero => simp at hv; exact ⟨t, by rw [← hv]; rfl⟩
    | succ i =>
      rw [List.getElem?_cons_succ] at hv
      obtain ⟨t', e⟩ := ih i hv
      exact ⟨t', e⟩
theorem set_list {l : Addr} {its : Array Value} {ss : List Str} {Q : Value → Shared → Prop} (hh : A.handled = none) (hl : s.heap.IsList l its) (hS : StrsAre its.toList ss) (hn : ss.length < 4000)
    (h : ∀ (h' : Heap) (tk : Nat), TAt prog w h' s.heap.objs.size (all1 (fun i => ss.getD i ⟨#[]⟩) ss.length) → (∀ b o, b < s.heap.objs.size → s.heap.get? b = some o → h'.get? b = some o) → Q (.ref s.heap.objs.size) { s with heap := h', toks := tk }) :
    wpAny (model prog w) A (call (.type "set") [.ref l]) Q E s := by
  have el : its.size = ss.length := by rw [← Array.length_toList, hS.length]
  rw [← el] at h
  refine call_set (T := "list") (St := fun I i h => h.IsListIter I l i ∧ h.IsList l its) (ob := { cls := .type "list_iterator", data := .fields #[.ref l, .int 0 0] }) (P := fun i v => its[i]? = some v) hh hl.typeIs PySem.F.sub_list_set PySem.F.sub_list_frozenset (by decide) (fun kp q => wpAny_pyIter_list (hl.at (kp l)) q) rfl (fun I h1 h2 => Walks.list h1 I l h2 its)
    (fun I h' kp e => ⟨⟨_, e, rfl, rfl⟩, hl.at (kp l)⟩) ?_ (by omega) h
  intro i v hv
  rw [← Array.getElem?_toList] at hv
  clear h
  revert i
  generalize its.toList = vs at hS
  clear el hn
  induction hS with
  | nil => intro i hv; simp at hv
  | cons x t r ih =>
    intro i hv
    cases i with
    | zero => simp at hv; exact ⟨t, by rw [← hv]; rfl⟩
    | succ i =>
      rw [List.getElem?_cons_succ] at hv
      obtain ⟨t', e⟩ := ih i hv
      exact ⟨t', e⟩
end
theorem mem_add1 {S : List Str} {x y : Str} : y ∈ add1 S x ↔ y ∈ S ∨ y = x := by
  unfold add1
  split
  · exact ⟨.inl, fun z => z.elim id fun e => e ▸ ‹_›⟩
  · simp
theorem nodup_add1 {S : List Str} {x : Str} (h : S.Nodup) : (add1 S x).Nodup := by
  unfold add1
  split
  · exact h
  · rw [List.nodup_append]
    refine ⟨h, by simp, fun a ha b hb => ?_⟩
    simp only [List.mem_singleton] at hb
    subst hb
    intro e
    subst e
    exact absurd ha ‹_›
theorem nodup_all1 (val : Nat → Str) : ∀ n, (all1 val n).Nodup
  | 0 => List.nodup_nil
  | n + 1 => nodup_add1 (nodup_all1 val n)
theorem mem_all1 (val : Nat → Str) (y : Str) : ∀ n, y ∈ all1 val n ↔ ∃ i, i < n ∧ val i = y
  | 0 => by simp [all1]
  | n + 1 => by
    show y ∈ add1 _ _ ↔ _
    rw [mem_add1, mem_all1 val y n]
    constructor
    · rintro (⟨i, h, e⟩ | e)
      · exact ⟨i, by omega, e⟩
      · exact ⟨n, by omega, e.symm⟩
    · rintro ⟨i, h, e⟩
      rcases Nat.lt_or_ge i n with z | z
      · exact .inl ⟨i, z, e⟩
      · obtain rfl : i = n := by omega
        exact .inr e.symm
theorem mem_all1' (ss : List Str) (y : Str) : y ∈ all1 (fun i => ss.getD i ⟨#[]⟩) ss.length ↔ y ∈ ss := by
  rw [mem_all1]
  constructor
  · rintro ⟨i, h, e⟩
    have : ss.getD i ⟨#[]⟩ = ss[i] := by simp [h]
    rw [this] at e
    exact e ▸ List.getElem_mem h
  · intro h
    obtain ⟨i, h1, e⟩ := List.getElem_of_mem h
    exact ⟨i, h1, by simp [h1, e]⟩
end M5
set_option Elab.async false
set_option linter.all false
set_option maxRecDepth 100000
set_option maxHeartbeats 4000000
namespace M5
open PySem PySem.Spec PyProof.Rows
namespace F
theorem owner_si : Manifest.owners.lookup (String.ofList ['r', 'o', 't', 'a', 'r', 'e', 't', 'i', '_', 't', 'e', 's'].reverse) = some Manifest.sig_set_iterator := by kernel_rfl
theorem owner_s : Manifest.owners.lookup (String.ofList ['t', 'e', 's'].reverse) = some Manifest.sig_set := by kernel_rfl
theorem slot_next : Slot "set_iterator" "__next__" "set_iterator.__next__" :=
  .of (owner := "set_iterator") (n := "__next__") (by rw [typeLookup_type, builtinLookup_eq_fast]; kernel_rfl) (by decide +kernel) (by decide +kernel) (by decide +kernel)
    (by first | exact .inl (by decide +kernel) | exact .inr (by decide +kernel)) (by rw [isSubtype_type]; kernel_rfl)
theorem entry_next : entryFor table "set_iterator.__next__" = some Builtin.«set_iterator.__next__» := entryFor_of_tree (by kernel_rfl)
theorem args_next (a : Value) : argsOk "set_iterator.__next__" ⟨[a], []⟩ := by
  unfold argsOk; rw [signature?_of (id := "set_iterator.__next__") (n := ['_', '_', 't', 'x', 'e', 'n', '_', '_']) (o := ['r', 'o', 't', 'a', 'r', 'e', 't', 'i', '_', 't', 'e', 's']) (by kernel_rfl) owner_si]; kernel_rfl
theorem slot_iter : Slot "set_iterator" "__iter__" "set_iterator.__iter__" :=
  .of (owner := "set_iterator") (n := "__iter__") (by rw [typeLookup_type, builtinLookup_eq_fast]; kernel_rfl) (by decide +kernel) (by decide +kernel) (by decide +kernel)
    (by first | exact .inl (by decide +kernel) | exact .inr (by decide +kernel)) (by rw [isSubtype_type]; kernel_rfl)
theorem args_iter (a : Value) : argsOk "set_iterator.__iter__" ⟨[a], []⟩ := by
  unfold argsOk; rw [signature?_of (id := "set_iterator.__iter__") (n := ['_', '_', 'r', 'e', 't', 'i', '_', '_']) (o := ['r', 'o', 't', 'a', 'r', 'e', 't', 'i', '_', 't', 'e', 's']) (by kernel_rfl) owner_si]; kernel_rfl
theorem entry_iter : entryFor table "set_iterator.__iter__" = some Builtin.«dict_keyiterator.__iter__» :=
  entryFor_alias (id' := "dict_keyiterator.__iter__") (by kernel_rfl) (by first | rfl | decide +kernel | (unfold String.splitOn; simp +decide [String.splitOnAux])) (by decide +kernel) (by kernel_rfl)
theorem slot_siter : Slot "set" "__iter__" "set.__iter__" :=
  .of (owner := "set") (n := "__iter__") (by rw [typeLookup_type, builtinLookup_eq_fast]; kernel_rfl) (by decide +kernel) (by decide +kernel) (by decide +kernel)
    (by first | exact .inl (by decide +kernel) | exact .inr (by decide +kernel)) (by rw [isSubtype_type]; kernel_rfl)
theorem args_siter (a : Value) : argsOk "set.__iter__" ⟨[a], []⟩ := by
  unfold argsOk; rw [signature?_of (id := "set.__iter__") (n := ['_', '_', 'r', 'e', 't', 'i', '_', '_']) (o := ['t', 'e', 's']) (by kernel_rfl) owner_s]; kernel_rfl
theorem entry_siter : entryFor table "set.__iter__" = some Builtin.«frozenset.__iter__» :=
  entryFor_alias (id' := "frozenset.__iter__") (by kernel_rfl) (by first | rfl | decide +kernel | (unfold String.splitOn; simp +decide [String.splitOnAux])) (by decide +kernel) (by kernel_rfl)
end F
noncomputable def itO (first : Value) (i : Nat) (a : Addr) (n ep : Nat) : Obj := { cls := .type "set_iterator", data := .fields #[first, rawInt i, .ref a, rawInt n, rawInt ep] }
noncomputable def IsIt (h : Heap) (I : Addr) (first : Value) (i : Nat) (a : Addr) (n ep : Nat) : Prop := ∃ o, h.get? I = some o ∧ o.cls = .type "set_iterator" ∧ o.data = .fields #[first, rawInt i, .ref a, rawInt n, rawInt ep]
noncomputable def SAt (h : Heap) (a : Addr) (es : Array (Int × Value)) (ep : Nat) (t : SetTable) : Prop := ∃ o, h.get? a = some o ∧ o.cls = .type "set" ∧ o.data = .set es ep t
theorem IsIt.at {h h' : Heap} {I a : Addr} {f : Value} {i n ep : Nat} (x : IsIt h I f i a n ep) (e : ∀ o, h.get? I = some o → h'.get? I = some o) : IsIt h' I f i a n ep := let ⟨o, ho, r⟩ := x; ⟨o, e _ ho, r⟩
theorem SAt.at {h h' : Heap} {a : Addr} {es : Array (Int × Value)} {ep : Nat} {t : SetTable} (x : SAt h a es ep t) (e : ∀ o, h.get? a = some o → h'.get? a = some o) : SAt h' a es ep t := let ⟨o, ho, r⟩ := x; ⟨o, e _ ho, r⟩
section
variable {prog : Program} {w : World} {A : Around} {E : Value → Shared → Prop} {s : Shared}
theorem IsIt.typeIs {I a : Addr} {f : Value} {i n ep : Nat} (x : IsIt s.heap I f i a n ep) : s.TypeIs (.ref I) "set_iterator" := let ⟨o, ho, hc, _⟩ := x; ⟨o, ho, hc⟩
theorem SAt.typeIs {a : Addr} {es : Array (Int × Value)} {ep : Nat} {t : SetTable} (x : SAt s.heap a es ep t) : s.TypeIs (.ref a) "set" := let ⟨o, ho, hc, _⟩ := x; ⟨o, ho, hc⟩
theorem any_choose {src : Source} {n : Nat} {Q : Nat → Shared → Prop} (hn : n ≠ 0) (h : ∀ i d, i < n → Q i { s with drawn := d }) : wpAny (model prog w) A (choose src n) Q E s := by
  intro Γ p hΓ
  show Sem.wp _ _ (.choose src n .pure) _ _ _ _
  rw [Sem.wp_choose]
  exact ⟨hn, h _ _ (Nat.mod_lt _ (Nat.pos_of_ne_zero hn))⟩
theorem erase_perm {α : Type} : ∀ {l : List α} {i : Nat} (h : i < l.length), (l[i] :: l.eraseIdx i).Perm l
  | x :: r, 0, h => .refl _
  | x :: r, i + 1, h => by
    have h' : i < r.length := Nat.lt_of_succ_lt_succ h
    show (r[i] :: x :: r.eraseIdx i).Perm (x :: r)
    exact (List.Perm.swap ..).trans ((erase_perm (Nat.lt_of_succ_lt_succ h)).cons x)
theorem any_draw {α : Type} : ∀ (n : Nat) (xs : List α) {s : Shared} {Q : List α → Shared → Prop}, xs.length = n → (∀ ys d, ys.Perm xs → Q ys { s with drawn := d }) → wpAny (model prog w) A (drawOrder n xs) Q E s
  | 0, xs, s, Q, hl, h => by
    obtain rfl : xs = [] := List.eq_nil_of_length_eq_zero hl
    unfold drawOrder
    exact wpAny_pure (h [] s.drawn .nil)
  | n + 1, [], s, Q, hl, h => by cases hl
  | n + 1, x :: r, s, Q, hl, h => by
    unfold drawOrder
    refine wpAny_bind (any_choose (by simp) fun i d hi => ?_)
    rw [List.getElem?_eq_getElem hi]
    dsimp only
    refine wpAny_bind (any_draw n _ ?_ fun ys d2 hp => ?_)
    · rw [List.length_eraseIdx, if_pos hi, hl]; rfl
    · refine wpAny_pure (h _ d2 ((hp.cons _).trans ?_))
      exact erase_perm hi
theorem pick_go {α : Type} (next : Nat → Nat) : ∀ (n k : Nat) (left : List α) (out : Array α), left.length = n → (pickOrder.go next n k left out).toList.Perm (out.toList ++ left)
  | 0, k, left, out, h => by
    obtain rfl : left = [] := List.eq_nil_of_length_eq_zero h
    unfold pickOrder.go
    simp
  | n + 1, k, left, out, h => by
    unfold pickOrder.go
    have hi : next k % left.length < left.length := Nat.mod_lt _ (by omega)
    rw [List.getElem?_eq_getElem hi]
    dsimp only
    refine (pick_go next n (k + 1) _ _ ?_).trans ?_
    · rw [List.length_eraseIdx, if_pos hi, h]; rfl
    · rw [Array.toList_push, List.append_assoc]
      exact (erase_perm hi).append_left _
theorem pick_perm {α : Type} (next : Nat → Nat) (xs : Array α) : (pickOrder next xs).toList.Perm xs.toList := by
  unfold pickOrder
  have := pick_go next xs.size 0 xs.toList #[] Array.length_toList
  simpa using this
end
end M5
set_option Elab.async false
set_option linter.all false
set_option maxRecDepth 100000
set_option maxHeartbeats 4000000
namespace M5
open PySem PySem.Spec PyProof.Rows
section
variable {prog : Program} {w : World} {A : Around} {E : Value → Shared → Prop} {s : Shared}
theorem next_item {I a : Addr} {sl i n ep nx : Nat} {es : Array (Int × Value)} {t : SetTable} {x : Value} {Q : Option Value → Shared → Prop} (hit : IsIt s.heap I (rawInt sl) i a n ep) (hS : SAt s.heap a es ep t) (hf : t.fits es.size = true) (hn : es.size = n)
    (hs : ∀ {A' : Around} {Q' : Option (Value × Nat) → Shared → Prop} {E' : Value → Shared → Prop}, Q' (some (x, nx)) s → wpAny (model prog w) A' (setNext a sl i ep) Q' E' s)
    (hQ : ∀ h', IsIt h' I (rawInt nx) (i + 1) a n ep → Heap.SameBut I s.heap h' → Q (some x) { s with heap := h' }) : wpAny (model prog w) A (pyNext (.ref I)) Q E s := by
  obtain ⟨o, ho, hc, hd⟩ := id hit
  obtain ⟨os, hos, hcs, hds⟩ := id hS
  unfold pyNext
  refine wpAny_bind (wpAny_attempt (wpAny_callSpecial?_slot (name := Str.ofString "__next__") hit.typeIs F.slot_next
    (wpAny_call_entry F.slot_next hit.typeIs F.entry_next ?_ (F.args_next _))))
  unfold Builtin.«set_iterator.__next__»
  refine wpAny_bind (wpAny_of_eq (a := (Value.ref I, [])) rfl ?_)
  refine wpAny_bind (wpAny_fieldsOf ho hd ?_)
  dsimp only [rawInt]
  refine wpAny_bind (wpAny_setEntries_of hos hds hf ?_)
  rw [if_neg (by rw [hn]; simp)]
  refine wpAny_bind (hs ?_)
  dsimp only
  refine wpAny_bind (wpAny_setField ho hd (by simp) ?_)
  have ho2 := Heap.get?_update_self (Obj.mapFields (·.setIfInBounds 0 (rawInt nx))) ho (Obj.isFreed_of_fields (Obj.data_mapFields hd _))
  have hd2 := Obj.data_mapFields hd (·.setIfInBounds 0 (rawInt nx))
  refine wpAny_bind (wpAny_setField ho2 hd2 (by simp) ?_)
  refine wpAny_pure ⟨x, rfl, wpAny_pure (hQ _ ?_ ((Heap.SameBut.update ..).trans (Heap.SameBut.update ..)))⟩
  exact ⟨_, Heap.get?_update_self _ ho2 (Obj.isFreed_of_fields (Obj.data_mapFields hd2 _)), (Obj.cls_mapFields ..).trans ((Obj.cls_mapFields ..).trans hc), by
    rw [Obj.data_mapFields hd2]; simp [rawInt]⟩
theorem next_end {I a : Addr} {sl i n ep : Nat} {es : Array (Int × Value)} {t : SetTable} {Q : Option Value → Shared → Prop} (hh : A.handled = none) (hit : IsIt s.heap I (rawInt sl) i a n ep) (hS : SAt s.heap a es ep t) (hf : t.fits es.size = true) (hn : es.size = n)
    (hs : ∀ {A' : Around} {Q' : Option (Value × Nat) → Shared → Prop} {E' : Value → Shared → Prop}, Q' none s → wpAny (model prog w) A' (setNext a sl i ep) Q' E' s)
    (hQ : ∀ h', Heap.ExtBut I s.heap h' → Q none { s with heap := h' }) : wpAny (model prog w) A (pyNext (.ref I)) Q E s := by
  obtain ⟨o, ho, hc, hd⟩ := id hit
  obtain ⟨os, hos, hcs, hds⟩ := id hS
  unfold pyNext
  refine wpAny_bind (wpAny_attempt (wpAny_callSpecial?_slot (name := Str.ofString "__next__") hit.typeIs F.slot_next
    (wpAny_call_entry F.slot_next hit.typeIs F.entry_next ?_ (F.args_next _))))
  unfold Builtin.«set_iterator.__next__»
  refine wpAny_bind (wpAny_of_eq (a := (Value.ref I, [])) rfl ?_)
  refine wpAny_bind (wpAny_fieldsOf ho hd ?_)
  dsimp only [rawInt]
  refine wpAny_bind (wpAny_setEntries_of hos hds hf ?_)
  rw [if_neg (by rw [hn]; simp)]
  refine wpAny_bind (hs ?_)
  dsimp only
  refine wpAny_bind (wpAny_setField ho hd (by simp) ?_)
  refine wpAny_bind ?_
  simp only [newExc, newTuple]
  refine wpAny_bind (wpAny_newObj_type ?_ (by size_fits))
  refine wpAny_bind (m := firstArgMember _ _) (wpAny_of_eq (a := Value.none) (by first | rfl | (simp only [firstArgMember]; rfl)) ?_)
  refine wpAny_newObj_type ?_ (by size_fits)
  simp only [raiseNew]
  refine wpAny_bind (wpAny_handled ?_)
  first | rw [show A.in1.handled = none from hh] | rw [hh]
  refine wpAny_bind (wpAny_pure (wpAny_throw ?_))
  refine wpAny_bind (wpAny_isInstance (T := "StopIteration") (b := true) ⟨_, Heap.get?_push_size _ rfl, rfl⟩ isSubtype_stop ?_)
  refine wpAny_pure (hQ _ (Heap.ExtBut.push (Heap.ExtBut.push ?_ _) _))
  exact fun b ob hb e => (Heap.get?_update_other _ _ (Ne.symm hb)).trans e
theorem next_itemD {I T a : Addr} {i n ep pl : Nat} {tk : Tok} {es : Array (Int × Value)} {t : SetTable} {ps : Array Value} {hx : Int} {x : Value} {Q : Option Value → Shared → Prop} (hit : IsIt s.heap I (.ref T) i a n ep) (hS : SAt s.heap a es ep t) (hf : t.fits es.size = true) (hn : es.size = n)
    (hT : s.heap.IsTuple T ps) (hp : ps[i]? = some (.int pl tk)) (he : es[pl]? = some (hx, x))
    (hQ : ∀ h', IsIt h' I (.ref T) (i + 1) a n ep → Heap.SameBut I s.heap h' → Q (some x) { s with heap := h' }) : wpAny (model prog w) A (pyNext (.ref I)) Q E s := by
  obtain ⟨o, ho, hc, hd⟩ := id hit
  obtain ⟨os, hos, hcs, hds⟩ := id hS
  obtain ⟨ot, hot, hct, nt, hdt⟩ := id hT
  unfold pyNext
  refine wpAny_bind (wpAny_attempt (wpAny_callSpecial?_slot (name := Str.ofString "__next__") hit.typeIs F.slot_next
    (wpAny_call_entry F.slot_next hit.typeIs F.entry_next ?_ (F.args_next _))))
  unfold Builtin.«set_iterator.__next__»
  refine wpAny_bind (wpAny_of_eq (a := (Value.ref I, [])) rfl ?_)
  refine wpAny_bind (wpAny_fieldsOf ho hd ?_)
  dsimp only [rawInt]
  refine wpAny_bind (wpAny_setEntries_of hos hds hf ?_)
  rw [if_neg (by rw [hn]; simp)]
  refine wpAny_bind (wpAny_seqItems hot hdt ?_)
  dsimp only
  rw [Int.toNat_natCast, hp]
  dsimp only
  refine wpAny_bind ?_
  unfold setNextDrawn
  refine wpAny_bind (wpAny_setState_of hos hds hf ?_)
  dsimp only
  rw [if_neg (by simp), Int.toNat_natCast, he]
  dsimp only
  refine wpAny_pure ?_
  refine wpAny_bind (wpAny_setField ho hd (by simp) ?_)
  refine wpAny_pure ⟨x, rfl, wpAny_pure (hQ _ ?_ (Heap.SameBut.update ..))⟩
  exact ⟨_, Heap.get?_update_self _ ho (Obj.isFreed_of_fields (Obj.data_mapFields hd _)), (Obj.cls_mapFields ..).trans hc, by
    rw [Obj.data_mapFields hd]; simp [rawInt]⟩
theorem next_endD {I T a : Addr} {i n ep : Nat} {es : Array (Int × Value)} {t : SetTable} {ps : Array Value} {Q : Option Value → Shared → Prop} (hh : A.handled = none) (hit : IsIt s.heap I (.ref T) i a n ep) (hS : SAt s.heap a es ep t) (hf : t.fits es.size = true) (hn : es.size = n)
    (hT : s.heap.IsTuple T ps) (hp : ps[i]? = none)
    (hQ : ∀ h', Heap.ExtBut I s.heap h' → Q none { s with heap := h' }) : wpAny (model prog w) A (pyNext (.ref I)) Q E s := by
  obtain ⟨o, ho, hc, hd⟩ := id hit
  obtain ⟨os, hos, hcs, hds⟩ := id hS
  obtain ⟨ot, hot, hct, nt, hdt⟩ := id hT
  unfold pyNext
  refine wpAny_bind (wpAny_attempt (wpAny_callSpecial?_slot (name := Str.ofString "__next__") hit.typeIs F.slot_next
    (wpAny_call_entry F.slot_next hit.typeIs F.entry_next ?_ (F.args_next _))))
  unfold Builtin.«set_iterator.__next__»
  refine wpAny_bind (wpAny_of_eq (a := (Value.ref I, [])) rfl ?_)
  refine wpAny_bind (wpAny_fieldsOf ho hd ?_)
  dsimp only [rawInt]
  refine wpAny_bind (wpAny_setEntries_of hos hds hf ?_)
  rw [if_neg (by rw [hn]; simp)]
  refine wpAny_bind (wpAny_seqItems hot hdt ?_)
  dsimp only
  rw [Int.toNat_natCast, hp]
  dsimp only
  refine wpAny_bind (wpAny_setField ho hd (by simp) ?_)
  have ho2 := Heap.get?_update_self (Obj.mapFields (·.setIfInBounds 0 (rawInt 0))) ho (Obj.isFreed_of_fields (Obj.data_mapFields hd _))
  refine wpAny_bind (wpAny_setField ho2 (Obj.data_mapFields hd _) (by simp) ?_)
  refine wpAny_bind ?_
  simp only [newExc, newTuple]
  refine wpAny_bind (wpAny_newObj_type ?_ (by size_fits))
  refine wpAny_bind (m := firstArgMember _ _) (wpAny_of_eq (a := Value.none) (by first | rfl | (simp only [firstArgMember]; rfl)) ?_)
  refine wpAny_newObj_type ?_ (by size_fits)
  simp only [raiseNew]
  refine wpAny_bind (wpAny_handled ?_)
  first | rw [show A.in1.handled = none from hh] | rw [hh]
  refine wpAny_bind (wpAny_pure (wpAny_throw ?_))
  refine wpAny_bind (wpAny_isInstance (T := "StopIteration") (b := true) ⟨_, Heap.get?_push_size _ rfl, rfl⟩ isSubtype_stop ?_)
  refine wpAny_pure (hQ _ (Heap.ExtBut.push (Heap.ExtBut.push ?_ _) _))
  exact fun b ob hb e => (Heap.get?_update_other _ _ (Ne.symm hb)).trans ((Heap.get?_update_other _ _ (Ne.symm hb)).trans e)
end
end M5
set_option Elab.async false
set_option linter.all false
set_option maxRecDepth 100000
set_option maxHeartbeats 4000000
namespace M5
open PySem PySem.Spec PyProof.Rows
section
variable {prog : Program} {w : World} {A : Around} {E : Value → Shared → Prop} {s : Shared}
theorem iter_it {I a : Addr} {f : Value} {i n ep : Nat} {Q : Value → Shared → Prop} (hit : IsIt s.heap I f i a n ep) (h : Q (.ref I) s) : wpAny (model prog w) A (pyIter (.ref I)) Q E s := by
  refine wpAny_pyIter_slot hit.typeIs F.slot_iter (wpAny_call_entry F.slot_iter hit.typeIs F.entry_iter ?_ (F.args_iter _))
  show wpAny _ _ (ret (.ref I)) _ _ s
  exact wpAny_pure ⟨_, rfl, "set_iterator", _, hit.typeIs, F.slot_next.lookup, h⟩
theorem walksN {I a : Addr} {ep : Nat} {es : Array (Int × Value)} {t : SetTable} {ord : List Value} {sl : Nat → Nat} (hh : A.handled = none) (hne : a ≠ I) (hf : t.fits es.size = true) (hlen : ord.length = es.size)
    (hs : ∀ i x, ord[i]? = some x → ∀ {A' : Around} {s' : Shared} {Q' : Option (Value × Nat) → Shared → Prop} {E' : Value → Shared → Prop}, SAt s'.heap a es ep t → Q' (some (x, sl (i + 1))) s' → wpAny (model prog w) A' (setNext a (sl i) i ep) Q' E' s')
    (he : ∀ {A' : Around} {s' : Shared} {Q' : Option (Value × Nat) → Shared → Prop} {E' : Value → Shared → Prop}, SAt s'.heap a es ep t → Q' none s' → wpAny (model prog w) A' (setNext a (sl ord.length) ord.length ep) Q' E' s') :
    Walks prog w A I [I, a] [I] ord.length (fun i v => ord[i]? = some v) (fun i h => IsIt h I (rawInt (sl i)) i a es.size ep ∧ SAt h a es ep t) where
  sub := fun b hb => by simp at hb; simp [hb]
  frame := fun _ _ _ x hk => ⟨x.1.at fun o e => hk I (by simp) o e, x.2.at fun o e => hk a (by simp) o e⟩
  item := fun i s Q E hi x hQ => by
    have hx : ord[i]? = some ord[i] := List.getElem?_eq_getElem hi
    refine next_item x.1 x.2 hf rfl (hs i _ hx x.2) fun h' hit' hs' => ?_
    exact hQ _ h' s.toks hx ⟨hit', x.2.at fun o e => (hs'.2 a hne).trans e⟩ fun b o hb eo => hs'.extBut b o (fun z => hb (by simp [z])) eo
  done := fun s Q E x hQ => next_end hh x.1 x.2 hf rfl (he x.2) fun h' he' => hQ h' s.toks fun b o hb eo => he' b o (fun z => hb (by simp [z])) eo
  self := fun _ _ _ _ x hQ => iter_it x.1 hQ
theorem walksD {I T a : Addr} {ep : Nat} {es : Array (Int × Value)} {t : SetTable} {ps : List Nat} {ord : List Value} (hh : A.handled = none) (hne : a ≠ I) (hT : T ≠ I) (hf : t.fits es.size = true)
    (ho : ord.length = ps.length) (hs : ∀ i (h : i < ps.length) (h2 : i < ord.length), ∃ k, es[ps[i]]? = some (k, ord[i])) :
    Walks prog w A I [I, a, T] [I] ord.length (fun i v => ord[i]? = some v) (fun i h => IsIt h I (.ref T) i a es.size ep ∧ SAt h a es ep t ∧ h.IsTuple T (ps.map fun (i : Nat) => rawInt i).toArray) where
  sub := fun b hb => by simp at hb; simp [hb]
  frame := fun _ _ _ x hk => ⟨x.1.at fun o e => hk I (by simp) o e, x.2.1.at fun o e => hk a (by simp) o e, x.2.2.at fun o e => hk T (by simp) o e⟩
  item := fun i s Q E hi x hQ => by
    have hx : ord[i]? = some ord[i] := List.getElem?_eq_getElem hi
    have hi2 : i < ps.length := by omega
    obtain ⟨k, hk⟩ := hs i hi2 hi
    refine next_itemD (pl := ps[i]) (tk := 0) x.1 x.2.1 hf rfl x.2.2 (by simp [hi2, rawInt]) hk fun h' hit' hs' => ?_
    exact hQ _ h' s.toks hx ⟨hit', x.2.1.at fun o e => (hs'.2 a hne).trans e, x.2.2.at fun o e => (hs'.2 T hT).trans e⟩ fun b o hb eo => hs'.extBut b o (fun z => hb (by simp [z])) eo
  done := fun s Q E x hQ => next_endD hh x.1 x.2.1 hf rfl x.2.2 (by simp [ho]) fun h' he' => hQ h' s.toks fun b o hb eo => he' b o (fun z => hb (by simp [z])) eo
  self := fun _ _ _ _ x hQ => iter_it x.1 hQ
theorem by_text {Q : Bool → Shared → Prop} (h : Q (w.params.followText "set-order") s) : wpAny (model prog w) A setsByText Q E s := by
  unfold setsByText
  exact wpAny_bind (wpAny_askSetting (wpAny_pure h))
theorem nextA {a : Addr} {ep i : Nat} {es : Array (Int × Value)} {t : SetTable} {Q : Option (Value × Nat) → Shared → Prop} (hb : w.params.followText "set-order" = true) (hS : SAt s.heap a es ep t) (hf : t.fits es.size = true)
    (h : Q (((pickOrder (w.params.setOrder a ep) es)[i]?).map fun e => (e.2, 0)) s) : wpAny (model prog w) A (setNext a 0 i ep) Q E s := by
  obtain ⟨o, ho, hc, hd⟩ := hS
  unfold setNext
  refine wpAny_bind (wpAny_setState_of ho hd hf ?_)
  dsimp only
  refine wpAny_bind (by_text ?_)
  rw [if_pos hb]
  rw [if_neg (by simp)]
  refine wpAny_bind ?_
  unfold setWalk
  refine wpAny_bind (wpAny_setState_of ho hd hf ?_)
  dsimp only
  refine wpAny_bind (by_text ?_)
  rw [if_pos hb]
  refine wpAny_bind (wpAny_askSetting (wpAny_pure ?_))
  exact wpAny_pure h
theorem nextC {a : Addr} {ep i sl : Nat} {es : Array (Int × Value)} {t : SetTable} {Q : Option (Value × Nat) → Shared → Prop} (hb : w.params.followText "set-order" = false) (hS : SAt s.heap a es ep t) (hf : t.fits es.size = true) (h1 : es.size ≤ 1) (hl : t.led = true)
    (h : Q (match es[SetTable.below t.place sl]?, t.place[SetTable.below t.place sl]? with | some (_, x), some j => some (x, j + 1) | _, _ => none) s) : wpAny (model prog w) A (setNext a sl i ep) Q E s := by
  obtain ⟨o, ho, hc, hd⟩ := hS
  unfold setNext
  refine wpAny_bind (wpAny_setState_of ho hd hf ?_)
  dsimp only
  refine wpAny_bind (by_text ?_)
  rw [if_neg (by rw [hb]; decide)]
  rw [if_neg (by
    show ¬ ((!t.plain && decide (es.size > 1)) = true)
    rw [decide_eq_false (by omega)]; simp)]
  refine wpAny_bind ?_
  show wpAny _ _ (if (!t.led && !es.isEmpty) = true then unsupported "set:maker-not-led" else pure ()) _ _ _
  rw [if_neg (by rw [hl]; simp)]
  refine wpAny_pure (wpAny_pure ?_)
  exact h
theorem below0 (t : Array Nat) (h : t.size ≤ 1) : SetTable.below t 0 = 0 := by
  unfold SetTable.below
  match t, h with
  | ⟨[]⟩, _ => rfl
  | ⟨[j]⟩, _ =>
    show SetTable.below.go #[j] 0 1 0 1 = 0
    unfold SetTable.below.go
    simp [SetTable.below.go]
  | ⟨_ :: _ :: _⟩, h => simp at h
theorem below1 (j : Nat) : SetTable.below #[j] (j + 1) = 1 := by
  unfold SetTable.below
  show SetTable.below.go #[j] (j + 1) 1 0 1 = 1
  unfold SetTable.below.go
  simp [SetTable.below.go]
noncomputable def Texts (vs : List Value) (S : List Str) : Prop := (∀ v ∈ vs, ∃ x t, v = .str x t) ∧ (vs.map strOf).Perm S
theorem texts_of {es : Array (Int × Value)} {l : List (Int × Value)} {S : List Str} (hel : ElemsOf (PySem.strKind prog w) es.toList) (hp : (es.toList.map fun e => strOf e.2).Perm S) (h : l.Perm es.toList) : Texts (l.map (·.2)) S := by
  refine ⟨fun v hv => ?_, ?_⟩
  · obtain ⟨e, he, rfl⟩ := List.mem_map.mp hv
    obtain ⟨⟨k, hk, _⟩, _⟩ := hel e (h.mem_iff.mp he)
    obtain ⟨t, z⟩ := Value.isStrOf_shape hk
    exact ⟨k, t, z⟩
  · rw [List.map_map]
    exact (h.map _).trans hp
theorem pull {α : Type} (es : Array α) (ps : List Nat) (h : ps.Perm (List.range es.size)) : ∃ l : List α, l.length = ps.length ∧ l.Perm es.toList ∧ ∀ i (h : i < ps.length) (h2 : i < l.length), es[ps[i]]? = some l[i] := by
  have all : ∀ p ∈ ps, p < es.size := fun p hp => List.mem_range.mp (h.mem_iff.mp hp)
  have key : ∀ qs : List Nat, (∀ p ∈ qs, p < es.size) → ∃ l : List α, l.length = qs.length ∧ l = qs.filterMap (fun i => es[i]?) ∧ ∀ i (h : i < qs.length) (h2 : i < l.length), es[qs[i]]? = some l[i] := by
    intro qs
    induction qs with
    | nil => exact fun _ => ⟨[], rfl, rfl, fun i h => by simp at h⟩
    | cons q r ih =>
      intro a1
      obtain ⟨l, e1, e2, e3⟩ := ih fun p hp => a1 p (List.mem_cons_of_mem _ hp)
      have hq := a1 q List.mem_cons_self
      refine ⟨es[q] :: l, by simp [e1], by rw [List.filterMap_cons, Array.getElem?_eq_getElem hq, e2], fun i h h2 => ?_⟩
      cases i with
      | zero => simp [hq]
      | succ i => exact e3 i (by simpa using h) (by simpa using h2)
  obtain ⟨l, e1, e2, e3⟩ := key ps all
  refine ⟨l, e1, ?_, e3⟩
  rw [e2, ← filterMap_getElem?_range es]
  exact h.filterMap _
theorem iter_set {a : Addr} {S : List Str} {Q : Value → Shared → Prop} (hS : TAt prog w s.heap a S) (hn : S.length < 4000)
    (h : ∀ (I : Addr) (ord : List Value) (fp : List Addr) (St : Nat → Heap → Prop) (h' : Heap) d, (∀ b o, s.heap.get? b = some o → h'.get? b = some o) → s.heap.objs.size ≤ I → (∀ b ∈ fp, b = a ∨ s.heap.objs.size ≤ b) →
      (∀ {A' : Around}, A'.handled = none → Walks prog w A' I fp [I] ord.length (fun i v => ord[i]? = some v) St) → St 0 h' → Texts ord S → Q (.ref I) { s with heap := h', drawn := d }) :
    wpAny (model prog w) A (pyIter (.ref a)) Q E s := by
  obtain ⟨o, ho, es, ep, t, hex, hd, hel, hp, hf, hled, hpl⟩ := hS
  have sa : SAt s.heap a es ep t := ⟨o, ho, hex.1, hd⟩
  have la : a < s.heap.objs.size := Heap.lt_size ho
  refine wpAny_pyIter_slot sa.typeIs F.slot_siter (wpAny_call_entry F.slot_siter sa.typeIs F.entry_siter ?_ (F.args_siter _))
  unfold Builtin.«frozenset.__iter__»
  refine wpAny_bind (wpAny_of_eq (a := a) rfl ?_)
  refine wpAny_bind (wpAny_bind (wpAny_setEntries_of ho hd hf (wpAny_pure ?_)))
  refine wpAny_bind ?_
  unfold setDrawn
  refine wpAny_bind (wpAny_setState_of ho hd hf ?_)
  dsimp only
  refine wpAny_bind (by_text ?_)
  refine wpAny_pure ?_
  have hsz : es.size = S.length := by rw [← hp.length_eq, List.length_map, Array.length_toList]
  cases hb : w.params.followText "set-order" with
  | true =>
    rw [if_neg (by simp)]
    refine wpAny_bind (wpAny_pure ?_)
    refine wpAny_bind (wpAny_setEpoch_of ho hd hf ?_)
    refine wpAny_bind (wpAny_newObj_type ?_)
    have ho2 := Heap.get?_push_of_some (itO (rawInt 0) 0 a es.size ep) ho
    have hit : IsIt (s.heap.push (itO (rawInt 0) 0 a es.size ep)) s.heap.objs.size (rawInt 0) 0 a es.size ep := ⟨_, Heap.get?_push_size _ rfl, rfl, rfl⟩
    refine wpAny_pure ⟨_, rfl, "set_iterator", _, ⟨_, Heap.get?_push_size _ rfl, rfl⟩, F.slot_next.lookup, ?_⟩
    have hpk := pick_perm (w.params.setOrder a ep) es
    refine h s.heap.objs.size ((pickOrder (w.params.setOrder a ep) es).toList.map (·.2)) [s.heap.objs.size, a] _ _ s.drawn (fun b o e => Heap.get?_push_of_some _ e) (Nat.le_refl _) (fun b z => ?_)
      (fun {A'} hh => walksN (sl := fun _ => 0) (ep := ep) (es := es) (t := t) hh (Nat.ne_of_lt la) hf (by rw [List.length_map, hpk.length_eq, Array.length_toList]) ?_ ?_) ⟨hit, _, ho2, hex.1, hd⟩ (texts_of hel hp hpk)
    · simp only [List.mem_cons, List.not_mem_nil, or_false] at z
      rcases z with rfl | rfl
      · exact .inr (Nat.le_refl _)
      · exact .inl rfl
    · intro i x hx A' s' Q' E' sa' q
      refine nextA hb sa' hf ?_
      rw [List.getElem?_map, Array.getElem?_toList] at hx
      cases hy : (pickOrder (w.params.setOrder a ep) es)[i]? with
      | none => rw [hy] at hx; cases hx
      | some e => rw [hy] at hx; injection hx with hx; subst hx; exact q
    · intro A' s' Q' E' sa' q
      refine nextA hb sa' hf ?_
      rw [Array.getElem?_eq_none (by rw [List.length_map, Array.length_toList]; exact Nat.le_refl _)]
      exact q
  | false =>
    rw [hb] at hled
    by_cases hz : es.size ≤ 1
    · rw [if_neg (by
        show ¬ ((!false && (!t.plain && decide (es.size > 1))) = true)
        rw [decide_eq_false (by omega)]; simp)]
      refine wpAny_bind (wpAny_pure ?_)
      refine wpAny_bind (wpAny_setEpoch_of ho hd hf ?_)
      refine wpAny_bind (wpAny_newObj_type ?_)
      have ho2 := Heap.get?_push_of_some (itO (rawInt 0) 0 a es.size ep) ho
      have hit : IsIt (s.heap.push (itO (rawInt 0) 0 a es.size ep)) s.heap.objs.size (rawInt 0) 0 a es.size ep := ⟨_, Heap.get?_push_size _ rfl, rfl, rfl⟩
      refine wpAny_pure ⟨_, rfl, "set_iterator", _, ⟨_, Heap.get?_push_size _ rfl, rfl⟩, F.slot_next.lookup, ?_⟩
      have hps : t.place.size = es.size := by
        simp only [SetTable.fits, Bool.and_eq_true, beq_iff_eq] at hf
        exact hf.1
      refine h s.heap.objs.size (es.toList.map (·.2)) [s.heap.objs.size, a] _ _ s.drawn (fun b o e => Heap.get?_push_of_some _ e) (Nat.le_refl _) (fun b z => ?_)
        (fun {A'} hh => walksN (sl := fun i => if i = 0 then 0 else t.place.getD 0 0 + 1) (ep := ep) (es := es) (t := t) hh (Nat.ne_of_lt la) hf (by rw [List.length_map, Array.length_toList]) ?_ ?_) ⟨hit, _, ho2, hex.1, hd⟩ (texts_of hel hp (.refl _))
      · simp only [List.mem_cons, List.not_mem_nil, or_false] at z
        rcases z with rfl | rfl
        · exact .inr (Nat.le_refl _)
        · exact .inl rfl
      · intro i x hx A' s' Q' E' sa' q
        have hi : i < es.size := by
          have := (List.getElem?_eq_some_iff.mp hx).1
          simpa using this
        obtain rfl : i = 0 := by omega
        refine nextC hb sa' hf hz hled ?_
        have e0 : SetTable.below t.place (if 0 = 0 then 0 else t.place.getD 0 0 + 1) = 0 := below0 _ (by omega)
        rw [List.getElem?_map, Array.getElem?_toList, Array.getElem?_eq_getElem hi] at hx
        injection hx with hx
        subst hx
        rw [e0, Array.getElem?_eq_getElem hi, Array.getElem?_eq_getElem (by omega : 0 < t.place.size)]
        have e1 : (if 0 + 1 = 0 then 0 else t.place.getD 0 0 + 1) = t.place[0] + 1 := by simp [hps ▸ hi]
        rw [e1] at q
        exact q
      · intro A' s' Q' E' sa' q
        refine nextC hb sa' hf hz hled ?_
        rw [List.length_map, Array.length_toList]
        have en : es[SetTable.below t.place (if es.size = 0 then 0 else t.place.getD 0 0 + 1)]? = none := by
          apply Array.getElem?_eq_none
          by_cases h0 : es.size = 0
          · rw [h0]; exact Nat.zero_le _
          · rw [if_neg h0]
            have h1 : t.place.size = 1 := by omega
            obtain ⟨⟨l⟩, hl⟩ : ∃ x, t.place = x := ⟨_, rfl⟩
            rw [hl] at h1 ⊢
            match l, h1 with
            | [j], _ =>
              show es.size ≤ SetTable.below #[j] (j + 1)
              rw [below1]; exact hz
        rw [en]
        exact q
    · have hpf : t.plain = false := hpl (by omega)
      rw [if_pos (by
        show (!false && (!t.plain && decide (es.size > 1))) = true
        rw [decide_eq_true (by omega), hpf]; rfl)]
      refine wpAny_bind (any_draw _ _ (by simp) fun ps d hps => ?_)
      obtain ⟨l, e1, e2, e3⟩ := pull es ps hps
      refine wpAny_bind ?_
      unfold newTuple
      refine wpAny_newObj_type (s := { s with drawn := d }) ?_ (by
        have : ps.length = es.size := by rw [hps.length_eq, List.length_range]
        show (ps.map fun (i : Nat) => rawInt i).toArray.size ≤ sizeLine
        rw [List.size_toArray, List.length_map, sizeLine_eq]; omega)
      refine wpAny_bind (wpAny_setEpoch_of (s := { s with heap := s.heap.push _, drawn := d }) (Heap.get?_push_of_some _ ho) hd hf ?_)
      refine wpAny_bind (wpAny_newObj_type ?_)
      generalize hto : ({ cls := .type "tuple", data := .seq (ps.map fun (i : Nat) => rawInt i).toArray } : Obj) = to
      have hT1 : (s.heap.push to).get? s.heap.objs.size = some to := Heap.get?_push_size _ (by rw [← hto]; rfl)
      have z1 : (s.heap.push to).objs.size = s.heap.objs.size + 1 := Heap.size_push ..
      have gI : ((s.heap.push to).push (itO (.ref s.heap.objs.size) 0 a es.size ep)).get? (s.heap.push to).objs.size = some (itO (.ref s.heap.objs.size) 0 a es.size ep) := Heap.get?_push_size _ rfl
      refine wpAny_pure ⟨_, rfl, "set_iterator", _, ⟨_, gI, rfl⟩, F.slot_next.lookup, ?_⟩
      refine h (s.heap.push to).objs.size (l.map (·.2)) [(s.heap.push to).objs.size, a, s.heap.objs.size] _ _ d (fun b o e => Heap.get?_push_of_some _ (Heap.get?_push_of_some _ e)) (by rw [z1]; exact Nat.le_succ _) (fun b z => ?_)
        (fun {A'} hh => walksD (T := s.heap.objs.size) (ep := ep) (es := es) (t := t) (ps := ps) hh (by rw [z1]; exact Nat.ne_of_lt (Nat.lt_succ_of_lt la)) (by rw [z1]; exact Nat.ne_of_lt (Nat.lt_succ_self _)) hf (by rw [List.length_map]; exact e1) (fun i h1 h2 => ?_)) ⟨⟨_, gI, rfl, rfl⟩, ⟨_, Heap.get?_push_of_some _ (Heap.get?_push_of_some _ ho), hex.1, hd⟩, ⟨_, Heap.get?_push_of_some _ hT1, by rw [← hto], 0, by rw [← hto]⟩⟩ (texts_of hel hp e2)
      · rw [z1] at z
        simp only [List.mem_cons, List.not_mem_nil, or_false] at z
        rcases z with rfl | rfl | rfl
        · exact .inr (Nat.le_succ _)
        · exact .inl rfl
        · exact .inr (Nat.le_refl _)
      · have h3 : i < l.length := by rw [List.length_map] at h2; exact h2
        refine ⟨l[i].1, ?_⟩
        rw [e3 i h1 h3, List.getElem_map]
end
end M5
set_option Elab.async false
set_option linter.all false
set_option maxRecDepth 100000
set_option maxHeartbeats 4000000
namespace M5
open PySem PySem.Spec PyProof.Rows
section
variable {prog : Program} {w : World} {A : Around} {E : Value → Shared → Prop} {s : Shared}
theorem hint_set {a : Addr} {Q : Bool → Shared → Prop} (hT : s.TypeIs (.ref a) "set") (h : Q false s) : wpAny (model prog w) A (Builtin.List.listLengthHint (.ref a)) Q E s := by
  unfold Builtin.List.listLengthHint
  refine wpAny_bind (wpAny_specialOf hT PySem.F.slot_set_len.lookup ?_)
  dsimp only
  rw [show splitId "set.__len__" = some ("set", "__len__") by decide +kernel]
  dsimp only
  refine wpAny_bind (wpAny_isInstance (b := true) hT sub_set_self ?_)
  rw [if_neg (by decide)]
  rw [if_pos (by decide +kernel)]
  refine wpAny_bind (wpAny_typeOf hT ?_)
  exact wpAny_pure h
theorem extend_set {a L : Addr} {S : List Str} {R : Result → Shared → Prop} (hh : A.handled = none) (hS : TAt prog w s.heap a S) (hn : S.length < 4000) (hL : s.heap.get? L = some { cls := .type "list", data := .seq #[] }) (hLa : L ≠ a)
    (hR : ∀ s' (ord : List Value) c', (∀ b o, b ≠ L → s.heap.get? b = some o → s'.heap.get? b = some o) → s'.gens = s.gens → s'.os = s.os → s'.heap.get? L = some { cls := .type "list", dict := none, data := .seq ord.toArray c', slots := #[] } → Texts ord S → R (.ok (.ret (.ref L))) s') :
    wpAny (model prog w) A.in1 (Builtin.List.listExtendWith (.ref L) (.ref a) (.ref L))
      (fun fin s' => match fin with | .done f => R (.ok f) s' | .again c' => c'.quiet = true ∧ codeAny (model prog w) A c' R s') (fun e s' => R (.error e) s') s := by
  have tS : s.TypeIs (.ref a) "set" := let ⟨o, ho, es, ep, t, hex, _⟩ := hS; ⟨o, ho, hex.1⟩
  unfold Builtin.List.listExtendWith
  refine wpAny_bind (wpAny_typeOf tS ?_)
  have h1 : Builtin.List.listSameRef (.ref L) (.ref a) = false := by simp [Builtin.List.listSameRef, hLa]
  have h2 : (Value.type "set" == Value.type "list") = false := by decide
  have h3 : (Value.type "set" == Value.type "tuple") = false := by decide
  simp only [h1, h2, h3, Bool.or_false, Bool.false_eq_true, if_false]
  refine wpAny_bind (iter_set hS hn fun I ord fp St h' d kp hI hfp W st0 tx => ?_)
  have ll : L < s.heap.objs.size := Heap.lt_size hL
  have hLf : L ∉ fp := fun z => (hfp L z).elim hLa fun z => absurd ll (Nat.not_lt.mpr z)
  have tS' : Shared.TypeIs { s with heap := h', drawn := d } (.ref a) "set" := let ⟨o, ho, hc⟩ := tS; ⟨o, kp _ _ ho, hc⟩
  refine wpAny_bind (wpAny_holding (hint_set tS' ?_))
  rw [if_pos (by rfl)]
  refine wpAny_bind (wpAny_rule ?_)
  refine wpAny_bind ?_
  show wpAny _ A.in1 (updateSeq L (·.push .none) >>= fun _ => updateSeq L (·.pop)) _ _ _
  refine wpAny_bind (wpAny_updateSeq (s := { s with heap := h', drawn := d }) (kp _ _ hL) rfl ?_)
  have g2 := Heap.get?_update_self (Obj.mapSeq (·.push Value.none)) (kp _ _ hL) rfl
  refine wpAny_updateSeq (hz := by seq_fits) g2 rfl ?_
  have g3 := Heap.get?_update_self (Obj.mapSeq (·.pop)) g2 rfl
  have oth : ∀ b o, b ≠ L → h'.get? b = some o → ((h'.update L (Obj.mapSeq (·.push Value.none))).update L (Obj.mapSeq (·.pop))).get? b = some o :=
    fun b o hb e => (Heap.get?_update_other _ _ (Ne.symm hb)).trans ((Heap.get?_update_other _ _ (Ne.symm hb)).trans e)
  have hlen : ord.length = S.length := by rw [← tx.2.length_eq, List.length_map]
  have WS := (W (A' := A.in1) hh).toS
  refine wpAny_pure ⟨plainId_quiet PySem.F.plain_extend_loop _, codeAny_extend_loopS WS (by rw [sizeLine_eq]; omega) _ hLf _ ord.length 0 _ _ _ rfl (Nat.zero_le _)
      (WS.frame 0 { s with heap := h', drawn := d } _ s.toks st0 (Nat.le_refl _) fun b hb o e => oth b o (fun z => hLf (z ▸ hb)) e) g3 (ItemsOf.nil _) fun s' acc' c' hm hS' hacc => ?_⟩
  have ea : acc' = ord.toArray := by
    refine Array.ext (by rw [hacc.1, List.size_toArray]) fun i h1 h2 => ?_
    have z : ord[i]? = some acc'[i] := hacc.2 i acc'[i] (Array.getElem?_eq_getElem h1)
    have h2 : i < ord.length := by simpa using h2
    rw [List.getElem?_eq_getElem h2] at z
    simpa using (Option.some.inj z).symm
  rw [ea] at hS'
  refine hR s' ord c' (fun b o hb e => ?_) hm.gens hm.os hS' tx
  refine hm.heap b o ?_ (oth b o hb (kp b o e))
  simp only [List.mem_cons, List.not_mem_nil, or_false]
  rintro (z | z)
  · exact hb z
  · have := Heap.lt_size e
    rw [z] at this
    exact absurd this (Nat.not_lt.mpr hI)
theorem code_collect {a : Addr} {S : List Str} {R : Result → Shared → Prop} (hh : A.handled = none) (hS : TAt prog w s.heap a S) (hn : S.length < 4000)
    (hR : ∀ s' (ord : List Value) c', (∀ b o, s.heap.get? b = some o → s'.heap.get? b = some o) → s'.gens = s.gens → s'.os = s.os → s'.heap.get? s.heap.objs.size = some { cls := .type "list", dict := none, data := .seq ord.toArray c', slots := #[] } → Texts ord S → R (.ok (.ret (.ref s.heap.objs.size))) s') :
    codeAny (model prog w) A (.builtin "proto.collect" ⟨[.ref a], []⟩) R s := by
  have la : a < s.heap.objs.size := let ⟨o, ho, _⟩ := hS; Heap.lt_size ho
  refine codeAny_builtin entry_proto_collect' ?_
  show wpAny _ _ (do again (.builtin "list.__iadd__" ⟨[← newList [], .ref a], []⟩)) _ _ s
  refine wpAny_bind (wpAny_newList (wpAny_pure ⟨Code.quiet_builtin _ (by decide +kernel), codeAny_builtin entry_list_iadd' ?_⟩))
  rw [Around.under_plainId (show plainId "list.__iadd__" = true by decide +kernel) _]
  show wpAny _ _ (Builtin.List.listExtendWith (.ref s.heap.objs.size) (.ref a) (.ref s.heap.objs.size)) _ _ { s with heap := s.heap.push (seqObj "list" #[] 0) }
  refine extend_set (s := { s with heap := s.heap.push (seqObj "list" #[] 0) }) (S := S) ?_ (hS.keep fun o e => Heap.get?_push_of_some _ e) hn (Heap.get?_push_size _ rfl) (Nat.ne_of_gt la) fun s' ord c' kp e1 e2 g tx => ?_
  · exact hh
  · exact hR s' ord c' (fun b o e => kp b o (Nat.ne_of_lt (Heap.lt_size e)) (Heap.get?_push_of_some _ e)) e1 e2 g tx
theorem collect_set {a : Addr} {S : List Str} {Q : List Value → Shared → Prop} (hh : A.handled = none) (hS : TAt prog w s.heap a S) (hn : S.length < 4000)
    (h : ∀ s' (ord : List Value), (∀ b o, s.heap.get? b = some o → s'.heap.get? b = some o) → s'.gens = s.gens → s'.os = s.os → s.heap.objs.size ≤ s'.heap.objs.size → Texts ord S → Q ord s') : wpAny (model prog w) A (collect (.ref a)) Q E s := by
  unfold collect
  refine wpAny_bind (wpAny_runValue (code_collect hh hS hn fun s' ord c' kp e1 e2 g tx => ?_))
  dsimp only
  refine wpAny_bind (wpAny_load g ?_)
  exact wpAny_pure (h s' ord kp e1 e2 (Nat.le_of_lt (Heap.lt_size g)) tx)
theorem sorted_set {a : Addr} {S : List Str} {Q : Value → Shared → Prop} (hh : A.handled = none) (hS : TAt prog w s.heap a S) (hn : S.length < 64)
    (h : ∀ (p : Addr) s' (out : List Value) (ss : List Str) c, (∀ b o, s.heap.get? b = some o → s'.heap.get? b = some o) → s'.gens = s.gens → s'.os = s.os → s.heap.objs.size ≤ p → s'.heap.get? p = some (seqObj "list" out.toArray c) → StrsAre out ss → ss.Perm S → sortedS ss = true → Q (.ref p) s') :
    wpAny (model prog w) A (call (.builtin "sorted") [.ref a]) Q E s := by
  refine Calls.call_function_entry kind_sorted plain_sorted entry_sorted (args_sorted1 _) ?_
  unfold Builtin.«sorted»
  refine wpAny_bind (m := checkCount "sorted" 1 1 _) (wpAny_pure ?_)
  refine wpAny_bind (collect_set (S := S) ?_ hS (by omega) fun s1 ord kp e1 e2 le tx => ?_)
  · exact hh
  refine wpAny_bind (wpAny_newList ?_ (by have := tx.2.length_eq; rw [List.length_map] at this; first | (rw [sizeLine_eq]; omega) | (rw [List.size_toArray, sizeLine_eq]; omega)))
  have hl : ord.length = S.length := by rw [← tx.2.length_eq, List.length_map]
  have hSA : StrsAre ord (ord.map strOf) := strsAre_map ord tx.1
  have gL : (s1.heap.push (seqObj "list" ord.toArray 0)).get? s1.heap.objs.size = some (seqObj "list" ord.toArray 0) := Heap.get?_push_size _ rfl
  refine wpAny_bind (wpAny_holding (wpAny_call_entry slot_list_sort ⟨_, gL, rfl⟩ entry_list_sort (list_sort_treeK (κ := PyProof.Rows.strKind) strKind_oneLt gL hSA.keysOf (fun v₁ v₂ rest e => keyKind_strs (by rw [← e]; exact hSA)) (by omega) fun st' a1 a2 => ⟨_, rfl, ?_⟩) (args_list_sort _)))
  obtain ⟨ss', b1, b2, b3⟩ := sorted_out_str hSA a1 a2
  obtain ⟨c, hc⟩ := sortedHeap_at (out := (arrOf st').map (·.2)) gL
  refine wpAny_pure ⟨_, rfl, h s1.heap.objs.size _ ((arrOf st').map (·.2)).toList ss' c (fun b o e => ?_) e1 e2 le ?_ b1 (b2.trans tx.2) b3⟩
  · have lb := Heap.lt_size (kp b o e)
    show (sortedHeap _ _ _ _).get? b = some o
    rw [sortedHeap_old (Nat.ne_of_lt lb) (by rw [size_push']; exact Nat.lt_succ_of_lt lb)]
    exact Heap.get?_push_of_some _ (kp b o e)
  · rw [Array.toArray_toList]; exact hc
end
end M5
set_option Elab.async false
set_option linter.all false
set_option maxRecDepth 100000
set_option maxHeartbeats 4000000
namespace M5
open PySem PySem.Spec PyProof.Rows
namespace F
theorem slot_lri_hint : Slot "list_reverseiterator" "__length_hint__" "list_reverseiterator.__length_hint__" :=
  .of (owner := "list_reverseiterator") (n := "__length_hint__") (by rw [typeLookup_type, builtinLookup_eq_fast]; kernel_rfl) (by decide +kernel) (by decide +kernel) (by decide +kernel)
    (by first | exact .inl (by decide +kernel) | exact .inr (by decide +kernel)) (by rw [isSubtype_type]; kernel_rfl)
theorem no_len_lri : typeLookup (.type "list_reverseiterator") "__len__" = pure none := by rw [typeLookup_type, builtinLookup_eq_fast]; kernel_rfl
theorem sub_lri_self : isSubtype (.type "list_reverseiterator") (.type "list_reverseiterator") = pure true := by rw [isSubtype_type]; kernel_rfl
end F
section
variable {prog : Program} {w : World} {A : Around} {E : Value → Shared → Prop} {s : Shared}
theorem hint_lri {I : Addr} {Q : Bool → Shared → Prop} (hT : s.TypeIs (.ref I) "list_reverseiterator") (h : Q false s) : wpAny (model prog w) A (Builtin.List.listLengthHint (.ref I)) Q E s := by
  unfold Builtin.List.listLengthHint
  refine wpAny_bind (wpAny_specialOf hT F.no_len_lri ?_)
  show wpAny _ _ (specialOf (Value.ref I) (Str.ofString "__length_hint__") >>= _) _ _ _
  refine wpAny_bind (wpAny_specialOf hT F.slot_lri_hint.lookup ?_)
  dsimp only
  rw [show splitId "list_reverseiterator.__length_hint__" = some ("list_reverseiterator", "__length_hint__") by decide +kernel]
  dsimp only
  refine wpAny_bind (wpAny_isInstance (b := true) hT F.sub_lri_self ?_)
  rw [if_neg (by decide)]
  rw [if_pos (by decide +kernel)]
  rw [if_neg (by decide)]
  exact wpAny_pure h
theorem code_collectR {I l : Addr} {items : Array Value} {R : Result → Shared → Prop} (hh : A.handled = none) (hI : s.heap.IsRevIter I l ((items.size : Int) - 1)) (hl : s.heap.IsList l items) (hne : l ≠ I) (hn : items.size ≤ 100000)
    (hR : ∀ s' c', (∀ b o, b ≠ I → s.heap.get? b = some o → s'.heap.get? b = some o) → s'.gens = s.gens → s'.drawn = s.drawn → s'.os = s.os → s'.heap.get? s.heap.objs.size = some { cls := .type "list", dict := none, data := .seq items.reverse c', slots := #[] } → R (.ok (.ret (.ref s.heap.objs.size))) s') :
    codeAny (model prog w) A (.builtin "proto.collect" ⟨[.ref I], []⟩) R s := by
  have lI : I < s.heap.objs.size := let ⟨o, ho, _⟩ := hI; Heap.lt_size ho
  have ll : l < s.heap.objs.size := let ⟨o, ho, _⟩ := hl; Heap.lt_size ho
  refine codeAny_builtin entry_proto_collect' ?_
  show wpAny _ _ (do again (.builtin "list.__iadd__" ⟨[← newList [], .ref I], []⟩)) _ _ s
  refine wpAny_bind (wpAny_newList (wpAny_pure ⟨Code.quiet_builtin _ (by decide +kernel), codeAny_builtin entry_list_iadd' ?_⟩))
  rw [Around.under_plainId (show plainId "list.__iadd__" = true by decide +kernel) _]
  show wpAny _ _ (Builtin.List.listExtendWith (.ref s.heap.objs.size) (.ref I) (.ref s.heap.objs.size)) _ _ { s with heap := s.heap.push (seqObj "list" #[] 0) }
  have hI2 : (s.heap.push (seqObj "list" #[] 0)).IsRevIter I l ((items.size : Int) - 1) := hI.at fun o e => Heap.get?_push_of_some _ e
  have hl2 : (s.heap.push (seqObj "list" #[] 0)).IsList l items := hl.at fun o e => Heap.get?_push_of_some _ e
  have tI : Shared.TypeIs { s with heap := s.heap.push (seqObj "list" #[] 0) } (.ref I) "list_reverseiterator" := hI2.typeIs
  unfold Builtin.List.listExtendWith
  refine wpAny_bind (wpAny_typeOf tI ?_)
  have h1 : Builtin.List.listSameRef (.ref s.heap.objs.size) (.ref I) = false := by simp only [Builtin.List.listSameRef]; exact beq_false_of_ne (Nat.ne_of_gt lI)
  have h2 : (Value.type "list_reverseiterator" == Value.type "list") = false := by decide
  have h3 : (Value.type "list_reverseiterator" == Value.type "tuple") = false := by decide
  simp only [h1, h2, h3, Bool.or_false, Bool.false_eq_true, if_false]
  refine wpAny_bind (wpAny_pyIter_revIter hI2 ?_)
  refine wpAny_bind (wpAny_holding (hint_lri tI ?_))
  rw [if_neg (by decide)]
  have hSf : s.heap.objs.size ∉ [I, l] := by
    simp only [List.mem_cons, List.not_mem_nil, or_false]
    rintro (z | z)
    · exact Nat.ne_of_gt lI z
    · exact Nat.ne_of_gt ll z
  have W := (Walks.listRev (prog := prog) (w := w) (A := A.in1) hh I l hne items).toS
  refine wpAny_pure ⟨plainId_quiet PySem.F.plain_extend_loop _, codeAny_extend_loopS W (by rw [sizeLine_eq]; omega) _ hSf _ items.size 0 _ #[] 0 rfl (Nat.zero_le _) ⟨Nat.zero_le _, by simpa using hI2, hl2⟩ (Heap.get?_push_size _ rfl) (ItemsOf.nil _) fun s' acc' c' hm hS' hacc => ?_⟩
  have ea : acc' = items.reverse := by
    refine Array.ext (by rw [hacc.1, Array.size_reverse]) fun i h1 h2 => ?_
    have z : items[items.size - 1 - i]? = some acc'[i] := hacc.2 i acc'[i] (Array.getElem?_eq_getElem h1)
    rw [Array.size_reverse] at h2
    rw [Array.getElem?_eq_getElem (by omega)] at z
    rw [Array.getElem_reverse]
    exact (Option.some.inj z).symm
  rw [ea] at hS'
  refine hR s' c' (fun b o hb e => hm.heap b o ?_ (Heap.get?_push_of_some _ e)) hm.gens hm.drawn hm.os hS'
  simp only [List.mem_cons, List.not_mem_nil, or_false]
  rintro (z | z)
  · exact Nat.ne_of_lt (Heap.lt_size e) z
  · exact hb z
theorem collectR {I l : Addr} {items : Array Value} {Q : List Value → Shared → Prop} (hh : A.handled = none) (hI : s.heap.IsRevIter I l ((items.size : Int) - 1)) (hl : s.heap.IsList l items) (hne : l ≠ I) (hn : items.size ≤ 100000)
    (hQ : ∀ s', (∀ b o, b ≠ I → s.heap.get? b = some o → s'.heap.get? b = some o) → s'.gens = s.gens → s'.drawn = s.drawn → s'.os = s.os → s.heap.objs.size ≤ s'.heap.objs.size → Q items.toList.reverse s') : wpAny (model prog w) A (collect (.ref I)) Q E s := by
  unfold collect
  refine wpAny_bind (wpAny_runValue (code_collectR hh hI hl hne hn fun s' c' kp e1 e2 e3 g => ?_))
  dsimp only
  refine wpAny_bind (wpAny_load g ?_)
  refine wpAny_pure ?_
  rw [Array.toList_reverse]
  exact hQ s' kp e1 e2 e3 (Nat.le_of_lt (Heap.lt_size g))
theorem tupleR {I l : Addr} {items : Array Value} {Q : Value → Shared → Prop} (hh : A.handled = none) (hI : s.heap.IsRevIter I l ((items.size : Int) - 1)) (hl : s.heap.IsList l items) (hne : l ≠ I) (hn : items.size ≤ 100000)
    (hQ : ∀ s' : Shared, (∀ b o, b ≠ I → s.heap.get? b = some o → s'.heap.get? b = some o) → s'.gens = s.gens → s'.drawn = s.drawn → s'.os = s.os → s.heap.objs.size ≤ s'.heap.objs.size → Q (.ref s'.heap.objs.size) { s' with heap := s'.heap.push { cls := .type "tuple", data := .seq items.toList.reverse.toArray } }) :
    wpAny (model prog w) A (call (.type "tuple") [.ref I]) Q E s := by
  refine callType_codes (Q₁ := fun obj s₁ => s₁.TypeIs obj "tuple" ∧ Q obj s₁) PySem.F.called_tuple (PySem.F.typeCall_tuple_1 _) PySem.F.entry_object_init ?_ fun obj s₁ h₁ => ?_
  · refine codeAny_of_tree ?_
    show wpAny _ A.in1.in1 (do checkBuiltinCall "tuple.__new__" ⟨[.type "tuple", .ref I], []⟩; again (.builtin "tuple.__new__" ⟨[.type "tuple", .ref I], []⟩)) _ _ s
    refine wpAny_bind (wpAny_of_eq (PySem.F.newCall_tuple_1 _) (wpAny_pure ⟨plainId_quiet PySem.F.plain_tuple_new _, codeAny_builtin PySem.F.entry_tuple_new ?_⟩))
    rw [Around.under_plainId PySem.F.plain_tuple_new _]
    have hsub := sub_tuple_self
    have hinit := init_tuple_lookup
    have hmh := madeHere_tuple
    have tI := hI.typeIs
    have hh2 : A.in1.in1.handled = none := hh
    wp_walk using wpAny_typeOf tI, collectR hh2 hI hl hne hn
    intro s' kp e1 e2 e3 le
    show wpAny _ _ (Builtin.Tuple.tupleExact items.toList.reverse.toArray >>= fun v => ret v) _ _ _
    unfold Builtin.Tuple.tupleExact
    refine wpAny_bind (wpAny_newObj_type ?_ (by show items.toList.reverse.toArray.size ≤ sizeLine; rw [List.size_toArray, List.length_reverse, Array.length_toList, sizeLine_eq]; omega))
    exact wpAny_pure ⟨⟨_, Heap.get?_push_size _ rfl, rfl⟩, hQ s' kp e1 e2 e3 le⟩
  · exact ⟨h₁.1, PySem.F.args_object_init_2 obj _, object_init_meets PySem.F.called_tuple.init.lookup PySem.F.called_tuple.made (by decide) prog w A.in1 _ s₁ ⟨h₁.1, rfl, h₁.2⟩⟩
end
end M5
set_option Elab.async false
set_option linter.all false
set_option maxRecDepth 100000
set_option maxHeartbeats 4000000
namespace L2
open PySem PySem.Spec PyProof.Rows
theorem Inv.drw {X : Cx} {pins : List (Addr × Obj)} {σ : List (Option V)} {H : Hp} {s : Shared} (I : Inv X pins σ H s) (d : Drawn) : Inv X pins σ H { s with drawn := d } :=
  ⟨I.ok, I.os, I.bare, I.base, I.loc, I.cell, I.free, I.freeC, I.pin, I.hok, I.len⟩
noncomputable def tSortSet (K : PySem.W.Frag) (ta : TE) : TE := fun σ H Q => ta σ H fun x H1 => ∃ (p : Addr) (ss : List Str), x = .ref p ∧ (SqT K H1 p (ss.map V.str) ∨ SqL K H1 p (ss.map V.str)) ∧ ss.length < 64 ∧
  ∀ (l : Addr) (ss' : List Str), H1 l = none → ss'.Nodup → (∀ y, y ∈ ss' ↔ y ∈ ss) → sortedS ss' = true → Q (.ref l) (upd H1 l (.lst (ss'.map V.str)))
noncomputable def tTupRev (K : PySem.W.Frag) (ta : TE) : TE := fun σ H Q => ta σ H fun x H1 => ∃ p ys, x = .ref p ∧ SqL K H1 p ys ∧ ys.length ≤ 100000 ∧ ∀ l, H1 l = none → Q (.ref l) (upd H1 l (.tup ys.reverse))
noncomputable def tRevL (K : PySem.W.Frag) (ta : TE) : TE := fun σ H Q => ta σ H fun x H1 => ∃ p ys, x = .ref p ∧ SqL K H1 p ys ∧ ∀ l, H1 l = none → Q (.ref l) (upd H1 l (.lst ys.reverse))
section
variable {X : Cx} {e : Expr} {ta : TE} {p p2 pos pos2 : Pos}
theorem pe_sortSet (hc : X.calm = true) (hg : Gl X "sorted") (hm : X.mg "sorted" = none) (hg2 : Gl X "set") (hm2 : X.mg "set" = none) (he : PE X e ta) (hs : notStar e = true := by rfl) :
    PE X (.Call (.Name "sorted" p) [.Call (.Name "set" p2) [e] [] pos2] [] pos) (tSortSet X.K ta) := by
  intro pins s σ H Q I h
  have hk := I.ok.hd hc
  refine wpAny_Call_Name_kw (ld_blt I hg hm (u := .builtin "sorted") (by decide +kernel) ?_ (by decide +kernel) (by decide +kernel))
  refine PyProof.Rows.callWith_builtin1 (E := X.xe) ?_ (star_cons [] X.env rfl) rfl
  rw [star_cons [] X.env rfl]
  refine Calls.spliced_cons ?_
  refine wpAny_Call_Name_kw (ld_blt I hg2 hm2 (u := .type "set") (by decide +kernel) ?_ (by decide +kernel) (by decide +kernel))
  refine PyProof.Rows.callWith_type1 (E := X.xe) ?_ (star_cons [] X.env hs) rfl
  rw [star_cons [] X.env hs]
  refine Calls.spliced_cons (thn (he pins s σ H _ I h) fun u s1 ⟨x, H1, I1, rx, a, ss, ex, hq, hl, q⟩ => ?_)
  subst ex
  obtain rfl : u = Value.ref a := rx
  refine Calls.spliced_nil ?_
  have fin : ∀ (h' : Heap) (tk : Nat), M5.TAt X.prog X.w h' s1.heap.objs.size (M5.all1 (fun i => ss.getD i ⟨#[]⟩) ss.length) → (∀ b o, b < s1.heap.objs.size → s1.heap.get? b = some o → h'.get? b = some o) →
      wpAny (model X.prog X.w) X.A (call (.builtin "sorted") [.ref s1.heap.objs.size]) (EP X pins σ Q) X.xe { s1 with heap := h', toks := tk } := by
    intro h' tk tS kp
    have hlen := M5.all1_len (fun i => ss.getD i ⟨#[]⟩) ss.length
    refine M5.sorted_set (s := { s1 with heap := h', toks := tk }) hk tS (by omega) fun l s2 out ss' c kp2 e1 e2 le g hS hp hs => ?_
    obtain ⟨h2, g2, d2, t2, o2⟩ := s2
    obtain rfl : g2 = s1.gens := e1
    obtain rfl : o2 = s1.os := e2
    have kpA : ∀ b o, s1.heap.get? b = some o → h2.get? b = some o := fun b o z => kp2 b o (kp b o (Heap.lt_size z) z)
    have le1 : s1.heap.objs.size ≤ l := by
      obtain ⟨o, ho, _⟩ := tS
      exact Nat.le_trans (Nat.le_of_lt (Heap.lt_size ho)) le
    have hlen2 : ss'.length < 64 := by rw [hp.length_eq]; omega
    refine ⟨.ref l, _, (I1.laid (a := l) (t' := t2) (o := .lst (ss'.map V.str)) kpA le1 ⟨by rw [List.length_map, sizeLine_eq]; omega, out, c, M.vals_strs hS, g⟩).drw d2, rfl, q l ss' (I1.hok.fresh le1) (hp.nodup_iff.mpr (M5.nodup_all1 _ _)) (fun y => (hp.mem_iff).trans (M5.mem_all1' ss y)) hs⟩
  rcases hq with hq | hq
  · obtain ⟨its, r', pl, hz⟩ := I1.tuple hq
    refine M5.set_tuple (its := its.toArray) (ss := ss) hk pl (by simpa using strs_of r') (by omega) fun h' tk tS kp => ?_
    exact Calls.spliced_nil (fin h' tk tS kp)
  · obtain ⟨its, r', pl, hz⟩ := I1.list hq
    refine M5.set_list (its := its.toArray) (ss := ss) hk pl.isList (by simpa using strs_of r') (by omega) fun h' tk tS kp => ?_
    exact Calls.spliced_nil (fin h' tk tS kp)
theorem pe_tupRev (hc : X.calm = true) (hg : Gl X "tuple") (hm : X.mg "tuple" = none) (hg2 : Gl X "reversed") (hm2 : X.mg "reversed" = none) (he : PE X e ta) (hs : notStar e = true := by rfl) :
    PE X (.Call (.Name "tuple" p) [.Call (.Name "reversed" p2) [e] [] pos2] [] pos) (tTupRev X.K ta) := by
  intro pins s σ H Q I h
  have hk := I.ok.hd hc
  refine wpAny_Call_Name_kw (ld_blt I hg hm (u := .type "tuple") (by decide +kernel) ?_ (by decide +kernel) (by decide +kernel))
  refine PyProof.Rows.callWith_type1 (E := X.xe) ?_ (star_cons [] X.env rfl) rfl
  rw [star_cons [] X.env rfl]
  refine Calls.spliced_cons ?_
  refine wpAny_Call_Name_kw (ld_blt I hg2 hm2 boot_reversed ?_ (by decide +kernel) (by decide +kernel))
  refine PyProof.Rows.callWith_type1 (E := X.xe) ?_ (star_cons [] X.env hs) rfl
  rw [star_cons [] X.env hs]
  refine Calls.spliced_cons (thn (he pins s σ H _ I h) fun u s1 ⟨x, H1, I1, rx, a, ys, ex, hq, hl, q⟩ => ?_)
  subst ex
  obtain rfl : u = Value.ref a := rx
  refine Calls.spliced_nil ?_
  obtain ⟨its, r', pl, hz⟩ := I1.list hq
  have hlen := r'.length
  refine call_reversed_list pl.isList ?_
  refine Calls.spliced_nil ?_
  have hne : a ≠ s1.heap.objs.size := by
    obtain ⟨o, ho, _⟩ := pl.isList
    exact Nat.ne_of_lt (Heap.lt_size ho)
  refine M5.tupleR (s := { s1 with heap := s1.heap.push (revObj a ((its.toArray.size : Int) - 1)) }) (I := s1.heap.objs.size) (l := a) (items := its.toArray) hk ⟨_, Heap.get?_push_size _ rfl, rfl, rfl⟩ (pl.isList.at fun o e => Heap.get?_push_of_some _ e) hne (by rw [List.size_toArray]; omega) fun s2 kp e1 e2 e3 le => ?_
  obtain ⟨h2, g2, d2, t2, o2⟩ := s2
  obtain rfl : g2 = s1.gens := e1
  obtain rfl : d2 = s1.drawn := e2
  obtain rfl : o2 = s1.os := e3
  have kpA : ∀ b o, s1.heap.get? b = some o → (h2.push { cls := .type "tuple", data := .seq its.toArray.toList.reverse.toArray }).get? b = some o := fun b o z => Heap.get?_push_of_some _ (kp b o (Nat.ne_of_lt (Heap.lt_size z)) (Heap.get?_push_of_some _ z))
  have le1 : s1.heap.objs.size ≤ h2.objs.size := Nat.le_trans (by rw [show (s1.heap.push (revObj a ((its.toArray.size : Int) - 1))).objs.size = s1.heap.objs.size + 1 from Heap.size_push ..]; exact Nat.le_succ _) le
  refine ⟨.ref h2.objs.size, _, I1.laid (a := h2.objs.size) (t' := t2) (o := .tup ys.reverse) kpA le1 ?_, rfl, q _ (I1.hok.fresh le1)⟩
  exact ⟨by rw [List.length_reverse]; omega, its.reverse, vals_rev r', ⟨_, Heap.get?_push_size _ rfl, rfl, 0, by simp⟩⟩
theorem pe_revL {j : Nat} {pc pu : Pos} (he : PE X e ta) : PE X (.Subscript e (.Slice none none (some (.UnaryOp .USub (.Constant (.int 1) j pc) pu)) p2) pos) (tRevL X.K ta) := by
  intro pins s σ H Q I h
  refine Subscript_ (thn (he pins s σ H _ I h) fun v s1 ⟨x, H1, I1, r1, a, ys, ex, hq, q⟩ => ?_)
  subst ex
  obtain rfl : v = Value.ref a := r1
  refine wpAny_Slice ?_
  rw [evalPart_none]
  refine wpAny_pure (wpAny_pure ?_)
  rw [evalPart_some]
  have hneg : PE X (.UnaryOp .USub (.Constant (.int 1) j pc) pu) (tUn (rU fun i => .int (-i)) (tC (.int 1))) := pe_un un_neg pe_int
  refine thn (hneg pins s1 σ H1 (fun y H2 => y = .int (-1) ∧ H2 = H1) I1 ⟨1, rfl, rfl, rfl⟩) fun vk s2 ⟨y, H2, I2, ry, ey, eH⟩ => ?_
  subst ey
  subst eH
  obtain ⟨t, rfl⟩ := ry
  have I3 : Inv X pins σ H2 { s2 with heap := s2.heap.push { cls := .type "slice", data := .fields #[.none, .none, .int (-1) t] } } := I2.kept (t' := s2.toks) fun b ob q => Heap.get?_push_of_some _ q
  obtain ⟨its, r, ht, hz⟩ := I3.list hq
  have hlen := r.length
  show wpAny (model X.prog X.w) X.A (subscriptTail e (.Slice none none (some (.UnaryOp .USub (.Constant (.int 1) j pc) pu)) p2) (.ref a) (.ref s2.heap.objs.size)) (EP X pins σ Q) X.xe { s2 with heap := s2.heap.push { cls := .type "slice", data := .fields #[.none, .none, .int (-1) t] } }
  refine tail_any (ops := [.ref a, .ref s2.heap.objs.size]) ht.isList.typeIs slot_list_getitem.lookup ?_ (by with_unfolding_all rfl)
  refine wpAny_getItem_list_slice ht.isList (Heap.IsSliceOf.new ..) .none .none (.int (-1) t) (by decide) ?_ (by rw [List.size_toArray]; omega)
  rw [PySem.W.krv_pick]
  exact ⟨.ref _, _, I3.laid (t' := s2.toks) (o := .lst ys.reverse) (fun b ob q => Heap.get?_push_of_some _ q) (Nat.le_refl _) ⟨by rw [List.length_reverse]; exact hz, its.reverse, 0, vals_rev r, Heap.get?_push_size _ rfl⟩, rfl, q _ (I3.hok.fresh (Nat.le_refl _))⟩
noncomputable def rCountS (K : PySem.W.Frag) : V → List V → Hp → VK → Prop := fun x vs H Q => ∃ (a : Addr) (ys : List Str) (k : Str), x = .ref a ∧ vs = [.str k] ∧ SqL K H a (ys.map V.str) ∧ Q (.int (countIn (.str k) (ys.map PyData.str))) H
theorem mt_countS : MtR X "list.count" (rCountS X.K) := by
  intro pins s σ H x vs v us Q I rx rv h
  obtain ⟨a, ys, k, rfl, rfl, ha, q⟩ := h
  obtain rfl : v = Value.ref a := rx
  obtain ⟨u, rfl, ru⟩ := vals1 rv
  obtain ⟨t, rfl⟩ := ru
  obtain ⟨its, r, pl, _⟩ := I.list ha
  refine count_list_strs pl.isList (strs_of r) ?_
  exact ⟨.int _, H, I.tok _, ⟨_, rfl⟩, q⟩
end
end L2
set_option Elab.async false
set_option linter.all false
set_option maxRecDepth 100000
set_option maxHeartbeats 4000000
namespace M
open PySem PySem.Spec PyProof.Rows L2
section
variable {K : PySem.W.Frag}
noncomputable def aSortSet (a : AE) : AE := fun δ S Q => a δ S fun r S1 => ∃ ss : List Str, (see S1 r.d = .tup (ss.map D.str) ∨ see S1 r.d = .lst (ss.map D.str)) ∧ ss.length < 64 ∧
  ∀ ss' : List Str, ss'.Nodup → (∀ y, y ∈ ss' ↔ y ∈ ss) → sortedS ss' = true → Q (.new (.lst (ss'.map D.str))) S1
theorem s_sortSet {a : AE} : ∀ σ H Q, conE K (aSortSet a) σ H Q → tSortSet K (conE K a) σ H Q := by
  rintro σ H Q ⟨w, δ, S, Qa, ok, env, q, bk⟩
  refine ⟨w, δ, S, _, ok, env, q, .go fun r1 S1 v1 w1 H1 le1 ok1 rep1 ⟨ss, z, hl, q1⟩ => ?_⟩
  rcases z with z | z
  · obtain ⟨a, xs, rfl, h1, h2⟩ := see_tup ok1 rep1 z
    rw [reps_strs' h2] at h1
    exact ⟨a, ss, rfl, .inl (SqT.of h1), hl, fun l ss' hp n1 n2 n3 => bk (.new (.lst _)) S1 _ w1 _ le1 (ok1.alloc hp) (ok1.fresh hp ⟨_, rfl, reps_of_strs ss'⟩) (q1 ss' n1 n2 n3)⟩
  · obtain ⟨a, xs, rfl, h1, h2⟩ := see_lst ok1 rep1 z
    rw [reps_strs' h2] at h1
    exact ⟨a, ss, rfl, .inr (SqL.of h1), hl, fun l ss' hp n1 n2 n3 => bk (.new (.lst _)) S1 _ w1 _ le1 (ok1.alloc hp) (ok1.fresh hp ⟨_, rfl, reps_of_strs ss'⟩) (q1 ss' n1 n2 n3)⟩
noncomputable def aTupRev (a : AE) : AE := fun δ S Q => a δ S fun r S1 => ∃ ds, see S1 r.d = .lst ds ∧ ds.length ≤ 100000 ∧ Q (.dat (.tup ds.reverse)) S1
theorem s_tupRev {a : AE} : ∀ σ H Q, conE K (aTupRev a) σ H Q → tTupRev K (conE K a) σ H Q := by
  rintro σ H Q ⟨w, δ, S, Qa, ok, env, q, bk⟩
  refine ⟨w, δ, S, _, ok, env, q, .go fun r1 S1 v1 w1 H1 le1 ok1 rep1 ⟨ds, z, hl, q1⟩ => ?_⟩
  obtain ⟨a, xs, rfl, h1, h2⟩ := see_lst ok1 rep1 z
  refine ⟨a, xs, rfl, SqL.of h1, by rw [h2.length]; exact hl, fun p hp => ?_⟩
  obtain ⟨w2, le2, ok2, rep2⟩ := ok1.newTup hp (reps_rev h2)
  exact bk.dat (le1.trans le2) ok2 rep2 q1
noncomputable def aRevL (a : AE) : AE := fun δ S Q => a δ S fun r S1 => ∃ ds, see S1 r.d = .lst ds ∧ Q (.new (.lst ds.reverse)) S1
theorem s_revL {a : AE} : ∀ σ H Q, conE K (aRevL a) σ H Q → tRevL K (conE K a) σ H Q := by
  rintro σ H Q ⟨w, δ, S, Qa, ok, env, q, bk⟩
  refine ⟨w, δ, S, _, ok, env, q, .go fun r1 S1 v1 w1 H1 le1 ok1 rep1 ⟨ds, z, q1⟩ => ?_⟩
  obtain ⟨a, xs, rfl, h1, h2⟩ := see_lst ok1 rep1 z
  exact ⟨a, xs, rfl, SqL.of h1, fun p hp => bk (.new (.lst ds.reverse)) S1 _ w1 _ le1 (ok1.alloc hp) (ok1.fresh hp ⟨_, rfl, reps_rev h2⟩) q1⟩
noncomputable def dGet (ks : List Key) (ds : List D) (k : Key) : Option D := ((ks.zip ds).find? fun p => decide (p.1 = k)).map (·.2)
noncomputable def dPut (ks : List Key) (ds : List D) (k : Key) (d : D) : MO := if (ks.any fun j => decide (j = k)) = true then .dct ks ((ks.zip ds).map fun p => if p.1 = k then d else p.2) else .dct (ks ++ [k]) (ds ++ [d])
theorem get_rep {w : Wd} {k : Key} {d : D} : ∀ {kvs : List (Key × V)} {ds : List D}, Reps K w ds (kvs.map (·.2)) → dGet (kvs.map (·.1)) ds k = some d → ∃ v, valV kvs k = some v ∧ Rep K w d v
  | [], ds, h, e => by simp [dGet] at e
  | (j, u) :: r, ds, h, e => by
    cases ds with
    | nil => simp [dGet] at e
    | cons x ds =>
      simp only [List.map_cons, Reps] at h
      obtain ⟨x', r', e', h1, h2⟩ := h
      injection e' with e1 e2
      subst e1; subst e2
      unfold dGet at e
      unfold valV
      by_cases hj : j = k
      · rw [List.map_cons, List.zip_cons_cons, List.find?_cons_of_pos (by simpa using hj)] at e
        rw [List.find?_cons_of_pos (by simpa using hj)]
        cases e
        exact ⟨u, rfl, h1⟩
      · rw [List.map_cons, List.zip_cons_cons, List.find?_cons_of_neg (by simpa using hj)] at e
        rw [List.find?_cons_of_neg (by simpa using hj)]
        exact get_rep (kvs := r) h2 e
theorem repl_rep {w : Wd} {k : Key} {d : D} {v : V} (g : Rep K w d v) : ∀ {kvs : List (Key × V)} {ds : List D}, Reps K w ds (kvs.map (·.2)) →
    Reps K w (((kvs.map (·.1)).zip ds).map fun p => if p.1 = k then d else p.2) ((kvs.map fun kv => if kv.1 = k then (kv.1, v) else kv).map (·.2))
  | [], ds, h => by
    cases ds with
    | nil => exact .nil
    | cons x ds => simp only [List.map_nil, Reps] at h; obtain ⟨_, _, z, _⟩ := h; cases z
  | (j, u) :: r, ds, h => by
    cases ds with
    | nil => simp only [List.map_cons, Reps] at h; cases h
    | cons x ds =>
      simp only [List.map_cons, Reps] at h
      obtain ⟨x', r', e', h1, h2⟩ := h
      injection e' with e1 e2
      subst e1; subst e2
      simp only [List.map_cons, List.zip_cons_cons]
      refine .cons ?_ (repl_rep g h2)
      by_cases hj : j = k
      · rw [if_pos hj, if_pos hj]; exact g
      · rw [if_neg hj, if_neg hj]; exact h1
theorem put_repO {w : Wd} {k : Key} {d : D} {v : V} {kvs : List (Key × V)} {ds : List D} (g : Rep K w d v) (h : Reps K w ds (kvs.map (·.2))) : RepO K w (dPut (kvs.map (·.1)) ds k d) (.dK (putK kvs k v)) := by
  unfold dPut putK
  have e : ((kvs.map (·.1)).any fun j => decide (j = k)) = (kvs.any fun kv => decide (kv.1 = k)) := by
    rw [List.any_map]; rfl
  rw [e]
  by_cases hc : (kvs.any fun kv => decide (kv.1 = k)) = true
  · rw [if_pos hc, if_pos hc]
    refine ⟨_, rfl, ?_, repl_rep g h⟩
    rw [List.map_map]
    refine List.map_congr_left fun kv _ => ?_
    show (if kv.1 = k then (kv.1, v) else kv).1 = kv.1
    split <;> rfl
  · rw [if_neg hc, if_neg hc]
    refine ⟨_, rfl, by simp, ?_⟩
    rw [List.map_append]
    exact h.snoc g
theorem dct_at {w : Wd} {H : Hp} {S : Sto} {p : Nat} {v : V} {ks : List Key} {ds : List D} (ok : Ok K w H S) (h : Rep K w (.loc p) v) (e : S[p]? = some (some (.dct ks ds))) :
    ∃ a kvs, v = .ref a ∧ w.r p = some a ∧ H a = some (.dK kvs) ∧ kvs.map (·.1) = ks ∧ Reps K w ds (kvs.map (·.2)) := by
  simp only [Rep] at h
  obtain ⟨a, h1, rfl⟩ := h
  obtain ⟨a', u, g1, g2, g3, kvs, rfl, g5, g6⟩ := ok.live p _ e
  rw [h1] at g1; cases g1
  exact ⟨a, kvs, rfl, h1, g3, g5, g6⟩
noncomputable def aDGet (a b : AE) : AE := fun δ S Q => a δ S fun r1 S1 => b δ S1 fun r2 S2 => ∃ ks ds k d, see S2 r1.d = .dct ks ds ∧ r2.d = .str k ∧ dGet ks ds (.inr k) = some d ∧ Q (.dat d) S2
theorem s_dget {a b : AE} : ∀ σ H Q, conE K (aDGet a b) σ H Q → tDGet (conE K a) (conE K b) σ H Q := by
  rintro σ H Q ⟨w, δ, S, Qa, ok, env, q, bk⟩
  refine ⟨w, δ, S, _, ok, env, q, .go fun r1 S1 v1 w1 H1 le1 ok1 rep1 q1 => ?_⟩
  refine ⟨w1, δ, S1, _, ok1, env.le le1, q1, .go fun r2 S2 v2 w2 H2 le2 ok2 rep2 ⟨ks, ds, k, d, z1, z2, z3, q2⟩ => ?_⟩
  obtain ⟨a, kvs, rfl, h1, rfl, h3⟩ := see_dct ok2 (rep1.le le2) z1
  obtain ⟨v, g1, g2⟩ := get_rep h3 z3
  rw [rep_str rep2 z2]
  refine ⟨a, v, rfl, ?_, bk.dat (le1.trans le2) ok2 g2 q2⟩
  rw [← g1]
  exact DGet.k (k := .inr k) h1
noncomputable def aDPut (a b c : AE) : AS := fun D δ S => c δ S fun r3 S1 => a δ S1 fun r1 S2 => b δ S2 fun r2 S3 => ∃ n ks ds k, r1.d = .loc n ∧ r2.d = .str k ∧ S3[n]? = some (some (.dct ks ds)) ∧ ds.length < 1000 ∧ D.nx δ (S3.set n (some (dPut ks ds (.inr k) r3.d)))
theorem s_dput {a b c : AE} : ∀ D σ H, conS K (aDPut a b c) D σ H → sDPut (conE K a) (conE K b) (conE K c) D σ H := by
  rintro D σ H ⟨w, δ, S, Da, ok, env, q, bk⟩
  refine ⟨w, δ, S, _, ok, env, q, .go fun r3 S1 v3 w1 H1 le1 ok1 rep3 q1 => ?_⟩
  refine ⟨w1, δ, S1, _, ok1, env.le le1, q1, .go fun r1 S2 v1 w2 H2 le2 ok2 rep1 q2 => ?_⟩
  refine ⟨w2, δ, S2, _, ok2, (env.le le1).le le2, q2, .go fun r2 S3 v2 w3 H3 le3 ok3 rep2 ⟨n, ks, ds, k, z1, z2, z3, hl, q3⟩ => ?_⟩
  rw [z1] at rep1
  obtain ⟨a, kvs, rfl, h0, h1, rfl, h3⟩ := dct_at ok3 (rep1.le le3) z3
  rw [rep_str rep2 z2]
  have hlen : kvs.length = ds.length := by have := h3.length; rw [List.length_map] at this; exact this
  refine ⟨a, _, rfl, DPut.k (k := .inr k) h1 (by rw [hlen, sizeLine_eq]; omega), ?_⟩
  have ok4 := ok3.put z3 h0 (put_repO (k := .inr k) (rep3.le (le2.trans le3)) h3)
  exact bk.nx δ _ σ w3 _ ((le1.trans le2).trans le3) ok4 (((env.le le1).le le2).le le3) q3
noncomputable def aLPut (a b c : AE) : AS := fun D δ S => c δ S fun r3 S1 => a δ S1 fun r1 S2 => b δ S2 fun r2 S3 => ∃ n es k j, r1.d = .loc n ∧ r2.d = .int k ∧ S3[n]? = some (some (.lst es)) ∧ ixN es.length k = some j ∧ D.nx δ (S3.set n (some (.lst (es.set j r3.d))))
theorem s_lput {a b c : AE} : ∀ D σ H, conS K (aLPut a b c) D σ H → tAsg (conE K c) (gSub (conE K a) (conE K b) rSetL) D σ H := by
  rintro D σ H ⟨w, δ, S, Da, ok, env, q, bk⟩
  refine ⟨w, δ, S, _, ok, env, q, .go fun r3 S1 v3 w1 H1 le1 ok1 rep3 q1 => ?_⟩
  refine ⟨w1, δ, S1, _, ok1, env.le le1, q1, .go fun r1 S2 v1 w2 H2 le2 ok2 rep1 q2 => ?_⟩
  refine ⟨w2, δ, S2, _, ok2, (env.le le1).le le2, q2, .go fun r2 S3 v2 w3 H3 le3 ok3 rep2 ⟨n, es, k, j, z1, z2, z3, hj, q3⟩ => ?_⟩
  rw [z1] at rep1
  obtain ⟨a, ys, rfl, ha, hH, hr⟩ := loc_at ok3 (rep1.le le3) z3
  rw [rep_int rep2 z2]
  refine ⟨a, ys, k, j, rfl, rfl, hH, by rw [hr.length]; exact hj, ?_⟩
  have ok4 := ok3.put z3 ha (repO_lst (hr.set (rep3.le (le2.trans le3)) j))
  exact bk.nx δ _ σ w3 _ ((le1.trans le2).trans le3) ok4 (((env.le le1).le le2).le le3) q3
noncomputable def cntS (k : Str) (ys : List Str) : Int := countIn (.str k) (ys.map PyData.str)
noncomputable def aCount : AM := fun x ds S Q => ∃ (ys : List Str) (k : Str), see S x = .lst (ys.map D.str) ∧ ds = [.str k] ∧ Q (.dat (.int (cntS k ys))) S
end
section
variable {X : Cx} {e o i value : Expr} {p p2 pos pos2 pos' pc pu : Pos}
theorem pe_sortSet {ta : AE} (hc : X.calm = true) (hg : Gl X "sorted") (hm : X.mg "sorted" = none) (hg2 : Gl X "set") (hm2 : X.mg "set" = none) (he : GE X e ta) (hs : notStar e = true := by rfl) :
    GE X (.Call (.Name "sorted" p) [.Call (.Name "set" p2) [e] [] pos2] [] pos) (aSortSet ta) := ⟨mE (L2.pe_sortSet hc hg hm hg2 hm2 he.p hs) s_sortSet⟩
theorem pe_tupRev {ta : AE} (hc : X.calm = true) (hg : Gl X "tuple") (hm : X.mg "tuple" = none) (hg2 : Gl X "reversed") (hm2 : X.mg "reversed" = none) (he : GE X e ta) (hs : notStar e = true := by rfl) :
    GE X (.Call (.Name "tuple" p) [.Call (.Name "reversed" p2) [e] [] pos2] [] pos) (aTupRev ta) := ⟨mE (L2.pe_tupRev hc hg hm hg2 hm2 he.p hs) s_tupRev⟩
theorem pe_revL {ta : AE} {j : Nat} (he : GE X e ta) : GE X (.Subscript e (.Slice none none (some (.UnaryOp .USub (.Constant (.int 1) j pc) pu)) p2) pos) (aRevL ta) := ⟨mE (L2.pe_revL he.p) s_revL⟩
theorem pe_dget {ta tb : AE} (hu : X.A.units + 1 < cLine) (ho : GE X o ta) (hi : GE X i tb) (hs : NoSl i) : GE X (.Subscript o i pos) (aDGet ta tb) := ⟨mE (L2.pe_dget hu ho.p hi.p hs) s_dget⟩
theorem ps_dput {ta tb tc : AE} (hu : X.A.units + 1 < cLine) (ho : GE X o ta) (hi : GE X i tb) (hv : GE X value tc) (hs : swapsWith value (some (.Subscript o i pos')) pos.line X.env = pure false) : GS X (.Assign [.Subscript o i pos'] value pos) (aDPut ta tb tc) :=
  ⟨mS (L2.ps_dput hu ho.p hi.p hv.p hs) s_dput⟩
theorem ps_lput {ta tb tc : AE} (ho : GE X o ta) (hi : GE X i tb) (hv : GE X value tc) (ha : ∀ v, assign (.Subscript o i pos') X.env v = (do
      let ov ← holding [v] (eval o X.env)
      let iv ← holding [v, ov] (eval i X.env)
      standAt pos'
      holding [v, ov, iv] (setItem ov iv v)
      release [v, ov, iv] []) := by intro _; rfl) (hs : swapsWithSole [.Subscript o i pos'] value pos.line X.env = pure false := by rfl) (hw : swappedStores [.Subscript o i pos'] value X.env = pure none := by rfl)
    (h1 : (assignEach [.Subscript o i pos'] X.env).map (·.2) = [assign (.Subscript o i pos') X.env] := by rfl) : GS X (.Assign [.Subscript o i pos'] value pos) (aLPut ta tb tc) :=
  ⟨mS (L2.ps_asg hv.p (L2.pg_sub ho.p hi.p set_list ha) hs hw h1) s_lput⟩
theorem m_count : OpM X "list.count" aCount := ⟨mM (X := X) (t := rCountS X.K) mt_countS fun x xs H Q h => by
  obtain ⟨w, d, ds, S, Qa, ok, r1, r2, ⟨ys, k, z, rfl, q⟩, bk⟩ := h
  obtain ⟨v, rfl, r3⟩ := reps1 r2
  obtain ⟨a, zs, rfl, g1, g2⟩ := see_lst ok r1 z
  rw [reps_strs' g2] at g1
  exact ⟨a, ys, k, rfl, by rw [rep_str r3 rfl], SqL.of g1, bk.dat .refl ok .int q⟩⟩
theorem o_neg : Op1 X (unaryOp .USub) (fun x S Q => ∃ i, x = .int i ∧ Q (.dat (.int (-i))) S) := ⟨m1 un_neg fun x H Q h => by
  obtain ⟨w, d, S, Qa, ok, r1, ⟨i, rfl, q⟩, bk⟩ := h
  exact ⟨i, rep_int r1 rfl, bk.dat .refl ok .int q⟩⟩
end
end M
set_option Elab.async false
set_option linter.all false
set_option maxRecDepth 100000
set_option maxHeartbeats 4000000
namespace M
open PySem PySem.Spec PyProof.Rows L2
section
variable {K : PySem.W.Frag}
noncomputable def trs (K : PySem.W.Frag) : List Str → List AE → List (TE × TE)
  | k :: ks, a :: as => (tC (.str k), conE K a) :: trs K ks as
  | _, _ => []
noncomputable def aPairs : List AE → AEnv → Sto → (List D → Sto → Prop) → Prop
  | [], _, S, Q => Q [] S
  | a :: as, δ, S, Q => a δ S fun r S1 => aPairs as δ S1 fun ds S2 => Q (r.d :: ds) S2
theorem s_pairs : ∀ (ks : List Str) (as : List AE) {w : Wd} {δ : AEnv} {S : Sto} {σ : L2.St} {H : Hp} {Qa : List D → Sto → Prop} {Q : List (V × V) → Hp → Prop}, ks.length = as.length → Ok K w H S → EnvR K w δ σ → aPairs as δ S Qa →
    (∀ ds S' (vs : List V) w' H', w.le w' → Ok K w' H' S' → Reps K w' ds vs → vs.length = ks.length → Qa ds S' → Q ((ks.zip vs).map fun p => (V.str p.1, p.2)) H') → tPairs (trs K ks as) σ H Q
  | [], [], w, δ, S, σ, H, Qa, Q, _, ok, env, q, bk => bk [] S [] w H .refl ok .nil rfl q
  | [], _ :: _, _, _, _, _, _, _, _, hl, _, _, _, _ => by cases hl
  | _ :: _, [], _, _, _, _, _, _, _, hl, _, _, _, _ => by cases hl
  | k :: ks, a :: as, w, δ, S, σ, H, Qa, Q, hl, ok, env, q, bk => by
    show conE K a σ H _
    refine ⟨w, δ, S, _, ok, env, q, .go fun r S1 v w1 H1 le1 ok1 rep1 q1 => ?_⟩
    refine s_pairs ks as (by simpa using hl) ok1 (env.le le1) q1 fun ds S2 vs w2 H2 le2 ok2 rep2 l2 q2 => ?_
    exact bk (r.d :: ds) S2 (v :: vs) w2 H2 (le1.trans le2) ok2 (.cons (rep1.le le2) rep2) (by simp [l2]) q2
theorem merge_new : ∀ (more kvs : List (Key × V)), ((kvs ++ more).map (·.1)).Nodup → mergeK kvs more = kvs ++ more
  | [], kvs, _ => by simp [mergeK]
  | p :: r, kvs, h => by
    show mergeK (putK kvs p.1 p.2) r = _
    have e : putK kvs p.1 p.2 = kvs ++ [p] := by
      unfold putK
      rw [if_neg]
      intro z
      obtain ⟨q, hq, e⟩ := List.any_eq_true.mp z
      have e : q.1 = p.1 := by simpa using e
      rw [List.map_append, List.nodup_append] at h
      exact h.2.2 q.1 (List.mem_map.mpr ⟨q, hq, rfl⟩) p.1 (by simp) e
    rw [e, merge_new r (kvs ++ [p]) (by simpa using h)]
    simp
noncomputable def aDisp (ks : List Str) (as : List AE) : AE := fun δ S Q => aPairs as δ (S ++ [some (.dct [] [])]) fun ds S' => S'[S.length]? = some (some (.dct [] [])) ∧ Q (.dat (.loc S.length)) (S'.set S.length (some (.dct (ks.map Sum.inr) ds)))
theorem s_disp {ks : List Str} {as : List AE} (hn : ks.Nodup) (hl : ks.length = as.length) (h15 : ks.length ≤ 15) : ∀ σ H Q, conE K (aDisp ks as) σ H Q → tDisp (trs K ks as) σ H Q := by
  rintro σ H Q ⟨w, δ, S, Qa, ok, env, q, bk⟩ p hp
  have ok1 := ok.alloc (o := .dK []) hp
  obtain ⟨w2, le2, ok2, rep2⟩ := store ok1 (ok.fresh (o := .dK []) (m := .dct [] []) hp ⟨[], rfl, rfl, .nil⟩)
  refine s_pairs ks as hl ok2 (env.le le2) q fun ds S' vs w3 H3 le3 ok3 rep3 l3 ⟨hS, q3⟩ => ?_
  obtain ⟨a, kvs, ea, h0, h1, h2, h3⟩ := dct_at ok3 (rep2.le le3) hS
  cases ea
  have hk : kvs = [] := by
    cases kvs with
    | nil => rfl
    | cons x r => simp at h2
  subst hk
  have em : ((ks.map Sum.inr).zip vs : List (Key × V)).map (·.1) = ks.map Sum.inr := by
    rw [List.map_fst_zip]
    rw [List.length_map, l3]; exact Nat.le_refl _
  have em2 : ((ks.map Sum.inr).zip vs : List (Key × V)).map (·.2) = vs := by
    rw [List.map_snd_zip]
    rw [List.length_map, l3]; exact Nat.le_refl _
  refine ⟨h1, (ks.map Sum.inr).zip vs, ?_, ?_, ?_⟩
  · rw [List.zip_map_left, List.map_map]
    rfl
  · rw [List.length_zip, List.length_map, l3, Nat.min_self]; exact h15
  · have hnd : (([] ++ ((ks.map Sum.inr).zip vs : List (Key × V)) : List (Key × V)).map (fun p => p.1)).Nodup := by
      rw [List.nil_append, em]
      exact List.Pairwise.map _ (fun a b (h : a ≠ b) z => h (by injection z)) hn
    rw [merge_new _ [] hnd, List.nil_append]
    refine bk.dat (le2.trans le3) (ok3.put hS h0 (o' := .dct (ks.map Sum.inr) ds) ⟨_, rfl, em, by rw [em2]; exact rep3⟩) (rep2.le le3) q3
theorem frz1 {w : Wd} {H : Hp} {S : Sto} {m : Nat} {ds : List D} (k : Ok K w H S) (e : S[m]? = some (some (.lst ds))) : ∃ w', w.le w' ∧ Ok K w' H (S.set m none) ∧ ∀ v, Rep K w (.loc m) v → Rep K w' (.lst ds) v := by
  obtain ⟨a, u, h1, h2, h3, xs, rfl, h4⟩ := k.live m _ e
  have le : w.le ⟨upd w.B a (.lst xs), w.r⟩ := ⟨al h2, fun _ _ e => e⟩
  have at_ : ∀ n o, (S.set m none)[n]? = some (some o) → n ≠ m ∧ S[n]? = some (some o) := fun n o z => by
    by_cases hm : m = n
    · subst hm
      rw [List.getElem?_set] at z
      simp at z
    · rw [List.getElem?_set_ne hm] at z
      exact ⟨fun y => hm y.symm, z⟩
  refine ⟨⟨upd w.B a (.lst xs), w.r⟩, le, ⟨fun b o z => ?_, fun n o z => ?_, fun n j o o' z1 z2 z => ?_, fun n hn => k.top n (by rw [List.length_set] at hn; exact hn)⟩, fun v hv => ?_⟩
  · by_cases hb : b = a
    · subst hb
      have z : upd w.B b (.lst xs) b = some o := z
      rw [upd_same] at z
      rw [h3]; exact z
    · have z : upd w.B a (.lst xs) b = some o := z
      rw [upd_ne hb] at z
      exact k.base b o z
  · obtain ⟨hn, z⟩ := at_ n o z
    obtain ⟨a', u', g1, g2, g3, g4⟩ := k.live n o z
    have hne : a' ≠ a := fun y => hn (k.inj n m _ _ z e (by rw [g1, h1, y]))
    exact ⟨a', u', g1, by show upd w.B a _ a' = none; rw [upd_ne hne]; exact g2, g3, g4.le le⟩
  · exact k.inj n j o o' (at_ n o z1).2 (at_ j o' z2).2 z
  · simp only [Rep] at hv ⊢
    obtain ⟨a', g1, rfl⟩ := hv
    rw [h1] at g1; cases g1
    exact ⟨a, xs, rfl, upd_same, h4.le le⟩
noncomputable def sb (m : Nat) (e : D) : D → D
  | .loc n => if n = m then e else .loc n
  | d => d
theorem sb_rep {w w' : Wd} {m : Nat} {ds : List D} (le : w.le w') (f : ∀ v, Rep K w (.loc m) v → Rep K w' (.lst ds) v) : ∀ {es : List D} {xs : List V}, Reps K w es xs → Reps K w' (es.map (sb m (.lst ds))) xs
  | [], xs, h => by simp only [Reps] at h; subst h; exact .nil
  | d :: es, xs, h => by
    simp only [Reps] at h
    obtain ⟨x, r, rfl, h1, h2⟩ := h
    refine .cons ?_ (sb_rep le f h2)
    cases d with
    | loc n =>
      show Rep K w' (if n = m then _ else _) x
      by_cases hn : n = m
      · rw [if_pos hn]; subst hn; exact f x h1
      · rw [if_neg hn]; exact h1.le le
    | _ => exact h1.le le
noncomputable def aFrz (a : AE) : AE := fun δ S Q => a δ S fun r S1 => ∃ m ds es, r = .dat (.tup es) ∧ S1[m]? = some (some (.lst ds)) ∧ Q (.dat (.tup (es.map (sb m (.lst ds))))) (S1.set m none)
theorem s_frz {a : AE} : ∀ σ H Q, conE K (aFrz a) σ H Q → conE K a σ H Q := by
  rintro σ H Q ⟨w, δ, S, Qa, ok, env, q, bk⟩
  refine ⟨w, δ, S, _, ok, env, q, fun r S1 v w1 H1 le1 ok1 rep1 ⟨m, ds, es, er, hS, q1⟩ => ?_⟩
  subst er
  have rep1 : Rep K w1 (.tup es) v := rep1
  simp only [Rep] at rep1
  obtain ⟨t, xs, rfl, hB, hr⟩ := rep1
  obtain ⟨w2, le2, ok2, f⟩ := frz1 ok1 hS
  refine bk.dat (le1.trans le2) ok2 ?_ q1
  simp only [Rep]
  exact ⟨t, xs, rfl, le2.b _ _ hB, sb_rep le2 f hr⟩
end
section
variable {X : Cx} {e : Expr} {pos : Pos}
theorem fre {t : AE} (h : GE X e t) : GE X e (aFrz t) := ⟨mE h.p s_frz⟩
structure GPs (X : Cx) (pos : Pos) (keys : List (Option Expr)) (values : List Expr) (ks : List Str) (as : List AE) : Prop where
  p : PPs X pos keys values (trs X.K ks as)
theorem pps_nil : GPs X pos [] [] [] [] := ⟨L2.pps_nil⟩
theorem pps_cons {k : Str} {j : Nat} {pk : Pos} {v : Expr} {keys : List (Option Expr)} {values : List Expr} {ks : List Str} {a : AE} {as : List AE} (hv : GE X v a) (hr : GPs X pos keys values ks as) :
    GPs X pos (some (.Constant (.str k) j pk) :: keys) (v :: values) (k :: ks) (a :: as) := ⟨L2.pps_cons L2.pe_str hv.p hr.p⟩
theorem pe_disp {keys : List (Option Expr)} {values : List Expr} {ks : List Str} {as : List AE} (h : GPs X pos keys values ks as) (hall : keys.all (·.isSome) = true := by rfl) (hl : keys.length = values.length := by rfl) (h0 : keys ≠ [] := by exact List.cons_ne_nil _ _)
    (h15 : keys.length ≤ 15 := by decide) (hn : ks.Nodup := by decide +kernel) (hl2 : ks.length = as.length := by rfl) (h15' : ks.length ≤ 15 := by decide) : GE X (.Dict keys values pos) (aDisp ks as) := ⟨mE (L2.pe_disp h.p hall hl h0 h15) (s_disp hn hl2 h15')⟩
end
end M
set_option Elab.async false
set_option linter.all false
set_option maxRecDepth 100000
set_option maxHeartbeats 4000000
namespace K63
open PySem L2
noncomputable def top (i : Nat) : Stmt := PySem.Challenge.pw_pathask_k63_backwards.main.body.getD i (.Pass ⟨0, 0, 0, 0⟩)
noncomputable abbrev sRow : Stmt := top 1
noncomputable abbrev NscRow : List Str := ["thing", "many"]
noncomputable abbrev PscRow : List Str := ["thing", "many"]
theorem scRow : FnScope NscRow PscRow (defScope sRow) := ⟨rfl, rfl, rfl, by decide +kernel, rfl, by decide +kernel, by decide +kernel⟩
noncomputable abbrev sName : Stmt := top 4
noncomputable abbrev NscName : List Str := ["thing"]
noncomputable abbrev PscName : List Str := ["thing"]
theorem scName : FnScope NscName PscName (defScope sName) := ⟨rfl, rfl, rfl, by decide +kernel, rfl, by decide +kernel, by decide +kernel⟩
noncomputable abbrev sPat : Stmt := top 12
noncomputable abbrev NscPat : List Str := ["thing", "layer", "depth", "count"]
noncomputable abbrev PscPat : List Str := ["thing"]
theorem scPat : FnScope NscPat PscPat (defScope sPat) := ⟨rfl, rfl, rfl, by decide +kernel, rfl, by decide +kernel, by decide +kernel⟩
noncomputable abbrev sLeaf : Stmt := top 13
noncomputable abbrev NscLeaf : List Str := ["thing"]
noncomputable abbrev PscLeaf : List Str := ["thing"]
theorem scLeaf : FnScope NscLeaf PscLeaf (defScope sLeaf) := ⟨rfl, rfl, rfl, by decide +kernel, rfl, by decide +kernel, by decide +kernel⟩
noncomputable abbrev sWord : Stmt := top 14
noncomputable abbrev NscWord : List Str := ["thing"]
noncomputable abbrev PscWord : List Str := ["thing"]
theorem scWord : FnScope NscWord PscWord (defScope sWord) := ⟨rfl, rfl, rfl, by decide +kernel, rfl, by decide +kernel, by decide +kernel⟩
noncomputable abbrev sJoint : Stmt := top 15
noncomputable abbrev NscJoint : List Str := ["thing"]
noncomputable abbrev PscJoint : List Str := ["thing"]
theorem scJoint : FnScope NscJoint PscJoint (defScope sJoint) := ⟨rfl, rfl, rfl, by decide +kernel, rfl, by decide +kernel, by decide +kernel⟩
noncomputable abbrev sWithin : Stmt := top 16
noncomputable abbrev NscWithin : List Str := ["pattern"]
noncomputable abbrev PscWithin : List Str := ["pattern"]
theorem scWithin : FnScope NscWithin PscWithin (defScope sWithin) := ⟨rfl, rfl, rfl, by decide +kernel, rfl, by decide +kernel, by decide +kernel⟩
noncomputable abbrev sBelow : Stmt := top 17
noncomputable abbrev NscBelow : List Str := ["layer", "found", "pattern"]
noncomputable abbrev PscBelow : List Str := ["layer"]
theorem scBelow : FnScope NscBelow PscBelow (defScope sBelow) := ⟨rfl, rfl, rfl, by decide +kernel, rfl, by decide +kernel, by decide +kernel⟩
structure Txt (K : PySem.W.Frag) (mg : Str → Option Value) : Prop where
  len : mg "len" = none
  isinstance : mg "isinstance" = none
  str : mg "str" = none
  int : mg "int" = none
  tuple : mg "tuple" = none
  list : mg "list" = none
  all : mg "all" = none
  range : mg "range" = none
  sorted : mg "sorted" = none
  set : mg "set" = none
  reversed : mg "reversed" = none
  longest : ∃ t, mg "LONGEST" = some (.int 8 t)
  parts : ∃ t, mg "MOST_PARTS" = some (.int 40 t)
  most : ∃ t, mg "MOST_WITHIN" = some (.int 39 t)
  deep : ∃ t, mg "DEEPEST" = some (.int 10 t)
  any : ∃ t, mg "ANY" = some (.str "*" t)
  leaves : ∃ a, mg "LEAVES" = some (.ref a) ∧ ∀ H : Hp, SqT K H a ((["stay", "step", "at", "off"] : List Str).map V.str)
  sides : ∃ a, mg "SIDES" = some (.ref a) ∧ ∀ H : Hp, SqT K H a ((["on", "back"] : List Str).map V.str)
section
variable {X : Cx} {pos : Pos} {mg : Str → Option Value} {K : PySem.W.Frag}
theorem g_int {x : Str} {i : Int} (e : ∃ t, mg x = some (.int i t)) (hg : Gl X x) (hm : X.mg = mg) (hd : (x == ("__debug__" : Str)) = false) : M.GE X (.Name x pos) (M.aC (.int i)) := by
  obtain ⟨t, e⟩ := e
  exact M.pe_glob (v := .int i) hg (by rw [hm]; exact e) ⟨t, rfl⟩ (fun _ => .int) hd
theorem g_str {x y : Str} (e : ∃ t, mg x = some (.str y t)) (hg : Gl X x) (hm : X.mg = mg) (hd : (x == ("__debug__" : Str)) = false) : M.GE X (.Name x pos) (M.aC (.str y)) := by
  obtain ⟨t, e⟩ := e
  exact M.pe_glob (v := .str y) hg (by rw [hm]; exact e) ⟨t, rfl⟩ (fun _ => .str) hd
theorem g_stc {x : Str} {ss : List Str} (e : ∃ a, mg x = some (.ref a) ∧ ∀ H : Hp, SqT K H a (ss.map V.str)) (hg : Gl X x) (hm : X.mg = mg) (hK : X.K = K) (hd : (x == ("__debug__" : Str)) = false) : M.GE X (.Name x pos) (M.aC (.stc ss)) := by
  obtain ⟨a, e, h⟩ := e
  subst hK
  exact M.pe_glob (v := .ref a) hg (by rw [hm]; exact e) rfl (fun w => by simp only [M.Rep]; exact ⟨a, rfl, h _⟩) hd
theorem Txt.pe_LONGEST (T : Txt K mg) (hg : Gl X "LONGEST" := by rfl) (hm : X.mg = mg := by rfl) : M.GE X (.Name "LONGEST" pos) (M.aC (.int 8)) := g_int T.longest hg hm (by decide +kernel)
theorem Txt.pe_MOST_PARTS (T : Txt K mg) (hg : Gl X "MOST_PARTS" := by rfl) (hm : X.mg = mg := by rfl) : M.GE X (.Name "MOST_PARTS" pos) (M.aC (.int 40)) := g_int T.parts hg hm (by decide +kernel)
theorem Txt.pe_MOST_WITHIN (T : Txt K mg) (hg : Gl X "MOST_WITHIN" := by rfl) (hm : X.mg = mg := by rfl) : M.GE X (.Name "MOST_WITHIN" pos) (M.aC (.int 39)) := g_int T.most hg hm (by decide +kernel)
theorem Txt.pe_DEEPEST (T : Txt K mg) (hg : Gl X "DEEPEST" := by rfl) (hm : X.mg = mg := by rfl) : M.GE X (.Name "DEEPEST" pos) (M.aC (.int 10)) := g_int T.deep hg hm (by decide +kernel)
theorem Txt.pe_ANY (T : Txt K mg) (hg : Gl X "ANY" := by rfl) (hm : X.mg = mg := by rfl) : M.GE X (.Name "ANY" pos) (M.aC (.str "*")) := g_str T.any hg hm (by decide +kernel)
theorem Txt.pe_LEAVES (T : Txt K mg) (hg : Gl X "LEAVES" := by rfl) (hm : X.mg = mg := by rfl) (hK : X.K = K := by rfl) : M.GE X (.Name "LEAVES" pos) (M.aC (.stc ["stay", "step", "at", "off"])) := g_stc T.leaves hg hm hK (by decide +kernel)
theorem Txt.pe_SIDES (T : Txt K mg) (hg : Gl X "SIDES" := by rfl) (hm : X.mg = mg := by rfl) (hK : X.K = K := by rfl) : M.GE X (.Name "SIDES" pos) (M.aC (.stc ["on", "back"])) := g_stc T.sides hg hm hK (by decide +kernel)
end
open M
noncomputable def isRow (x : D) (n : Int) : Bool := match x with
  | .tup es => decide ((es.length : Int) = n)
  | _ => false
section
variable {P : Program} {w : World} {K : PySem.W.Frag} {mg : Str → Option Value} {base : Heap}
theorem row_yes {es : List D} {n : Int} (h : (es.length : Int) = n) : isRow (.tup es) n = true := decide_eq_true h
theorem row_no {es : List D} {n : Int} (h : ¬ (es.length : Int) = n) : isRow (.tup es) n = false := decide_eq_false h
noncomputable def spRow : AN := fun ds S Q => ∃ x n, ds = [x, .int n] ∧ pur x = true ∧ Q (.dat (.bl (isRow x n))) S
theorem isi_of {S : Sto} {x : D} (h : pur x = true) : isiD (see S x) "tuple" = some (match x with | .tup _ => true | _ => false) ∧ isiD (see S x) "str" = some (match x with | .str _ => true | _ => false) := by
  rw [see_pur h]
  cases x <;> first | (simp [pur] at h; done) | exact ⟨rfl, rfl⟩
theorem d_Row (T : Txt K mg) (F : Src K mg "is_row" PscRow sRow) : Def P w K mg base 1 "is_row" PscRow (conSp K spRow) := by
  refine defA F scRow (fun ds S Q h => ?_) (fun f cdv A outer s H E hr => ?_)
  · obtain ⟨x, n, rfl, _⟩ := h; rfl
  · refine ⟨_, (M.pss_one (M.ps_ret (M.pe_and (M.pcb M.o_isi (by rfl) T.isinstance (by decide +kernel) (M.pac (M.pv 0) (M.pac (M.pe_ty "tuple" (by rfl) T.tuple (by decide +kernel)) M.pa_nil))) (M.pe_one (M.pe_cmpR (M.o_eq hr) (M.pcb M.o_len (by rfl) T.len (by decide +kernel) (M.pac (M.pv 0) M.pa_nil)) (M.pv 1) (nomark _)))))), fun ds S Q h => ?_⟩
    obtain ⟨x, n, rfl, hp, q⟩ := h
    have e0 : startA NscRow [x, .int n] = [some x, some (.int n)] := rfl
    rw [e0]
    simp only [aRet, aRetN, aAndV, aOrV, aNotV, aCall, aCons, aNil, aVar, aC, aOp, aUn, aB, aTru, aIf, aSeq, aIfS, aNot, aAnd, aOr, aAsg, agName, aNext, aChain, aSl, aPart, aNoPart, aDrop, aTup, aLst, rd_dat, rd_new, mod_lst, le_int', lt_int', aI_int, add_int', add_lst', eq_int', eq_str', tru_bl, tru_lst, tru_tup, true_and, aIsi, aLen, see_int', see_str', see_bl', see_non', see_tup', see_lst', see_stc', see_scr', List.getElem?_cons_zero, List.getElem?_cons_succ, List.set_cons_zero, List.set_cons_succ, Option.some.injEq, exists_eq_left', List.cons.injEq, and_true, D.ty.injEq, D.bl.injEq, D.int.injEq, D.str.injEq, and_assoc, exists_and_left, exists_eq_left, exists_and_right, ret_bl, ret_int, Bool.false_eq_true, if_true, if_false, Bool.not_true, Bool.not_false, aEq, (isi_of (S := S) hp).1]
    cases x <;> first | (simp [pur] at hp; done) | skip
    case tup es => exact ⟨es.length, rfl, q⟩
    all_goals exact q
noncomputable def isLow (c : Nat) : Bool := decide (97 ≤ c) && decide (c ≤ 122)
noncomputable def isName (x : D) : Bool := match x with
  | .str s => decide (1 ≤ s.length) && decide (s.length ≤ 8) && s.cps.toList.all isLow
  | _ => false
noncomputable def lowD : D → D
  | .str s => .bl (s.cps.toList.all isLow)
  | d => d
theorem lt1 (a b : Nat) : decide ([a] < [b]) = decide (a < b) := by
  by_cases h : a < b
  · rw [decide_eq_true h]; exact decide_eq_true (by simpa [List.cons_lt_cons_iff] using h)
  · rw [decide_eq_false h]; exact decide_eq_false (by simpa [List.cons_lt_cons_iff] using h)
theorem low_sign {c : Nat} {δ : AEnv} {S : Sto} {Q : AK} (q : Q (.dat (lowD (.str ⟨#[c]⟩))) S) : aChain aLe aLe (aC (.str "a")) (aVar 0) (aC (.str "z")) ((captA [none] δ).set 0 (some (.str ⟨#[c]⟩))) S Q := by
  have e1 : (("a" : Str)).cps.toList = [97] := by decide +kernel
  have e2 : (("z" : Str)).cps.toList = [122] := by decide +kernel
  have e3 : (⟨#[c]⟩ : Str).cps.toList = [c] := rfl
  simp only [captA, List.map_cons, List.map_nil, Option.bind_none, List.set_cons_zero, aChain, aC, aVar, List.getElem?_cons_zero, Option.some.injEq, exists_eq_left', rd_dat, le_str', D.bl.injEq, e1, e2, e3, lt1]
  have q : Q (.dat (.bl ((decide (97 ≤ c) && decide (c ≤ 122)) && true))) S := q
  rw [Bool.and_true] at q
  refine ite2 (fun h => ?_) (fun h => ?_)
  · have h : 97 ≤ c := by simpa using h
    rw [decide_eq_true h, Bool.true_and] at q
    have : (!decide (122 < c)) = decide (c ≤ 122) := by
      by_cases z : c ≤ 122
      · simp [z]
      · simp [z]; omega
    rw [this]; exact q
  · have h : ¬ 97 ≤ c := by intro z; exact h (by simp; omega)
    rw [decide_eq_false h, Bool.false_and] at q
    exact q
noncomputable def spName : AN := fun ds S Q => ∃ x, ds = [x] ∧ pur x = true ∧ (∀ s, x = .str s → s.length ≤ 1000) ∧ Q (.dat (.bl (isName x))) S
theorem d_Name (T : Txt K mg) (F : Src K mg "is_name" PscName sName) : Def P w K mg base 1 "is_name" PscName (conSp K spName) := by
  refine defA F scName (fun ds S Q h => ?_) (fun f cdv A outer s H E hr => ?_)
  · obtain ⟨x, rfl, _⟩ := h; rfl
  · refine ⟨_, (M.pss_cons (M.ps_if (M.pt_not (M.pt_val (M.pcb M.o_isi (by rfl) T.isinstance (by decide +kernel) (M.pac (M.pv 0) (M.pac (M.pe_ty "str" (by rfl) T.str (by decide +kernel)) M.pa_nil)))))
        (M.pss_one (M.ps_ret M.pe_bl))
        M.pss_nil)
      (M.pss_one (M.ps_ret (M.pe_and (M.pe_chain M.o_le M.o_le M.pe_int (M.pcb M.o_len (by rfl) T.len (by decide +kernel) (M.pac (M.pv 0) M.pa_nil)) T.pe_LONGEST) (M.pe_one (M.pcb (M.o_all rfl) (by rfl) T.all (by decide +kernel) (M.pac (M.pe_comp (N := ["sign"]) (caps := [none]) (bs_mk (by decide +kernel)) (by rfl) (by rfl) rfl (M.pi_any (M.pv 0)) (fun _ _ _ _ => (M.pg_name (i := 0) (by decide +kernel : List.Nodup (["sign"] : List Str)) rfl (Or.inl rfl))) (fun _ _ _ _ => M.pts_nil) (fun _ _ _ _ => (M.pe_chain M.o_le M.o_le M.pe_str (M.pv 0) M.pe_str))) M.pa_nil))))))), fun ds S Q h => ?_⟩
    obtain ⟨x, rfl, hp, hl, q⟩ := h
    have e0 : startA NscName [x] = [some x] := rfl
    rw [e0]
    simp only [aRet, aRetN, aAndV, aOrV, aNotV, aCall, aCons, aNil, aVar, aC, aOp, aUn, aB, aTru, aIf, aSeq, aIfS, aNot, aAnd, aOr, aAsg, agName, aNext, aChain, aSl, aPart, aNoPart, aDrop, aTup, aLst, rd_dat, rd_new, mod_lst, le_int', lt_int', aI_int, add_int', add_lst', eq_int', eq_str', tru_bl, tru_lst, tru_tup, true_and, aIsi, aLen, see_int', see_str', see_bl', see_non', see_tup', see_lst', see_stc', see_scr', List.getElem?_cons_zero, List.getElem?_cons_succ, List.set_cons_zero, List.set_cons_succ, Option.some.injEq, exists_eq_left', List.cons.injEq, and_true, D.ty.injEq, D.bl.injEq, D.int.injEq, D.str.injEq, and_assoc, exists_and_left, exists_eq_left, exists_and_right, ret_bl, ret_int, Bool.false_eq_true, if_true, if_false, Bool.not_true, Bool.not_false, (isi_of (S := S) hp).2]
    cases x <;> first | (simp [pur] at hp; done) | skip
    case str y =>
      simp only [aRet, aRetN, aAndV, aOrV, aNotV, aCall, aCons, aNil, aVar, aC, aOp, aUn, aB, aTru, aIf, aSeq, aIfS, aNot, aAnd, aOr, aAsg, agName, aNext, aChain, aSl, aPart, aNoPart, aDrop, aTup, aLst, rd_dat, rd_new, mod_lst, le_int', lt_int', aI_int, add_int', add_lst', eq_int', eq_str', tru_bl, tru_lst, tru_tup, true_and, aIsi, aLen, see_int', see_str', see_bl', see_non', see_tup', see_lst', see_stc', see_scr', List.getElem?_cons_zero, List.getElem?_cons_succ, List.set_cons_zero, List.set_cons_succ, Option.some.injEq, exists_eq_left', List.cons.injEq, and_true, D.ty.injEq, D.bl.injEq, D.int.injEq, D.str.injEq, and_assoc, exists_and_left, exists_eq_left, exists_and_right, ret_bl, ret_int, Bool.false_eq_true, if_true, if_false, Bool.not_true, Bool.not_false]
      have hy := hl y rfl
      refine ⟨y.length, by simp only [lenD]; rw [if_pos (by rw [sizeLine_eq]; omega)], ?_⟩
      have hn : isName (.str y) = (decide (1 ≤ y.length) && decide (y.length ≤ 8) && y.cps.toList.all isLow) := rfl
      rw [hn] at q
      refine ite2 (fun h1 => ?_) (fun h1 => ?_)
      · have h1 : 1 ≤ y.length := by have := of_decide_eq_true h1; omega
        refine ite2 (fun h2 => ?_) (fun h2 => ?_)
        · have h2 : y.length ≤ 8 := by have := of_decide_eq_true h2; omega
          rw [decide_eq_true h1, decide_eq_true h2] at q
          simp only [aComp, iAny, iAnyD, aVar, List.getElem?_cons_zero, Option.some.injEq, exists_eq_left', rd_dat]
          have hlen : (signs y).length = y.length := by simp [signs, Str.length]
          refine comp_map (δ := captA [none] [some (.str y)]) lowD trivial (signs y) [] _ rfl (fun x hx Q' q' => ?_) (by rw [hlen, sizeLine_eq]; simp; omega) ?_
          · obtain ⟨c, hc, rfl⟩ := List.mem_map.mp hx
            exact low_sign q'
          · rw [List.nil_append]
            refine ⟨_, y.cps.toList.map isLow, rfl, ?_, ?_⟩
            · simp only [rd_new, mod_lst, see_lst', signs, List.map_map]
              refine congrArg D.lst (List.map_congr_left fun c _ => ?_)
              show D.bl (isLow c && true) = D.bl (isLow c)
              rw [Bool.and_true]
            · show M.ret S S _ Q
              rw [ret_bl]
              simpa [List.all_map] using q
        · have h2 : ¬ y.length ≤ 8 := by intro z; exact h2 (decide_eq_true (by omega))
          rw [decide_eq_false h2, Bool.and_false, Bool.false_and] at q
          exact q
      · have h1 : ¬ 1 ≤ y.length := by intro z; exact h1 (decide_eq_true (by omega))
        rw [decide_eq_false h1, Bool.false_and, Bool.false_and] at q
        exact q
    all_goals (simp only [aRet, aRetN, aAndV, aOrV, aNotV, aCall, aCons, aNil, aVar, aC, aOp, aUn, aB, aTru, aIf, aSeq, aIfS, aNot, aAnd, aOr, aAsg, agName, aNext, aChain, aSl, aPart, aNoPart, aDrop, aTup, aLst, rd_dat, rd_new, mod_lst, le_int', lt_int', aI_int, add_int', add_lst', eq_int', eq_str', tru_bl, tru_lst, tru_tup, true_and, aIsi, aLen, see_int', see_str', see_bl', see_non', see_tup', see_lst', see_stc', see_scr', List.getElem?_cons_zero, List.getElem?_cons_succ, List.set_cons_zero, List.set_cons_succ, Option.some.injEq, exists_eq_left', List.cons.injEq, and_true, D.ty.injEq, D.bl.injEq, D.int.injEq, D.str.injEq, and_assoc, exists_and_left, exists_eq_left, exists_and_right, ret_bl, ret_int, Bool.false_eq_true, if_true, if_false, Bool.not_true, Bool.not_false]; exact q)
noncomputable def isWord (x : D) : Bool := isS x "*" || isName x
theorem th_len {n : Nat} {x : D} (h : thB n x = true) : ∀ s, x = .str s → s.length ≤ 1000 := fun s e => by
  subst e
  have h : okS s = true := by cases n <;> exact h
  unfold okS at h
  rw [Bool.and_eq_true] at h
  have := of_decide_eq_true h.2
  omega
noncomputable def spWord : AN := fun ds S Q => ∃ x, ds = [x] ∧ thB 60 x = true ∧ Q (.dat (.bl (isWord x))) S
theorem d_Word (T : Txt K mg) (F : Src K mg "is_word" PscWord sWord) (D_is_name : Def P w K mg base 1 "is_name" PscName (conSp K spName)) : Def P w K mg base 2 "is_word" PscWord (conSp K spWord) := by
  refine defA F scWord (fun ds S Q h => ?_) (fun f cdv A outer s H E hr => ?_)
  · obtain ⟨x, rfl, _⟩ := h; rfl
  · refine ⟨_, (M.pss_one (M.ps_ret (M.pe_or (M.pe_cmpR (M.o_eq hr) (M.pv 0) T.pe_ANY (nomark _)) (M.pe_one (M.pe_own D_is_name (hr.mono (by decide)) (by rfl) (M.pac (M.pv 0) M.pa_nil)))))), fun ds S Q h => ?_⟩
    obtain ⟨x, rfl, ht, q⟩ := h
    have e0 : startA NscWord [x] = [some x] := rfl
    rw [e0]
    simp only [aRet, aRetN, aAndV, aOrV, aNotV, aCall, aCons, aNil, aVar, aC, aOp, aUn, aB, aTru, aIf, aSeq, aIfS, aNot, aAnd, aOr, aAsg, agName, aNext, aChain, aSl, aPart, aNoPart, aDrop, aTup, aLst, rd_dat, rd_new, mod_lst, le_int', lt_int', aI_int, add_int', add_lst', eq_int', eq_str', tru_bl, tru_lst, tru_tup, true_and, aIsi, aLen, see_int', see_str', see_bl', see_non', see_tup', see_lst', see_stc', see_scr', List.getElem?_cons_zero, List.getElem?_cons_succ, List.set_cons_zero, List.set_cons_succ, Option.some.injEq, exists_eq_left', List.cons.injEq, and_true, D.ty.injEq, D.bl.injEq, D.int.injEq, D.str.injEq, and_assoc, exists_and_left, exists_eq_left, exists_and_right, ret_bl, ret_int, Bool.false_eq_true, if_true, if_false, Bool.not_true, Bool.not_false]
    refine eq_text ht (by decide) (by decide +kernel) ⟨_, rfl, ?_⟩
    unfold isWord at q
    refine ite2 (fun h => ?_) (fun h => ?_)
    · rw [h, Bool.true_or] at q
      rw [ret_bl]; exact q
    · have h : isS x "*" = false := by simpa using h
      rw [h, Bool.false_or] at q
      refine ⟨x, rfl, th_pur ht, th_len ht, ?_⟩
      show M.ret S S _ Q
      rw [ret_bl]; exact q
noncomputable def isLeaf (x : D) : Bool := match x with
  | .tup [a] => isS a "stay"
  | .tup [a, b] => inS a ["at", "off"] && isName b
  | .tup [a, b, c] => isS a "step" && (inS b ["on", "back"] && isWord c)
  | _ => false
noncomputable def spLeaf : AN := fun ds S Q => ∃ x, ds = [x] ∧ thB 61 x = true ∧ Q (.dat (.bl (isLeaf x))) S
theorem d_Leaf (T : Txt K mg) (F : Src K mg "is_leaf" PscLeaf sLeaf) (D_is_name : Def P w K mg base 1 "is_name" PscName (conSp K spName)) (D_is_row : Def P w K mg base 1 "is_row" PscRow (conSp K spRow)) (D_is_word : Def P w K mg base 2 "is_word" PscWord (conSp K spWord)) :
    Def P w K mg base 3 "is_leaf" PscLeaf (conSp K spLeaf) := by
  refine defA F scLeaf (fun ds S Q h => ?_) (fun f cdv A outer s H E hr => ?_)
  · obtain ⟨x, rfl, _⟩ := h; rfl
  · refine ⟨_, (M.pss_cons (M.ps_if (M.pt_val (M.pe_own D_is_row (hr.mono (by decide)) (by rfl) (M.pac (M.pv 0) (M.pac M.pe_int M.pa_nil))))
        (M.pss_one (M.ps_ret (M.pe_cmpR (M.o_eq hr) (M.pe_ix M.o_ix (M.pv 0) M.pe_int (fun _ _ => rfl)) M.pe_str (nomark _))))
        M.pss_nil)
      (M.pss_cons (M.ps_if (M.pt_val (M.pe_own D_is_row (hr.mono (by decide)) (by rfl) (M.pac (M.pv 0) (M.pac M.pe_int M.pa_nil))))
        (M.pss_one (M.ps_ret (M.pe_and (M.pe_cmpR (M.o_in hr) (M.pe_ix M.o_ix (M.pv 0) M.pe_int (fun _ _ => rfl)) (M.pe_tup (M.pac M.pe_str (M.pac M.pe_str M.pa_nil))) rfl) (M.pe_one (M.pe_own D_is_name (hr.mono (by decide)) (by rfl) (M.pac (M.pe_ix M.o_ix (M.pv 0) M.pe_int (fun _ _ => rfl)) M.pa_nil))))))
        M.pss_nil)
      (M.pss_one (M.ps_ret (M.pe_and (M.pe_own D_is_row (hr.mono (by decide)) (by rfl) (M.pac (M.pv 0) (M.pac M.pe_int M.pa_nil))) (M.pe_and (M.pe_cmpR (M.o_eq hr) (M.pe_ix M.o_ix (M.pv 0) M.pe_int (fun _ _ => rfl)) M.pe_str (nomark _)) (M.pe_and (M.pe_cmpR (M.o_in hr) (M.pe_ix M.o_ix (M.pv 0) M.pe_int (fun _ _ => rfl)) T.pe_SIDES rfl) (M.pe_one (M.pe_own D_is_word (hr.mono (by decide)) (by rfl) (M.pac (M.pe_ix M.o_ix (M.pv 0) M.pe_int (fun _ _ => rfl)) M.pa_nil)))))))))), fun ds S Q h => ?_⟩
    obtain ⟨x, rfl, ht, q⟩ := h
    have e0 : startA NscLeaf [x] = [some x] := rfl
    have hp := th_pur ht
    rw [e0]
    simp only [aRet, aRetN, aAndV, aOrV, aNotV, aCall, aCons, aNil, aVar, aC, aOp, aUn, aB, aTru, aIf, aSeq, aIfS, aNot, aAnd, aOr, aAsg, agName, aNext, aChain, aSl, aPart, aNoPart, aDrop, aTup, aLst, rd_dat, rd_new, mod_lst, le_int', lt_int', aI_int, add_int', add_lst', eq_int', eq_str', tru_bl, tru_lst, tru_tup, true_and, aIsi, aLen, see_int', see_str', see_bl', see_non', see_tup', see_lst', see_stc', see_scr', List.getElem?_cons_zero, List.getElem?_cons_succ, List.set_cons_zero, List.set_cons_succ, Option.some.injEq, exists_eq_left', List.cons.injEq, and_true, D.ty.injEq, D.bl.injEq, D.int.injEq, D.str.injEq, and_assoc, exists_and_left, exists_eq_left, exists_and_right, ret_bl, ret_int, Bool.false_eq_true, if_true, if_false, Bool.not_true, Bool.not_false, spRow, hp]
    cases x <;> first | (simp [pur] at hp; done) | exact q | skip
    rename_i es
    match es, ht, q with
    | [], _, q => exact q
    | [a], ht, q =>
      have ha : thB 60 a = true := th_item ht (by simp)
      rw [row_yes (es := [a]) (n := 1) (by simp)]
      simp only [if_true]
      refine ⟨a, rfl, eq_text ha (by decide) (by decide +kernel) ?_⟩
      show M.ret S S _ Q
      rw [ret_bl]; exact q
    | [a, b], ht, q =>
      have ha : thB 60 a = true := th_item ht (by simp)
      have hb : thB 60 b = true := th_item ht (by simp)
      have q : Q (.dat (.bl (inS a ["at", "off"] && isName b))) S := q
      rw [row_no (es := [a, b]) (n := 1) (by simp), row_yes (es := [a, b]) (n := 2) (by simp)]
      simp only [if_true, if_false, Bool.false_eq_true]
      refine ⟨a, rfl, (by show 2 ≤ sizeLine; decide), in_texts (ss := ["at", "off"]) ha (by decide) (by decide +kernel) ⟨_, rfl, ?_⟩⟩
      rw [Bool.false_bne]
      refine ite2 (fun (h : inS a ["at", "off"] = true) => ?_) (fun (h : ¬ inS a ["at", "off"] = true) => ?_)
      · rw [h, Bool.true_and] at q
        refine ⟨b, rfl, b, rfl, th_pur hb, th_len hb, ?_⟩
        show M.ret S S _ Q
        rw [ret_bl]; exact q
      · have h : inS a ["at", "off"] = false := by simpa using h
        rw [h, Bool.false_and] at q
        rw [ret_bl]; exact q
    | [a, b, c], ht, q =>
      have ha : thB 60 a = true := th_item ht (by simp)
      have hb : thB 60 b = true := th_item ht (by simp)
      have hc : thB 60 c = true := th_item ht (by simp)
      have q : Q (.dat (.bl (isS a "step" && (inS b ["on", "back"] && isWord c)))) S := q
      rw [row_no (es := [a, b, c]) (n := 1) (by simp), row_no (es := [a, b, c]) (n := 2) (by simp), row_yes (es := [a, b, c]) (n := 3) (by simp)]
      simp only [if_true, if_false, Bool.false_eq_true]
      refine ⟨a, rfl, eq_text ha (by decide) (by decide +kernel) ⟨_, rfl, ?_⟩⟩
      refine ite2 (fun (h : isS a "step" = true) => ?_) (fun (h : ¬ isS a "step" = true) => ?_)
      · rw [h, Bool.true_and] at q
        refine ⟨b, rfl, in_stc hb (by decide) (by decide +kernel) ⟨_, rfl, ?_⟩⟩
        rw [Bool.false_bne]
        refine ite2 (fun (h : inS b ["on", "back"] = true) => ?_) (fun (h : ¬ inS b ["on", "back"] = true) => ?_)
        · rw [h, Bool.true_and] at q
          refine ⟨c, rfl, c, rfl, hc, ?_⟩
          show M.ret S S _ Q
          rw [ret_bl]; exact q
        · have h : inS b ["on", "back"] = false := by simpa using h
          rw [h, Bool.false_and] at q
          rw [ret_bl]; exact q
      · have h : isS a "step" = false := by simpa using h
        rw [h, Bool.false_and] at q
        rw [ret_bl]; exact q
    | a :: b :: c :: d :: r, ht, q =>
      have n1 : ∀ k : Int, k ≤ 3 → isRow (.tup (a :: b :: c :: d :: r)) k = false := fun k hk => row_no (by simp; omega)
      rw [n1 1 (by decide), n1 2 (by decide), n1 3 (by decide)]
      simp only [if_false, Bool.false_eq_true]
      exact q
noncomputable def fewT : D → Bool
  | .tup es => decide (es.length ≤ 39)
  | _ => false
noncomputable def tupOf : D → List D
  | .tup es => es
  | _ => []
noncomputable def isJoint (x : D) : Bool := match x with
  | .tup [a, b] => if inS a ["then", "either"] = true then fewT b else isS a "many"
  | _ => false
noncomputable def spJoint : AN := fun ds S Q => ∃ x, ds = [x] ∧ thB 61 x = true ∧ Q (.dat (.bl (isJoint x))) S
theorem d_Joint (T : Txt K mg) (F : Src K mg "is_joint" PscJoint sJoint) (D_is_row : Def P w K mg base 1 "is_row" PscRow (conSp K spRow)) : Def P w K mg base 2 "is_joint" PscJoint (conSp K spJoint) := by
  refine defA F scJoint (fun ds S Q h => ?_) (fun f cdv A outer s H E hr => ?_)
  · obtain ⟨x, rfl, _⟩ := h; rfl
  · refine ⟨_, (M.pss_cons (M.ps_if (M.pt_not (M.pt_val (M.pe_own D_is_row (hr.mono (by decide)) (by rfl) (M.pac (M.pv 0) (M.pac M.pe_int M.pa_nil)))))
        (M.pss_one (M.ps_ret M.pe_bl))
        M.pss_nil)
      (M.pss_cons (M.ps_if (M.pt_cmpR (M.o_in hr) (M.pe_ix M.o_ix (M.pv 0) M.pe_int (fun _ _ => rfl)) (M.pe_tup (M.pac M.pe_str (M.pac M.pe_str M.pa_nil))) rfl)
        (M.pss_one (M.ps_ret (M.pe_and (M.pcb M.o_isi (by rfl) T.isinstance (by decide +kernel) (M.pac (M.pe_ix M.o_ix (M.pv 0) M.pe_int (fun _ _ => rfl)) (M.pac (M.pe_ty "tuple" (by rfl) T.tuple (by decide +kernel)) M.pa_nil))) (M.pe_one (M.pe_cmpR M.o_le (M.pcb M.o_len (by rfl) T.len (by decide +kernel) (M.pac (M.pe_ix M.o_ix (M.pv 0) M.pe_int (fun _ _ => rfl)) M.pa_nil)) T.pe_MOST_WITHIN (nomark _))))))
        M.pss_nil)
      (M.pss_one (M.ps_ret (M.pe_cmpR (M.o_eq hr) (M.pe_ix M.o_ix (M.pv 0) M.pe_int (fun _ _ => rfl)) M.pe_str (nomark _)))))), fun ds S Q h => ?_⟩
    obtain ⟨x, rfl, ht, q⟩ := h
    have e0 : startA NscJoint [x] = [some x] := rfl
    have hp := th_pur ht
    rw [e0]
    simp only [aRet, aRetN, aAndV, aOrV, aNotV, aCall, aCons, aNil, aVar, aC, aOp, aUn, aB, aTru, aIf, aSeq, aIfS, aNot, aAnd, aOr, aAsg, agName, aNext, aChain, aSl, aPart, aNoPart, aDrop, aTup, aLst, rd_dat, rd_new, mod_lst, le_int', lt_int', aI_int, add_int', add_lst', eq_int', eq_str', tru_bl, tru_lst, tru_tup, true_and, aIsi, aLen, see_int', see_str', see_bl', see_non', see_tup', see_lst', see_stc', see_scr', List.getElem?_cons_zero, List.getElem?_cons_succ, List.set_cons_zero, List.set_cons_succ, Option.some.injEq, exists_eq_left', List.cons.injEq, and_true, D.ty.injEq, D.bl.injEq, D.int.injEq, D.str.injEq, and_assoc, exists_and_left, exists_eq_left, exists_and_right, ret_bl, ret_int, Bool.false_eq_true, if_true, if_false, Bool.not_true, Bool.not_false, spRow, hp]
    cases x <;> first | (simp [pur] at hp; done) | exact q | skip
    rename_i es
    match es, ht, q with
    | [], _, q => exact q
    | [a], ht, q => exact q
    | [a, b], ht, q =>
      have ha : thB 60 a = true := th_item ht (by simp)
      have hb : thB 60 b = true := th_item ht (by simp)
      rw [row_yes (es := [a, b]) (n := 2) (by simp)]
      simp only [if_false, Bool.false_eq_true, Bool.not_true]
      refine ⟨a, rfl, (by show 2 ≤ sizeLine; decide), in_texts (ss := ["then", "either"]) ha (by decide) (by decide +kernel) ⟨_, rfl, ?_⟩⟩
      have q : Q (.dat (.bl (if inS a ["then", "either"] = true then fewT b else isS a "many"))) S := q
      rw [Bool.false_bne]
      refine ite2 (fun (h : inS a ["then", "either"] = true) => ?_) (fun (h : ¬ inS a ["then", "either"] = true) => ?_)
      · rw [if_pos h] at q
        refine ⟨b, rfl, _, (isi_of (S := S) (x := b) (th_pur hb)).1, ?_⟩
        cases b <;> first | (have := th_pur hb; simp [pur] at this; done) | (simp only [ret_bl, Bool.false_eq_true, if_false]; exact q) | skip
        rename_i es _
        simp only [if_true]
        refine ⟨_, rfl, es.length, rfl, ?_⟩
        rw [ret_bl]
        have e : decide ((es.length : Int) ≤ 39) = decide (es.length ≤ 39) := by
          by_cases z : es.length ≤ 39
          · rw [decide_eq_true z]; exact decide_eq_true (by omega)
          · rw [decide_eq_false z]; exact decide_eq_false (by omega)
        rw [e]; exact q
      · rw [if_neg h] at q
        refine ⟨a, rfl, eq_text ha (by decide) (by decide +kernel) ?_⟩
        show M.ret S S _ Q
        rw [ret_bl]; exact q
    | a :: b :: c :: r, ht, q =>
      have n1 : isRow (.tup (a :: b :: c :: r)) 2 = false := row_no (by simp; omega)
      rw [n1]
      simp only [if_true, Bool.not_false]
      exact q
noncomputable def kids (x : D) : List D := match x with
  | .tup [a, b] => if inS a ["stay", "step", "at", "off"] = true then [] else if isS a "many" = true then [b] else tupOf b
  | _ => []
noncomputable def right (x : D) : Bool := isLeaf x || isJoint x
noncomputable def spWithin : AN := fun ds S Q => ∃ x, ds = [x] ∧ thB 61 x = true ∧ right x = true ∧ Q (.dat (.tup (kids x))) S
theorem d_Within (T : Txt K mg) (F : Src K mg "right_within" PscWithin sWithin) : Def P w K mg base 1 "right_within" PscWithin (conSp K spWithin) := by
  refine defA F scWithin (fun ds S Q h => ?_) (fun f cdv A outer s H E hr => ?_)
  · obtain ⟨x, rfl, _⟩ := h; rfl
  · refine ⟨_, (M.pss_cons (M.ps_if (M.pt_cmpR (M.o_in hr) (M.pe_ix M.o_ix (M.pv 0) M.pe_int (fun _ _ => rfl)) T.pe_LEAVES rfl)
        (M.pss_one (M.ps_ret (M.pe_tup M.pa_nil)))
        M.pss_nil)
      (M.pss_one (M.ps_ret (M.pe_ifExp (M.pt_cmpR (M.o_eq hr) (M.pe_ix M.o_ix (M.pv 0) M.pe_int (fun _ _ => rfl)) M.pe_str (nomark _)) (M.pe_tup (M.pac (M.pe_ix M.o_ix (M.pv 0) M.pe_int (fun _ _ => rfl)) M.pa_nil)) (M.pe_ix M.o_ix (M.pv 0) M.pe_int (fun _ _ => rfl)))))), fun ds S Q h => ?_⟩
    obtain ⟨x, rfl, ht, hr2, q⟩ := h
    have e0 : startA NscWithin [x] = [some x] := rfl
    rw [e0]
    simp only [aRet, aRetN, aAndV, aOrV, aNotV, aCall, aCons, aNil, aVar, aC, aOp, aUn, aB, aTru, aIf, aSeq, aIfS, aNot, aAnd, aOr, aAsg, agName, aNext, aChain, aSl, aPart, aNoPart, aDrop, aTup, aLst, rd_dat, rd_new, mod_lst, le_int', lt_int', aI_int, add_int', add_lst', eq_int', eq_str', tru_bl, tru_lst, tru_tup, true_and, aIsi, aLen, see_int', see_str', see_bl', see_non', see_tup', see_lst', see_stc', see_scr', List.getElem?_cons_zero, List.getElem?_cons_succ, List.set_cons_zero, List.set_cons_succ, Option.some.injEq, exists_eq_left', List.cons.injEq, and_true, D.ty.injEq, D.bl.injEq, D.int.injEq, D.str.injEq, and_assoc, exists_and_left, exists_eq_left, exists_and_right, ret_bl, ret_int, Bool.false_eq_true, if_true, if_false, Bool.not_true, Bool.not_false]
    have fin : ∀ (a : D) (es : List D), x = .tup (a :: es) → inS a ["stay", "step", "at", "off"] = true → kids x = [] → aIx x (.int 0) S fun x_1 S1 => aIn false x_1.d (.stc ["stay", "step", "at", "off"]) S1 fun r S1 => ∃ b, r.d = .bl b ∧ if b = true then ([] : List D).length ≤ sizeLine ∧ M.ret S S1 (.dat (.tup [])) Q
          else aIx x (.int 0) S1 fun x_2 S1 => aEq x_2.d (.str "many") S1 fun r S1 => ∃ b, r.d = .bl b ∧ if b = true then aIx x (.int 1) S1 fun x S1 => [x.d].length ≤ sizeLine ∧ M.ret S S1 (.dat (.tup [x.d])) Q else aIx x (.int 1) S1 fun r S' => M.ret S S' r Q := by
      intro a es e h hk
      subst e
      have ha : thB 60 a = true := th_item ht (by simp)
      refine ⟨a, (show atI (a :: es) ((0 : Nat) : Int) = some a from atI_nat rfl), in_stc ha (by decide) (by decide +kernel) ⟨_, rfl, ?_⟩⟩
      rw [show (false != inS (R.dat a).d ["stay", "step", "at", "off"]) = true by rw [rd_dat, h]; rfl]
      simp only [if_true]
      refine ⟨Nat.zero_le _, ret_pur rfl ?_⟩
      rw [hk] at q; exact q
    match x, ht, hr2, q, fin with
    | .tup [], _, h, _, _ => exact absurd h (by decide)
    | .tup [a], _, h, _, fin =>
      have h : isS a "stay" = true := by simpa [right, isLeaf, isJoint] using h
      exact fin a [] rfl (by simp [inS, h]) rfl
    | .tup [a, b, c], _, h, _, fin =>
      have h : isS a "step" = true := by
        simp only [right, isLeaf, isJoint, Bool.or_false, Bool.and_eq_true] at h
        exact h.1
      exact fin a [b, c] rfl (by simp [inS, h]) rfl
    | .tup [a, b], ht, h, q, fin =>
      by_cases hl : inS a ["stay", "step", "at", "off"] = true
      · exact fin a [b] rfl hl (by simp only [kids]; rw [if_pos hl])
      · have ha : thB 60 a = true := th_item ht (by simp)
        have hb : thB 60 b = true := th_item ht (by simp)
        have hl' : inS a ["stay", "step", "at", "off"] = false := by simpa using hl
        have hkk : kids (.tup [a, b]) = if isS a "many" = true then [b] else tupOf b := by simp only [kids]; rw [if_neg hl]
        rw [hkk] at q
        refine ⟨a, rfl, in_stc ha (by decide) (by decide +kernel) ⟨_, rfl, ?_⟩⟩
        rw [show (false != inS (R.dat a).d ["stay", "step", "at", "off"]) = false by rw [rd_dat, hl']; rfl]
        simp only [if_false, Bool.false_eq_true]
        refine ⟨a, rfl, eq_text ha (by decide) (by decide +kernel) ⟨_, rfl, ?_⟩⟩
        refine ite2 (fun (hm : isS a "many" = true) => ?_) (fun (hm : ¬ isS a "many" = true) => ?_)
        · rw [if_pos hm] at q
          exact ⟨b, rfl, (by show 1 ≤ sizeLine; decide), ret_pur (by simp [pur, purs, rd_dat, th_pur hb]) q⟩
        · rw [if_neg hm] at q
          have hj : isJoint (.tup [a, b]) = true := by
            have h : (isLeaf (.tup [a, b]) || isJoint (.tup [a, b])) = true := h
            have hn : isLeaf (.tup [a, b]) = false := by
              have : inS a ["at", "off"] = false := by
                cases z : inS a ["at", "off"] with
                | false => rfl
                | true => exact absurd (by simp only [inS, List.any_cons, List.any_nil, Bool.or_false, Bool.or_eq_true] at z ⊢; exact .inr (.inr z)) hl
              show (inS a ["at", "off"] && isName b) = false
              rw [this]; rfl
            rw [hn, Bool.false_or] at h; exact h
          have hj : (if inS a ["then", "either"] = true then fewT b else isS a "many") = true := hj
          by_cases hte : inS a ["then", "either"] = true
          · rw [if_pos hte] at hj
            cases b with
            | tup es => exact ⟨_, rfl, ret_pur (th_pur hb) q⟩
            | _ => exact absurd hj (by simp [fewT])
          · rw [if_neg hte] at hj; exact absurd hj hm
    | .tup (a :: b :: c :: d :: r), _, h, _, _ => exact absurd h (by simp [right, isLeaf, isJoint])
    | .non, _, h, _, _ => exact absurd h (by decide)
    | .bl _, _, h, _, _ => exact absurd h (by simp [right, isLeaf, isJoint])
    | .int _, _, h, _, _ => exact absurd h (by simp [right, isLeaf, isJoint])
    | .str _, _, h, _, _ => exact absurd h (by simp [right, isLeaf, isJoint])
    | .lst _, _, h, _, _ => exact absurd h (by simp [right, isLeaf, isJoint])
    | .dct _ _, _, h, _, _ => exact absurd h (by simp [right, isLeaf, isJoint])
    | .loc _, _, h, _, _ => exact absurd h (by simp [right, isLeaf, isJoint])
    | .ty _, _, h, _, _ => exact absurd h (by simp [right, isLeaf, isJoint])
    | .scr _, _, h, _, _ => exact absurd h (by simp [right, isLeaf, isJoint])
    | .stc _, _, h, _, _ => exact absurd h (by simp [right, isLeaf, isJoint])
    | .fd, _, h, _, _ => exact absurd h (by decide)
noncomputable def below (L : List D) : List D := (L.map kids).flatten
theorem below_mem {L : List D} {y : D} (h : y ∈ below L) : ∃ x ∈ L, y ∈ kids x := by
  unfold below at h
  obtain ⟨l, hl, hy⟩ := List.mem_flatten.mp h
  obtain ⟨x, hx, rfl⟩ := List.mem_map.mp hl
  exact ⟨x, hx, hy⟩
theorem kids_th {n : Nat} {x : D} (h : thB (n + 1) x = true) : ∀ y ∈ kids x, thB n y = true := by
  intro y hy
  match x, h, hy with
  | .tup [a, b], h, hy =>
    have hb : thB n b = true := th_item h (by simp)
    simp only [kids] at hy
    split at hy
    · simp at hy
    · split at hy
      · have : y = b := by simpa using hy
        subst this; exact hb
      · cases b <;> simp only [tupOf] at hy <;> first | (simp at hy; done) | skip
        cases n with
        | zero => simp [thB] at hb
        | succ n => exact thB_mono (th_item hb hy) (by omega)
  | .tup [], _, hy => simp [kids] at hy
  | .tup [a], _, hy => simp [kids] at hy
  | .tup (a :: b :: c :: r), _, hy => simp [kids] at hy
  | .non, _, hy => simp [kids] at hy
  | .bl _, _, hy => simp [kids] at hy
  | .int _, _, hy => simp [kids] at hy
  | .str _, _, hy => simp [kids] at hy
  | .lst _, _, hy => simp [kids] at hy
  | .dct _ _, _, hy => simp [kids] at hy
  | .loc _, _, hy => simp [kids] at hy
  | .ty _, _, hy => simp [kids] at hy
  | .scr _, _, hy => simp [kids] at hy
  | .stc _, _, hy => simp [kids] at hy
  | .fd, _, hy => simp [kids] at hy
theorem purs_of : ∀ {ds : List D}, (∀ y ∈ ds, pur y = true) → purs ds = true
  | [], _ => by simp [purs]
  | d :: ds, h => by
    simp only [purs, Bool.and_eq_true]
    exact ⟨h d (by simp), purs_of fun y hy => h y (by simp [hy])⟩
noncomputable def spBelow : AN := fun ds S Q => ∃ L, ds = [.lst L] ∧ (∀ x ∈ L, thB 61 x = true ∧ right x = true) ∧ (below L).length ≤ 10000 ∧ Q (.new (.lst (below L))) S
theorem d_Below (T : Txt K mg) (F : Src K mg "layer_below" PscBelow sBelow) (D_right_within : Def P w K mg base 1 "right_within" PscWithin (conSp K spWithin)) : Def P w K mg base 2 "layer_below" PscBelow (conSp K spBelow) := by
  refine defA F scBelow (fun ds S Q h => ?_) (fun f cdv A outer s H E hr => ?_)
  · obtain ⟨L, rfl, _⟩ := h; rfl
  · refine ⟨_, (M.pss_cons (M.ps_set (i := 1) scBelow.nd rfl (Or.inl rfl) (M.alo (M.pe_lst M.pa_nil)))
      (M.pss_cons (M.ps_for PassesOwn.never rfl (M.pi_any (M.pv 0)) (M.pg_name (i := 2) scBelow.nd rfl (Or.inl rfl))
        (M.pss_one (M.ps_expr (M.pe_bm PySem.F.plainAttrs_list PySem.F.slot_list_extend PySem.F.type_list_extend M.m_extend (M.pv 1) (M.pac (M.pe_own D_right_within (hr.mono (by decide)) (by rfl) (M.pac (M.pv 2) M.pa_nil)) M.pa_nil)))))
      (M.pss_one (M.ps_ret (M.pv 1))))), fun ds S Q h => ?_⟩
    obtain ⟨L, rfl, hL, hl, q⟩ := h
    have e0 : startA NscBelow [.lst L] = [some (.lst L), none, none] := rfl
    rw [e0]
    simp only [aRet, aRetN, aAndV, aOrV, aNotV, aCall, aCons, aNil, aVar, aC, aOp, aUn, aB, aTru, aIf, aSeq, aIfS, aNot, aAnd, aOr, aAsg, agName, aNext, aChain, aSl, aPart, aNoPart, aDrop, aTup, aLst, rd_dat, rd_new, mod_lst, le_int', lt_int', aI_int, add_int', add_lst', eq_int', eq_str', tru_bl, tru_lst, tru_tup, true_and, aIsi, aLen, see_int', see_str', see_bl', see_non', see_tup', see_lst', see_stc', see_scr', List.getElem?_cons_zero, List.getElem?_cons_succ, List.set_cons_zero, List.set_cons_succ, Option.some.injEq, exists_eq_left', List.cons.injEq, and_true, D.ty.injEq, D.bl.injEq, D.int.injEq, D.str.injEq, and_assoc, exists_and_left, exists_eq_left, exists_and_right, ret_bl, ret_int, Bool.false_eq_true, if_true, if_false, Bool.not_true, Bool.not_false, aAlloc, aFor, iAny, iAnyD]
    have hpu : purs (below L) = true := purs_of fun y hy => by
      obtain ⟨x, hx, hyx⟩ := below_mem hy
      exact th_pur (kids_th (hL x hx).1 y hyx)
    refine ⟨Nat.zero_le _, loop_by (fun rest δ S' => ∃ acc v2, δ = [some (.lst L), some (.loc S.length), v2] ∧ S' = S ++ [some (.lst acc)] ∧ acc ++ below rest = below L ∧ ∀ x ∈ rest, thB 61 x = true ∧ right x = true) ?_ ?_ L _ _ ⟨[], none, rfl, rfl, rfl, hL⟩⟩
    · rintro δ S' ⟨acc, v2, rfl, rfl, e, _⟩
      have e : acc = below L := by simpa [below] using e
      subst e
      exact ⟨trivial, _, rfl, ret_loc (Nat.le_refl _) hpu (by simp) (by simp) q⟩
    · rintro x xs δ S' N ⟨acc, v2, rfl, rfl, e, hx⟩ hN
      refine ⟨trivial, ?_⟩
      have hx1 := hx x (by simp)
      have hlen : acc.length + (kids x).length ≤ sizeLine := by
        have := congrArg List.length e
        simp only [below, List.map_cons, List.flatten_cons, List.length_append] at this hl
        rw [sizeLine_eq]; omega
      have e3 : (S ++ [some (MO.lst acc)])[S.length]? = some (some (.lst acc)) := by simp
      have e4 : see (S ++ [some (MO.lst acc)]) (.loc S.length) = .lst acc := by simp only [see, e3, MO.d]
      simp only [aRet, aRetN, aAndV, aOrV, aNotV, aCall, aCons, aNil, aVar, aC, aOp, aUn, aB, aTru, aIf, aSeq, aIfS, aNot, aAnd, aOr, aAsg, agName, aNext, aChain, aSl, aPart, aNoPart, aDrop, aTup, aLst, rd_dat, rd_new, mod_lst, le_int', lt_int', aI_int, add_int', add_lst', eq_int', eq_str', tru_bl, tru_lst, tru_tup, true_and, aIsi, aLen, see_int', see_str', see_bl', see_non', see_tup', see_lst', see_stc', see_scr', List.getElem?_cons_zero, List.getElem?_cons_succ, List.set_cons_zero, List.set_cons_succ, Option.some.injEq, exists_eq_left', List.cons.injEq, and_true, D.ty.injEq, D.bl.injEq, D.int.injEq, D.str.injEq, and_assoc, exists_and_left, exists_eq_left, exists_and_right, ret_bl, ret_int, Bool.false_eq_true, if_true, if_false, Bool.not_true, Bool.not_false, aBM, e4, isTy, true_and]
      refine ⟨x, rfl, hx1.1, hx1.2, ?_⟩
      refine ⟨S.length, acc, .tup (kids x), kids x, rfl, rfl, e3, .inr rfl, hlen, ?_⟩
      refine hN _ _ ⟨acc ++ kids x, some x, rfl, by simp, ?_, fun y hy => hx y (by simp [hy])⟩
      rw [← e]; simp [below, List.append_assoc]
end
end K63
set_option Elab.async false
set_option linter.all false
set_option maxRecDepth 100000
set_option maxHeartbeats 4000000
namespace K63
open PySem L2 M
noncomputable def bfs : Nat → Nat → List D → Bool
  | _, _, [] => true
  | 0, _, _ :: _ => false
  | n + 1, c, a :: r => if c + (a :: r).length > 40 then false else if (a :: r).all right = true then bfs n (c + (a :: r).length) (below (a :: r)) else false
theorem kids_len {n : Nat} {x : D} (h : right x = true) (ht : thB n x = true) : (kids x).length ≤ 39 := by
  match x, h with
  | .tup [a, b], h =>
    simp only [kids]
    split
    · exact Nat.zero_le _
    · rename_i hl
      split
      · show 1 ≤ 39; decide
      · rename_i hm
        have h : (isLeaf (.tup [a, b]) || isJoint (.tup [a, b])) = true := h
        cases hj : isJoint (.tup [a, b]) with
        | true =>
          have hj : (if inS a ["then", "either"] = true then fewT b else isS a "many") = true := hj
          split at hj
          · cases b <;> simp only [fewT, tupOf, decide_eq_true_eq] at hj ⊢ <;> first | exact hj | exact Nat.zero_le _
          · exact absurd hj hm
        | false =>
          rw [hj, Bool.or_false] at h
          have h : (inS a ["at", "off"] && isName b) = true := h
          rw [Bool.and_eq_true] at h
          exact absurd (by have z := h.1; simp only [inS, List.any_cons, List.any_nil, Bool.or_false, Bool.or_eq_true] at z ⊢; exact .inr (.inr z)) hl
  | .tup [], _ => simp [kids]
  | .tup [a], _ => simp [kids]
  | .tup (a :: b :: c :: r), _ => simp [kids]
  | .non, _ => simp [kids]
  | .bl _, _ => simp [kids]
  | .int _, _ => simp [kids]
  | .str _, _ => simp [kids]
  | .lst _, _ => simp [kids]
  | .dct _ _, _ => simp [kids]
  | .loc _, _ => simp [kids]
  | .ty _, _ => simp [kids]
  | .scr _, _ => simp [kids]
  | .stc _, _ => simp [kids]
  | .fd, _ => simp [kids]
theorem below_len : ∀ {L : List D}, (∀ y ∈ L, thB 60 y = true ∧ right y = true) → (below L).length ≤ L.length * 39
  | [], _ => Nat.zero_le _
  | x :: L, h => by
    have h1 := below_len (L := L) fun y hy => h y (by simp [hy])
    have h2 := kids_len (h x (by simp)).2 (h x (by simp)).1
    have e : below (x :: L) = kids x ++ below L := rfl
    rw [e, List.length_append, List.length_cons]
    omega
section
variable {P : Program} {w : World} {K : PySem.W.Frag} {mg : Str → Option Value} {base : Heap}
noncomputable def spPat : AN := fun ds S Q => ∃ x, ds = [x] ∧ thB 60 x = true ∧ Q (.dat (.bl (bfs 10 0 [x]))) S
theorem d_Pat (T : Txt K mg) (F : Src K mg "is_pattern" PscPat sPat) (D_is_leaf : Def P w K mg base 3 "is_leaf" PscLeaf (conSp K spLeaf)) (D_is_joint : Def P w K mg base 2 "is_joint" PscJoint (conSp K spJoint)) (D_layer_below : Def P w K mg base 2 "layer_below" PscBelow (conSp K spBelow)) :
    Def P w K mg base 4 "is_pattern" PscPat (conSp K spPat) := by
  refine defA F scPat (fun ds S Q h => ?_) (fun f cdv A outer s H E hr => ?_)
  · obtain ⟨x, rfl, _⟩ := h; rfl
  · refine ⟨_, (M.pss_cons (M.ps_set (i := 1) scPat.nd rfl (Or.inl rfl) (M.pe_lst (M.pac (M.pv 0) M.pa_nil)))
      (M.pss_cons (M.ps_set (i := 2) scPat.nd rfl (Or.inl rfl) M.pe_int)
      (M.pss_cons (M.ps_set (i := 3) scPat.nd rfl (Or.inl rfl) M.pe_int)
      (M.pss_cons (M.ps_while PassesOwn.never (M.pt_val (M.pv 1))
        (M.pss_cons (M.ps_augAdd (i := 2) scPat.nd rfl (Or.inl rfl) M.pe_int)
        (M.pss_cons (M.ps_augAdd (i := 3) scPat.nd rfl (Or.inl rfl) (M.pcb M.o_len (by rfl) T.len (by decide +kernel) (M.pac (M.pv 1) M.pa_nil)))
        (M.pss_cons (M.ps_if (M.pw_pt (M.pw_or (M.pt_cmpR M.o_gt (M.pv 2) T.pe_DEEPEST (nomark _)) (M.pw_or1 (M.pt_cmpR M.o_gt (M.pv 3) T.pe_MOST_PARTS (nomark _)))))
          (M.pss_one (M.ps_ret M.pe_bl))
          M.pss_nil)
        (M.pss_cons (M.ps_if (M.pt_not (M.pt_val (M.pcb (M.o_all rfl) (by rfl) T.all (by decide +kernel) (M.pac (M.pe_comp (N := ["part"]) (caps := [none]) (bs_mk (by decide +kernel)) (by rfl) (by rfl) rfl (M.pi_any (M.pv 1)) (fun _ _ _ _ => (M.pg_name (i := 0) (by decide +kernel : List.Nodup (["part"] : List Str)) rfl (Or.inl rfl))) (fun _ _ _ _ => M.pts_nil) (fun _ _ _ _ => (M.pe_or (M.pe_own D_is_leaf (hr.mono (by decide)) (by rfl) (M.pac (M.pv 0) M.pa_nil)) (M.pe_one (M.pe_own D_is_joint (hr.mono (by decide)) (by rfl) (M.pac (M.pv 0) M.pa_nil)))))) M.pa_nil))))
          (M.pss_one (M.ps_ret M.pe_bl))
          M.pss_nil)
        (M.pss_one (M.ps_set (i := 1) scPat.nd rfl (Or.inl rfl) (M.pe_own D_layer_below (hr.mono (by decide)) (by rfl) (M.pac (M.pv 1) M.pa_nil)))))))))
      (M.pss_one (M.ps_ret M.pe_bl)))))), fun ds S Q h => ?_⟩
    obtain ⟨x, rfl, ht, q⟩ := h
    have e0 : startA NscPat [x] = [some x, none, none, none] := rfl
    rw [e0]
    simp only [aRet, aRetN, aAndV, aOrV, aNotV, aCall, aCons, aNil, aVar, aC, aOp, aUn, aB, aTru, aIf, aSeq, aIfS, aNot, aAnd, aOr, aAsg, agName, aNext, aChain, aSl, aPart, aNoPart, aDrop, aTup, aLst, rd_dat, rd_new, mod_lst, le_int', lt_int', aI_int, add_int', add_lst', eq_int', eq_str', tru_bl, tru_lst, tru_tup, true_and, aIsi, aLen, see_int', see_str', see_bl', see_non', see_tup', see_lst', see_stc', see_scr', List.getElem?_cons_zero, List.getElem?_cons_succ, List.set_cons_zero, List.set_cons_succ, Option.some.injEq, exists_eq_left', List.cons.injEq, and_true, D.ty.injEq, D.bl.injEq, D.int.injEq, D.str.injEq, and_assoc, exists_and_left, exists_eq_left, exists_and_right, ret_bl, ret_int, Bool.false_eq_true, if_true, if_false, Bool.not_true, Bool.not_false, aAug, aIpAdd]
    refine ⟨(by show 1 ≤ sizeLine; decide), fun m δ S' => ∃ (c : Nat) (L : List D), δ = [some x, some (.lst L), some (.int (10 - (m : Int))), some (.int c)] ∧ S' = S ∧ c ≤ 40 ∧ m ≤ 10 ∧ bfs m c L = bfs 10 0 [x] ∧ ∀ y ∈ L, thB 60 y = true, ⟨10, 0, [x], rfl, rfl, by decide, by decide, rfl, fun y hy => by rw [List.mem_singleton.mp hy]; exact ht⟩, ?_⟩
    rintro m δ S' ⟨c, L, rfl, rfl, hc, hm, hb, hL⟩
    simp only [aRet, aRetN, aAndV, aOrV, aNotV, aCall, aCons, aNil, aVar, aC, aOp, aUn, aB, aTru, aIf, aSeq, aIfS, aNot, aAnd, aOr, aAsg, agName, aNext, aChain, aSl, aPart, aNoPart, aDrop, aTup, aLst, rd_dat, rd_new, mod_lst, le_int', lt_int', aI_int, add_int', add_lst', eq_int', eq_str', tru_bl, tru_lst, tru_tup, true_and, aIsi, aLen, see_int', see_str', see_bl', see_non', see_tup', see_lst', see_stc', see_scr', List.getElem?_cons_zero, List.getElem?_cons_succ, List.set_cons_zero, List.set_cons_succ, Option.some.injEq, exists_eq_left', List.cons.injEq, and_true, D.ty.injEq, D.bl.injEq, D.int.injEq, D.str.injEq, and_assoc, exists_and_left, exists_eq_left, exists_and_right, ret_bl, ret_int, Bool.false_eq_true, if_true, if_false, Bool.not_true, Bool.not_false, aAug, aIpAdd]
    cases L with
    | nil =>
      have e : bfs m c [] = true := by cases m <;> rfl
      rw [← hb, e] at q
      exact q
    | cons a r =>
      simp only [List.isEmpty_cons, Bool.not_false, if_true]
      generalize hLL : a :: r = L at *
      cases m with
      | zero =>
        have e : bfs 0 c L = false := by rw [← hLL]; rfl
        refine ⟨fun _ _ => False, fun _ _ h => h.elim, L.length, rfl, ?_⟩
        rw [if_pos (by simp)]
        rw [← hb, e] at q
        exact q
      | succ n =>
        have eb : bfs (n + 1) c L = if c + L.length > 40 then false else if L.all right = true then bfs n (c + L.length) (below L) else false := by rw [← hLL]; rfl
        refine ⟨fun δ' S2 => S2 = S' ∧ c + L.length ≤ 40 ∧ L.all right = true ∧ δ' = [some x, some (.lst (below L)), some (.int (10 - ((n + 1 : Nat) : Int) + 1)), some (.int ((c : Int) + (L.length : Int)))], ?_, L.length, rfl, ?_⟩
        · rintro δ' S2 ⟨rfl, h1, h2, rfl⟩
          refine ⟨n, by omega, c + L.length, below L, ?_, rfl, h1, by omega, ?_, fun y hy => ?_⟩
          · have e1 : (10 : Int) - ((n + 1 : Nat) : Int) + 1 = 10 - (n : Int) := by omega
            have e2 : (c : Int) + (L.length : Int) = ((c + L.length : Nat) : Int) := by omega
            rw [e1, e2]
          · rw [← hb, eb, if_neg (by omega), if_pos h2]
          · obtain ⟨z, hz, hyz⟩ := below_mem hy
            exact thB_mono (kids_th (n := 59) (hL z hz) y hyz) (by decide)
        · rw [if_neg (by simp; omega)]
          refine ite2 (fun h => ?_) (fun h => ?_)
          · have h : c + L.length > 40 := by have := of_decide_eq_true h; omega
            rw [← hb, eb, if_pos h] at q
            exact q
          · have h : ¬ c + L.length > 40 := by intro z; exact h (decide_eq_true (by omega))
            rw [← hb, eb, if_neg h] at q
            simp only [aComp, iAny, iAnyD, aVar, List.getElem?_cons_zero, List.getElem?_cons_succ, Option.some.injEq, exists_eq_left', rd_dat]
            refine comp_map (δ := [none]) (fun y => .bl (right y)) trivial L [] _ rfl (fun y hy Q' q' => ?_) (by simp only [List.length_nil]; rw [sizeLine_eq]; omega) ?_
            · have hy1 : thB 61 y = true := thB_mono (hL y hy) (by decide)
              simp only [List.set_cons_zero, aRet, aRetN, aAndV, aOrV, aNotV, aCall, aCons, aNil, aVar, aC, aOp, aUn, aB, aTru, aIf, aSeq, aIfS, aNot, aAnd, aOr, aAsg, agName, aNext, aChain, aSl, aPart, aNoPart, aDrop, aTup, aLst, rd_dat, rd_new, mod_lst, le_int', lt_int', aI_int, add_int', add_lst', eq_int', eq_str', tru_bl, tru_lst, tru_tup, true_and, aIsi, aLen, see_int', see_str', see_bl', see_non', see_tup', see_lst', see_stc', see_scr', List.getElem?_cons_zero, List.getElem?_cons_succ, List.set_cons_zero, List.set_cons_succ, Option.some.injEq, exists_eq_left', List.cons.injEq, and_true, D.ty.injEq, D.bl.injEq, D.int.injEq, D.str.injEq, and_assoc, exists_and_left, exists_eq_left, exists_and_right, ret_bl, ret_int, Bool.false_eq_true, if_true, if_false, Bool.not_true, Bool.not_false]
              refine ⟨y, rfl, hy1, _, rfl, ?_⟩
              refine ite2 (fun (hl : isLeaf y = true) => ?_) (fun (hl : ¬ isLeaf y = true) => ?_)
              · have : right y = true := by simp [right, hl]
                rw [this] at q'; exact q'
              · have : right y = isJoint y := by simp [right, hl]
                rw [this] at q'
                exact ⟨y, rfl, hy1, q'⟩
            · rw [List.nil_append]
              refine ⟨_, L.map right, rfl, by simp only [rd_new, mod_lst, see_lst', List.map_map]; rfl, ?_⟩
              have ea : (L.map right).all id = L.all right := by rw [List.all_map]; rfl
              rw [ea]
              refine ⟨_, rfl, ?_⟩
              refine ite2 (fun hr2 => ?_) (fun hr2 => ?_)
              · have hr2 : L.all right = false := by simpa using hr2
                rw [hr2] at q
                rw [ret_bl]; exact q
              · have hr2 : L.all right = true := by simpa using hr2
                refine ⟨L, rfl, fun y hy => ⟨thB_mono (hL y hy) (by decide), List.all_eq_true.mp hr2 y hy⟩, ?_, rfl, by omega, hr2, rfl⟩
                have : (below L).length ≤ L.length * 39 := below_len fun y hy => ⟨hL y hy, List.all_eq_true.mp hr2 y hy⟩
                omega
end
end K63
set_option Elab.async false
set_option linter.all false
set_option maxRecDepth 100000
set_option maxHeartbeats 4000000
namespace K63
open PySem L2 M
inductive Pt where
  | stay | step (b : Bool) (x : Str) | mk (b : Bool) (m : Str) | many (p : Pt) | seq (ps : List Pt) | alt (ps : List Pt)
noncomputable def side (b : Bool) : Str := if b then "on" else "back"
noncomputable def mkS (b : Bool) : Str := if b then "at" else "off"
mutual
noncomputable def tD : Pt → D
  | .stay => .tup [.str "stay"]
  | .step b x => .tup [.str "step", .str (side b), .str x]
  | .mk b m => .tup [.str (mkS b), .str m]
  | .many p => .tup [.str "many", tD p]
  | .seq ps => .tup [.str "then", .tup (tDs ps)]
  | .alt ps => .tup [.str "either", .tup (tDs ps)]
noncomputable def tDs : List Pt → List D
  | [] => []
  | p :: ps => tD p :: tDs ps
end
theorem tDs_map : ∀ ps, tDs ps = ps.map tD
  | [] => rfl
  | p :: ps => by simp [tDs, tDs_map ps]
mutual
noncomputable def bk : Pt → Pt
  | .stay => .stay
  | .step b x => .step (!b) x
  | .mk b m => .mk b m
  | .many p => .many (bk p)
  | .seq ps => .seq (bks ps).reverse
  | .alt ps => .alt (bks ps).reverse
noncomputable def bks : List Pt → List Pt
  | [] => []
  | p :: ps => bk p :: bks ps
end
theorem bks_map : ∀ ps, bks ps = ps.map bk
  | [] => rfl
  | p :: ps => by simp [bks, bks_map ps]
mutual
theorem bk_bk : ∀ p, bk (bk p) = p
  | .stay => rfl
  | .step b x => by simp [bk]
  | .mk b m => rfl
  | .many p => by simp only [bk, bk_bk p]
  | .seq ps => by simp only [bk]; rw [bks_map, List.map_reverse, ← bks_map, bks_bks ps, List.reverse_reverse]
  | .alt ps => by simp only [bk]; rw [bks_map, List.map_reverse, ← bks_map, bks_bks ps, List.reverse_reverse]
theorem bks_bks : ∀ ps, bks (bks ps) = ps
  | [] => rfl
  | p :: ps => by simp only [bks, bk_bk p, bks_bks ps]
end
mutual
noncomputable def N : Pt → Nat
  | .stay | .step _ _ | .mk _ _ => 1
  | .many p => N p + 1
  | .seq ps | .alt ps => Ns ps + 1
noncomputable def Ns : List Pt → Nat
  | [] => 0
  | p :: ps => N p + Ns ps
end
mutual
noncomputable def dp : Pt → Nat
  | .stay | .step _ _ | .mk _ _ => 0
  | .many p => dp p + 1
  | .seq ps | .alt ps => dps ps + 1
noncomputable def dps : List Pt → Nat
  | [] => 0
  | p :: ps => max (dp p) (dps ps)
end
noncomputable def Nm (y : Str) : Prop := isName (.str y) = true
noncomputable def Wd (y : Str) : Prop := isWord (.str y) = true
mutual
noncomputable def Okp : Pt → Prop
  | .stay => True
  | .step _ x => Wd x
  | .mk _ m => Nm m
  | .many p => Okp p
  | .seq ps | .alt ps => Okps ps
noncomputable def Okps : List Pt → Prop
  | [] => True
  | p :: ps => Okp p ∧ Okps ps
end
theorem okps_mem : ∀ {ps : List Pt}, Okps ps ↔ ∀ p ∈ ps, Okp p
  | [] => by simp [Okps]
  | p :: ps => by simp [Okps, okps_mem (ps := ps)]
theorem Ns_append : ∀ ps qs, Ns (ps ++ qs) = Ns ps + Ns qs
  | [], qs => by simp [Ns]
  | p :: ps, qs => by simp [Ns, Ns_append ps qs]; omega
theorem Ns_rev : ∀ ps, Ns ps.reverse = Ns ps
  | [] => rfl
  | p :: ps => by rw [List.reverse_cons, Ns_append, Ns_rev ps]; simp [Ns]; omega
theorem dps_append : ∀ ps qs, dps (ps ++ qs) = max (dps ps) (dps qs)
  | [], qs => by simp [dps]
  | p :: ps, qs => by simp only [List.cons_append, dps, dps_append ps qs]; omega
theorem dps_rev : ∀ ps, dps ps.reverse = dps ps
  | [] => rfl
  | p :: ps => by rw [List.reverse_cons, dps_append, dps_rev ps]; simp [dps]; omega
theorem dps_mem : ∀ {ps : List Pt} {p : Pt}, p ∈ ps → dp p ≤ dps ps
  | q :: ps, p, h => by
    rcases List.mem_cons.mp h with rfl | h
    · simp only [dps]; omega
    · have := dps_mem h; simp only [dps]; omega
theorem N_pos : ∀ p, 1 ≤ N p := fun p => by cases p <;> simp [N]
theorem Ns_len : ∀ ps : List Pt, ps.length ≤ Ns ps
  | [] => Nat.le_refl _
  | p :: ps => by have := Ns_len ps; have := N_pos p; simp only [Ns, List.length_cons]; omega
mutual
theorem N_bk : ∀ p, N (bk p) = N p
  | .stay => rfl
  | .step b x => rfl
  | .mk b m => rfl
  | .many p => by simp only [bk, N, N_bk p]
  | .seq ps => by simp only [bk, N, Ns_rev, Ns_bks ps]
  | .alt ps => by simp only [bk, N, Ns_rev, Ns_bks ps]
theorem Ns_bks : ∀ ps, Ns (bks ps) = Ns ps
  | [] => rfl
  | p :: ps => by simp only [bks, Ns, N_bk p, Ns_bks ps]
end
mutual
theorem dp_bk : ∀ p, dp (bk p) = dp p
  | .stay => rfl
  | .step b x => rfl
  | .mk b m => rfl
  | .many p => by simp only [bk, dp, dp_bk p]
  | .seq ps => by simp only [bk, dp, dps_rev, dps_bks ps]
  | .alt ps => by simp only [bk, dp, dps_rev, dps_bks ps]
theorem dps_bks : ∀ ps, dps (bks ps) = dps ps
  | [] => rfl
  | p :: ps => by simp only [bks, dps, dp_bk p, dps_bks ps]
end
mutual
theorem ok_bk : ∀ p, Okp p → Okp (bk p)
  | .stay, h => h
  | .step b x, h => h
  | .mk b m, h => h
  | .many p, h => ok_bk p h
  | .seq ps, h => okps_mem.mpr fun p hp => okps_mem.mp (ok_bks ps h) p (List.mem_reverse.mp hp)
  | .alt ps, h => okps_mem.mpr fun p hp => okps_mem.mp (ok_bks ps h) p (List.mem_reverse.mp hp)
theorem ok_bks : ∀ ps, Okps ps → Okps (bks ps)
  | [], h => h
  | p :: ps, h => ⟨ok_bk p h.1, ok_bks ps h.2⟩
end
structure Ln where
  ms : List (List Str)
  st : List (Bool × Str)
inductive Star (R : Nat → Nat → Prop) : Nat → Nat → Prop
  | refl (i : Nat) : Star R i i
  | tail {i j k : Nat} : Star R i j → R j k → Star R i k
theorem Star.head {R : Nat → Nat → Prop} {i j k : Nat} (h : R i j) (g : Star R j k) : Star R i k := by
  induction g with
  | refl => exact .tail (.refl _) h
  | tail _ r ih => exact .tail ih r
mutual
noncomputable def Fit (L : Ln) : Pt → Nat → Nat → Prop
  | .stay => fun i j => j = i
  | .step b x => fun i j => j = i + 1 ∧ ∃ s, L.st[i]? = some s ∧ s.1 = b ∧ (x = "*" ∨ x = s.2)
  | .mk b m => fun i j => j = i ∧ ∃ t, L.ms[i]? = some t ∧ decide (m ∈ t) = b
  | .many p => Star (Fit L p)
  | .seq ps => FitS L ps
  | .alt ps => FitA L ps
noncomputable def FitS (L : Ln) : List Pt → Nat → Nat → Prop
  | [] => fun i j => j = i
  | p :: ps => fun i j => ∃ m, Fit L p i m ∧ FitS L ps m j
noncomputable def FitA (L : Ln) : List Pt → Nat → Nat → Prop
  | [] => fun _ _ => False
  | p :: ps => fun i j => Fit L p i j ∨ FitA L ps i j
end
theorem fitA_mem {L : Ln} {i j : Nat} : ∀ {ps : List Pt}, FitA L ps i j ↔ ∃ p ∈ ps, Fit L p i j
  | [] => by simp [FitA]
  | p :: ps => by simp [FitA, fitA_mem (ps := ps)]
theorem fitS_append {L : Ln} {j : Nat} : ∀ {ps qs : List Pt} {i : Nat}, FitS L (ps ++ qs) i j ↔ ∃ m, FitS L ps i m ∧ FitS L qs m j
  | [], qs, i => by simp [FitS]
  | p :: ps, qs, i => by
    simp only [List.cons_append, FitS, fitS_append (ps := ps)]
    constructor
    · rintro ⟨m, h, k, h1, h2⟩; exact ⟨k, ⟨m, h, h1⟩, h2⟩
    · rintro ⟨k, ⟨m, h, h1⟩, h2⟩; exact ⟨m, h, k, h1, h2⟩
theorem fitS_snoc {L : Ln} {ps : List Pt} {p : Pt} {i j : Nat} : FitS L (ps ++ [p]) i j ↔ ∃ m, FitS L ps i m ∧ Fit L p m j := by
  rw [fitS_append]
  refine exists_congr fun m => and_congr_right fun _ => ?_
  simp only [FitS]
  exact ⟨fun ⟨k, h, e⟩ => e ▸ h, fun h => ⟨j, h, rfl⟩⟩
theorem star_le {R : Nat → Nat → Prop} {n : Nat} (h : ∀ i j, i ≤ n → R i j → j ≤ n) {i j : Nat} (hi : i ≤ n) (g : Star R i j) : j ≤ n := by
  induction g with
  | refl => exact hi
  | tail _ r ih => exact h _ _ ih r
mutual
theorem fit_le (L : Ln) : ∀ p i j, i ≤ L.st.length → Fit L p i j → j ≤ L.st.length
  | .stay, i, j, hi, h => by simp only [Fit] at h; omega
  | .step b x, i, j, hi, h => by
    simp only [Fit] at h
    obtain ⟨rfl, s, hs, _⟩ := h
    have := (List.getElem?_eq_some_iff.mp hs).1
    omega
  | .mk b m, i, j, hi, h => by simp only [Fit] at h; omega
  | .many p, i, j, hi, h => by simp only [Fit] at h; exact star_le (fun a b => fit_le L p a b) hi h
  | .seq ps, i, j, hi, h => by simp only [Fit] at h; exact fitS_le L ps i j hi h
  | .alt ps, i, j, hi, h => by simp only [Fit] at h; exact fitA_le L ps i j hi h
theorem fitS_le (L : Ln) : ∀ ps i j, i ≤ L.st.length → FitS L ps i j → j ≤ L.st.length
  | [], i, j, hi, h => by simp only [FitS] at h; omega
  | p :: ps, i, j, hi, h => by
    simp only [FitS] at h
    obtain ⟨m, h1, h2⟩ := h
    exact fitS_le L ps m j (fit_le L p i m hi h1) h2
theorem fitA_le (L : Ln) : ∀ ps i j, i ≤ L.st.length → FitA L ps i j → j ≤ L.st.length
  | [], i, j, hi, h => by simp only [FitA] at h
  | p :: ps, i, j, hi, h => by
    simp only [FitA] at h
    rcases h with h | h
    · exact fit_le L p i j hi h
    · exact fitA_le L ps i j hi h
end
noncomputable def fl (s : Bool × Str) : Bool × Str := (!s.1, s.2)
noncomputable def Ln.rev (L : Ln) : Ln := ⟨L.ms.reverse, L.st.reverse.map fl⟩
theorem rev_rev (L : Ln) : L.rev.rev = L := by
  obtain ⟨ms, st⟩ := L
  simp only [Ln.rev, List.reverse_reverse, Ln.mk.injEq, true_and]
  rw [← List.map_reverse, List.reverse_reverse, List.map_map]
  conv => rhs; rw [← List.map_id st]
  exact List.map_congr_left fun s _ => by simp [fl]
mutual
theorem fit_rev (L : Ln) (hm : L.ms.length = L.st.length + 1) : ∀ p i j i' j', i + i' = L.st.length → j + j' = L.st.length → Fit L p i j → Fit L.rev (bk p) j' i'
  | .stay, i, j, i', j', hi, hj, h => by simp only [Fit, bk] at h ⊢; omega
  | .step b x, i, j, i', j', hi, hj, h => by
    simp only [Fit, bk] at h ⊢
    obtain ⟨rfl, s, hs, h1, h2⟩ := h
    refine ⟨by omega, fl s, ?_, by simp [fl, h1], h2⟩
    simp only [Ln.rev]
    rw [List.getElem?_map, List.getElem?_reverse (by omega), show L.st.length - 1 - j' = i by omega, hs]
    rfl
  | .mk b m, i, j, i', j', hi, hj, h => by
    simp only [Fit, bk] at h ⊢
    obtain ⟨rfl, t, ht, h1⟩ := h
    refine ⟨by omega, t, ?_, h1⟩
    simp only [Ln.rev]
    rw [List.getElem?_reverse (by omega), show L.ms.length - 1 - j' = j by omega, ht]
  | .many p, i, j, i', j', hi, hj, h => by
    simp only [Fit, bk] at h ⊢
    induction h generalizing j' with
    | refl => obtain rfl : i' = j' := by omega
              exact .refl _
    | @tail a b g r ih =>
      have ha : a ≤ L.st.length := star_le (fun x y => fit_le L p x y) (by omega) g
      obtain ⟨a', ha'⟩ : ∃ a', a + a' = L.st.length := ⟨L.st.length - a, by omega⟩
      exact .head (fit_rev L hm p _ _ _ _ ha' hj r) (ih a' ha')
  | .seq ps, i, j, i', j', hi, hj, h => by simp only [Fit, bk] at h ⊢; exact fitS_rev L hm ps i j i' j' hi hj h
  | .alt ps, i, j, i', j', hi, hj, h => by
    simp only [Fit, bk] at h ⊢
    obtain ⟨p, hp, g⟩ := fitA_mem.mp (fitA_rev L hm ps i j i' j' hi hj h)
    exact fitA_mem.mpr ⟨p, List.mem_reverse.mpr hp, g⟩
theorem fitS_rev (L : Ln) (hm : L.ms.length = L.st.length + 1) : ∀ ps i j i' j', i + i' = L.st.length → j + j' = L.st.length → FitS L ps i j → FitS L.rev (bks ps).reverse j' i'
  | [], i, j, i', j', hi, hj, h => by simp only [FitS, bks, List.reverse_nil] at h ⊢; omega
  | p :: ps, i, j, i', j', hi, hj, h => by
    simp only [FitS] at h
    obtain ⟨m, h1, h2⟩ := h
    have hml := fit_le L p i m (by omega) h1
    obtain ⟨m', hm'⟩ : ∃ m', m + m' = L.st.length := ⟨L.st.length - m, by omega⟩
    simp only [bks, List.reverse_cons]
    exact fitS_snoc.mpr ⟨m', fitS_rev L hm ps m j m' j' hm' hj h2, fit_rev L hm p i m i' m' hi hm' h1⟩
theorem fitA_rev (L : Ln) (hm : L.ms.length = L.st.length + 1) : ∀ ps i j i' j', i + i' = L.st.length → j + j' = L.st.length → FitA L ps i j → FitA L.rev (bks ps) j' i'
  | [], i, j, i', j', hi, hj, h => by simp only [FitA] at h
  | p :: ps, i, j, i', j', hi, hj, h => by
    simp only [FitA, bks] at h ⊢
    rcases h with h | h
    · exact .inl (fit_rev L hm p i j i' j' hi hj h)
    · exact .inr (fitA_rev L hm ps i j i' j' hi hj h)
end
theorem rev_len (L : Ln) : L.rev.st.length = L.st.length ∧ L.rev.ms.length = L.ms.length := by simp [Ln.rev]
theorem whole_rev {L : Ln} (hm : L.ms.length = L.st.length + 1) (p : Pt) : Fit L.rev (bk p) 0 L.rev.st.length ↔ Fit L p 0 L.st.length := by
  obtain ⟨h1, h2⟩ := rev_len L
  constructor
  · intro h
    have := fit_rev L.rev (by rw [h1, h2]; exact hm) (bk p) 0 L.rev.st.length L.st.length 0 (by omega) (by omega) h
    rw [rev_rev, bk_bk] at this
    exact this
  · intro h
    rw [h1]
    exact fit_rev L hm p 0 L.st.length L.st.length 0 (by omega) (by omega) h
theorem nm_ok {y : Str} (h : Nm y) : okS y = true := by
  unfold Nm isName at h
  simp only [Bool.and_eq_true, decide_eq_true_eq, List.all_eq_true] at h
  unfold okS
  rw [Bool.and_eq_true, List.all_eq_true]
  refine ⟨fun c hc => ?_, decide_eq_true (by omega)⟩
  have := h.2 c hc
  unfold isLow at this
  simp only [Bool.and_eq_true, decide_eq_true_eq] at this
  exact decide_eq_true (by omega)
theorem wd_ok {y : Str} (h : Wd y) : okS y = true := by
  unfold Wd isWord at h
  rw [Bool.or_eq_true] at h
  rcases h with h | h
  · have e : y = "*" := of_decide_eq_true h
    subst e; decide +kernel
  · exact nm_ok h
theorem side_ok (b : Bool) : okS (side b) = true := by cases b <;> decide +kernel
theorem mkS_ok (b : Bool) : okS (mkS b) = true := by cases b <;> decide +kernel
theorem th_tup {n : Nat} {ds : List D} (hl : ds.length ≤ 100) (h : ∀ d ∈ ds, thB n d = true) : thB (n + 1) (.tup ds) = true := by
  simp only [thB, Bool.and_eq_true, List.all_eq_true]
  exact ⟨decide_eq_true hl, h⟩
theorem th_str {n : Nat} {x : Str} (h : okS x = true) : thB n (.str x) = true := by cases n <;> exact h
theorem th_two {n : Nat} {x : Str} {d : D} (h : okS x = true) (g : thB n d = true) : thB (n + 1) (.tup [.str x, d]) = true := th_tup (by simp) fun e he => by
  simp only [List.mem_cons, List.not_mem_nil, or_false] at he
  rcases he with rfl | rfl
  · exact th_str h
  · exact g
theorem th_one {x : Str} (h : okS x = true) : thB 1 (.tup [.str x]) = true := th_tup (by simp) fun e he => by
  simp only [List.mem_cons, List.not_mem_nil, or_false] at he
  subst he
  exact th_str h
theorem th_three {x y z : Str} (h : okS x = true) (h2 : okS y = true) (h3 : okS z = true) : thB 1 (.tup [.str x, .str y, .str z]) = true := th_tup (by simp) fun e he => by
  simp only [List.mem_cons, List.not_mem_nil, or_false] at he
  rcases he with rfl | rfl | rfl
  · exact th_str h
  · exact th_str h2
  · exact th_str h3
theorem N_mem : ∀ {ps : List Pt} {q : Pt}, q ∈ ps → N q ≤ Ns ps
  | a :: r, q, hq => by
    rcases List.mem_cons.mp hq with rfl | hq
    · simp only [Ns]; omega
    · have := N_mem hq; simp only [Ns]; omega
theorem th_tD : ∀ (k : Nat) (p : Pt), dp p ≤ k → Okp p → N p ≤ 100 → thB (2 * k + 1) (tD p) = true := by
  have parts : ∀ k : Nat, (∀ p : Pt, dp p ≤ k → Okp p → N p ≤ 100 → thB (2 * k + 1) (tD p) = true) → ∀ ps : List Pt, dps ps + 1 ≤ k + 1 → Okps ps → Ns ps + 1 ≤ 100 → thB (2 * k + 2) (.tup (tDs ps)) = true := fun k ih ps h1 h2 h3 => by
    refine th_tup (n := 2 * k + 1) (by rw [tDs_map, List.length_map]; have := Ns_len ps; omega) fun d hd => ?_
    rw [tDs_map] at hd
    obtain ⟨q, hq, rfl⟩ := List.mem_map.mp hd
    exact ih q (by have := dps_mem hq; omega) (okps_mem.mp h2 q hq) (by have := N_mem hq; omega)
  intro k
  induction k with
  | zero =>
    intro p hk ho hn
    cases p with
    | stay => exact th_one (by decide +kernel)
    | step b x => exact th_three (by decide +kernel) (side_ok b) (wd_ok ho)
    | mk b m => exact th_two (mkS_ok b) (th_str (nm_ok ho))
    | many p => simp [dp] at hk
    | seq ps => simp [dp] at hk
    | alt ps => simp [dp] at hk
  | succ k ih =>
    intro p hk ho hn
    cases p with
    | stay => exact thB_mono (th_one (by decide +kernel)) (by omega)
    | step b x => exact thB_mono (th_three (by decide +kernel) (side_ok b) (wd_ok ho)) (by omega)
    | mk b m => exact thB_mono (th_two (n := 0) (mkS_ok b) (th_str (nm_ok ho))) (by omega)
    | many p => exact thB_mono (n := 2 * k + 2) (th_two (by decide +kernel) (ih p (by simp only [dp] at hk; omega) ho (by simp only [N] at hn; omega))) (by omega)
    | seq ps => exact th_two (n := 2 * k + 2) (by decide +kernel) (parts k ih ps (by simp only [dp] at hk; omega) ho (by simp only [N] at hn; omega))
    | alt ps => exact th_two (n := 2 * k + 2) (by decide +kernel) (parts k ih ps (by simp only [dp] at hk; omega) ho (by simp only [N] at hn; omega))
noncomputable def kid : Pt → List Pt
  | .many p => [p]
  | .seq ps | .alt ps => ps
  | _ => []
theorem kids_tD : ∀ p, kids (tD p) = (kid p).map tD
  | .stay => rfl
  | .step b x => rfl
  | .mk b m => by cases b <;> rfl
  | .many p => rfl
  | .seq ps => by show tupOf (.tup (tDs ps)) = _; rw [tDs_map]; rfl
  | .alt ps => by show tupOf (.tup (tDs ps)) = _; rw [tDs_map]; rfl
theorem N_kid (p : Pt) : Ns (kid p) + 1 = N p := by cases p <;> simp [kid, N, Ns]
theorem right_tD {p : Pt} (ho : Okp p) (hn : N p ≤ 40) : right (tD p) = true := by
  cases p with
  | stay => rfl
  | step b x =>
    have ho : isWord (.str x) = true := ho
    show (isLeaf (.tup [.str "step", .str (side b), .str x]) || _) = true
    rw [Bool.or_eq_true]
    left
    show (isS (.str "step") "step" && (inS (.str (side b)) ["on", "back"] && isWord (.str x))) = true
    rw [ho]
    cases b <;> decide +kernel
  | mk b m =>
    have ho : isName (.str m) = true := ho
    show (isLeaf (.tup [.str (mkS b), .str m]) || _) = true
    rw [Bool.or_eq_true]
    left
    show (inS (.str (mkS b)) ["at", "off"] && isName (.str m)) = true
    rw [ho]
    cases b <;> decide +kernel
  | many p =>
    show (_ || isJoint (.tup [.str "many", tD p])) = true
    rw [Bool.or_eq_true]
    right
    rfl
  | seq ps =>
    show (_ || isJoint (.tup [.str "then", .tup (tDs ps)])) = true
    rw [Bool.or_eq_true]
    right
    show fewT (.tup (tDs ps)) = true
    have := Ns_len ps
    simp only [N] at hn
    exact decide_eq_true (by rw [tDs_map, List.length_map]; omega)
  | alt ps =>
    show (_ || isJoint (.tup [.str "either", .tup (tDs ps)])) = true
    rw [Bool.or_eq_true]
    right
    show fewT (.tup (tDs ps)) = true
    have := Ns_len ps
    simp only [N] at hn
    exact decide_eq_true (by rw [tDs_map, List.length_map]; omega)
noncomputable def allKid : List Pt → List Pt
  | [] => []
  | p :: ps => kid p ++ allKid ps
theorem below_tD : ∀ Ls : List Pt, below (Ls.map tD) = (allKid Ls).map tD
  | [] => rfl
  | p :: Ls => by
    show kids (tD p) ++ below (Ls.map tD) = _
    rw [kids_tD, below_tD Ls, allKid, List.map_append]
theorem Ns_kid : ∀ Ls : List Pt, Ns (allKid Ls) + Ls.length = Ns Ls
  | [] => rfl
  | p :: Ls => by
    have := Ns_kid Ls
    have := N_kid p
    simp only [allKid, Ns_append, Ns, List.length_cons]; omega
theorem ok_kid : ∀ {Ls : List Pt}, Okps Ls → Okps (allKid Ls)
  | [], h => h
  | p :: Ls, h => okps_mem.mpr fun q hq => by
    rcases List.mem_append.mp hq with hq | hq
    · have hp := h.1
      cases p <;> simp only [kid, List.not_mem_nil, List.mem_singleton] at hq
      · subst hq; exact hp
      · exact okps_mem.mp hp q hq
      · exact okps_mem.mp hp q hq
    · exact okps_mem.mp (ok_kid h.2) q hq
theorem dp_kid : ∀ {Ls : List Pt} {n : Nat}, (∀ p ∈ Ls, dp p ≤ n + 1) → ∀ q ∈ allKid Ls, dp q ≤ n
  | p :: Ls, n, h, q, hq => by
    rcases List.mem_append.mp hq with hq | hq
    · have hp := h p List.mem_cons_self
      cases p <;> simp only [kid, List.not_mem_nil, List.mem_singleton] at hq
      · subst hq; simp only [dp] at hp; omega
      · have := dps_mem hq; simp only [dp] at hp; omega
      · have := dps_mem hq; simp only [dp] at hp; omega
    · exact dp_kid (fun p hp => h p (List.mem_cons_of_mem _ hp)) q hq
theorem bfs_ok : ∀ (n c : Nat) (Ls : List Pt), (∀ p ∈ Ls, dp p ≤ n) → Okps Ls → c + Ns Ls ≤ 40 → bfs (n + 1) c (Ls.map tD) = true := by
  intro n
  induction n with
  | zero =>
    intro c Ls h1 h2 h3
    cases Ls with
    | nil => rfl
    | cons a r =>
      have hl := Ns_len (a :: r)
      show (if c + ((a :: r).map tD).length > 40 then false else if ((a :: r).map tD).all right = true then bfs 0 (c + ((a :: r).map tD).length) (below ((a :: r).map tD)) else false) = true
      rw [if_neg (by rw [List.length_map]; omega), if_pos (by
        rw [List.all_map, List.all_eq_true]
        intro p hp
        exact right_tD (okps_mem.mp h2 p hp) (by have := N_mem hp; omega)), below_tD]
      have e : allKid (a :: r) = [] := by
        have leaf : ∀ p, dp p = 0 → kid p = [] := fun p hp => by cases p <;> simp [dp] at hp <;> rfl
        have : ∀ Ls : List Pt, (∀ p ∈ Ls, dp p ≤ 0) → allKid Ls = [] := by
          intro Ls
          induction Ls with
          | nil => exact fun _ => rfl
          | cons p r ih => exact fun h => by rw [allKid, leaf p (by have := h p List.mem_cons_self; omega), ih fun q hq => h q (List.mem_cons_of_mem _ hq)]; rfl
        exact this _ h1
      rw [e]; rfl
  | succ n ih =>
    intro c Ls h1 h2 h3
    cases Ls with
    | nil => rfl
    | cons a r =>
      have hl := Ns_len (a :: r)
      have hk := Ns_kid (a :: r)
      show (if c + ((a :: r).map tD).length > 40 then false else if ((a :: r).map tD).all right = true then bfs (n + 1) (c + ((a :: r).map tD).length) (below ((a :: r).map tD)) else false) = true
      rw [if_neg (by rw [List.length_map]; omega), if_pos (by
        rw [List.all_map, List.all_eq_true]
        intro p hp
        exact right_tD (okps_mem.mp h2 p hp) (by have := N_mem hp; omega)), below_tD]
      exact ih _ _ (dp_kid h1) (ok_kid h2) (by rw [List.length_map]; omega)
theorem pat_ok {p : Pt} (hd : dp p ≤ 9) (ho : Okp p) (hn : N p ≤ 40) : bfs 10 0 [tD p] = true := bfs_ok 9 0 [p] (fun q hq => by simp only [List.mem_singleton] at hq; subst hq; exact hd) ⟨ho, trivial⟩ (by simp only [Ns]; omega)
noncomputable def hd : Pt → Str
  | .stay => "stay"
  | .step _ _ => "step"
  | .mk b _ => mkS b
  | .many _ => "many"
  | .seq _ => "then"
  | .alt _ => "either"
mutual
noncomputable def all : Pt → List Pt
  | .many p => .many p :: all p
  | .seq ps => .seq ps :: alls ps
  | .alt ps => .alt ps :: alls ps
  | p => [p]
noncomputable def alls : List Pt → List Pt
  | [] => []
  | p :: ps => all p ++ alls ps
end
theorem alls_append : ∀ ps qs, alls (ps ++ qs) = alls ps ++ alls qs
  | [], qs => rfl
  | p :: ps, qs => by simp only [List.cons_append, alls, alls_append ps qs, List.append_assoc]
theorem alls_rev : ∀ ps, (alls ps.reverse).Perm (alls ps)
  | [] => .refl _
  | p :: ps => by
    rw [List.reverse_cons, alls_append]
    simp only [alls, List.append_nil]
    exact ((alls_rev ps).append_right _).trans List.perm_append_comm
mutual
theorem heads_bk : ∀ p, ((all (bk p)).map hd).Perm ((all p).map hd)
  | .stay => .refl _
  | .step b x => .refl _
  | .mk b m => .refl _
  | .many p => by simp only [bk, all, List.map_cons]; exact (heads_bk p).cons _
  | .seq ps => by simp only [bk, all, List.map_cons]; exact (((alls_rev _).map hd).trans (headss_bk ps)).cons _
  | .alt ps => by simp only [bk, all, List.map_cons]; exact (((alls_rev _).map hd).trans (headss_bk ps)).cons _
theorem headss_bk : ∀ ps, ((alls (bks ps)).map hd).Perm ((alls ps).map hd)
  | [] => .refl _
  | p :: ps => by
    simp only [bks, alls, List.map_append]
    exact (heads_bk p).append (headss_bk ps)
end
mutual
theorem all_len : ∀ p, (all p).length = N p
  | .stay => rfl
  | .step b x => rfl
  | .mk b m => rfl
  | .many p => by simp only [all, N, List.length_cons, all_len p]
  | .seq ps => by simp only [all, N, List.length_cons, alls_len ps]
  | .alt ps => by simp only [all, N, List.length_cons, alls_len ps]
theorem alls_len : ∀ ps, (alls ps).length = Ns ps
  | [] => rfl
  | p :: ps => by simp only [alls, Ns, List.length_append, all_len p, alls_len ps]
end
theorem cnt_perm {k : Str} {a b : List Str} (h : a.Perm b) : cntS k a = cntS k b := by
  unfold cntS
  induction h with
  | nil => rfl
  | cons x _ ih => simp only [List.map_cons, Spec.countIn, ih]
  | swap x y l => simp only [List.map_cons, Spec.countIn]; omega
  | trans _ _ h1 h2 => exact h1.trans h2
end K63
set_option Elab.async false
set_option linter.all false
set_option maxRecDepth 100000
set_option maxHeartbeats 4000000
namespace K63
open PySem L2 M
noncomputable abbrev sFeed : Stmt := top 23
noncomputable abbrev NscFeed : List Str := ["_law_script"]
noncomputable abbrev PscFeed : List Str := ["_law_script"]
theorem scFeed : FnScope NscFeed PscFeed (defScope sFeed) := ⟨rfl, rfl, rfl, by decide +kernel, rfl, by decide +kernel, by decide +kernel⟩
noncomputable abbrev sDraw : Stmt := top 24
noncomputable abbrev NscDraw : List Str := ["_law_feed_here", "_law_many", "_law_found", "_law_at", "_law_cell", "_law_number"]
noncomputable abbrev PscDraw : List Str := ["_law_feed_here", "_law_many"]
theorem scDraw : FnScope NscDraw PscDraw (defScope sDraw) := ⟨rfl, rfl, rfl, by decide +kernel, rfl, by decide +kernel, by decide +kernel⟩
noncomputable abbrev sNames : Stmt := top 25
noncomputable abbrev NscNames : List Str := ["_law_feed_here", "_law_many", "_law_some", "_law_names_here", "_law_at"]
noncomputable abbrev PscNames : List Str := ["_law_feed_here", "_law_many"]
theorem scNames : FnScope NscNames PscNames (defScope sNames) := ⟨rfl, rfl, rfl, by decide +kernel, rfl, by decide +kernel, by decide +kernel⟩
noncomputable abbrev sLLeaf : Stmt := top 26
noncomputable abbrev NscLLeaf : List Str := ["_law_feed_here", "_law_words", "_law_marks", "_law_way"]
noncomputable abbrev PscLLeaf : List Str := ["_law_feed_here", "_law_words", "_law_marks"]
theorem scLLeaf : FnScope NscLLeaf PscLLeaf (defScope sLLeaf) := ⟨rfl, rfl, rfl, by decide +kernel, rfl, by decide +kernel, by decide +kernel⟩
theorem sz {n : Nat} (h : decide (n ≤ 100) = true) : n ≤ sizeLine := by rw [sizeLine_eq]; have := of_decide_eq_true h; omega
noncomputable def fks : List Key := [.inr "cells", .inr "at", .inr "left"]
noncomputable def Fd (n : Nat) (o : MO) : Prop := ∃ (ns : List Int) (a : Nat) (l : Int), o = .dct fks [.lst (ns.map D.int), .int a, .int l] ∧ a ≤ n ∧ 0 ≤ l
theorem purs_ints : ∀ ns : List Int, purs (ns.map D.int) = true
  | [] => rfl
  | n :: ns => by simp only [List.map_cons, purs, pur, purs_ints ns, Bool.and_self]
theorem purs_strs : ∀ ns : List Str, purs (ns.map D.str) = true
  | [] => rfl
  | n :: ns => by simp only [List.map_cons, purs, pur, purs_strs ns, Bool.and_self]
theorem Fd.bel {n : Nat} {o : MO} (h : Fd n o) (k : Nat) : belO k o = true := by
  obtain ⟨ns, a, l, rfl, _⟩ := h
  simp only [belO, bels, M.bel, Bool.and_true]
  exact bels_pur k _ (purs_ints ns)
theorem Fd.mono {n m : Nat} {o : MO} (h : Fd n o) (e : n ≤ m) : Fd m o := by
  obtain ⟨ns, a, l, rfl, h1, h2⟩ := h
  exact ⟨ns, a, l, rfl, by omega, h2⟩
theorem set_at {S : Sto} {p : Nat} {o o' : MO} (h : S[p]? = some (some o)) : (S.set p (some o'))[p]? = some (some o') := by
  have hl : p < S.length := by
    rcases Nat.lt_or_ge p S.length with z | z
    · exact z
    · rw [List.getElem?_eq_none z] at h; cases h
  rw [List.getElem?_set, if_pos rfl, if_pos hl]
theorem chg_set {S : Sto} {p : Nat} {o : MO} (h : belO S.length o = true) : chg S (S.set p (some o)) := fun k o' hk e => by
  by_cases hkp : p = k
  · subst hkp
    rw [List.getElem?_set, if_pos rfl, if_pos hk] at e
    have e : o = o' := by simpa using e
    subst e
    exact .inr h
  · rw [List.getElem?_set_ne hkp] at e
    exact .inl e
theorem ret_setF {S : Sto} {p n : Nat} {o : MO} {d : D} {Q : AK} (h : pur d = true) (ho : Fd n o) (q : Q (.dat d) (S.set p (some o))) : ret S (S.set p (some o)) (.dat d) Q :=
  ⟨_, out_dat h, chg_set (ho.bel _), by rw [List.take_of_length_le (by simp)]; exact q⟩
theorem ret_own {S : Sto} {o : MO} {Q : AK} (h : belO S.length o = true) (q : Q (.new o) S) : ret S (S ++ [some o]) (.dat (.loc S.length)) Q := by
  refine ⟨.new o, ?_, fun k o' hk e => .inl ?_, ?_⟩
  · simp only [out]
    rw [if_neg (Nat.lt_irrefl _), show (S ++ [some o])[S.length]? = some (some o) by simp]
    show (if _ then _ else _) = _
    rw [if_pos h]
  · rw [List.getElem?_append_left hk] at e; exact e
  · rw [show (S ++ [some o]).take S.length = S by simp]
    exact q
theorem mul_int' {i j : Int} {S : Sto} {Q : AK} : aMul (.int i) (.int j) S Q = (CMul i j ∧ Q (.dat (.int (i * j))) S) := rfl
theorem lay_ints : ∀ ns : List Int, PyData.canLayAll0 (pys (ns.map D.int)) = true ∧ PyData.depthAll (pys (ns.map D.int)) = 0
  | [] => ⟨rfl, rfl⟩
  | n :: ns => by
    obtain ⟨h1, h2⟩ := lay_ints ns
    simp only [List.map_cons, pys, py, PyData.canLayAll0, PyData.canLay0, PyData.depthAll, PyData.depth, h1, h2]
    exact ⟨rfl, rfl⟩
theorem fit_ints (ns : List Int) : fit (.lst (ns.map D.int)) = true := by
  obtain ⟨h1, h2⟩ := lay_ints ns
  unfold fit PySem.SeqAt.shaped
  simp only [pur, purs_ints, py, PyData.canLay0, PyData.depth, h1, h2]
  rfl
theorem sIx_nat {n a k : Nat} (h : k ≤ n) : HT.sIx n a (some (k : Int)) = k := by
  rw [HT.sIx_nat]; omega
theorem cut_from {α : Type} {xs : List α} {k : Nat} (h : k ≤ xs.length) : cutD xs (some (k : Int)) none = xs.drop k := by
  unfold cutD
  rw [sIx_nat h]
  show (xs.drop k).take (xs.length - k) = _
  rw [List.take_of_length_le (by simp)]
theorem cut_to {α : Type} {xs : List α} {k : Nat} (h : k ≤ xs.length) : cutD xs none (some (k : Int)) = xs.take k := by
  unfold cutD
  rw [sIx_nat h]
  show (xs.drop 0).take (k - 0) = _
  rw [List.drop_zero, Nat.sub_zero]
theorem ret_gen {S S' : Sto} {p n : Nat} {o : MO} {r : R} {Q : AK} (h : out S.length S' r = some r) (ho : Fd n o) (ht : S'.take S.length = S.set p (some o)) (q : Q r (S.set p (some o))) : ret S S' r Q := by
  refine ⟨r, h, fun k o' hk e => ?_, by rw [ht]; exact q⟩
  have e2 : (S'.take S.length)[k]? = some (some o') := by rw [List.getElem?_take, if_pos hk]; exact e
  rw [ht] at e2
  exact chg_set (ho.bel _) k o' hk e2
theorem out_new {n : Nat} {S : Sto} {ds : List D} (h : purs ds = true) : out n S (.new (.lst ds)) = some (.new (.lst ds)) := by
  simp only [out]
  rw [if_pos (show belO n (.lst ds) = true from bels_pur n ds h)]
theorem at_lt {ds : List D} {z : Nat} (h : z < ds.length) : ∃ e, atI ds (z : Int) = some e ∧ e ∈ ds := ⟨ds[z], atI_nat (List.getElem?_eq_getElem h), List.getElem_mem h⟩
theorem pick {ds : List D} {z : Nat} {S : Sto} {Q : AK} (h : z < ds.length) (k : ∀ e ∈ ds, Q (.dat e) S) : aIx (.lst ds) (.int z) S Q := by
  obtain ⟨e, h1, h2⟩ := at_lt h
  exact ⟨e, h1, k e h2⟩
theorem pickT {ds : List D} {z : Nat} {S : Sto} {Q : AK} (h : z < ds.length) (k : ∀ e ∈ ds, Q (.dat e) S) : aIx (.tup ds) (.int z) S Q := by
  obtain ⟨e, h1, h2⟩ := at_lt h
  exact ⟨e, h1, k e h2⟩
theorem th_strsL {ys : List Str} (h : ∀ y ∈ ys, okS y = true) (hl : ys.length ≤ 100) : thB 1 (.lst (ys.map D.str)) = true ∧ thB 1 (.tup (ys.map D.str)) = true := by
  have : (ys.map D.str).all (thB 0) = true := by rw [List.all_map, List.all_eq_true]; exact h
  simp only [thB, this, List.length_map, decide_eq_true hl]
  exact ⟨rfl, rfl⟩
section
variable {P : Program} {w : World} {K : PySem.W.Frag} {mg : Str → Option Value} {base : Heap}
noncomputable def spFeed : AN := fun ds S Q => ∃ ns : List Int, ds = [.scr ns] ∧ ∀ o, Fd 0 o → Q (.new o) S
theorem d_Feed (T : Txt K mg) (F : Src K mg "_law_feed" PscFeed sFeed) : Def P w K mg base 1 "_law_feed" PscFeed (conSp K spFeed) := by
  refine defA F scFeed (fun ds S Q h => ?_) (fun f cdv A outer s H E hr => ?_)
  · obtain ⟨ns, rfl, _⟩ := h; rfl
  · refine ⟨_, (M.pss_one (M.ps_ret (M.pe_disp (M.pps_cons (M.pct M.o_listOf (by rfl) T.list (by decide +kernel) (M.pac (M.pe_slice M.o_slc (M.pv 0) M.po_none (M.po_some M.pe_int)) M.pa_nil)) (M.pps_cons M.pe_int (M.pps_cons M.pe_int M.pps_nil)))))), fun ds S Q h => ?_⟩
    obtain ⟨ns, rfl, q⟩ := h
    have e0 : startA NscFeed [.scr ns] = [some (.scr ns)] := rfl
    rw [e0]
    simp only [aRet, aRetN, aAndV, aOrV, aNotV, aCall, aCons, aNil, aVar, aC, aOp, aUn, aB, aTru, aIf, aSeq, aIfS, aNot, aAnd, aOr, aAsg, agName, aNext, aChain, aSl, aPart, aNoPart, aDrop, aTup, aLst, rd_dat, rd_new, mod_lst, le_int', lt_int', aI_int, add_int', add_lst', eq_int', eq_str', tru_bl, tru_lst, tru_tup, true_and, aIsi, aLen, see_int', see_str', see_bl', see_non', see_tup', see_lst', see_stc', see_scr', List.getElem?_cons_zero, List.getElem?_cons_succ, List.set_cons_zero, List.set_cons_succ, Option.some.injEq, exists_eq_left', List.cons.injEq, and_true, D.ty.injEq, D.bl.injEq, D.int.injEq, D.str.injEq, and_assoc, exists_and_left, exists_eq_left, exists_and_right, ret_bl, ret_int, Bool.false_eq_true, if_true, if_false, Bool.not_true, Bool.not_false, aDisp, aPairs, aSlc, aListOf]
    have hx : (S ++ [some (MO.dct [] [])])[S.length]? = some (some (MO.dct [] [])) := by simp
    refine ⟨hx, ?_⟩
    have e1 : List.set (S ++ [some (MO.dct [] [])]) S.length (some (MO.dct (List.map Sum.inr ["cells", "at", "left"]) [.lst (List.map D.int (cutD ns none (some 63))), .int 0, .int 0])) = S ++ [some (MO.dct fks [.lst ((cutD ns none (some 63)).map D.int), .int (0 : Nat), .int 0])] := by
      rw [List.set_append_right _ _ (Nat.le_refl _), Nat.sub_self]; rfl
    rw [e1]
    have fd : Fd 0 (.dct fks [.lst ((cutD ns none (some 63)).map D.int), .int (0 : Nat), .int 0]) := ⟨_, 0, 0, rfl, Nat.le_refl _, Int.le_refl _⟩
    exact ret_own (fd.bel _) (q _ fd)
noncomputable def spDraw : AN := fun ds S Q => ∃ (p n : Nat) (m : Int) (o : MO), ds = [.loc p, .int m] ∧ S[p]? = some (some o) ∧ Fd n o ∧ n < 1000000000000 ∧ 0 < m ∧ m < 1000 ∧ ∀ (z : Nat) (o' : MO), (z : Int) < m → Fd (n + 1) o' → Q (.dat (.int z)) (S.set p (some o'))
theorem d_Draw (T : Txt K mg) (F : Src K mg "_law_draw" PscDraw sDraw) : Def P w K mg base 1 "_law_draw" PscDraw (conSp K spDraw) := by
  refine defA F scDraw (fun ds S Q h => ?_) (fun f cdv A outer s H E hr => ?_)
  · obtain ⟨p, n, m, o, rfl, _⟩ := h; rfl
  · refine ⟨_, (M.pss_cons (M.ps_if (M.pt_cmpR M.o_gt (M.pe_dget (hu_of hr) (M.pv 0) M.pe_str (fun _ _ => rfl)) M.pe_int (nomark _))
        (M.pss_cons (M.ps_set (i := 2) scDraw.nd rfl (Or.inl rfl) (M.pe_op M.o_mod (M.pe_dget (hu_of hr) (M.pv 0) M.pe_str (fun _ _ => rfl)) (M.pv 1)))
        (M.pss_cons (M.ps_dput (hu_of hr) (M.pv 0) M.pe_str (M.pe_op M.o_fdiv (M.pe_dget (hu_of hr) (M.pv 0) M.pe_str (fun _ _ => rfl)) (M.pv 1)) rfl)
        (M.pss_one (M.ps_ret (M.pv 2)))))
        M.pss_nil)
      (M.pss_cons (M.ps_set (i := 3) scDraw.nd rfl (Or.inl rfl) (M.pe_dget (hu_of hr) (M.pv 0) M.pe_str (fun _ _ => rfl)))
      (M.pss_cons (M.ps_dput (hu_of hr) (M.pv 0) M.pe_str (M.pe_op M.o_add (M.pv 3) M.pe_int) rfl)
      (M.pss_cons (M.ps_set (i := 4) scDraw.nd rfl (Or.inl rfl) (M.pv 3))
      (M.pss_cons (M.ps_if (M.pt_cmpR (M.o_ne hr) (M.pe_dget (hu_of hr) (M.pv 0) M.pe_str (fun _ _ => rfl)) (M.pe_lst M.pa_nil) (nomark _))
        (M.pss_one (M.ps_set (i := 4) scDraw.nd rfl (Or.inl rfl) (M.pe_ix M.o_ix (M.pe_dget (hu_of hr) (M.pv 0) M.pe_str (fun _ _ => rfl)) (M.pe_op M.o_mod (M.pv 3) (M.pcb M.o_len (by rfl) T.len (by decide +kernel) (M.pac (M.pe_dget (hu_of hr) (M.pv 0) M.pe_str (fun _ _ => rfl)) M.pa_nil))) (fun _ _ => rfl))))
        M.pss_nil)
      (M.pss_cons (M.ps_if (M.pt_cmpR M.o_ge (M.pv 4) (M.pe_op M.o_pow M.pe_int M.pe_int) (nomark _))
        (M.pss_cons (M.ps_dput (hu_of hr) (M.pv 0) M.pe_str (M.pe_op M.o_fdiv (M.pv 4) (M.pv 1)) rfl)
        (M.pss_one (M.ps_ret (M.pe_op M.o_mod (M.pv 4) (M.pv 1)))))
        M.pss_nil)
      (M.pss_cons (M.ps_set (i := 5) scDraw.nd rfl (Or.inl rfl) (M.pe_op M.o_mod (M.pe_op M.o_mul (M.pe_op M.o_add (M.pe_op M.o_add (M.pe_op M.o_add (M.pe_op M.o_mod (M.pv 4) M.pe_int) (M.pe_op M.o_mul (M.pe_op M.o_mul M.pe_int (M.pv 3)) (M.pv 3))) (M.pe_op M.o_mul M.pe_int (M.pv 3))) M.pe_int) M.pe_int) M.pe_int))
      (M.pss_cons (M.ps_set (i := 5) scDraw.nd rfl (Or.inl rfl) (M.pe_op M.o_mod (M.pe_op M.o_mul (M.pe_op M.o_add (M.pe_op M.o_mul (M.pv 5) (M.pv 5)) (M.pv 3)) M.pe_int) M.pe_int))
      (M.pss_one (M.ps_ret (M.pe_op M.o_mod (M.pe_op M.o_fdiv (M.pv 5) M.pe_int) (M.pv 1)))))))))))), fun ds S Q h => ?_⟩
    obtain ⟨p, n, m, o, rfl, hS, ⟨ns, a, l, rfl, ha, hl⟩, hn, m0, m1, q⟩ := h
    have e0 : startA NscDraw [.loc p, .int m] = [some (.loc p), some (.int m), none, none, none, none] := rfl
    rw [e0]
    have s1 : see S (.loc p) = .dct fks [.lst (ns.map D.int), .int a, .int l] := by simp only [see, hS]; rfl
    have g1 : ∀ x y z, dGet fks [x, y, z] (.inr "left") = some z := fun x y z => rfl
    have g2 : ∀ x y z, dGet fks [x, y, z] (.inr "at") = some y := fun x y z => rfl
    have g3 : ∀ x y z, dGet fks [x, y, z] (.inr "cells") = some x := fun x y z => rfl
    have p1 : ∀ x y z d, dPut fks [x, y, z] (.inr "left") d = .dct fks [x, y, d] := fun x y z d => rfl
    have p2 : ∀ x y z d, dPut fks [x, y, z] (.inr "at") d = .dct fks [x, d, z] := fun x y z d => rfl
    simp only [aRet, aRetN, aAndV, aOrV, aNotV, aCall, aCons, aNil, aVar, aC, aOp, aUn, aB, aTru, aIf, aSeq, aIfS, aNot, aAnd, aOr, aAsg, agName, aNext, aChain, aSl, aPart, aNoPart, aDrop, aTup, aLst, rd_dat, rd_new, mod_lst, le_int', lt_int', aI_int, add_int', add_lst', eq_int', eq_str', tru_bl, tru_lst, tru_tup, true_and, aIsi, aLen, see_int', see_str', see_bl', see_non', see_tup', see_lst', see_stc', see_scr', List.getElem?_cons_zero, List.getElem?_cons_succ, List.set_cons_zero, List.set_cons_succ, Option.some.injEq, exists_eq_left', List.cons.injEq, and_true, D.ty.injEq, D.bl.injEq, D.int.injEq, D.str.injEq, and_assoc, exists_and_left, exists_eq_left, exists_and_right, ret_bl, ret_int, Bool.false_eq_true, if_true, if_false, Bool.not_true, Bool.not_false, aDGet, aDPut, s1, D.dct.injEq]
    refine ⟨_, g1 _ _ _, ?_⟩
    simp only [aRet, aRetN, aAndV, aOrV, aNotV, aCall, aCons, aNil, aVar, aC, aOp, aUn, aB, aTru, aIf, aSeq, aIfS, aNot, aAnd, aOr, aAsg, agName, aNext, aChain, aSl, aPart, aNoPart, aDrop, aTup, aLst, rd_dat, rd_new, mod_lst, le_int', lt_int', aI_int, add_int', add_lst', eq_int', eq_str', tru_bl, tru_lst, tru_tup, true_and, aIsi, aLen, see_int', see_str', see_bl', see_non', see_tup', see_lst', see_stc', see_scr', List.getElem?_cons_zero, List.getElem?_cons_succ, List.set_cons_zero, List.set_cons_succ, Option.some.injEq, exists_eq_left', List.cons.injEq, and_true, D.ty.injEq, D.bl.injEq, D.int.injEq, D.str.injEq, and_assoc, exists_and_left, exists_eq_left, exists_and_right, ret_bl, ret_int, Bool.false_eq_true, if_true, if_false, Bool.not_true, Bool.not_false]
    refine ite2 (fun h => ?_) (fun h => ?_)
    · have hl0 : 0 < l := by simpa using h
      refine ⟨_, _, s1, _, g1 _ _ _, ?_⟩
      simp only [aRet, aRetN, aAndV, aOrV, aNotV, aCall, aCons, aNil, aVar, aC, aOp, aUn, aB, aTru, aIf, aSeq, aIfS, aNot, aAnd, aOr, aAsg, agName, aNext, aChain, aSl, aPart, aNoPart, aDrop, aTup, aLst, rd_dat, rd_new, mod_lst, le_int', lt_int', aI_int, add_int', add_lst', eq_int', eq_str', tru_bl, tru_lst, tru_tup, true_and, aIsi, aLen, see_int', see_str', see_bl', see_non', see_tup', see_lst', see_stc', see_scr', List.getElem?_cons_zero, List.getElem?_cons_succ, List.set_cons_zero, List.set_cons_succ, Option.some.injEq, exists_eq_left', List.cons.injEq, and_true, D.ty.injEq, D.bl.injEq, D.int.injEq, D.str.injEq, and_assoc, exists_and_left, exists_eq_left, exists_and_right, ret_bl, ret_int, Bool.false_eq_true, if_true, if_false, Bool.not_true, Bool.not_false]
      refine ⟨m0, _, _, s1, _, g1 _ _ _, ?_⟩
      simp only [aRet, aRetN, aAndV, aOrV, aNotV, aCall, aCons, aNil, aVar, aC, aOp, aUn, aB, aTru, aIf, aSeq, aIfS, aNot, aAnd, aOr, aAsg, agName, aNext, aChain, aSl, aPart, aNoPart, aDrop, aTup, aLst, rd_dat, rd_new, mod_lst, le_int', lt_int', aI_int, add_int', add_lst', eq_int', eq_str', tru_bl, tru_lst, tru_tup, true_and, aIsi, aLen, see_int', see_str', see_bl', see_non', see_tup', see_lst', see_stc', see_scr', List.getElem?_cons_zero, List.getElem?_cons_succ, List.set_cons_zero, List.set_cons_succ, Option.some.injEq, exists_eq_left', List.cons.injEq, and_true, D.ty.injEq, D.bl.injEq, D.int.injEq, D.str.injEq, and_assoc, exists_and_left, exists_eq_left, exists_and_right, ret_bl, ret_int, Bool.false_eq_true, if_true, if_false, Bool.not_true, Bool.not_false]
      refine ⟨⟨m0, by omega⟩, p, rfl, _, _, hS, by simp, ?_⟩
      rw [p1]
      have h0 := Int.emod_nonneg l (show m ≠ 0 by omega)
      have h1 := Int.emod_lt_of_pos l m0
      obtain ⟨y, hy⟩ : ∃ y : Nat, l % m = y := ⟨(l % m).toNat, by omega⟩
      rw [hy] at h1 ⊢
      have fd : Fd (n + 1) (.dct fks [.lst (ns.map D.int), .int a, .int (l / m)]) := ⟨ns, a, _, rfl, by omega, Int.ediv_nonneg hl (by omega)⟩
      exact ret_setF rfl fd (q y _ h1 fd)
    · refine ⟨_, _, s1, _, g2 _ _ _, ?_⟩
      simp only [aRet, aRetN, aAndV, aOrV, aNotV, aCall, aCons, aNil, aVar, aC, aOp, aUn, aB, aTru, aIf, aSeq, aIfS, aNot, aAnd, aOr, aAsg, agName, aNext, aChain, aSl, aPart, aNoPart, aDrop, aTup, aLst, rd_dat, rd_new, mod_lst, le_int', lt_int', aI_int, add_int', add_lst', eq_int', eq_str', tru_bl, tru_lst, tru_tup, true_and, aIsi, aLen, see_int', see_str', see_bl', see_non', see_tup', see_lst', see_stc', see_scr', List.getElem?_cons_zero, List.getElem?_cons_succ, List.set_cons_zero, List.set_cons_succ, Option.some.injEq, exists_eq_left', List.cons.injEq, and_true, D.ty.injEq, D.bl.injEq, D.int.injEq, D.str.injEq, and_assoc, exists_and_left, exists_eq_left, exists_and_right, ret_bl, ret_int, Bool.false_eq_true, if_true, if_false, Bool.not_true, Bool.not_false]
      refine ⟨p, rfl, _, _, hS, by simp, ?_⟩
      rw [p2]
      have e1 : (a : Int) + 1 = ((a + 1 : Nat) : Int) := by omega
      rw [e1]
      have fd : Fd (n + 1) (.dct fks [.lst (ns.map D.int), .int ((a + 1 : Nat) : Int), .int l]) := ⟨ns, a + 1, _, rfl, by omega, hl⟩
      have hS1 := set_at (o' := .dct fks [.lst (ns.map D.int), .int ((a + 1 : Nat) : Int), .int l]) hS
      generalize hSS : S.set p (some (.dct fks [.lst (ns.map D.int), .int ((a + 1 : Nat) : Int), .int l])) = S1 at hS1 ⊢
      have s2 : see S1 (.loc p) = .dct fks [.lst (ns.map D.int), .int ((a + 1 : Nat) : Int), .int l] := by simp only [see, hS1]; rfl
      refine ⟨_, _, s2, _, g3 _ _ _, Nat.zero_le _, ?_⟩
      have tail : ∀ c : Int, CPow 10 18 ∧ if decide (10 ^ Int.toNat 18 ≤ c) = true then CDiv c m ∧ ∃ n, D.loc p = D.loc n ∧ ∃ x x_1, S1[n]? = some (some (MO.dct x x_1)) ∧ x_1.length < 1000 ∧ 0 < m ∧ M.ret S (List.set S1 n (some (dPut x x_1 (Sum.inr "left") (D.int (c / m))))) (R.dat (D.int (c % m))) Q
            else
              (0 : Int) < 1000003 ∧
                aMul (D.int 7) (D.int a) S1 fun x S1 =>
                  aMul x.d (D.int a) S1 fun y S2 =>
                    aAdd (D.int (c % 1000003)) y.d S2 fun x S1 =>
                      aMul (D.int 31) (D.int a) S1 fun y S2 =>
                        aAdd x.d y.d S2 fun x S1 =>
                          aAdd x.d (D.int 1) S1 fun x S1 =>
                            aMul x.d (D.int 48271) S1 fun x S1 =>
                              aI (fun x j => 0 < j) (fun i j => D.int (i % j)) x.d (D.int 999983) S1 fun r S1 =>
                                aMul r.d r.d S1 fun x S1 =>
                                  aAdd x.d (D.int a) S1 fun x S1 =>
                                    aMul x.d (D.int 30269) S1 fun x S1 =>
                                      aI (fun x j => 0 < j) (fun i j => D.int (i % j)) x.d (D.int 2147483629) S1
                                        fun r S1 =>
                                        aI CDiv (fun i j => D.int (i / j)) r.d (D.int 7) S1 fun x S1 =>
                                          aI (fun x j => 0 < j) (fun i j => D.int (i % j)) x.d (D.int m) S1 fun r S' =>
                                            M.ret S S' r Q := by
        intro c
        refine ⟨⟨by decide, by decide, by decide⟩, ite2 (fun h => ?_) (fun h => ?_)⟩
        · have hc : (10 : Int) ^ Int.toNat 18 ≤ c := of_decide_eq_true h
          have hc0 : 0 ≤ c := Int.le_trans (by decide) hc
          refine ⟨⟨m0, by omega⟩, p, rfl, _, _, hS1, by simp, m0, ?_⟩
          rw [p1, ← hSS, List.set_set]
          have h0 := Int.emod_nonneg c (show m ≠ 0 by omega)
          have h1 := Int.emod_lt_of_pos c m0
          obtain ⟨y, hy⟩ : ∃ y : Nat, c % m = y := ⟨(c % m).toNat, by omega⟩
          rw [hy] at h1 ⊢
          have fd2 : Fd (n + 1) (.dct fks [.lst (ns.map D.int), .int ((a + 1 : Nat) : Int), .int (c / m)]) := ⟨ns, a + 1, _, rfl, by omega, Int.ediv_nonneg hc0 (by omega)⟩
          exact ret_setF rfl fd2 (q y _ h1 fd2)
        · simp only [aRet, aRetN, aAndV, aOrV, aNotV, aCall, aCons, aNil, aVar, aC, aOp, aUn, aB, aTru, aIf, aSeq, aIfS, aNot, aAnd, aOr, aAsg, agName, aNext, aChain, aSl, aPart, aNoPart, aDrop, aTup, aLst, rd_dat, rd_new, mod_lst, le_int', lt_int', aI_int, add_int', add_lst', eq_int', eq_str', tru_bl, tru_lst, tru_tup, true_and, aIsi, aLen, see_int', see_str', see_bl', see_non', see_tup', see_lst', see_stc', see_scr', List.getElem?_cons_zero, List.getElem?_cons_succ, List.set_cons_zero, List.set_cons_succ, Option.some.injEq, exists_eq_left', List.cons.injEq, and_true, D.ty.injEq, D.bl.injEq, D.int.injEq, D.str.injEq, and_assoc, exists_and_left, exists_eq_left, exists_and_right, ret_bl, ret_int, Bool.false_eq_true, if_true, if_false, Bool.not_true, Bool.not_false, mul_int']
          have b0 := Int.emod_nonneg c (show (1000003 : Int) ≠ 0 by decide)
          have b1 := Int.emod_lt_of_pos c (show (0 : Int) < 1000003 by decide)
          refine ⟨by decide, .inl ⟨by decide, by decide⟩, .inr ⟨by omega, by omega⟩, .inl ⟨by decide, by decide⟩, .inr ⟨by decide, by decide⟩, by decide, ?_⟩
          generalize (c % 1000003 + 7 * (a : Int) * (a : Int) + 31 * (a : Int) + 1) * 48271 = u
          have c0 := Int.emod_nonneg u (show (999983 : Int) ≠ 0 by decide)
          have c1 := Int.emod_lt_of_pos u (show (0 : Int) < 999983 by decide)
          generalize u % 999983 = v at c0 c1 ⊢
          refine ⟨.inl ⟨by omega, by omega⟩, .inr ⟨by decide, by decide⟩, by decide, ⟨by decide, by decide⟩, m0, ?_⟩
          generalize (v * v + (a : Int)) * 30269 % 2147483629 / 7 = t
          have h0 := Int.emod_nonneg t (show m ≠ 0 by omega)
          have h1 := Int.emod_lt_of_pos t m0
          obtain ⟨y, hy⟩ : ∃ y : Nat, t % m = y := ⟨(t % m).toNat, by omega⟩
          rw [hy] at h1 ⊢
          rw [← hSS]
          exact ret_setF rfl fd (q y _ h1 fd)
      show fit (.lst (ns.map D.int)) = true ∧ fit (.lst []) = true ∧ _
      refine ⟨fit_ints ns, rfl, _, rfl, ite2 (fun h => ?_) (fun h => ?_)⟩
      · have hne : ns ≠ [] := by
          intro e
          subst e
          exact absurd h (by show ¬ ((!PyData.eqv (.list []) (.list [])) = true); decide)
        have hpos : 0 < ns.length := List.length_pos_iff.mpr hne
        refine ⟨_, _, s2, _, g3 _ _ _, _, _, s2, _, g3 _ _ _, ns.length, by simp [lenD, see], by omega, ?_⟩
        have hm : a % ns.length < ns.length := Nat.mod_lt _ hpos
        have e2 : ((a : Int) % (ns.length : Int)) = ((a % ns.length : Nat) : Int) := by simp
        rw [e2]
        refine ⟨.int ns[a % ns.length], atI_nat (by simp [hm]), ?_⟩
        simp only [aRet, aRetN, aAndV, aOrV, aNotV, aCall, aCons, aNil, aVar, aC, aOp, aUn, aB, aTru, aIf, aSeq, aIfS, aNot, aAnd, aOr, aAsg, agName, aNext, aChain, aSl, aPart, aNoPart, aDrop, aTup, aLst, rd_dat, rd_new, mod_lst, le_int', lt_int', aI_int, add_int', add_lst', eq_int', eq_str', tru_bl, tru_lst, tru_tup, true_and, aIsi, aLen, see_int', see_str', see_bl', see_non', see_tup', see_lst', see_stc', see_scr', List.getElem?_cons_zero, List.getElem?_cons_succ, List.set_cons_zero, List.set_cons_succ, Option.some.injEq, exists_eq_left', List.cons.injEq, and_true, D.ty.injEq, D.bl.injEq, D.int.injEq, D.str.injEq, and_assoc, exists_and_left, exists_eq_left, exists_and_right, ret_bl, ret_int, Bool.false_eq_true, if_true, if_false, Bool.not_true, Bool.not_false]
        exact tail _
      · exact tail _
theorem draw_of {S : Sto} {p n : Nat} {m : Int} {o : MO} {Q : AK} (hS : S[p]? = some (some o)) (ho : Fd n o) (hn : n < 1000000000000) (h0 : 0 < m) (h1 : m < 1000) (k : ∀ (z : Nat) (o' : MO), (z : Int) < m → Fd (n + 1) o' → Q (.dat (.int z)) (S.set p (some o'))) : spDraw [.loc p, .int m] S Q :=
  ⟨p, n, m, o, rfl, hS, ho, hn, h0, h1, k⟩
noncomputable def NA : List Str := ["a", "ab", "abc", "b", "ba", "bab", "c"]
noncomputable def NB : List Str := ["on", "back", "at", "stay", "many", "then", "tie"]
noncomputable def NC : List Str := ["k", "w", "xxxxxxxx", "xxxxxxx", "m", "q", "z"]
theorem n_all (l : List Str) (h : l = NA ∨ l = NB ∨ l = NC) : l.length = 7 ∧ ∀ y ∈ l, Nm y := by
  have key : ∀ l : List Str, (decide (l.length = 7) && l.all fun y => isName (.str y)) = true → l.length = 7 ∧ ∀ y ∈ l, Nm y := fun l h => by
    rw [Bool.and_eq_true, List.all_eq_true] at h
    exact ⟨of_decide_eq_true h.1, h.2⟩
  rcases h with rfl | rfl | rfl
  · exact key _ (by decide +kernel)
  · exact key _ (by decide +kernel)
  · exact key _ (by decide +kernel)
noncomputable def spNames : AN := fun ds S Q => ∃ (p n m : Nat) (o : MO), ds = [.loc p, .int m] ∧ S[p]? = some (some o) ∧ Fd n o ∧ n + 2 < 1000000000000 ∧ m ≤ 7 ∧ ∀ (ys : List Str) (o' : MO), ys.length = m → (∀ y ∈ ys, Nm y) → Fd (n + 2) o' → Q (.new (.lst (ys.map D.str))) (S.set p (some o'))
theorem d_Names (T : Txt K mg) (F : Src K mg "_law_names" PscNames sNames) (D_law_draw : Def P w K mg base 1 "_law_draw" PscDraw (conSp K spDraw)) : Def P w K mg base 2 "_law_names" PscNames (conSp K spNames) := by
  refine defA F scNames (fun ds S Q h => ?_) (fun f cdv A outer s H E hr => ?_)
  · obtain ⟨p, n, m, o, rfl, _⟩ := h; rfl
  · refine ⟨_, (M.pss_cons (M.ps_set (i := 2) scNames.nd rfl (Or.inl rfl) (M.alo (M.pe_lst (M.pac (M.pe_lst (M.pac M.pe_str (M.pac M.pe_str (M.pac M.pe_str (M.pac M.pe_str (M.pac M.pe_str (M.pac M.pe_str (M.pac M.pe_str M.pa_nil)))))))) (M.pac (M.pe_lst (M.pac M.pe_str (M.pac M.pe_str (M.pac M.pe_str (M.pac M.pe_str (M.pac M.pe_str (M.pac M.pe_str (M.pac M.pe_str M.pa_nil)))))))) M.pa_nil)))))
      (M.pss_cons (M.ps_expr (M.pe_bm PySem.F.plainAttrs_list PySem.F.slot_list_append PySem.F.type_list_append M.m_append (M.pv 2) (M.pac (M.pe_lst (M.pac M.pe_str (M.pac M.pe_str (M.pac M.pe_str (M.pac M.pe_str (M.pac M.pe_str (M.pac M.pe_str (M.pac M.pe_str M.pa_nil)))))))) M.pa_nil)))
      (M.pss_cons (M.ps_set (i := 3) scNames.nd rfl (Or.inl rfl) (M.pe_ix M.o_ix (M.pv 2) (M.pe_own D_law_draw (hr.mono (by decide)) (by rfl) (M.pac (M.pv 0) (M.pac M.pe_int M.pa_nil))) (fun _ _ => rfl)))
      (M.pss_cons (M.ps_set (i := 4) scNames.nd rfl (Or.inl rfl) (M.pe_own D_law_draw (hr.mono (by decide)) (by rfl) (M.pac (M.pv 0) (M.pac M.pe_int M.pa_nil))))
      (M.pss_one (M.ps_ret (M.pe_slice M.o_slc (M.pe_op M.o_add (M.pe_slice M.o_slc (M.pv 3) (M.po_some (M.pv 4)) M.po_none) (M.pe_slice M.o_slc (M.pv 3) M.po_none (M.po_some (M.pv 4)))) M.po_none (M.po_some (M.pv 1))))))))), fun ds S Q h => ?_⟩
    obtain ⟨p, n, m, o, rfl, hS, ho, hn, hm, q⟩ := h
    have e0 : startA NscNames [.loc p, .int m] = [some (.loc p), some (.int m), none, none, none] := rfl
    rw [e0]
    simp only [aRet, aRetN, aAndV, aOrV, aNotV, aCall, aCons, aNil, aVar, aC, aOp, aUn, aB, aTru, aIf, aSeq, aIfS, aNot, aAnd, aOr, aAsg, agName, aNext, aChain, aSl, aPart, aNoPart, aDrop, aTup, aLst, rd_dat, rd_new, mod_lst, le_int', lt_int', aI_int, add_int', add_lst', eq_int', eq_str', tru_bl, tru_lst, tru_tup, true_and, aIsi, aLen, see_int', see_str', see_bl', see_non', see_tup', see_lst', see_stc', see_scr', List.getElem?_cons_zero, List.getElem?_cons_succ, List.set_cons_zero, List.set_cons_succ, Option.some.injEq, exists_eq_left', List.cons.injEq, and_true, D.ty.injEq, D.bl.injEq, D.int.injEq, D.str.injEq, and_assoc, exists_and_left, exists_eq_left, exists_and_right, ret_bl, ret_int, Bool.false_eq_true, if_true, if_false, Bool.not_true, Bool.not_false, aAlloc, aBM, isTy, aAppend]
    have hp : p < S.length := by
      rcases Nat.lt_or_ge p S.length with z | z
      · exact z
      · rw [List.getElem?_eq_none z] at hS; cases hS
    have hat : ∀ (S : Sto) (o : MO), (S ++ [some o])[S.length]? = some (some o) := fun S o => by simp
    refine ⟨sz rfl, sz rfl, sz rfl, by simp [see, MO.d], sz rfl, S.length, rfl, _, hat _ _, by rw [sizeLine_eq]; decide, ?_⟩
    have e1 : ∀ x y : MO, List.set (S ++ [some x]) S.length (some y) = S ++ [some y] := fun x y => by rw [List.set_append_right _ _ (Nat.le_refl _), Nat.sub_self]; rfl
    rw [e1]
    refine draw_of (o := o) (by rw [List.getElem?_append_left hp]; exact hS) ho (by omega) (by decide) (by decide) fun z1 o1 hz1 ho1 => ?_
    rw [List.set_append_left _ _ hp]
    have hl1 : (S.set p (some o1)).length = S.length := List.length_set ..
    have see3 : ∀ (S1 : Sto) (L : List D), S1.length = S.length → see (S1 ++ [some (.lst L)]) (.loc S.length) = .lst L := fun S1 L h => by
      simp only [see]
      rw [← h, hat]; rfl
    show aIx (.loc S.length) (.int z1) _ _
    unfold aIx
    rw [see3 _ _ hl1]
    show ∃ e, _
    obtain ⟨e, he, hm1⟩ := at_lt (ds := [D.lst (NA.map D.str), D.lst (NB.map D.str), D.lst (NC.map D.str)]) (z := z1) (by show z1 < 3; omega)
    refine ⟨e, he, ?_⟩
    obtain ⟨l, rfl, hl⟩ : ∃ l : List Str, e = .lst (l.map D.str) ∧ (l = NA ∨ l = NB ∨ l = NC) := by
      simp only [List.mem_cons, List.not_mem_nil, or_false] at hm1
      rcases hm1 with rfl | rfl | rfl
      · exact ⟨_, rfl, .inl rfl⟩
      · exact ⟨_, rfl, .inr (.inl rfl)⟩
      · exact ⟨_, rfl, .inr (.inr rfl)⟩
    obtain ⟨l7, hnm⟩ := n_all l hl
    have hpp : p < (S.set p (some o1)).length := by rw [hl1]; exact hp
    refine draw_of (o := o1) (by rw [List.getElem?_append_left hpp]; exact set_at hS) ho1 (by omega) (by decide) (by decide) fun z2 o2 hz2 ho2 => ?_
    rw [List.set_append_left _ _ hpp, List.set_set]
    refine ⟨z2, rfl, ?_⟩
    have hz : z2 ≤ (l.map D.str).length := by rw [List.length_map]; omega
    show aSlc (.lst (l.map D.str)) _ _ _ _
    unfold aSlc
    simp only [aRet, aRetN, aAndV, aOrV, aNotV, aCall, aCons, aNil, aVar, aC, aOp, aUn, aB, aTru, aIf, aSeq, aIfS, aNot, aAnd, aOr, aAsg, agName, aNext, aChain, aSl, aPart, aNoPart, aDrop, aTup, aLst, rd_dat, rd_new, mod_lst, le_int', lt_int', aI_int, add_int', add_lst', eq_int', eq_str', tru_bl, tru_lst, tru_tup, true_and, aIsi, aLen, see_int', see_str', see_bl', see_non', see_tup', see_lst', see_stc', see_scr', List.getElem?_cons_zero, List.getElem?_cons_succ, List.set_cons_zero, List.set_cons_succ, Option.some.injEq, exists_eq_left', List.cons.injEq, and_true, D.ty.injEq, D.bl.injEq, D.int.injEq, D.str.injEq, and_assoc, exists_and_left, exists_eq_left, exists_and_right, ret_bl, ret_int, Bool.false_eq_true, if_true, if_false, Bool.not_true, Bool.not_false]
    rw [cut_from hz, cut_to hz]
    refine ⟨by rw [List.length_drop, List.length_take, List.length_map, sizeLine_eq]; omega, ?_⟩
    have e4 : (l.map D.str).drop z2 ++ (l.map D.str).take z2 = (l.drop z2 ++ l.take z2).map D.str := by rw [List.map_append, List.map_drop, List.map_take]
    have hlen : (l.drop z2 ++ l.take z2).length = 7 := by rw [List.length_append, List.length_drop, List.length_take]; omega
    rw [e4, cut_to (by rw [List.length_map]; omega), ← List.map_take]
    refine ret_gen (out_new (purs_strs _)) ho2 (by rw [List.take_left' (by rw [List.length_set])]) (q _ o2 (by rw [List.length_take]; omega) (fun y hy => ?_) ho2)
    have hy := List.mem_of_mem_take hy
    rcases List.mem_append.mp hy with hy | hy
    · exact hnm y (List.mem_of_mem_drop hy)
    · exact hnm y (List.mem_of_mem_take hy)
noncomputable def spLLeaf : AN := fun ds S Q => ∃ (p n : Nat) (ws ms : List Str) (o : MO), ds = [.loc p, .lst (ws.map D.str), .lst (ms.map D.str)] ∧ (∀ y ∈ ws, Nm y) ∧ (∀ y ∈ ms, Nm y) ∧ ws.length ≤ 7 ∧ ms.length ≤ 7 ∧ S[p]? = some (some o) ∧ Fd n o ∧ n + 2 < 1000000000000 ∧
  ∀ (x : Pt) (o' : MO), dp x = 0 → N x = 1 → Okp x → Fd (n + 2) o' → Q (.dat (tD x)) (S.set p (some o'))
theorem d_LLeaf (T : Txt K mg) (F : Src K mg "_law_leaf" PscLLeaf sLLeaf) (D_law_draw : Def P w K mg base 1 "_law_draw" PscDraw (conSp K spDraw)) : Def P w K mg base 2 "_law_leaf" PscLLeaf (conSp K spLLeaf) := by
  refine defA F scLLeaf (fun ds S Q h => ?_) (fun f cdv A outer s H E hr => ?_)
  · obtain ⟨p, n, ws, ms, o, rfl, _⟩ := h; rfl
  · refine ⟨_, (M.pss_cons (M.ps_set (i := 3) scLLeaf.nd rfl (Or.inl rfl) (M.pe_own D_law_draw (hr.mono (by decide)) (by rfl) (M.pac (M.pv 0) (M.pac M.pe_int M.pa_nil))))
      (M.pss_cons (M.ps_if (M.pt_cmpR (M.o_eq hr) (M.pv 3) M.pe_int (nomark _))
        (M.pss_one (M.ps_ret (M.pe_tup (M.pac M.pe_str M.pa_nil))))
        M.pss_nil)
      (M.pss_cons (M.ps_if (M.pw_pt (M.pw_and (M.pt_cmpR M.o_lt (M.pv 3) M.pe_int (nomark _)) (M.pw_and1 (M.pt_cmpR (M.o_ne hr) (M.pv 2) (M.pe_lst M.pa_nil) (nomark _)))))
        (M.pss_one (M.ps_ret (M.pe_tup (M.pac (M.pe_ix M.o_ix (M.pe_lst (M.pac M.pe_str (M.pac M.pe_str M.pa_nil))) (M.pe_op M.o_sub (M.pv 3) M.pe_int) (fun _ _ => rfl)) (M.pac (M.pe_ix M.o_ix (M.pv 2) (M.pe_own D_law_draw (hr.mono (by decide)) (by rfl) (M.pac (M.pv 0) (M.pac (M.pcb M.o_len (by rfl) T.len (by decide +kernel) (M.pac (M.pv 2) M.pa_nil)) M.pa_nil))) (fun _ _ => rfl)) M.pa_nil)))))
        M.pss_nil)
      (M.pss_one (M.ps_ret (M.pe_tup (M.pac M.pe_str (M.pac (M.pe_ix M.o_ix (M.pe_lst (M.pac M.pe_str (M.pac M.pe_str (M.pac M.pe_str M.pa_nil)))) (M.pe_op M.o_mod (M.pv 3) M.pe_int) (fun _ _ => rfl)) (M.pac (M.pe_ix M.o_ix (M.pe_op M.o_add (M.pv 1) (M.pe_lst (M.pac M.pe_str M.pa_nil))) (M.pe_own D_law_draw (hr.mono (by decide)) (by rfl) (M.pac (M.pv 0) (M.pac (M.pe_op M.o_add (M.pcb M.o_len (by rfl) T.len (by decide +kernel) (M.pac (M.pv 1) M.pa_nil)) M.pe_int) M.pa_nil))) (fun _ _ => rfl)) M.pa_nil))))))))), fun ds S Q h => ?_⟩
    obtain ⟨p, n, ws, ms, o, rfl, hw, hm, lw, lm, hS, ho, hn, q⟩ := h
    have e0 : startA NscLLeaf [.loc p, .lst (ws.map D.str), .lst (ms.map D.str)] = [some (.loc p), some (.lst (ws.map D.str)), some (.lst (ms.map D.str)), none] := rfl
    rw [e0]
    simp only [aRet, aRetN, aAndV, aOrV, aNotV, aCall, aCons, aNil, aVar, aC, aOp, aUn, aB, aTru, aIf, aSeq, aIfS, aNot, aAnd, aOr, aAsg, agName, aNext, aChain, aSl, aPart, aNoPart, aDrop, aTup, aLst, rd_dat, rd_new, mod_lst, le_int', lt_int', aI_int, add_int', add_lst', eq_int', eq_str', tru_bl, tru_lst, tru_tup, true_and, aIsi, aLen, see_int', see_str', see_bl', see_non', see_tup', see_lst', see_stc', see_scr', List.getElem?_cons_zero, List.getElem?_cons_succ, List.set_cons_zero, List.set_cons_succ, Option.some.injEq, exists_eq_left', List.cons.injEq, and_true, D.ty.injEq, D.bl.injEq, D.int.injEq, D.str.injEq, and_assoc, exists_and_left, exists_eq_left, exists_and_right, ret_bl, ret_int, Bool.false_eq_true, if_true, if_false, Bool.not_true, Bool.not_false]
    refine draw_of hS ho (by omega) (by decide) (by decide) fun y o1 hy ho1 => ?_
    simp only [aRet, aRetN, aAndV, aOrV, aNotV, aCall, aCons, aNil, aVar, aC, aOp, aUn, aB, aTru, aIf, aSeq, aIfS, aNot, aAnd, aOr, aAsg, agName, aNext, aChain, aSl, aPart, aNoPart, aDrop, aTup, aLst, rd_dat, rd_new, mod_lst, le_int', lt_int', aI_int, add_int', add_lst', eq_int', eq_str', tru_bl, tru_lst, tru_tup, true_and, aIsi, aLen, see_int', see_str', see_bl', see_non', see_tup', see_lst', see_stc', see_scr', List.getElem?_cons_zero, List.getElem?_cons_succ, List.set_cons_zero, List.set_cons_succ, Option.some.injEq, exists_eq_left', List.cons.injEq, and_true, D.ty.injEq, D.bl.injEq, D.int.injEq, D.str.injEq, and_assoc, exists_and_left, exists_eq_left, exists_and_right, ret_bl, ret_int, Bool.false_eq_true, if_true, if_false, Bool.not_true, Bool.not_false]
    have hS1 := set_at (o' := o1) hS
    have step : ∀ S1, S1 = S.set p (some o1) → aIx (D.lst [D.str "on", D.str "on", D.str "back"]) (D.int ((y : Int) % 3)) S1 (fun x S1 =>
            [D.str "*"].length ≤ sizeLine ∧ (List.map D.str ws).length + [D.str "*"].length ≤ sizeLine ∧ ∃ x_1, lenD (D.lst (List.map D.str ws)) = some x_1 ∧
                    spDraw [D.loc p, D.int ((x_1 : Int) + 1)] S1 fun y S2 => aIx (D.lst (List.map D.str ws ++ [D.str "*"])) y.d S2 fun x_2 S1 =>
                        [D.str "step", x.d, x_2.d].length ≤ sizeLine ∧ M.ret S S1 (R.dat (D.tup [D.str "step", x.d, x_2.d])) Q) := by
      rintro S1 rfl
      have e3 : (y : Int) % 3 = ((y % 3 : Nat) : Int) := by omega
      rw [e3]
      refine pick (by show y % 3 < 3; omega) fun e he => ?_
      obtain ⟨b, rfl⟩ : ∃ b, e = .str (side b) := by
        simp only [List.mem_cons, List.not_mem_nil, or_false] at he
        rcases he with rfl | rfl | rfl
        · exact ⟨true, rfl⟩
        · exact ⟨true, rfl⟩
        · exact ⟨false, rfl⟩
      refine ⟨sz rfl, by rw [List.length_map, sizeLine_eq]; show ws.length + 1 ≤ _; omega, ws.length, by simp [lenD], ?_⟩
      refine draw_of hS1 ho1 (by omega) (by omega) (by omega) fun z o2 hz ho2 => ?_
      rw [List.set_set]
      refine pick (by rw [List.length_append, List.length_map]; show z < ws.length + 1; omega) fun e he => ?_
      obtain ⟨x, rfl, hx⟩ : ∃ x, e = .str x ∧ Wd x := by
        rcases List.mem_append.mp he with he | he
        · obtain ⟨x, hx, rfl⟩ := List.mem_map.mp he
          exact ⟨x, rfl, by unfold Wd isWord; rw [show isName (.str x) = true from hw x hx, Bool.or_true]⟩
        · simp only [List.mem_singleton] at he
          exact ⟨_, he, show isWord (.str "*") = true by decide +kernel⟩
      exact ⟨sz rfl, ret_setF (by rfl) ho2 (q (.step b x) o2 rfl rfl hx ho2)⟩
    refine ite2 (fun h => ?_) (fun h => ite2 (fun h3 => ?_) (fun h3 => ?_))
    · exact ⟨sz rfl, ret_setF rfl ho1 (q .stay o1 rfl rfl trivial (ho1.mono (by omega)))⟩
    · have hy0 : ¬ ((y : Int) = 0) := by simpa using h
      have hy3 : (y : Int) < 3 := by simpa using h3
      refine ⟨Nat.zero_le _, ?_⟩
      show fit (.lst (ms.map D.str)) = true ∧ fit (.lst []) = true ∧ _
      refine ⟨th_fit (th_strsL (fun y hy => nm_ok (hm y hy)) (by omega)).1 (by decide), rfl, _, rfl, ite2 (fun hb => ?_) (fun hb => ⟨sz rfl, by decide, step _ rfl⟩)⟩
      have hpos : 0 < ms.length := by
        cases ms with
        | nil => exact absurd hb (by show ¬ ((!PyData.eqv (.list []) (.list [])) = true); decide)
        | cons a r => simp
      refine ⟨sz rfl, ?_⟩
      have e3 : (y : Int) - 1 = ((y - 1 : Nat) : Int) := by omega
      rw [e3]
      refine pick (by show y - 1 < 2; omega) fun e he => ?_
      obtain ⟨b, rfl⟩ : ∃ b, e = .str (mkS b) := by
        simp only [List.mem_cons, List.not_mem_nil, or_false] at he
        rcases he with rfl | rfl
        · exact ⟨true, rfl⟩
        · exact ⟨false, rfl⟩
      refine ⟨ms.length, by simp [lenD], ?_⟩
      refine draw_of hS1 ho1 (by omega) (by omega) (by omega) fun z o2 hz ho2 => ?_
      rw [List.set_set]
      refine pick (by rw [List.length_map]; omega) fun e he => ?_
      obtain ⟨x, hx, rfl⟩ := List.mem_map.mp he
      exact ⟨sz rfl, ret_setF (by rfl) ho2 (q (.mk b x) o2 rfl rfl (hm x hx) ho2)⟩
    · exact ⟨sz rfl, by decide, step _ rfl⟩
end
end K63
set_option Elab.async false
set_option linter.all false
set_option maxRecDepth 100000
set_option maxHeartbeats 4000000
namespace K63
open PySem L2 M
noncomputable abbrev sLPat : Stmt := top 27
noncomputable abbrev NscLPat : List Str := ["_law_feed_here", "_law_words", "_law_marks", "_law_bag", "_law_deep", "_law_way", "_law_some", "_law_k"]
noncomputable abbrev PscLPat : List Str := ["_law_feed_here", "_law_words", "_law_marks", "_law_bag", "_law_deep"]
theorem scLPat : FnScope NscLPat PscLPat (defScope sLPat) := ⟨rfl, rfl, rfl, by decide +kernel, rfl, by decide +kernel, by decide +kernel⟩
noncomputable def drw : Nat → Nat
  | 0 => 3
  | k + 1 => 3 + 4 * drw k
theorem drw3 (k : Nat) : 3 ≤ drw k := by cases k <;> simp [drw] <;> omega
theorem th_pt {p : Pt} (k : Nat) (h : dp p ≤ k) (ho : Okp p) (hn : N p ≤ 100) : pur (tD p) = true := th_pur (th_tD k p h ho hn)
theorem set_ne {S : Sto} {p q : Nat} {o : Option MO} {x : Option (Option MO)} (h : p ≠ q) (e : S[q]? = x) : (S.set p o)[q]? = x := by rw [List.getElem?_set_ne h]; exact e
theorem ret_gen2 {S S' : Sto} {p q n : Nat} {o o2 : MO} {r : R} {Q : AK} (h : out S.length S' r = some r) (ho : Fd n o) (ho2 : belO S.length o2 = true) (ht : S'.take S.length = (S.set p (some o)).set q (some o2)) (hq : Q r ((S.set p (some o)).set q (some o2))) : ret S S' r Q := by
  refine ⟨r, h, fun k o' hk e => ?_, by rw [ht]; exact hq⟩
  have e2 : (S'.take S.length)[k]? = some (some o') := by rw [List.getElem?_take, if_pos hk]; exact e
  rw [ht] at e2
  by_cases hkq : q = k
  · subst hkq
    rw [List.getElem?_set, if_pos rfl] at e2
    split at e2
    · have e2 : o2 = o' := by simpa using e2
      subst e2
      exact .inr ho2
    · cases e2
  · rw [List.getElem?_set_ne hkq] at e2
    exact chg_set (ho.bel _) k o' hk e2
noncomputable def T2 (S : Sto) (p q : Nat) (o : MO) (c : Nat) : Sto := (S.set p (some o)).set q (some (.lst [.int c]))
theorem lt_of_at {S : Sto} {p : Nat} {o : MO} (h : S[p]? = some (some o)) : p < S.length := by
  rcases Nat.lt_or_ge p S.length with z | z
  · exact z
  · rw [List.getElem?_eq_none z] at h; cases h
theorem T2l {S : Sto} {p q : Nat} {o : MO} {c : Nat} : (T2 S p q o c).length = S.length := by simp [T2]
theorem T2q {S : Sto} {p q : Nat} {o : MO} {c : Nat} (h : q < S.length) : (T2 S p q o c)[q]? = some (some (.lst [.int c])) := by
  unfold T2
  rw [List.getElem?_set, if_pos rfl, if_pos (by simpa using h)]
theorem T2p {S : Sto} {p q : Nat} {o : MO} {c : Nat} (h : p < S.length) (hpq : p ≠ q) : (T2 S p q o c)[p]? = some (some o) := by
  unfold T2
  rw [List.getElem?_set_ne (fun e => hpq e.symm), List.getElem?_set, if_pos rfl, if_pos h]
theorem T2sp {S : Sto} {p q : Nat} {o o' : MO} {c : Nat} (hpq : p ≠ q) : (T2 S p q o c).set p (some o') = T2 S p q o' c := by
  unfold T2
  rw [List.set_comm _ _ (fun e => hpq e.symm), List.set_set]
theorem T2sq {S : Sto} {p q : Nat} {o : MO} {c c' : Nat} : (T2 S p q o c).set q (some (.lst [.int c'])) = T2 S p q o c' := by
  unfold T2
  rw [List.set_set]
theorem dps_le : ∀ {ps : List Pt} {j : Nat}, (∀ x ∈ ps, dp x ≤ j) → dps ps ≤ j
  | [], j, _ => Nat.zero_le _
  | p :: ps, j, h => by
    have h1 := h p List.mem_cons_self
    have h2 := dps_le (ps := ps) fun x hx => h x (List.mem_cons_of_mem _ hx)
    simp only [dps]; omega
section
variable {P : Program} {w : World} {K : PySem.W.Frag} {mg : Str → Option Value} {base : Heap}
noncomputable def spLPat (k : Nat) : AN := fun ds S Q => ∃ (p q n b : Nat) (ws ms : List Str) (o : MO), ds = [.loc p, .lst (ws.map D.str), .lst (ms.map D.str), .loc q, .int k] ∧ (∀ y ∈ ws, Nm y) ∧ (∀ y ∈ ms, Nm y) ∧ ws.length ≤ 7 ∧ ms.length ≤ 7 ∧ p ≠ q ∧ S[p]? = some (some o) ∧ S[q]? = some (some (.lst [.int b])) ∧ 1 ≤ b ∧ b ≤ 8 ∧ Fd n o ∧ n + drw k < 1000000000000 ∧
  ∀ (x : Pt) (o' : MO) (c : Nat), dp x ≤ k → N x + c = b → Okp x → Fd (n + drw k) o' → Q (.dat (tD x)) ((S.set p (some o')).set q (some (.lst [.int c])))
theorem d_LPat0 (T : Txt K mg) (F : Src K mg "_law_pattern" PscLPat sLPat) (D_law_draw : Def P w K mg base 1 "_law_draw" PscDraw (conSp K spDraw)) (D_law_leaf : Def P w K mg base 2 "_law_leaf" PscLLeaf (conSp K spLLeaf)) (k : Nat) (hk : k ≤ 4) (D_law_pattern : Def P w K mg base (k + 2) "_law_pattern" PscLPat (conSp K (fun ds S Q => ∃ j, j + 1 = k ∧ spLPat j ds S Q))) :
    Def P w K mg base (k + 3) "_law_pattern" PscLPat (conSp K (spLPat k)) := by
  refine defA F scLPat (fun ds S Q h => ?_) (fun f cdv A outer s H E hr => ?_)
  · obtain ⟨p, q, n, b, ws, ms, o, rfl, _⟩ := h; rfl
  · refine ⟨_, (M.pss_cons (M.ps_lput (M.pv 3) M.pe_int (M.pe_op M.o_sub (M.pe_ix M.o_ix (M.pv 3) M.pe_int (fun _ _ => rfl)) M.pe_int))
      (M.pss_cons (M.ps_set (i := 5) scLPat.nd rfl (Or.inl rfl) (M.pe_own D_law_draw (hr.mono (by omega)) (by rfl) (M.pac (M.pv 0) (M.pac M.pe_int M.pa_nil))))
      (M.pss_cons (M.ps_if (M.pw_pt (M.pw_or (M.pt_cmpR M.o_lt (M.pv 5) M.pe_int (nomark _)) (M.pw_or (M.pt_cmpR M.o_lt (M.pe_ix M.o_ix (M.pv 3) M.pe_int (fun _ _ => rfl)) M.pe_int (nomark _)) (M.pw_or1 (M.pt_cmpR (M.o_eq hr) (M.pv 4) M.pe_int (nomark _))))))
        (M.pss_one (M.ps_ret (M.pe_own D_law_leaf (hr.mono (by omega)) (by rfl) (M.pac (M.pv 0) (M.pac (M.pv 1) (M.pac (M.pv 2) M.pa_nil))))))
        M.pss_nil)
      (M.pss_cons (M.ps_if (M.pt_cmpR (M.o_eq hr) (M.pv 5) M.pe_int (nomark _))
        (M.pss_one (M.ps_ret (M.pe_tup (M.pac M.pe_str (M.pac (M.pe_own D_law_pattern (hr.mono (by omega)) (by rfl) (M.pac (M.pv 0) (M.pac (M.pv 1) (M.pac (M.pv 2) (M.pac (M.pv 3) (M.pac (M.pe_op M.o_sub (M.pv 4) M.pe_int) M.pa_nil)))))) M.pa_nil)))))
        M.pss_nil)
      (M.pss_cons (M.ps_set (i := 6) scLPat.nd rfl (Or.inl rfl) (M.alo (M.pe_lst M.pa_nil)))
      (M.pss_cons (M.ps_for PassesOwn.never rfl (M.pi_range1 (by rfl) T.range (M.pac (M.pe_ix M.o_ix (M.pe_lst (M.pac M.pe_int (M.pac M.pe_int (M.pac M.pe_int (M.pac M.pe_int (M.pac M.pe_int (M.pac M.pe_int (M.pac M.pe_int (M.pac M.pe_int M.pa_nil))))))))) (M.pe_own D_law_draw (hr.mono (by omega)) (by rfl) (M.pac (M.pv 0) (M.pac M.pe_int M.pa_nil))) (fun _ _ => rfl)) M.pa_nil)) (M.pg_name (i := 7) scLPat.nd rfl (Or.inl rfl))
        (M.pss_one (M.ps_if (M.pt_cmpR M.o_gt (M.pe_ix M.o_ix (M.pv 3) M.pe_int (fun _ _ => rfl)) M.pe_int (nomark _))
          (M.pss_one (M.ps_expr (M.pe_bm PySem.F.plainAttrs_list PySem.F.slot_list_append PySem.F.type_list_append M.m_append (M.pv 6) (M.pac (M.pe_own D_law_pattern (hr.mono (by omega)) (by rfl) (M.pac (M.pv 0) (M.pac (M.pv 1) (M.pac (M.pv 2) (M.pac (M.pv 3) (M.pac (M.pe_op M.o_sub (M.pv 4) M.pe_int) M.pa_nil)))))) M.pa_nil))))
          M.pss_nil)))
      (M.pss_one (M.ps_ret (M.pe_tup (M.pac (M.pe_ix M.o_ix (M.pe_lst (M.pac M.pe_str (M.pac M.pe_str M.pa_nil))) (M.pe_op M.o_mod (M.pv 5) M.pe_int) (fun _ _ => rfl)) (M.pac (M.pct M.o_tupleOf (by rfl) T.tuple (by decide +kernel) (M.pac (M.pv 6) M.pa_nil)) M.pa_nil))))))))))), fun ds S Q h => ?_⟩
    obtain ⟨p, q, n, b, ws, ms, o, rfl, hw, hm_, lw, lm, hpq, hS, hB, hb1, hb8, ho, hn, hq⟩ := h
    have e0 : startA NscLPat [.loc p, .lst (ws.map D.str), .lst (ms.map D.str), .loc q, .int k] = [some (.loc p), some (.lst (ws.map D.str)), some (.lst (ms.map D.str)), some (.loc q), some (.int k), none, none, none] := rfl
    rw [e0]
    have d3 := drw3 k
    have sb : see S (.loc q) = .lst [.int b] := by simp only [see, hB]; rfl
    have ix0 : ∀ (S : Sto) (c : Int), S[q]? = some (some (.lst [.int c])) → ∀ Q : AK, Q (.dat (.int c)) S → aIx (.loc q) (.int 0) S Q := fun S c h Q hq => by
      unfold aIx
      rw [show see S (.loc q) = .lst [.int c] by simp only [see, h]; rfl]
      exact ⟨_, rfl, hq⟩
    simp only [aRet, aRetN, aAndV, aOrV, aNotV, aCall, aCons, aNil, aVar, aC, aOp, aUn, aB, aTru, aIf, aSeq, aIfS, aNot, aAnd, aOr, aAsg, agName, aNext, aChain, aSl, aPart, aNoPart, aDrop, aTup, aLst, rd_dat, rd_new, mod_lst, le_int', lt_int', aI_int, add_int', add_lst', eq_int', eq_str', tru_bl, tru_lst, tru_tup, true_and, aIsi, aLen, see_int', see_str', see_bl', see_non', see_tup', see_lst', see_stc', see_scr', List.getElem?_cons_zero, List.getElem?_cons_succ, List.set_cons_zero, List.set_cons_succ, Option.some.injEq, exists_eq_left', List.cons.injEq, and_true, D.ty.injEq, D.bl.injEq, D.int.injEq, D.str.injEq, and_assoc, exists_and_left, exists_eq_left, exists_and_right, ret_bl, ret_int, Bool.false_eq_true, if_true, if_false, Bool.not_true, Bool.not_false, aLPut]
    refine ix0 S b hB _ ?_
    simp only [aRet, aRetN, aAndV, aOrV, aNotV, aCall, aCons, aNil, aVar, aC, aOp, aUn, aB, aTru, aIf, aSeq, aIfS, aNot, aAnd, aOr, aAsg, agName, aNext, aChain, aSl, aPart, aNoPart, aDrop, aTup, aLst, rd_dat, rd_new, mod_lst, le_int', lt_int', aI_int, add_int', add_lst', eq_int', eq_str', tru_bl, tru_lst, tru_tup, true_and, aIsi, aLen, see_int', see_str', see_bl', see_non', see_tup', see_lst', see_stc', see_scr', List.getElem?_cons_zero, List.getElem?_cons_succ, List.set_cons_zero, List.set_cons_succ, Option.some.injEq, exists_eq_left', List.cons.injEq, and_true, D.ty.injEq, D.bl.injEq, D.int.injEq, D.str.injEq, and_assoc, exists_and_left, exists_eq_left, exists_and_right, ret_bl, ret_int, Bool.false_eq_true, if_true, if_false, Bool.not_true, Bool.not_false]
    refine ⟨q, rfl, _, hB, 0, rfl, ?_⟩
    obtain ⟨c, rfl⟩ : ∃ c, b = c + 1 := ⟨b - 1, by omega⟩
    have ec : [D.int ((c + 1 : Nat) : Int)].set 0 (D.int (((c + 1 : Nat) : Int) - 1)) = [D.int c] := by
      show [D.int (((c + 1 : Nat) : Int) - 1)] = _
      rw [show (((c + 1 : Nat) : Int) - 1) = (c : Int) by omega]
    rw [ec]
    refine draw_of (o := o) (set_ne (fun e => hpq e.symm) hS) ho (by omega) (by decide) (by decide) fun z o1 hz ho1 => ?_
    have hp : p < S.length := lt_of_at hS
    have hq' : q < S.length := lt_of_at hB
    rw [show (S.set q (some (.lst [.int c]))).set p (some o1) = T2 S p q o1 c from List.set_comm _ _ (fun e => hpq e.symm)]
    have leaf : ∀ r' : Nat, spLLeaf [D.loc p, D.lst (ws.map D.str), D.lst (ms.map D.str)] (T2 S p q o1 c) fun r S' => M.ret S S' r Q := fun _ => by
      refine ⟨p, n + 1, ws, ms, o1, rfl, hw, hm_, lw, lm, T2p hp hpq, ho1, by omega, fun x o' h0 h1 hok ho' => ?_⟩
      rw [T2sp hpq]
      exact ret_gen2 (out_dat (th_pt 0 (by omega) hok (by omega))) ho' rfl (List.take_of_length_le (by simp [T2])) (hq x o' c (by omega) (by omega) hok (ho'.mono (by omega)))
    simp only [aRet, aRetN, aAndV, aOrV, aNotV, aCall, aCons, aNil, aVar, aC, aOp, aUn, aB, aTru, aIf, aSeq, aIfS, aNot, aAnd, aOr, aAsg, agName, aNext, aChain, aSl, aPart, aNoPart, aDrop, aTup, aLst, rd_dat, rd_new, mod_lst, le_int', lt_int', aI_int, add_int', add_lst', eq_int', eq_str', tru_bl, tru_lst, tru_tup, true_and, aIsi, aLen, see_int', see_str', see_bl', see_non', see_tup', see_lst', see_stc', see_scr', List.getElem?_cons_zero, List.getElem?_cons_succ, List.set_cons_zero, List.set_cons_succ, Option.some.injEq, exists_eq_left', List.cons.injEq, and_true, D.ty.injEq, D.bl.injEq, D.int.injEq, D.str.injEq, and_assoc, exists_and_left, exists_eq_left, exists_and_right, ret_bl, ret_int, Bool.false_eq_true, if_true, if_false, Bool.not_true, Bool.not_false]
    refine ite2 (fun _ => leaf 0) (fun _ => ?_)
    refine ix0 _ c (T2q hq') _ ?_
    simp only [aRet, aRetN, aAndV, aOrV, aNotV, aCall, aCons, aNil, aVar, aC, aOp, aUn, aB, aTru, aIf, aSeq, aIfS, aNot, aAnd, aOr, aAsg, agName, aNext, aChain, aSl, aPart, aNoPart, aDrop, aTup, aLst, rd_dat, rd_new, mod_lst, le_int', lt_int', aI_int, add_int', add_lst', eq_int', eq_str', tru_bl, tru_lst, tru_tup, true_and, aIsi, aLen, see_int', see_str', see_bl', see_non', see_tup', see_lst', see_stc', see_scr', List.getElem?_cons_zero, List.getElem?_cons_succ, List.set_cons_zero, List.set_cons_succ, Option.some.injEq, exists_eq_left', List.cons.injEq, and_true, D.ty.injEq, D.bl.injEq, D.int.injEq, D.str.injEq, and_assoc, exists_and_left, exists_eq_left, exists_and_right, ret_bl, ret_int, Bool.false_eq_true, if_true, if_false, Bool.not_true, Bool.not_false]
    refine ite2 (fun _ => leaf 0) (fun hc1 => ?_)
    have hc1 : ¬ ((c : Int) < 1) := by simpa using hc1
    refine ite2 (fun _ => leaf 0) (fun hk0 => ?_)
    have hk0 : ¬ ((k : Int) = 0) := by simpa using hk0
    obtain ⟨j, rfl⟩ : ∃ j, k = j + 1 := ⟨k - 1, by omega⟩
    have ej : ((j + 1 : Nat) : Int) - 1 = (j : Int) := by omega
    have ed : drw (j + 1) = 3 + 4 * drw j := rfl
    rw [ed] at hn hq
    refine ite2 (fun _ => ?_) (fun _ => ?_)
    · rw [ej]
      refine ⟨j, rfl, p, q, n + 1, c, ws, ms, o1, rfl, hw, hm_, lw, lm, hpq, T2p hp hpq, T2q hq', by omega, by omega, ho1, by omega, fun x o' c' hd hN hok ho' => ⟨sz rfl, ?_⟩⟩
      rw [T2sp hpq, T2sq]
      have hN2 : N (.many x) + c' = c + 1 := by simp only [N]; omega
      exact ret_gen2 (out_dat (th_pt (p := .many x) (j + 1) (by simp only [dp]; omega) hok (by omega))) ho' rfl (List.take_of_length_le (by simp [T2])) (hq (.many x) o' c' (by simp only [dp]; omega) hN2 hok (ho'.mono (by omega)))
    · simp only [aAlloc, aLst, aNil, aRet, aRetN, aAndV, aOrV, aNotV, aCall, aCons, aNil, aVar, aC, aOp, aUn, aB, aTru, aIf, aSeq, aIfS, aNot, aAnd, aOr, aAsg, agName, aNext, aChain, aSl, aPart, aNoPart, aDrop, aTup, aLst, rd_dat, rd_new, mod_lst, le_int', lt_int', aI_int, add_int', add_lst', eq_int', eq_str', tru_bl, tru_lst, tru_tup, true_and, aIsi, aLen, see_int', see_str', see_bl', see_non', see_tup', see_lst', see_stc', see_scr', List.getElem?_cons_zero, List.getElem?_cons_succ, List.set_cons_zero, List.set_cons_succ, Option.some.injEq, exists_eq_left', List.cons.injEq, and_true, D.ty.injEq, D.bl.injEq, D.int.injEq, D.str.injEq, and_assoc, exists_and_left, exists_eq_left, exists_and_right, ret_bl, ret_int, Bool.false_eq_true, if_true, if_false, Bool.not_true, Bool.not_false, aFor, iRng]
      refine ⟨Nat.zero_le _, sz rfl, ?_⟩
      have hl1 : (T2 S p q o1 c).length = S.length := T2l
      rw [hl1]
      refine draw_of (o := o1) (by rw [List.getElem?_append_left (by rw [hl1]; exact hp)]; exact T2p hp hpq) ho1 (by omega) (by decide) (by decide) fun y o2 hy ho2 => ?_
      rw [List.set_append_left _ _ (by rw [hl1]; exact hp), T2sp hpq]
      refine pick (by show y < 8; omega) fun m hm => ?_
      obtain ⟨mm, rfl, hmm⟩ : ∃ mm : Nat, m = .int mm ∧ mm ≤ 4 := by
        simp only [List.mem_cons, List.not_mem_nil, or_false] at hm
        rcases hm with rfl | rfl | rfl | rfl | rfl | rfl | rfl | rfl
        · exact ⟨2, rfl, by decide⟩
        · exact ⟨3, rfl, by decide⟩
        · exact ⟨0, rfl, by decide⟩
        · exact ⟨1, rfl, by decide⟩
        · exact ⟨2, rfl, by decide⟩
        · exact ⟨2, rfl, by decide⟩
        · exact ⟨4, rfl, by decide⟩
        · exact ⟨3, rfl, by decide⟩
      refine ⟨mm, rfl, by omega, by omega, ?_⟩
      have hmd : mm * drw j ≤ 4 * drw j := Nat.mul_le_mul_right _ hmm
      refine loop_by (fun rest δ S' => ∃ (n2 c2 : Nat) (o3 : MO) (ps : List Pt) (v7 : Option D), δ = [some (.loc p), some (.lst (ws.map D.str)), some (.lst (ms.map D.str)), some (.loc q), some (.int ((j + 1 : Nat) : Int)), some (.int z), some (.loc S.length), v7] ∧
          S' = T2 S p q o3 c2 ++ [some (.lst (ps.map tD))] ∧ Fd n2 o3 ∧ n2 + rest.length * drw j ≤ n + 2 + mm * drw j ∧ Ns ps + c2 = c ∧ (∀ x ∈ ps, dp x ≤ j) ∧ Okps ps ∧ ps.length + rest.length ≤ mm) ?_ ?_ _ _ _
        ⟨n + 2, c, o2, [], none, rfl, rfl, ho2, by simp [iRngD], by simp [Ns], by simp, trivial, by simp [iRngD]⟩
      · rintro δ S' ⟨n2, c2, o3, ps, v7, rfl, rfl, ho3, hn2, hNs, hdp, hok, hlen⟩
        refine ⟨trivial, ?_⟩
        simp only [aTupleOf, aRet, aRetN, aAndV, aOrV, aNotV, aCall, aCons, aNil, aVar, aC, aOp, aUn, aB, aTru, aIf, aSeq, aIfS, aNot, aAnd, aOr, aAsg, agName, aNext, aChain, aSl, aPart, aNoPart, aDrop, aTup, aLst, rd_dat, rd_new, mod_lst, le_int', lt_int', aI_int, add_int', add_lst', eq_int', eq_str', tru_bl, tru_lst, tru_tup, true_and, aIsi, aLen, see_int', see_str', see_bl', see_non', see_tup', see_lst', see_stc', see_scr', List.getElem?_cons_zero, List.getElem?_cons_succ, List.set_cons_zero, List.set_cons_succ, Option.some.injEq, exists_eq_left', List.cons.injEq, and_true, D.ty.injEq, D.bl.injEq, D.int.injEq, D.str.injEq, and_assoc, exists_and_left, exists_eq_left, exists_and_right, ret_bl, ret_int, Bool.false_eq_true, if_true, if_false, Bool.not_true, Bool.not_false]
        have hl3 : (T2 S p q o3 c2).length = S.length := T2l
        have ez : ((z : Int) % 2) = ((z % 2 : Nat) : Int) := by omega
        rw [ez]
        refine ⟨sz rfl, by decide, pick (by show z % 2 < 2; omega) fun a ha => ?_⟩
        have hlp : ps.length ≤ 4 := by omega
        have es : see (T2 S p q o3 c2 ++ [some (.lst (ps.map tD))]) (.loc S.length) = .lst (ps.map tD) := by
          simp only [see]; rw [← hl3]; simp [MO.d]
        rw [es]
        simp only [aRet, aRetN, aAndV, aOrV, aNotV, aCall, aCons, aNil, aVar, aC, aOp, aUn, aB, aTru, aIf, aSeq, aIfS, aNot, aAnd, aOr, aAsg, agName, aNext, aChain, aSl, aPart, aNoPart, aDrop, aTup, aLst, rd_dat, rd_new, mod_lst, le_int', lt_int', aI_int, add_int', add_lst', eq_int', eq_str', tru_bl, tru_lst, tru_tup, true_and, aIsi, aLen, see_int', see_str', see_bl', see_non', see_tup', see_lst', see_stc', see_scr', List.getElem?_cons_zero, List.getElem?_cons_succ, List.set_cons_zero, List.set_cons_succ, Option.some.injEq, exists_eq_left', List.cons.injEq, and_true, D.ty.injEq, D.bl.injEq, D.int.injEq, D.str.injEq, and_assoc, exists_and_left, exists_eq_left, exists_and_right, ret_bl, ret_int, Bool.false_eq_true, if_true, if_false, Bool.not_true, Bool.not_false]
        have dj : dps ps ≤ j := dps_le hdp
        have fin : ∀ x : Pt, tD x = .tup [a, .tup (ps.map tD)] → dp x = dps ps + 1 → N x = Ns ps + 1 → Okp x → [a, D.tup (ps.map tD)].length ≤ sizeLine ∧ M.ret S (T2 S p q o3 c2 ++ [some (.lst (ps.map tD))]) (.dat (.tup [a, .tup (ps.map tD)])) Q := fun x e1 e2 e3 e4 => by
          rw [← e1]
          exact ⟨sz rfl, ret_gen2 (out_dat (th_pt (j + 1) (by omega) e4 (by omega))) ho3 rfl (by rw [List.take_left' hl3]; rfl) (hq x o3 c2 (by omega) (by omega) e4 (ho3.mono (by simp at hn2; omega)))⟩
        simp only [List.mem_cons, List.not_mem_nil, or_false] at ha
        rcases ha with rfl | rfl
        · exact fin (.seq ps) (by simp only [tD, tDs_map]) rfl rfl hok
        · exact fin (.alt ps) (by simp only [tD, tDs_map]) rfl rfl hok
      · rintro t rest δ S' N' ⟨n2, c2, o3, ps, v7, rfl, rfl, ho3, hn2, hNs, hdp, hok, hlen⟩ hN'
        have hl3 : (T2 S p q o3 c2).length = S.length := T2l
        refine ⟨trivial, ?_⟩
        simp only [aRet, aRetN, aAndV, aOrV, aNotV, aCall, aCons, aNil, aVar, aC, aOp, aUn, aB, aTru, aIf, aSeq, aIfS, aNot, aAnd, aOr, aAsg, agName, aNext, aChain, aSl, aPart, aNoPart, aDrop, aTup, aLst, rd_dat, rd_new, mod_lst, le_int', lt_int', aI_int, add_int', add_lst', eq_int', eq_str', tru_bl, tru_lst, tru_tup, true_and, aIsi, aLen, see_int', see_str', see_bl', see_non', see_tup', see_lst', see_stc', see_scr', List.getElem?_cons_zero, List.getElem?_cons_succ, List.set_cons_zero, List.set_cons_succ, Option.some.injEq, exists_eq_left', List.cons.injEq, and_true, D.ty.injEq, D.bl.injEq, D.int.injEq, D.str.injEq, and_assoc, exists_and_left, exists_eq_left, exists_and_right, ret_bl, ret_int, Bool.false_eq_true, if_true, if_false, Bool.not_true, Bool.not_false]
        have hB3 : ∀ x : Option MO, (T2 S p q o3 c2 ++ [x])[q]? = some (some (.lst [.int c2])) := fun x => by rw [List.getElem?_append_left (by rw [hl3]; exact hq')]; exact T2q hq'
        have hS3 : ∀ x : Option MO, (T2 S p q o3 c2 ++ [x])[p]? = some (some o3) := fun x => by rw [List.getElem?_append_left (by rw [hl3]; exact hp)]; exact T2p hp hpq
        have hrest : (rest.length + 1) * drw j = rest.length * drw j + drw j := by rw [Nat.add_mul, Nat.one_mul]
        have hlen : ps.length + (rest.length + 1) ≤ mm := by simpa using hlen
        have hn2 : n2 + (rest.length + 1) * drw j ≤ n + 2 + mm * drw j := by simpa using hn2
        rw [hrest] at hn2
        refine ix0 _ c2 (hB3 _) _ ?_
        simp only [aRet, aRetN, aAndV, aOrV, aNotV, aCall, aCons, aNil, aVar, aC, aOp, aUn, aB, aTru, aIf, aSeq, aIfS, aNot, aAnd, aOr, aAsg, agName, aNext, aChain, aSl, aPart, aNoPart, aDrop, aTup, aLst, rd_dat, rd_new, mod_lst, le_int', lt_int', aI_int, add_int', add_lst', eq_int', eq_str', tru_bl, tru_lst, tru_tup, true_and, aIsi, aLen, see_int', see_str', see_bl', see_non', see_tup', see_lst', see_stc', see_scr', List.getElem?_cons_zero, List.getElem?_cons_succ, List.set_cons_zero, List.set_cons_succ, Option.some.injEq, exists_eq_left', List.cons.injEq, and_true, D.ty.injEq, D.bl.injEq, D.int.injEq, D.str.injEq, and_assoc, exists_and_left, exists_eq_left, exists_and_right, ret_bl, ret_int, Bool.false_eq_true, if_true, if_false, Bool.not_true, Bool.not_false]
        refine ite2 (fun hc => ?_) (fun hc => ?_)
        · have hc : (0 : Int) < c2 := by simpa using hc
          have es : see (T2 S p q o3 c2 ++ [some (.lst (ps.map tD))]) (.loc S.length) = .lst (ps.map tD) := by
            simp only [see]; rw [← hl3]; simp [MO.d]
          simp only [aBM, isTy, aRet, aRetN, aAndV, aOrV, aNotV, aCall, aCons, aNil, aVar, aC, aOp, aUn, aB, aTru, aIf, aSeq, aIfS, aNot, aAnd, aOr, aAsg, agName, aNext, aChain, aSl, aPart, aNoPart, aDrop, aTup, aLst, rd_dat, rd_new, mod_lst, le_int', lt_int', aI_int, add_int', add_lst', eq_int', eq_str', tru_bl, tru_lst, tru_tup, true_and, aIsi, aLen, see_int', see_str', see_bl', see_non', see_tup', see_lst', see_stc', see_scr', List.getElem?_cons_zero, List.getElem?_cons_succ, List.set_cons_zero, List.set_cons_succ, Option.some.injEq, exists_eq_left', List.cons.injEq, and_true, D.ty.injEq, D.bl.injEq, D.int.injEq, D.str.injEq, and_assoc, exists_and_left, exists_eq_left, exists_and_right, ret_bl, ret_int, Bool.false_eq_true, if_true, if_false, Bool.not_true, Bool.not_false, es]
          rw [ej]
          refine ⟨j, rfl, p, q, n2, c2, ws, ms, o3, rfl, hw, hm_, lw, lm, hpq, hS3 _, hB3 _, by omega, by omega, ho3, by omega, fun x o' c' hd hN hok' ho' => ?_⟩
          rw [List.set_append_left _ _ (by rw [hl3]; exact hp), T2sp hpq, List.set_append_left _ _ (by rw [T2l]; exact hq'), T2sq]
          have hl4 : (T2 S p q o' c').length = S.length := T2l
          refine ⟨S.length, _, _, rfl, rfl, by rw [← hl4]; simp; rfl, by rw [List.length_map, sizeLine_eq]; omega, ?_⟩
          rw [List.set_append_right _ _ (by rw [hl4]; exact Nat.le_refl _), hl4, Nat.sub_self]
          refine hN' _ _ ⟨n2 + drw j, c', o', ps ++ [x], _, rfl, by rw [List.map_append]; rfl, ho', by omega, by rw [Ns_append]; simp only [Ns]; omega, fun y hy => ?_, okps_mem.mpr fun y hy => ?_, by rw [List.length_append]; show ps.length + 1 + _ ≤ _; omega⟩
          · rcases List.mem_append.mp hy with hy | hy
            · exact hdp y hy
            · rw [List.mem_singleton.mp hy]; exact hd
          · rcases List.mem_append.mp hy with hy | hy
            · exact okps_mem.mp hok y hy
            · rw [List.mem_singleton.mp hy]; exact hok'
        · exact hN' _ _ ⟨n2, c2, o3, ps, _, rfl, rfl, ho3, by omega, hNs, hdp, hok, by omega⟩
theorem d_none {k : Nat} {sp : AN} (F : Src K mg "_law_pattern" PscLPat sLPat) (h : ∀ ds S Q, ¬ sp ds S Q) : Def P w K mg base (k + 1) "_law_pattern" PscLPat (conSp K sp) :=
  F.def scLPat (fun vs H Q E z => by obtain ⟨_, _, _, _, _, _, q, _⟩ := z; exact (h _ _ _ q).elim) fun f cdv A outer s H vs Q E hr z => by obtain ⟨_, _, _, _, _, _, q, _⟩ := z; exact (h _ _ _ q).elim
theorem d_LPat (T : Txt K mg) (F : Src K mg "_law_pattern" PscLPat sLPat) (D_law_draw : Def P w K mg base 1 "_law_draw" PscDraw (conSp K spDraw)) (D_law_leaf : Def P w K mg base 2 "_law_leaf" PscLLeaf (conSp K spLLeaf)) : ∀ k, k ≤ 4 → Def P w K mg base (k + 3) "_law_pattern" PscLPat (conSp K (spLPat k))
  | 0, h => d_LPat0 T F D_law_draw D_law_leaf 0 h (d_none F fun ds S Q ⟨j, e, _⟩ => by omega)
  | k + 1, h => d_LPat0 T F D_law_draw D_law_leaf (k + 1) h ((d_LPat T F D_law_draw D_law_leaf k (by omega)).imp fun vs H Q E z => by
      obtain ⟨w, ds, S, Qa, ok, rep, ⟨j, e, q⟩, bk⟩ := z
      obtain rfl : j = k := by omega
      exact ⟨w, ds, S, Qa, ok, rep, q, bk⟩)
end
end K63
set_option Elab.async false
set_option linter.all false
set_option maxRecDepth 100000
set_option maxHeartbeats 4000000
namespace K63
open PySem L2 M
noncomputable abbrev sOther : Stmt := top 19
noncomputable abbrev NscOther : List Str := ["side"]
noncomputable abbrev PscOther : List Str := ["side"]
theorem scOther : FnScope NscOther PscOther (defScope sOther) := ⟨rfl, rfl, rfl, by decide +kernel, rfl, by decide +kernel, by decide +kernel⟩
noncomputable abbrev sBk : Stmt := top 21
noncomputable abbrev NscBk : List Str := ["pattern", "parts"]
noncomputable abbrev PscBk : List Str := ["pattern"]
theorem scBk : FnScope NscBk PscBk (defScope sBk) := ⟨rfl, rfl, rfl, by decide +kernel, rfl, by decide +kernel, by decide +kernel⟩
noncomputable abbrev sAll : Stmt := top 30
noncomputable abbrev NscAll : List Str := ["_law_pattern_here", "_law_found", "_law_one"]
noncomputable abbrev PscAll : List Str := ["_law_pattern_here"]
theorem scAll : FnScope NscAll PscAll (defScope sAll) := ⟨rfl, rfl, rfl, by decide +kernel, rfl, by decide +kernel, by decide +kernel⟩
noncomputable abbrev sCnt : Stmt := top 31
noncomputable abbrev NscCnt : List Str := ["_law_pattern_here", "_law_heads"]
noncomputable abbrev PscCnt : List Str := ["_law_pattern_here"]
theorem scCnt : FnScope NscCnt PscCnt (defScope sCnt) := ⟨rfl, rfl, rfl, by decide +kernel, rfl, by decide +kernel, by decide +kernel⟩
theorem ix_tup {ds : List D} {i : Int} {S : Sto} {Q : AK} : aIx (.tup ds) (.int i) S Q = ∃ e, atI ds i = some e ∧ Q (.dat e) S := rfl
theorem at0 {α : Type} {a : α} {r : List α} : atI (a :: r) (0 : Int) = some a := (atI_nat (j := 0) rfl : atI (a :: r) ((0 : Nat) : Int) = some a)
theorem at1 {α : Type} {a b : α} {r : List α} : atI (a :: b :: r) (1 : Int) = some b := (atI_nat (j := 1) rfl : atI (a :: b :: r) ((1 : Nat) : Int) = some b)
theorem at2 {α : Type} {a b c : α} {r : List α} : atI (a :: b :: c :: r) (2 : Int) = some c := (atI_nat (j := 2) rfl : atI (a :: b :: c :: r) ((2 : Nat) : Int) = some c)
theorem inS_str {x : Str} {ss : List Str} : inS (.str x) ss = ss.any fun s => decide (x = s) := rfl
theorem in_lv {x : Str} {S : Sto} {Q : AK} (hx : okS x = true) (q : Q (.dat (.bl (inS (.str x) ["stay", "step", "at", "off"]))) S) : aIn false (.str x) (.stc ["stay", "step", "at", "off"]) S Q :=
  in_stc (n := 0) hx (by decide) (by decide +kernel) (by rw [Bool.false_bne]; exact q)
theorem in_te {x : Str} {S : Sto} {Q : AK} (hx : okS x = true) (q : Q (.dat (.bl (inS (.str x) ["then", "either"]))) S) : aIn false (.str x) (.tup [.str "then", .str "either"]) S Q :=
  in_texts (n := 0) (ss := ["then", "either"]) hx (by decide) (by decide +kernel) (by rw [Bool.false_bne]; exact q)
theorem purs_map {l : List Pt} (h : ∀ q ∈ l, pur (tD q) = true) : purs (l.map tD) = true := by
  induction l with
  | nil => rfl
  | cons a r ih =>
    simp only [List.map_cons, purs, h a List.mem_cons_self, ih fun q hq => h q (List.mem_cons_of_mem _ hq), Bool.and_self]
mutual
theorem all_ok : ∀ (p : Pt), Okp p → ∀ q ∈ all p, Okp q ∧ dp q ≤ dp p ∧ N q ≤ N p
  | .stay, ho, q, hq => by simp only [all, List.mem_singleton] at hq; subst hq; exact ⟨ho, Nat.le_refl _, Nat.le_refl _⟩
  | .step b x, ho, q, hq => by simp only [all, List.mem_singleton] at hq; subst hq; exact ⟨ho, Nat.le_refl _, Nat.le_refl _⟩
  | .mk b x, ho, q, hq => by simp only [all, List.mem_singleton] at hq; subst hq; exact ⟨ho, Nat.le_refl _, Nat.le_refl _⟩
  | .many p, ho, q, hq => by
    simp only [all, List.mem_cons] at hq
    rcases hq with rfl | hq
    · exact ⟨ho, Nat.le_refl _, Nat.le_refl _⟩
    · obtain ⟨h1, h2, h3⟩ := all_ok p ho q hq
      exact ⟨h1, by simp only [dp]; omega, by simp only [N]; omega⟩
  | .seq ps, ho, q, hq => by
    simp only [all, List.mem_cons] at hq
    rcases hq with rfl | hq
    · exact ⟨ho, Nat.le_refl _, Nat.le_refl _⟩
    · obtain ⟨h1, h2, h3⟩ := alls_ok ps ho q hq
      exact ⟨h1, by simp only [dp]; omega, by simp only [N]; omega⟩
  | .alt ps, ho, q, hq => by
    simp only [all, List.mem_cons] at hq
    rcases hq with rfl | hq
    · exact ⟨ho, Nat.le_refl _, Nat.le_refl _⟩
    · obtain ⟨h1, h2, h3⟩ := alls_ok ps ho q hq
      exact ⟨h1, by simp only [dp]; omega, by simp only [N]; omega⟩
theorem alls_ok : ∀ (ps : List Pt), Okps ps → ∀ q ∈ alls ps, Okp q ∧ dp q ≤ dps ps ∧ N q ≤ Ns ps
  | [], ho, q, hq => by simp only [alls, List.not_mem_nil] at hq
  | p :: ps, ho, q, hq => by
    simp only [alls, List.mem_append] at hq
    rcases hq with hq | hq
    · obtain ⟨h1, h2, h3⟩ := all_ok p ho.1 q hq
      exact ⟨h1, by simp only [dps]; omega, by simp only [Ns]; omega⟩
    · obtain ⟨h1, h2, h3⟩ := alls_ok ps ho.2 q hq
      exact ⟨h1, by simp only [dps]; omega, by simp only [Ns]; omega⟩
end
noncomputable def fstD : D → D
  | .tup (a :: _) => a
  | d => d
section
variable {P : Program} {w : World} {K : PySem.W.Frag} {mg : Str → Option Value} {base : Heap}
noncomputable def spOther : AN := fun ds S Q => ∃ b, ds = [.str (side b)] ∧ Q (.dat (.str (side (!b)))) S
theorem d_Other (T : Txt K mg) (F : Src K mg "other_side" PscOther sOther) : Def P w K mg base 1 "other_side" PscOther (conSp K spOther) := by
  refine defA F scOther (fun ds S Q h => ?_) (fun f cdv A outer s H E hr => ?_)
  · obtain ⟨b, rfl, _⟩ := h; rfl
  · refine ⟨_, (M.pss_one (M.ps_ret (M.pe_ifExp (M.pt_cmpR (M.o_eq hr) (M.pv 0) M.pe_str (nomark _)) M.pe_str M.pe_str))), fun ds S Q h => ?_⟩
    obtain ⟨b, rfl, q⟩ := h
    have e0 : startA NscOther [.str (side b)] = [some (.str (side b))] := rfl
    rw [e0]
    simp only [aRet, aRetN, aAndV, aOrV, aNotV, aCall, aCons, aNil, aVar, aC, aOp, aUn, aB, aTru, aIf, aSeq, aIfS, aNot, aAnd, aOr, aAsg, agName, aNext, aChain, aSl, aPart, aNoPart, aDrop, aTup, aLst, rd_dat, rd_new, mod_lst, le_int', lt_int', aI_int, add_int', add_lst', eq_int', eq_str', tru_bl, tru_lst, tru_tup, true_and, aIsi, aLen, see_int', see_str', see_bl', see_non', see_tup', see_lst', see_stc', see_scr', List.getElem?_cons_zero, List.getElem?_cons_succ, List.set_cons_zero, List.set_cons_succ, Option.some.injEq, exists_eq_left', List.cons.injEq, and_true, D.ty.injEq, D.bl.injEq, D.int.injEq, D.str.injEq, and_assoc, exists_and_left, exists_eq_left, exists_and_right, ret_bl, ret_int, Bool.false_eq_true, if_true, if_false, Bool.not_true, Bool.not_false]
    cases b
    · rw [if_neg (by decide)]
      exact ret_pur rfl q
    · rw [if_pos (by decide)]
      exact ret_pur rfl q
noncomputable def spBk (k : Nat) : AN := fun ds S Q => ∃ p : Pt, ds = [tD p] ∧ dp p ≤ k ∧ Okp p ∧ N p ≤ 40 ∧ Q (.dat (tD (bk p))) S
theorem parts_bk {j : Nat} {S : Sto} {Q : List D → Sto → Prop} {δ : AEnv} (ps : List Pt) (hd : dps ps ≤ j) (ho : Okps ps) (hn : Ns ps ≤ 40) (q : Q (ps.map fun x => tD (bk x)) S) :
    compD (fun _ => True) (agName 0) aYes (aCall (fun ds S Q => ∃ i, i + 1 = j + 1 ∧ spBk i ds S Q) (aCons (aVar 0) aNil)) (tDs ps) [] (captA [none] δ) S Q := by
  refine comp_by (fun rest acc δ S' => ∃ (qs rs : List Pt) (v : Option D), rest = rs.map tD ∧ acc = qs.map (fun x => tD (bk x)) ∧ qs ++ rs = ps ∧ S' = S ∧ δ = [v]) ?_ ?_ _ [] _ _ ⟨[], ps, none, tDs_map ps, rfl, rfl, rfl, rfl⟩
  · rintro acc δ S' ⟨qs, rs, v, hr, rfl, he, rfl, rfl⟩
    have : rs = [] := by cases rs with
      | nil => rfl
      | cons _ _ => simp at hr
    subst this
    rw [List.append_nil] at he
    subst he
    exact ⟨trivial, q⟩
  · rintro x rest acc δ S' N' ⟨qs, rs, v, hr, rfl, he, rfl, rfl⟩ hN'
    cases rs with
    | nil => simp at hr
    | cons r rs =>
      rw [List.map_cons] at hr
      injection hr with h1 h2
      subst h1; subst h2
      have hm : r ∈ ps := by rw [← he]; simp
      have hnr := N_mem hm
      have hlen := Ns_len ps
      have hql : qs.length ≤ ps.length := by rw [← he, List.length_append]; omega
      refine ⟨trivial, ?_⟩
      simp only [agName, aYes, if_true, aCall, aCons, aNil, aVar, List.set_cons_zero, List.getElem?_cons_zero, Option.some.injEq, exists_eq_left', rd_dat]
      refine ⟨j, rfl, r, rfl, by have := dps_mem hm; omega, okps_mem.mp ho r hm, by omega, by rw [List.length_map, sizeLine_eq]; omega, hN' _ _ _ ⟨qs ++ [r], rs, _, rfl, by rw [List.map_append]; rfl, by rw [List.append_assoc]; exact he, rfl, rfl⟩⟩
theorem d_Bk0 (T : Txt K mg) (F : Src K mg "backwards" PscBk sBk) (D_other_side : Def P w K mg base 1 "other_side" PscOther (conSp K spOther)) (k : Nat) (hk : k ≤ 4) (D_backwards : Def P w K mg base (k + 2) "backwards" PscBk (conSp K (fun ds S Q => ∃ j, j + 1 = k ∧ spBk j ds S Q))) : Def P w K mg base (k + 3) "backwards" PscBk (conSp K (spBk k)) := by
  refine defA F scBk (fun ds S Q h => ?_) (fun f cdv A outer s H E hr => ?_)
  · obtain ⟨p, rfl, _⟩ := h; rfl
  · refine ⟨_, (M.pss_cons (M.ps_if (M.pt_cmpR (M.o_eq hr) (M.pe_ix M.o_ix (M.pv 0) M.pe_int (fun _ _ => rfl)) M.pe_str (nomark _))
        (M.pss_one (M.ps_ret (M.pe_tup (M.pac M.pe_str (M.pac (M.pe_own D_other_side (hr.mono (by omega)) (by rfl) (M.pac (M.pe_ix M.o_ix (M.pv 0) M.pe_int (fun _ _ => rfl)) M.pa_nil)) (M.pac (M.pe_ix M.o_ix (M.pv 0) M.pe_int (fun _ _ => rfl)) M.pa_nil))))))
        M.pss_nil)
      (M.pss_cons (M.ps_if (M.pt_cmpR (M.o_in hr) (M.pe_ix M.o_ix (M.pv 0) M.pe_int (fun _ _ => rfl)) T.pe_LEAVES rfl)
        (M.pss_one (M.ps_ret (M.pv 0)))
        M.pss_nil)
      (M.pss_cons (M.ps_if (M.pt_cmpR (M.o_eq hr) (M.pe_ix M.o_ix (M.pv 0) M.pe_int (fun _ _ => rfl)) M.pe_str (nomark _))
        (M.pss_one (M.ps_ret (M.pe_tup (M.pac M.pe_str (M.pac (M.pe_own D_backwards (hr.mono (by omega)) (by rfl) (M.pac (M.pe_ix M.o_ix (M.pv 0) M.pe_int (fun _ _ => rfl)) M.pa_nil)) M.pa_nil)))))
        M.pss_nil)
      (M.pss_cons (M.ps_setComp (i := 1) scBk.nd rfl rfl (N := ["part"]) (caps := [none]) (bs_mk (by decide +kernel)) (by rfl) (by rfl) rfl (M.pi_any (M.pe_ix M.o_ix (M.pv 0) M.pe_int (fun _ _ => rfl))) (fun _ _ _ _ => (M.pg_name (i := 0) (by decide +kernel : List.Nodup (["part"] : List Str)) rfl (Or.inl rfl))) (fun _ _ _ _ => M.pts_nil) (fun _ _ _ _ => (M.pe_own D_backwards (hr.mono (by omega)) (by rfl) (M.pac (M.pv 0) M.pa_nil))))
      (M.pss_one (M.ps_ret (M.pe_tup (M.pac (M.pe_ix M.o_ix (M.pv 0) M.pe_int (fun _ _ => rfl)) (M.pac (M.pe_tupRev rfl (by rfl) T.tuple (by rfl) T.reversed (M.pv 1)) M.pa_nil))))))))), fun ds S Q h => ?_⟩
    obtain ⟨p, rfl, hd, ho, hn, q⟩ := h
    have e0 : startA NscBk [tD p] = [some (tD p), none] := rfl
    rw [e0]
    have hb : pur (tD (bk p)) = true := th_pt k (by rw [dp_bk]; exact hd) (ok_bk p ho) (by rw [N_bk]; omega)
    simp only [aRet, aRetN, aAndV, aOrV, aNotV, aCall, aCons, aNil, aVar, aC, aOp, aUn, aB, aTru, aIf, aSeq, aIfS, aNot, aAnd, aOr, aAsg, agName, aNext, aChain, aSl, aPart, aNoPart, aDrop, aTup, aLst, rd_dat, rd_new, mod_lst, le_int', lt_int', aI_int, add_int', add_lst', eq_int', eq_str', tru_bl, tru_lst, tru_tup, true_and, aIsi, aLen, see_int', see_str', see_bl', see_non', see_tup', see_lst', see_stc', see_scr', List.getElem?_cons_zero, List.getElem?_cons_succ, List.set_cons_zero, List.set_cons_succ, Option.some.injEq, exists_eq_left', List.cons.injEq, and_true, D.ty.injEq, D.bl.injEq, D.int.injEq, D.str.injEq, and_assoc, exists_and_left, exists_eq_left, exists_and_right, ret_bl, ret_int, Bool.false_eq_true, if_true, if_false, Bool.not_true, Bool.not_false]
    cases p with
    | stay =>
      simp only [tD, ix_tup, at0, at1, at2, aRet, aRetN, aAndV, aOrV, aNotV, aCall, aCons, aNil, aVar, aC, aOp, aUn, aB, aTru, aIf, aSeq, aIfS, aNot, aAnd, aOr, aAsg, agName, aNext, aChain, aSl, aPart, aNoPart, aDrop, aTup, aLst, rd_dat, rd_new, mod_lst, le_int', lt_int', aI_int, add_int', add_lst', eq_int', eq_str', tru_bl, tru_lst, tru_tup, true_and, aIsi, aLen, see_int', see_str', see_bl', see_non', see_tup', see_lst', see_stc', see_scr', List.getElem?_cons_zero, List.getElem?_cons_succ, List.set_cons_zero, List.set_cons_succ, Option.some.injEq, exists_eq_left', List.cons.injEq, and_true, D.ty.injEq, D.bl.injEq, D.int.injEq, D.str.injEq, and_assoc, exists_and_left, exists_eq_left, exists_and_right, ret_bl, ret_int, Bool.false_eq_true, if_true, if_false, Bool.not_true, Bool.not_false]
      rw [if_neg (by decide)]
      refine in_lv (by decide +kernel) ⟨_, rfl, ?_⟩
      rw [if_pos (by decide)]
      exact ret_pur hb q
    | step b x =>
      simp only [tD, ix_tup, at0, at1, at2, aRet, aRetN, aAndV, aOrV, aNotV, aCall, aCons, aNil, aVar, aC, aOp, aUn, aB, aTru, aIf, aSeq, aIfS, aNot, aAnd, aOr, aAsg, agName, aNext, aChain, aSl, aPart, aNoPart, aDrop, aTup, aLst, rd_dat, rd_new, mod_lst, le_int', lt_int', aI_int, add_int', add_lst', eq_int', eq_str', tru_bl, tru_lst, tru_tup, true_and, aIsi, aLen, see_int', see_str', see_bl', see_non', see_tup', see_lst', see_stc', see_scr', List.getElem?_cons_zero, List.getElem?_cons_succ, List.set_cons_zero, List.set_cons_succ, Option.some.injEq, exists_eq_left', List.cons.injEq, and_true, D.ty.injEq, D.bl.injEq, D.int.injEq, D.str.injEq, and_assoc, exists_and_left, exists_eq_left, exists_and_right, ret_bl, ret_int, Bool.false_eq_true, if_true, if_false, Bool.not_true, Bool.not_false]
      rw [if_pos (by decide)]
      exact ⟨b, rfl, sz rfl, ret_pur hb q⟩
    | mk b m =>
      simp only [tD, ix_tup, at0, at1, at2, aRet, aRetN, aAndV, aOrV, aNotV, aCall, aCons, aNil, aVar, aC, aOp, aUn, aB, aTru, aIf, aSeq, aIfS, aNot, aAnd, aOr, aAsg, agName, aNext, aChain, aSl, aPart, aNoPart, aDrop, aTup, aLst, rd_dat, rd_new, mod_lst, le_int', lt_int', aI_int, add_int', add_lst', eq_int', eq_str', tru_bl, tru_lst, tru_tup, true_and, aIsi, aLen, see_int', see_str', see_bl', see_non', see_tup', see_lst', see_stc', see_scr', List.getElem?_cons_zero, List.getElem?_cons_succ, List.set_cons_zero, List.set_cons_succ, Option.some.injEq, exists_eq_left', List.cons.injEq, and_true, D.ty.injEq, D.bl.injEq, D.int.injEq, D.str.injEq, and_assoc, exists_and_left, exists_eq_left, exists_and_right, ret_bl, ret_int, Bool.false_eq_true, if_true, if_false, Bool.not_true, Bool.not_false]
      rw [if_neg (by cases b <;> decide)]
      refine in_lv (mkS_ok b) ⟨_, rfl, ?_⟩
      rw [if_pos (by cases b <;> decide)]
      exact ret_pur hb q
    | many p =>
      obtain ⟨j, rfl⟩ : ∃ j, k = j + 1 := ⟨k - 1, by simp only [dp] at hd; omega⟩
      simp only [tD, ix_tup, at0, at1, at2, aRet, aRetN, aAndV, aOrV, aNotV, aCall, aCons, aNil, aVar, aC, aOp, aUn, aB, aTru, aIf, aSeq, aIfS, aNot, aAnd, aOr, aAsg, agName, aNext, aChain, aSl, aPart, aNoPart, aDrop, aTup, aLst, rd_dat, rd_new, mod_lst, le_int', lt_int', aI_int, add_int', add_lst', eq_int', eq_str', tru_bl, tru_lst, tru_tup, true_and, aIsi, aLen, see_int', see_str', see_bl', see_non', see_tup', see_lst', see_stc', see_scr', List.getElem?_cons_zero, List.getElem?_cons_succ, List.set_cons_zero, List.set_cons_succ, Option.some.injEq, exists_eq_left', List.cons.injEq, and_true, D.ty.injEq, D.bl.injEq, D.int.injEq, D.str.injEq, and_assoc, exists_and_left, exists_eq_left, exists_and_right, ret_bl, ret_int, Bool.false_eq_true, if_true, if_false, Bool.not_true, Bool.not_false]
      rw [if_neg (by decide)]
      refine in_lv (by decide +kernel) ⟨_, rfl, ?_⟩
      rw [if_neg (by decide), if_pos (by decide)]
      exact ⟨j, rfl, p, rfl, by simp only [dp] at hd; omega, ho, by simp only [N] at hn; omega, sz rfl, ret_pur hb q⟩
    | seq ps =>
      obtain ⟨j, rfl⟩ : ∃ j, k = j + 1 := ⟨k - 1, by simp only [dp] at hd; omega⟩
      simp only [tD, ix_tup, at0, at1, at2, aRet, aRetN, aAndV, aOrV, aNotV, aCall, aCons, aNil, aVar, aC, aOp, aUn, aB, aTru, aIf, aSeq, aIfS, aNot, aAnd, aOr, aAsg, agName, aNext, aChain, aSl, aPart, aNoPart, aDrop, aTup, aLst, rd_dat, rd_new, mod_lst, le_int', lt_int', aI_int, add_int', add_lst', eq_int', eq_str', tru_bl, tru_lst, tru_tup, true_and, aIsi, aLen, see_int', see_str', see_bl', see_non', see_tup', see_lst', see_stc', see_scr', List.getElem?_cons_zero, List.getElem?_cons_succ, List.set_cons_zero, List.set_cons_succ, Option.some.injEq, exists_eq_left', List.cons.injEq, and_true, D.ty.injEq, D.bl.injEq, D.int.injEq, D.str.injEq, and_assoc, exists_and_left, exists_eq_left, exists_and_right, ret_bl, ret_int, Bool.false_eq_true, if_true, if_false, Bool.not_true, Bool.not_false, aComp, iAny, iAnyD, aTupRev]
      rw [if_neg (by decide)]
      refine in_lv (by decide +kernel) ⟨_, rfl, ?_⟩
      rw [if_neg (by decide), if_neg (by decide)]
      have hlen := Ns_len ps
      simp only [N] at hn
      refine parts_bk (j := j) ps (by simp only [dp] at hd; omega) ho (by omega) ?_
      refine ⟨_, rfl, by rw [List.length_map]; omega, sz rfl, ret_pur ?_ ?_⟩
      · rw [← List.map_reverse]
        simpa [bk, tD, tDs_map, bks_map, Function.comp_def] using hb
      · rw [← List.map_reverse]
        simpa [bk, tD, tDs_map, bks_map, Function.comp_def] using q
    | alt ps =>
      obtain ⟨j, rfl⟩ : ∃ j, k = j + 1 := ⟨k - 1, by simp only [dp] at hd; omega⟩
      simp only [tD, ix_tup, at0, at1, at2, aRet, aRetN, aAndV, aOrV, aNotV, aCall, aCons, aNil, aVar, aC, aOp, aUn, aB, aTru, aIf, aSeq, aIfS, aNot, aAnd, aOr, aAsg, agName, aNext, aChain, aSl, aPart, aNoPart, aDrop, aTup, aLst, rd_dat, rd_new, mod_lst, le_int', lt_int', aI_int, add_int', add_lst', eq_int', eq_str', tru_bl, tru_lst, tru_tup, true_and, aIsi, aLen, see_int', see_str', see_bl', see_non', see_tup', see_lst', see_stc', see_scr', List.getElem?_cons_zero, List.getElem?_cons_succ, List.set_cons_zero, List.set_cons_succ, Option.some.injEq, exists_eq_left', List.cons.injEq, and_true, D.ty.injEq, D.bl.injEq, D.int.injEq, D.str.injEq, and_assoc, exists_and_left, exists_eq_left, exists_and_right, ret_bl, ret_int, Bool.false_eq_true, if_true, if_false, Bool.not_true, Bool.not_false, aComp, iAny, iAnyD, aTupRev]
      rw [if_neg (by decide)]
      refine in_lv (by decide +kernel) ⟨_, rfl, ?_⟩
      rw [if_neg (by decide), if_neg (by decide)]
      have hlen := Ns_len ps
      simp only [N] at hn
      refine parts_bk (j := j) ps (by simp only [dp] at hd; omega) ho (by omega) ?_
      refine ⟨_, rfl, by rw [List.length_map]; omega, sz rfl, ret_pur ?_ ?_⟩
      · rw [← List.map_reverse]
        simpa [bk, tD, tDs_map, bks_map, Function.comp_def] using hb
      · rw [← List.map_reverse]
        simpa [bk, tD, tDs_map, bks_map, Function.comp_def] using q
theorem d_noneB {k : Nat} {sp : AN} (F : Src K mg "backwards" PscBk sBk) (h : ∀ ds S Q, ¬ sp ds S Q) : Def P w K mg base (k + 1) "backwards" PscBk (conSp K sp) :=
  F.def scBk (fun vs H Q E z => by obtain ⟨_, _, _, _, _, _, q, _⟩ := z; exact (h _ _ _ q).elim) fun f cdv A outer s H vs Q E hr z => by obtain ⟨_, _, _, _, _, _, q, _⟩ := z; exact (h _ _ _ q).elim
theorem d_Bk (T : Txt K mg) (F : Src K mg "backwards" PscBk sBk) (D_other_side : Def P w K mg base 1 "other_side" PscOther (conSp K spOther)) : ∀ k, k ≤ 4 → Def P w K mg base (k + 3) "backwards" PscBk (conSp K (spBk k))
  | 0, h => d_Bk0 T F D_other_side 0 h (d_noneB F fun ds S Q ⟨j, e, _⟩ => by omega)
  | k + 1, h => d_Bk0 T F D_other_side (k + 1) h ((d_Bk T F D_other_side k (by omega)).imp fun vs H Q E z => by
      obtain ⟨w, ds, S, Qa, ok, rep, ⟨j, e, q⟩, bk⟩ := z
      obtain rfl : j = k := by omega
      exact ⟨w, ds, S, Qa, ok, rep, q, bk⟩)
noncomputable def spAll (k : Nat) : AN := fun ds S Q => ∃ p : Pt, ds = [tD p] ∧ dp p ≤ k ∧ Okp p ∧ N p ≤ 40 ∧ Q (.dat (.lst ((all p).map tD))) S
theorem d_All0 (T : Txt K mg) (F : Src K mg "_law_all" PscAll sAll) (k : Nat) (hk : k ≤ 4) (D_law_all : Def P w K mg base (k + 2) "_law_all" PscAll (conSp K (fun ds S Q => ∃ j, j + 1 = k ∧ spAll j ds S Q))) : Def P w K mg base (k + 3) "_law_all" PscAll (conSp K (spAll k)) := by
  refine defA F scAll (fun ds S Q h => ?_) (fun f cdv A outer s H E hr => ?_)
  · obtain ⟨p, rfl, _⟩ := h; rfl
  · refine ⟨_, (M.pss_cons (M.ps_set (i := 1) scAll.nd rfl (Or.inl rfl) (M.pe_lst (M.pac (M.pv 0) M.pa_nil)))
      (M.pss_cons (M.ps_if (M.pt_cmpR (M.o_eq hr) (M.pe_ix M.o_ix (M.pv 0) M.pe_int (fun _ _ => rfl)) M.pe_str (nomark _))
        (M.pss_one (M.ps_set (i := 1) scAll.nd rfl (Or.inl rfl) (M.pe_op M.o_add (M.pv 1) (M.pe_own D_law_all (hr.mono (by omega)) (by rfl) (M.pac (M.pe_ix M.o_ix (M.pv 0) M.pe_int (fun _ _ => rfl)) M.pa_nil)))))
        M.pss_nil)
      (M.pss_cons (M.ps_if (M.pt_cmpR (M.o_in hr) (M.pe_ix M.o_ix (M.pv 0) M.pe_int (fun _ _ => rfl)) (M.pe_tup (M.pac M.pe_str (M.pac M.pe_str M.pa_nil))) rfl)
        (M.pss_one (M.ps_for PassesOwn.never rfl (M.pi_any (M.pe_ix M.o_ix (M.pv 0) M.pe_int (fun _ _ => rfl))) (M.pg_name (i := 2) scAll.nd rfl (Or.inl rfl))
          (M.pss_one (M.ps_set (i := 1) scAll.nd rfl (Or.inl rfl) (M.pe_op M.o_add (M.pv 1) (M.pe_own D_law_all (hr.mono (by omega)) (by rfl) (M.pac (M.pv 2) M.pa_nil)))))))
        M.pss_nil)
      (M.pss_one (M.ps_ret (M.pv 1)))))), fun ds S Q h => ?_⟩
    obtain ⟨p, rfl, hd, ho, hn, q⟩ := h
    have e0 : startA NscAll [tD p] = [some (tD p), none, none] := rfl
    rw [e0]
    simp only [aRet, aRetN, aAndV, aOrV, aNotV, aCall, aCons, aNil, aVar, aC, aOp, aUn, aB, aTru, aIf, aSeq, aIfS, aNot, aAnd, aOr, aAsg, agName, aNext, aChain, aSl, aPart, aNoPart, aDrop, aTup, aLst, rd_dat, rd_new, mod_lst, le_int', lt_int', aI_int, add_int', add_lst', eq_int', eq_str', tru_bl, tru_lst, tru_tup, true_and, aIsi, aLen, see_int', see_str', see_bl', see_non', see_tup', see_lst', see_stc', see_scr', List.getElem?_cons_zero, List.getElem?_cons_succ, List.set_cons_zero, List.set_cons_succ, Option.some.injEq, exists_eq_left', List.cons.injEq, and_true, D.ty.injEq, D.bl.injEq, D.int.injEq, D.str.injEq, and_assoc, exists_and_left, exists_eq_left, exists_and_right, ret_bl, ret_int, Bool.false_eq_true, if_true, if_false, Bool.not_true, Bool.not_false]
    have hpl : ∀ q ∈ all p, pur (tD q) = true := fun q hq => by
      obtain ⟨h1, h2, h3⟩ := all_ok p ho q hq
      exact th_pt k (by omega) h1 (by omega)
    have hfin : pur (.lst ((all p).map tD)) = true := purs_map hpl
    have rest : ∀ (l : List Pt) (h : Str) (P0 : D), pur P0 = true → okS h = true → inS (.str h) ["then", "either"] = false → Q (.dat (.lst (l.map tD))) S → (∀ q ∈ l, pur (tD q) = true) →
        [D.str "then", D.str "either"].length ≤ sizeLine ∧ aIn false (D.str h) (D.tup [D.str "then", D.str "either"]) S fun r_1 S1 => ∃ b, r_1.d = D.bl b ∧ if b = true then
                aFor (iAny (aOp aIx (aVar 0) (aC (D.int 1)))) (agName 2) (aAsg (aOp aAdd (aVar 1) (aCall (fun ds S Q => ∃ j, j + 1 = k ∧ spAll j ds S Q) (aCons (aVar 2) aNil))) (agName 1))
                  { nx := aRet (aVar 1) { nx := fun x S' => M.ret S S' (R.dat D.non) Q, rt := fun r S' => M.ret S S' r Q }, rt := fun r S' => M.ret S S' r Q } [some P0, some (.lst (l.map tD)), none] S1
              else M.ret S S1 (R.dat (.lst (l.map tD))) Q := fun l h P0 hP0 h1 h2 h3 h4 => by
      refine ⟨sz rfl, in_te h1 ⟨_, rfl, ?_⟩⟩
      rw [h2, if_neg (by decide)]
      exact ret_pur (purs_map h4) h3
    have loop : ∀ (ps : List Pt) (P0 : D) (p0 : Pt) (h : Str), all p0 = p0 :: alls ps → tD p0 = P0 → (∃ j, k = j + 1 ∧ dps ps ≤ j) → Okps ps → Ns ps ≤ 40 → okS h = true → inS (.str h) ["then", "either"] = true → Q (.dat (.lst ((all p0).map tD))) S → pur (.lst ((all p0).map tD)) = true →
        [D.str "then", D.str "either"].length ≤ sizeLine ∧ aIn false (D.str h) (D.tup [D.str "then", D.str "either"]) S fun r S1 => ∃ b, r.d = D.bl b ∧ if b = true then
                loopD (fun x => True) (agName 2) (aAsg (aOp aAdd (aVar 1) (aCall (fun ds S Q => ∃ j, j + 1 = k ∧ spAll j ds S Q) (aCons (aVar 2) aNil))) (agName 1)) (tDs ps)
                  { nx := aRet (aVar 1) { nx := fun x S' => M.ret S S' (R.dat D.non) Q, rt := fun r S' => M.ret S S' r Q }, rt := fun r S' => M.ret S S' r Q } [some P0, some (.lst [P0]), none] S1
              else M.ret S S1 (R.dat (.lst [P0])) Q := by
      rintro ps P0 p0 h ea rfl ⟨j, rfl, hj⟩ ho hn h1 h2 q hfin
      refine ⟨sz rfl, in_te h1 ⟨_, rfl, ?_⟩⟩
      rw [h2, if_pos rfl]
      refine loop_by (fun rest δ S' => ∃ (qs rs : List Pt) (v : Option D), rest = rs.map tD ∧ qs ++ rs = ps ∧ S' = S ∧ δ = [some (tD p0), some (.lst (tD p0 :: (alls qs).map tD)), v]) ?_ ?_ _ _ _ ⟨[], ps, none, tDs_map ps, rfl, rfl, rfl⟩
      · rintro δ S' ⟨qs, rs, v, hr, he, rfl, rfl⟩
        have : rs = [] := by cases rs with
          | nil => rfl
          | cons _ _ => simp at hr
        subst this
        rw [List.append_nil] at he
        subst he
        rw [ea] at q hfin
        exact ⟨trivial, _, rfl, ret_pur hfin q⟩
      · rintro x rest δ S' N' ⟨qs, rs, v, hr, he, rfl, rfl⟩ hN'
        cases rs with
        | nil => simp at hr
        | cons r rs =>
          rw [List.map_cons] at hr
          injection hr with h1 h2
          subst h1; subst h2
          have hm : r ∈ ps := by rw [← he]; simp
          have hnr := N_mem hm
          have hsum : Ns qs + N r ≤ Ns ps := by rw [← he, Ns_append]; simp only [Ns]; omega
          refine ⟨trivial, ?_⟩
          simp only [aRet, aRetN, aAndV, aOrV, aNotV, aCall, aCons, aNil, aVar, aC, aOp, aUn, aB, aTru, aIf, aSeq, aIfS, aNot, aAnd, aOr, aAsg, agName, aNext, aChain, aSl, aPart, aNoPart, aDrop, aTup, aLst, rd_dat, rd_new, mod_lst, le_int', lt_int', aI_int, add_int', add_lst', eq_int', eq_str', tru_bl, tru_lst, tru_tup, true_and, aIsi, aLen, see_int', see_str', see_bl', see_non', see_tup', see_lst', see_stc', see_scr', List.getElem?_cons_zero, List.getElem?_cons_succ, List.set_cons_zero, List.set_cons_succ, Option.some.injEq, exists_eq_left', List.cons.injEq, and_true, D.ty.injEq, D.bl.injEq, D.int.injEq, D.str.injEq, and_assoc, exists_and_left, exists_eq_left, exists_and_right, ret_bl, ret_int, Bool.false_eq_true, if_true, if_false, Bool.not_true, Bool.not_false]
          refine ⟨j, rfl, r, rfl, by have := dps_mem hm; omega, okps_mem.mp ho r hm, by omega, ?_⟩
          simp only [aRet, aRetN, aAndV, aOrV, aNotV, aCall, aCons, aNil, aVar, aC, aOp, aUn, aB, aTru, aIf, aSeq, aIfS, aNot, aAnd, aOr, aAsg, agName, aNext, aChain, aSl, aPart, aNoPart, aDrop, aTup, aLst, rd_dat, rd_new, mod_lst, le_int', lt_int', aI_int, add_int', add_lst', eq_int', eq_str', tru_bl, tru_lst, tru_tup, true_and, aIsi, aLen, see_int', see_str', see_bl', see_non', see_tup', see_lst', see_stc', see_scr', List.getElem?_cons_zero, List.getElem?_cons_succ, List.set_cons_zero, List.set_cons_succ, Option.some.injEq, exists_eq_left', List.cons.injEq, and_true, D.ty.injEq, D.bl.injEq, D.int.injEq, D.str.injEq, and_assoc, exists_and_left, exists_eq_left, exists_and_right, ret_bl, ret_int, Bool.false_eq_true, if_true, if_false, Bool.not_true, Bool.not_false]
          refine ⟨?_, hN' _ _ ⟨qs ++ [r], rs, some (tD r), rfl, by rw [List.append_assoc]; exact he, rfl, ?_⟩⟩
          · rw [List.length_cons, List.length_map, List.length_map, alls_len, all_len, sizeLine_eq]; omega
          · rw [alls_append]
            simp [alls]
    cases p with
    | stay =>
      simp only [tD, ix_tup, at0, at1, at2, aRet, aRetN, aAndV, aOrV, aNotV, aCall, aCons, aNil, aVar, aC, aOp, aUn, aB, aTru, aIf, aSeq, aIfS, aNot, aAnd, aOr, aAsg, agName, aNext, aChain, aSl, aPart, aNoPart, aDrop, aTup, aLst, rd_dat, rd_new, mod_lst, le_int', lt_int', aI_int, add_int', add_lst', eq_int', eq_str', tru_bl, tru_lst, tru_tup, true_and, aIsi, aLen, see_int', see_str', see_bl', see_non', see_tup', see_lst', see_stc', see_scr', List.getElem?_cons_zero, List.getElem?_cons_succ, List.set_cons_zero, List.set_cons_succ, Option.some.injEq, exists_eq_left', List.cons.injEq, and_true, D.ty.injEq, D.bl.injEq, D.int.injEq, D.str.injEq, and_assoc, exists_and_left, exists_eq_left, exists_and_right, ret_bl, ret_int, Bool.false_eq_true, if_true, if_false, Bool.not_true, Bool.not_false]
      refine ⟨sz rfl, ?_⟩
      rw [if_neg (by decide)]
      exact rest [.stay] "stay" _ rfl (by decide +kernel) (by decide) q hpl
    | step b x =>
      simp only [tD, ix_tup, at0, at1, at2, aRet, aRetN, aAndV, aOrV, aNotV, aCall, aCons, aNil, aVar, aC, aOp, aUn, aB, aTru, aIf, aSeq, aIfS, aNot, aAnd, aOr, aAsg, agName, aNext, aChain, aSl, aPart, aNoPart, aDrop, aTup, aLst, rd_dat, rd_new, mod_lst, le_int', lt_int', aI_int, add_int', add_lst', eq_int', eq_str', tru_bl, tru_lst, tru_tup, true_and, aIsi, aLen, see_int', see_str', see_bl', see_non', see_tup', see_lst', see_stc', see_scr', List.getElem?_cons_zero, List.getElem?_cons_succ, List.set_cons_zero, List.set_cons_succ, Option.some.injEq, exists_eq_left', List.cons.injEq, and_true, D.ty.injEq, D.bl.injEq, D.int.injEq, D.str.injEq, and_assoc, exists_and_left, exists_eq_left, exists_and_right, ret_bl, ret_int, Bool.false_eq_true, if_true, if_false, Bool.not_true, Bool.not_false]
      refine ⟨sz rfl, ?_⟩
      rw [if_neg (by decide)]
      exact rest [.step b x] "step" _ rfl (by decide +kernel) (by decide) q hpl
    | mk b m =>
      simp only [tD, ix_tup, at0, at1, at2, aRet, aRetN, aAndV, aOrV, aNotV, aCall, aCons, aNil, aVar, aC, aOp, aUn, aB, aTru, aIf, aSeq, aIfS, aNot, aAnd, aOr, aAsg, agName, aNext, aChain, aSl, aPart, aNoPart, aDrop, aTup, aLst, rd_dat, rd_new, mod_lst, le_int', lt_int', aI_int, add_int', add_lst', eq_int', eq_str', tru_bl, tru_lst, tru_tup, true_and, aIsi, aLen, see_int', see_str', see_bl', see_non', see_tup', see_lst', see_stc', see_scr', List.getElem?_cons_zero, List.getElem?_cons_succ, List.set_cons_zero, List.set_cons_succ, Option.some.injEq, exists_eq_left', List.cons.injEq, and_true, D.ty.injEq, D.bl.injEq, D.int.injEq, D.str.injEq, and_assoc, exists_and_left, exists_eq_left, exists_and_right, ret_bl, ret_int, Bool.false_eq_true, if_true, if_false, Bool.not_true, Bool.not_false]
      refine ⟨sz rfl, ?_⟩
      rw [if_neg (by cases b <;> decide)]
      exact rest [.mk b m] (mkS b) _ rfl (mkS_ok b) (by cases b <;> decide) q hpl
    | many p =>
      obtain ⟨j, rfl⟩ : ∃ j, k = j + 1 := ⟨k - 1, by simp only [dp] at hd; omega⟩
      simp only [tD, ix_tup, at0, at1, at2, aRet, aRetN, aAndV, aOrV, aNotV, aCall, aCons, aNil, aVar, aC, aOp, aUn, aB, aTru, aIf, aSeq, aIfS, aNot, aAnd, aOr, aAsg, agName, aNext, aChain, aSl, aPart, aNoPart, aDrop, aTup, aLst, rd_dat, rd_new, mod_lst, le_int', lt_int', aI_int, add_int', add_lst', eq_int', eq_str', tru_bl, tru_lst, tru_tup, true_and, aIsi, aLen, see_int', see_str', see_bl', see_non', see_tup', see_lst', see_stc', see_scr', List.getElem?_cons_zero, List.getElem?_cons_succ, List.set_cons_zero, List.set_cons_succ, Option.some.injEq, exists_eq_left', List.cons.injEq, and_true, D.ty.injEq, D.bl.injEq, D.int.injEq, D.str.injEq, and_assoc, exists_and_left, exists_eq_left, exists_and_right, ret_bl, ret_int, Bool.false_eq_true, if_true, if_false, Bool.not_true, Bool.not_false]
      refine ⟨sz rfl, ?_⟩
      rw [if_pos (by decide)]
      simp only [N] at hn
      refine ⟨j, rfl, p, rfl, by simp only [dp] at hd; omega, ho, by omega, ?_⟩
      simp only [aRet, aRetN, aAndV, aOrV, aNotV, aCall, aCons, aNil, aVar, aC, aOp, aUn, aB, aTru, aIf, aSeq, aIfS, aNot, aAnd, aOr, aAsg, agName, aNext, aChain, aSl, aPart, aNoPart, aDrop, aTup, aLst, rd_dat, rd_new, mod_lst, le_int', lt_int', aI_int, add_int', add_lst', eq_int', eq_str', tru_bl, tru_lst, tru_tup, true_and, aIsi, aLen, see_int', see_str', see_bl', see_non', see_tup', see_lst', see_stc', see_scr', List.getElem?_cons_zero, List.getElem?_cons_succ, List.set_cons_zero, List.set_cons_succ, Option.some.injEq, exists_eq_left', List.cons.injEq, and_true, D.ty.injEq, D.bl.injEq, D.int.injEq, D.str.injEq, and_assoc, exists_and_left, exists_eq_left, exists_and_right, ret_bl, ret_int, Bool.false_eq_true, if_true, if_false, Bool.not_true, Bool.not_false]
      refine ⟨by rw [List.length_map, all_len, sizeLine_eq]; show 1 + _ ≤ _; omega, ?_⟩
      exact rest (.many p :: all p) "many" (tD (.many p)) (th_pt (j + 1) hd ho (by simp only [N]; omega)) (by decide +kernel) (by decide) q hpl
    | seq ps =>
      simp only [tD, ix_tup, at0, at1, at2, aRet, aRetN, aAndV, aOrV, aNotV, aCall, aCons, aNil, aVar, aC, aOp, aUn, aB, aTru, aIf, aSeq, aIfS, aNot, aAnd, aOr, aAsg, agName, aNext, aChain, aSl, aPart, aNoPart, aDrop, aTup, aLst, rd_dat, rd_new, mod_lst, le_int', lt_int', aI_int, add_int', add_lst', eq_int', eq_str', tru_bl, tru_lst, tru_tup, true_and, aIsi, aLen, see_int', see_str', see_bl', see_non', see_tup', see_lst', see_stc', see_scr', List.getElem?_cons_zero, List.getElem?_cons_succ, List.set_cons_zero, List.set_cons_succ, Option.some.injEq, exists_eq_left', List.cons.injEq, and_true, D.ty.injEq, D.bl.injEq, D.int.injEq, D.str.injEq, and_assoc, exists_and_left, exists_eq_left, exists_and_right, ret_bl, ret_int, Bool.false_eq_true, if_true, if_false, Bool.not_true, Bool.not_false, aFor, iAny, iAnyD]
      refine ⟨sz rfl, ?_⟩
      rw [if_neg (by decide)]
      simp only [N] at hn
      exact loop ps _ (.seq ps) "then" rfl rfl ⟨k - 1, by simp only [dp] at hd; omega, by simp only [dp] at hd; omega⟩ ho (by omega) (by decide +kernel) (by decide) q hfin
    | alt ps =>
      simp only [tD, ix_tup, at0, at1, at2, aRet, aRetN, aAndV, aOrV, aNotV, aCall, aCons, aNil, aVar, aC, aOp, aUn, aB, aTru, aIf, aSeq, aIfS, aNot, aAnd, aOr, aAsg, agName, aNext, aChain, aSl, aPart, aNoPart, aDrop, aTup, aLst, rd_dat, rd_new, mod_lst, le_int', lt_int', aI_int, add_int', add_lst', eq_int', eq_str', tru_bl, tru_lst, tru_tup, true_and, aIsi, aLen, see_int', see_str', see_bl', see_non', see_tup', see_lst', see_stc', see_scr', List.getElem?_cons_zero, List.getElem?_cons_succ, List.set_cons_zero, List.set_cons_succ, Option.some.injEq, exists_eq_left', List.cons.injEq, and_true, D.ty.injEq, D.bl.injEq, D.int.injEq, D.str.injEq, and_assoc, exists_and_left, exists_eq_left, exists_and_right, ret_bl, ret_int, Bool.false_eq_true, if_true, if_false, Bool.not_true, Bool.not_false, aFor, iAny, iAnyD]
      refine ⟨sz rfl, ?_⟩
      rw [if_neg (by decide)]
      simp only [N] at hn
      exact loop ps _ (.alt ps) "either" rfl rfl ⟨k - 1, by simp only [dp] at hd; omega, by simp only [dp] at hd; omega⟩ ho (by omega) (by decide +kernel) (by decide) q hfin
theorem d_noneA {k : Nat} {sp : AN} (F : Src K mg "_law_all" PscAll sAll) (h : ∀ ds S Q, ¬ sp ds S Q) : Def P w K mg base (k + 1) "_law_all" PscAll (conSp K sp) :=
  F.def scAll (fun vs H Q E z => by obtain ⟨_, _, _, _, _, _, q, _⟩ := z; exact (h _ _ _ q).elim) fun f cdv A outer s H vs Q E hr z => by obtain ⟨_, _, _, _, _, _, q, _⟩ := z; exact (h _ _ _ q).elim
theorem d_All (T : Txt K mg) (F : Src K mg "_law_all" PscAll sAll) : ∀ k, k ≤ 4 → Def P w K mg base (k + 3) "_law_all" PscAll (conSp K (spAll k))
  | 0, h => d_All0 T F 0 h (d_noneA F fun ds S Q ⟨j, e, _⟩ => by omega)
  | k + 1, h => d_All0 T F (k + 1) h ((d_All T F k (by omega)).imp fun vs H Q E z => by
      obtain ⟨w, ds, S, Qa, ok, rep, ⟨j, e, q⟩, bk⟩ := z
      obtain rfl : j = k := by omega
      exact ⟨w, ds, S, Qa, ok, rep, q, bk⟩)
noncomputable def hds (p : Pt) : List Str := (all p).map hd
noncomputable def cnts (p : Pt) : List Int := (N p : Int) :: (["stay", "step", "at", "off"] : List Str).map fun k => cntS k (hds p)
theorem cnts_bk (p : Pt) : cnts (bk p) = cnts p := by
  unfold cnts hds
  rw [N_bk]
  refine congrArg _ (List.map_congr_left fun k _ => cnt_perm (heads_bk p))
noncomputable def spCnt : AN := fun ds S Q => ∃ p : Pt, ds = [tD p] ∧ dp p ≤ 4 ∧ Okp p ∧ N p ≤ 40 ∧ Q (.new (.lst ((cnts p).map D.int))) S
theorem d_Cnt (T : Txt K mg) (F : Src K mg "_law_counts" PscCnt sCnt) (D_law_all : Def P w K mg base 7 "_law_all" PscAll (conSp K (spAll 4))) : Def P w K mg base 8 "_law_counts" PscCnt (conSp K spCnt) := by
  refine defA F scCnt (fun ds S Q h => ?_) (fun f cdv A outer s H E hr => ?_)
  · obtain ⟨p, rfl, _⟩ := h; rfl
  · refine ⟨_, (M.pss_cons (M.ps_set (i := 1) scCnt.nd rfl (Or.inr rfl) (M.pe_comp (N := ["_law_one"]) (caps := [none]) (bs_mk (by decide +kernel)) (by rfl) (by rfl) rfl (M.pi_any (M.pe_own D_law_all (hr.mono (by decide)) (by rfl) (M.pac (M.pv 0) M.pa_nil))) (fun _ _ _ _ => (M.pg_name (i := 0) (by decide +kernel : List.Nodup (["_law_one"] : List Str)) rfl (Or.inl rfl))) (fun _ _ _ _ => M.pts_nil) (fun _ _ _ _ => (M.pe_ix M.o_ix (M.pv 0) M.pe_int (fun _ _ => rfl)))))
      (M.pss_one (M.ps_ret (M.pe_op M.o_add (M.pe_lst (M.pac (M.pcb M.o_len (by rfl) T.len (by decide +kernel) (M.pac (M.pv 1) M.pa_nil)) M.pa_nil)) (M.pe_comp (N := ["_law_sort", "_law_heads"]) (caps := [none, some 1]) (bs_mk (by decide +kernel)) (by rfl) (by rfl) rfl (M.pi_any (M.pe_lst (M.pac M.pe_str (M.pac M.pe_str (M.pac M.pe_str (M.pac M.pe_str M.pa_nil)))))) (fun _ _ _ _ => (M.pg_name (i := 0) (by decide +kernel : List.Nodup (["_law_sort", "_law_heads"] : List Str)) rfl (Or.inl rfl))) (fun _ _ _ _ => M.pts_nil) (fun _ _ _ _ => (M.pe_bm PySem.F.plainAttrs_list PySem.F.slot_list_count PySem.F.type_list_count M.m_count (M.pv 1) (M.pac (M.pv 0) M.pa_nil)))))))), fun ds S Q h => ?_⟩
    obtain ⟨p, rfl, hdp, ho, hn, q⟩ := h
    have e0 : startA NscCnt [tD p] = [some (tD p), none] := rfl
    rw [e0]
    simp only [aRet, aRetN, aAndV, aOrV, aNotV, aCall, aCons, aNil, aVar, aC, aOp, aUn, aB, aTru, aIf, aSeq, aIfS, aNot, aAnd, aOr, aAsg, agName, aNext, aChain, aSl, aPart, aNoPart, aDrop, aTup, aLst, rd_dat, rd_new, mod_lst, le_int', lt_int', aI_int, add_int', add_lst', eq_int', eq_str', tru_bl, tru_lst, tru_tup, true_and, aIsi, aLen, see_int', see_str', see_bl', see_non', see_tup', see_lst', see_stc', see_scr', List.getElem?_cons_zero, List.getElem?_cons_succ, List.set_cons_zero, List.set_cons_succ, Option.some.injEq, exists_eq_left', List.cons.injEq, and_true, D.ty.injEq, D.bl.injEq, D.int.injEq, D.str.injEq, and_assoc, exists_and_left, exists_eq_left, exists_and_right, ret_bl, ret_int, Bool.false_eq_true, if_true, if_false, Bool.not_true, Bool.not_false, aComp, iAny, iAnyD]
    refine ⟨p, rfl, hdp, ho, hn, ?_⟩
    simp only [aRet, aRetN, aAndV, aOrV, aNotV, aCall, aCons, aNil, aVar, aC, aOp, aUn, aB, aTru, aIf, aSeq, aIfS, aNot, aAnd, aOr, aAsg, agName, aNext, aChain, aSl, aPart, aNoPart, aDrop, aTup, aLst, rd_dat, rd_new, mod_lst, le_int', lt_int', aI_int, add_int', add_lst', eq_int', eq_str', tru_bl, tru_lst, tru_tup, true_and, aIsi, aLen, see_int', see_str', see_bl', see_non', see_tup', see_lst', see_stc', see_scr', List.getElem?_cons_zero, List.getElem?_cons_succ, List.set_cons_zero, List.set_cons_succ, Option.some.injEq, exists_eq_left', List.cons.injEq, and_true, D.ty.injEq, D.bl.injEq, D.int.injEq, D.str.injEq, and_assoc, exists_and_left, exists_eq_left, exists_and_right, ret_bl, ret_int, Bool.false_eq_true, if_true, if_false, Bool.not_true, Bool.not_false, iAnyD]
    have hlen := all_len p
    refine comp_map (δ := [none]) fstD trivial _ [] _ rfl (fun x hx Q' q' => ?_) (by simp only [List.length_nil, List.length_map]; rw [sizeLine_eq]; omega) ?_
    · obtain ⟨r, hr, rfl⟩ := List.mem_map.mp hx
      simp only [List.set_cons_zero, aRet, aRetN, aAndV, aOrV, aNotV, aCall, aCons, aNil, aVar, aC, aOp, aUn, aB, aTru, aIf, aSeq, aIfS, aNot, aAnd, aOr, aAsg, agName, aNext, aChain, aSl, aPart, aNoPart, aDrop, aTup, aLst, rd_dat, rd_new, mod_lst, le_int', lt_int', aI_int, add_int', add_lst', eq_int', eq_str', tru_bl, tru_lst, tru_tup, true_and, aIsi, aLen, see_int', see_str', see_bl', see_non', see_tup', see_lst', see_stc', see_scr', List.getElem?_cons_zero, List.getElem?_cons_succ, List.set_cons_zero, List.set_cons_succ, Option.some.injEq, exists_eq_left', List.cons.injEq, and_true, D.ty.injEq, D.bl.injEq, D.int.injEq, D.str.injEq, and_assoc, exists_and_left, exists_eq_left, exists_and_right, ret_bl, ret_int, Bool.false_eq_true, if_true, if_false, Bool.not_true, Bool.not_false]
      cases r <;> exact ⟨_, at0, q'⟩
    · have ef : ((all p).map tD).map fstD = (hds p).map D.str := by
        unfold hds
        rw [List.map_map, List.map_map]
        refine List.map_congr_left fun r _ => ?_
        cases r <;> rfl
      rw [List.nil_append, ef]
      refine ⟨N p, by simp [lenD, hds, hlen], sz rfl, sz rfl, ?_⟩
      refine comp_map (δ := [none, some (.lst ((hds p).map D.str))]) (fun x => match x with | .str k => .int (cntS k (hds p)) | d => d) trivial _ [] _ rfl (fun x hx Q' q' => ?_) (by rw [sizeLine_eq]; decide) ?_
      · obtain ⟨k, rfl⟩ : ∃ k : Str, x = .str k := by
          simp only [List.mem_cons, List.not_mem_nil, or_false] at hx
          rcases hx with rfl | rfl | rfl | rfl <;> exact ⟨_, rfl⟩
        simp only [List.set_cons_zero, aBM, isTy, aCount, aRet, aRetN, aAndV, aOrV, aNotV, aCall, aCons, aNil, aVar, aC, aOp, aUn, aB, aTru, aIf, aSeq, aIfS, aNot, aAnd, aOr, aAsg, agName, aNext, aChain, aSl, aPart, aNoPart, aDrop, aTup, aLst, rd_dat, rd_new, mod_lst, le_int', lt_int', aI_int, add_int', add_lst', eq_int', eq_str', tru_bl, tru_lst, tru_tup, true_and, aIsi, aLen, see_int', see_str', see_bl', see_non', see_tup', see_lst', see_stc', see_scr', List.getElem?_cons_zero, List.getElem?_cons_succ, List.set_cons_zero, List.set_cons_succ, Option.some.injEq, exists_eq_left', List.cons.injEq, and_true, D.ty.injEq, D.bl.injEq, D.int.injEq, D.str.injEq, and_assoc, exists_and_left, exists_eq_left, exists_and_right, ret_bl, ret_int, Bool.false_eq_true, if_true, if_false, Bool.not_true, Bool.not_false]
        exact ⟨hds p, rfl, q'⟩
      · exact ⟨sz rfl, ret_new (purs_ints (cnts p)) q⟩
end
end K63
set_option Elab.async false
set_option linter.all false
set_option maxRecDepth 100000
set_option maxHeartbeats 4000000
namespace K63
open PySem L2 M
noncomputable abbrev sEnds : Stmt := top 28
noncomputable abbrev NscEnds : List Str := ["_law_pattern_here", "_law_line_here", "_law_at", "_law_good", "_law_spots", "_law_k", "_law_behind", "_law_one", "_law_spot"]
noncomputable abbrev PscEnds : List Str := ["_law_pattern_here", "_law_line_here", "_law_at"]
theorem scEnds : FnScope NscEnds PscEnds (defScope sEnds) := ⟨rfl, rfl, rfl, by decide +kernel, rfl, by decide +kernel, by decide +kernel⟩
noncomputable abbrev sRight : Stmt := top 29
noncomputable abbrev NscRight : List Str := ["_law_pattern_here", "_law_line_here"]
noncomputable abbrev PscRight : List Str := ["_law_pattern_here", "_law_line_here"]
theorem scRight : FnScope NscRight PscRight (defScope sRight) := ⟨rfl, rfl, rfl, by decide +kernel, rfl, by decide +kernel, by decide +kernel⟩
noncomputable def mD (m : List Str) : D := .tup (m.map D.str)
noncomputable def sD (s : Bool × Str) : D := .tup [.str (side s.1), .str s.2]
noncomputable def lD (L : Ln) : D := .tup [.lst (L.ms.map mD), .lst (L.st.map sD)]
structure LnOk (L : Ln) : Prop where
  len : L.ms.length = L.st.length + 1
  ms : ∀ m ∈ L.ms, m.length ≤ 50 ∧ ∀ y ∈ m, okS y = true
  st : ∀ s ∈ L.st, okS s.2 = true
noncomputable def iL (js : List Nat) : List D := js.map fun j : Nat => D.int j
theorem iL_len (js : List Nat) : (iL js).length = js.length := by simp [iL]
theorem iL_ints (js : List Nat) : iL js = (js.map fun j : Nat => (j : Int)).map D.int := by simp [iL]
theorem purs_iL (js : List Nat) : purs (iL js) = true := by rw [iL_ints]; exact purs_ints _
theorem iL_append (a b : List Nat) : iL (a ++ b) = iL a ++ iL b := by simp [iL]
theorem inD_iL (j : Nat) (js : List Nat) : inD (.int j) (iL js) = decide (j ∈ js) := by
  induction js with
  | nil => rfl
  | cons a r ih =>
    unfold inD iL at ih ⊢
    rw [List.map_cons, List.any_cons, ih]
    have : PyData.eqv (py (.int (a : Int))) (py (.int (j : Int))) = decide (j = a) := by
      simp only [py, PyData.eqv]
      by_cases h : j = a
      · subst h; simp
      · rw [decide_eq_false h]; simp; omega
    rw [this]
    by_cases h : j = a
    · simp [h]
    · simp [h]
theorem in_ints {neg : Bool} {j : Nat} {js : List Nat} {S : Sto} {Q : AK} (q : Q (.dat (.bl (neg != decide (j ∈ js)))) S) : aIn neg (.int j) (.lst (iL js)) S Q := by
  unfold aIn
  rw [see_lst', see_int']
  refine ⟨rfl, by rw [iL_ints]; exact fit_ints _, ?_⟩
  rw [inD_iL]; exact q
theorem js_lt : ∀ (n : Nat) (js : List Nat), js.Nodup → (∀ j ∈ js, j < n) → js.length ≤ n
  | 0, js, h, g => by
    cases js with
    | nil => exact Nat.le_refl _
    | cons a r => exact absurd (g a List.mem_cons_self) (Nat.not_lt_zero _)
  | n + 1, js, h, g => by
    have h1 := js_lt n (js.erase n) (h.erase n) fun j hj => by
      have h2 := (List.Nodup.mem_erase_iff h).mp hj
      have := g j h2.2
      have : j ≠ n := h2.1
      omega
    by_cases hm : n ∈ js
    · rw [List.length_erase_of_mem hm] at h1; omega
    · rw [List.erase_of_not_mem hm] at h1; omega
theorem js_len {js : List Nat} {n : Nat} (h : js.Nodup) (g : ∀ j ∈ js, j ≤ n) : js.length ≤ n + 1 := js_lt _ js h fun j hj => by have := g j hj; omega
theorem cut_one {b : Bool} {j : Nat} : cutD [D.int (j : Int)] none (some (if b then 1 else 0)) = iL (if b then [j] else []) := by
  cases b
  · exact cut_to (xs := [D.int (j : Int)]) (k := 0) (by simp)
  · exact cut_to (xs := [D.int (j : Int)]) (k := 1) (by simp)
theorem in_ao {x : Str} {S : Sto} {Q : AK} (hx : okS x = true) (q : Q (.dat (.bl (inS (.str x) ["at", "off"]))) S) : aIn false (.str x) (.tup [.str "at", .str "off"]) S Q :=
  in_texts (n := 0) (ss := ["at", "off"]) hx (by decide) (by decide +kernel) (by rw [Bool.false_bne]; exact q)
theorem ix_lst {ds : List D} {i : Int} {S : Sto} {Q : AK} : aIx (.lst ds) (.int i) S Q = ∃ e, atI ds i = some e ∧ Q (.dat e) S := rfl
theorem inS_mem {m : Str} : ∀ {mg : List Str}, inS (.str m) mg = decide (m ∈ mg)
  | [] => rfl
  | a :: r => by
    have ih := inS_mem (m := m) (mg := r)
    unfold inS at ih ⊢
    rw [List.any_cons, ih]
    simp only [isS]
    by_cases h1 : m = a <;> by_cases h2 : m ∈ r <;> simp [h1, h2]
noncomputable def addJ (B js : List Nat) : List Nat := B ++ js.filter fun j => decide (j ∉ B)
theorem mem_addJ {B js : List Nat} {j : Nat} : j ∈ addJ B js ↔ j ∈ B ∨ j ∈ js := by
  unfold addJ
  rw [List.mem_append, List.mem_filter]
  by_cases h : j ∈ B <;> simp [h]
theorem nodup_addJ {B js : List Nat} (h : B.Nodup) (g : js.Nodup) : (addJ B js).Nodup := by
  unfold addJ
  rw [List.nodup_append]
  refine ⟨h, g.filter _, fun a ha b hb e => ?_⟩
  subst e
  have := (List.mem_filter.mp hb).2
  exact absurd ha (of_decide_eq_true this)
theorem filt {B : List Nat} {S : Sto} {Q : List D → Sto → Prop} (js : List Nat) (hl : js.length ≤ 100) (q : Q (iL (js.filter fun j => decide (j ∉ B))) S) :
    compD (fun _ => True) (agName 0) (aB (aOp (aIn true) (aVar 0) (aVar 1))) (aVar 0) (iL js) [] [none, some (.lst (iL B))] S Q := by
  refine comp_by (fun rest acc δ S' => ∃ (r1 r2 : List Nat) (v : Option D), rest = iL r2 ∧ acc = iL (r1.filter fun j => decide (j ∉ B)) ∧ r1 ++ r2 = js ∧ S' = S ∧ δ = [v, some (.lst (iL B))]) ?_ ?_ _ [] _ _ ⟨[], js, none, rfl, rfl, rfl, rfl, rfl⟩
  · rintro acc δ S' ⟨r1, r2, v, hr, rfl, he, rfl, rfl⟩
    have : r2 = [] := by cases r2 with
      | nil => rfl
      | cons _ _ => simp [iL] at hr
    subst this
    rw [List.append_nil] at he
    subst he
    exact ⟨trivial, q⟩
  · rintro x rest acc δ S' N' ⟨r1, r2, v, hr, rfl, he, rfl, rfl⟩ hN'
    cases r2 with
    | nil => simp [iL] at hr
    | cons r rs =>
      have hr : x :: rest = D.int (r : Int) :: iL rs := hr
      injection hr with h1 h2
      subst h1; subst h2
      have hfl := List.length_filter_le (fun j => decide (j ∉ B)) r1
      have hlen : r1.length ≤ js.length := by rw [← he, List.length_append]; omega
      refine ⟨trivial, ?_⟩
      simp only [agName, aB, aOp, aVar, List.set_cons_zero, List.getElem?_cons_zero, List.getElem?_cons_succ, Option.some.injEq, exists_eq_left', rd_dat]
      refine in_ints ⟨_, rfl, ite2 (fun h => ?_) (fun h => ?_)⟩
      · have hm : r ∉ B := by simpa using h
        refine ⟨by rw [iL_len, sizeLine_eq]; omega, hN' _ _ _ ⟨r1 ++ [r], rs, _, rfl, ?_, by rw [List.append_assoc]; exact he, rfl, rfl⟩⟩
        rw [List.filter_append, iL_append]
        congr 1
        simp [hm, iL, rd_dat]
      · have hm : r ∈ B := by simpa using h
        refine hN' _ _ _ ⟨r1 ++ [r], rs, _, rfl, ?_, by rw [List.append_assoc]; exact he, rfl, rfl⟩
        rw [List.filter_append]
        simp [hm]
section
variable {P : Program} {w : World} {K : PySem.W.Frag} {mg : Str → Option Value} {base : Heap}
noncomputable def spEnds (k : Nat) : AN := fun ds S Q => ∃ (p : Pt) (L : Ln) (i : Nat), ds = [tD p, lD L, .int i] ∧ dp p ≤ k ∧ Okp p ∧ N p ≤ 40 ∧ LnOk L ∧ L.st.length ≤ 12 ∧ i ≤ L.st.length ∧
  ∀ (js : List Nat) (r : R), js.Nodup → (∀ j, j ∈ js ↔ Fit L p i j) → (r = .dat (.lst (iL js)) ∨ r = .new (.lst (iL js))) → Q r S
theorem inner {j : Nat} {r : Pt} {L : Ln} {S : Sto} {De : AEnds} {x0 x2 x3 x4 x5 v8 : Option M.D} (hd : dp r ≤ j) (ho : Okp r) (hn : N r ≤ 40) (hL : LnOk L) (hl12 : L.st.length ≤ 12) (B C0 : List Nat) (hB : ∀ b ∈ B, b ≤ L.st.length) (hC0 : C0.Nodup) (hCl : ∀ c ∈ C0, c ≤ L.st.length)
    (q : ∀ (C : List Nat) (v8' : Option M.D), C.Nodup → (∀ x, x ∈ C ↔ x ∈ C0 ∨ ∃ b ∈ B, Fit L r b x) → De.nx [x0, some (lD L), x2, x3, x4, x5, some (.lst (iL C)), some (tD r), v8'] S) :
    loopD (fun _ => True) (agName 8) (aAsg (aOp aAdd (aVar 6) (aComp [none, some 6] (iAny (aCall (fun ds S Q => ∃ j_1, j_1 + 1 = j + 1 ∧ spEnds j_1 ds S Q) (aCons (aVar 7) (aCons (aVar 1) (aCons (aVar 8) aNil))))) (agName 0) (aB (aOp (aIn true) (aVar 0) (aVar 1))) (aVar 0))) (agName 6))
      (iL B) De [x0, some (lD L), x2, x3, x4, x5, some (.lst (iL C0)), some (tD r), v8] S := by
  refine loop_by (fun rest δ S' => ∃ (b1 b2 C : List Nat) (v : Option M.D), rest = iL b2 ∧ b1 ++ b2 = B ∧ S' = S ∧ C.Nodup ∧ (∀ x, x ∈ C ↔ x ∈ C0 ∨ ∃ b ∈ b1, Fit L r b x) ∧ δ = [x0, some (lD L), x2, x3, x4, x5, some (.lst (iL C)), some (tD r), v]) ?_ ?_ _ _ _ ⟨[], B, C0, v8, rfl, rfl, rfl, hC0, fun x => by simp, rfl⟩
  · rintro δ S' ⟨b1, b2, C, v, hr, he, rfl, h1, h2, rfl⟩
    have : b2 = [] := by cases b2 with
      | nil => rfl
      | cons _ _ => simp [iL] at hr
    subst this
    rw [List.append_nil] at he
    subst he
    exact ⟨trivial, q C v h1 h2⟩
  · rintro y rest δ S' N' ⟨b1, b2, C, v, hr, he, rfl, h1, h2, rfl⟩ hN'
    cases b2 with
    | nil => simp [iL] at hr
    | cons b bs =>
      have hr : y :: rest = .int (b : Int) :: iL bs := hr
      injection hr with e1 e2
      subst e1; subst e2
      have hbm : b ∈ B := by rw [← he]; simp
      have hCn : ∀ c ∈ C, c ≤ L.st.length := fun c hc => by
        rcases (h2 c).mp hc with h | ⟨b', hb', h⟩
        · exact hCl c h
        · exact fit_le L r b' c (hB b' (by rw [← he]; simp [hb'])) h
      have hCL := js_len h1 hCn
      refine ⟨trivial, ?_⟩
      simp only [aComp, iAny, aRet, aRetN, aAndV, aOrV, aNotV, aCall, aCons, aNil, aVar, aC, aOp, aUn, aB, aTru, aIf, aSeq, aIfS, aNot, aAnd, aOr, aAsg, agName, aNext, aChain, aSl, aPart, aNoPart, aDrop, aTup, aLst, rd_dat, rd_new, mod_lst, le_int', lt_int', aI_int, add_int', add_lst', eq_int', eq_str', tru_bl, tru_lst, tru_tup, true_and, aIsi, aLen, see_int', see_str', see_bl', see_non', see_tup', see_lst', see_stc', see_scr', List.getElem?_cons_zero, List.getElem?_cons_succ, List.set_cons_zero, List.set_cons_succ, Option.some.injEq, exists_eq_left', List.cons.injEq, and_true, D.ty.injEq, D.bl.injEq, D.int.injEq, D.str.injEq, and_assoc, exists_and_left, exists_eq_left, exists_and_right, ret_bl, ret_int, Bool.false_eq_true, if_true, if_false, Bool.not_true, Bool.not_false]
      refine ⟨j, rfl, r, L, b, rfl, hd, ho, hn, hL, hl12, hB b hbm, fun js rr g1 g2 hr => ?_⟩
      have hjl : js.length ≤ L.st.length + 1 := js_len g1 fun x hx => fit_le L r b x (hB b hbm) ((g2 x).mp hx)
      have fin : ∀ ds', ds' = iL (js.filter fun j => decide (j ∉ C)) → (iL C).length + ds'.length ≤ sizeLine ∧ N' [x0, some (lD L), x2, x3, x4, x5, some (.lst (iL C ++ ds')), some (tD r), some (.int (b : Int))] S' := fun ds' e => by
        subst e
        refine ⟨by rw [iL_len, iL_len, sizeLine_eq]; have := List.length_filter_le (fun j => decide (j ∉ C)) js; omega, ?_⟩
        rw [← iL_append]
        refine hN' _ _ ⟨b1 ++ [b], bs, addJ C js, _, rfl, by rw [List.append_assoc]; exact he, rfl, nodup_addJ h1 g1, fun x => ?_, rfl⟩
        rw [mem_addJ, h2, g2]
        constructor
        · rintro ((h | ⟨b', hb', h⟩) | h)
          · exact .inl h
          · exact .inr ⟨b', by simp [hb'], h⟩
          · exact .inr ⟨b, by simp, h⟩
        · rintro (h | ⟨b', hb', h⟩)
          · exact .inl (.inl h)
          · rcases List.mem_append.mp hb' with hb' | hb'
            · exact .inl (.inr ⟨b', hb', h⟩)
            · rw [List.mem_singleton.mp hb'] at h; exact .inr h
      have er := filt (S := S') (Q := fun ds' S2 => (iL C).length + ds'.length ≤ sizeLine ∧ N' [x0, some (lD L), x2, x3, x4, x5, some (.lst (iL C ++ ds')), some (tD r), some (.int (b : Int))] S2) (B := C) js (by omega) (fin _ rfl)
      rcases hr with rfl | rfl
      · exact er
      · exact er
theorem d_Ends0 (T : Txt K mg) (F : Src K mg "_law_ends" PscEnds sEnds) (k : Nat) (hk : k ≤ 4) (D_law_ends : Def P w K mg base (k + 2) "_law_ends" PscEnds (conSp K (fun ds S Q => ∃ j, j + 1 = k ∧ spEnds j ds S Q))) : Def P w K mg base (k + 3) "_law_ends" PscEnds (conSp K (spEnds k)) := by
  refine defA F scEnds (fun ds S Q h => ?_) (fun f cdv A outer s H E hr => ?_)
  · obtain ⟨p, L, i, rfl, _⟩ := h; rfl
  · refine ⟨_, (M.pss_cons (M.ps_if (M.pt_cmpR (M.o_eq hr) (M.pe_ix M.o_ix (M.pv 0) M.pe_int (fun _ _ => rfl)) M.pe_str (nomark _))
        (M.pss_one (M.ps_ret (M.pe_lst (M.pac (M.pv 2) M.pa_nil))))
        M.pss_nil)
      (M.pss_cons (M.ps_if (M.pt_cmpR (M.o_in hr) (M.pe_ix M.o_ix (M.pv 0) M.pe_int (fun _ _ => rfl)) (M.pe_tup (M.pac M.pe_str (M.pac M.pe_str M.pa_nil))) rfl)
        (M.pss_one (M.ps_ret (M.pe_slice M.o_slc (M.pe_lst (M.pac (M.pv 2) M.pa_nil)) M.po_none (M.po_some (M.pct M.o_int1 (by rfl) T.int (by decide +kernel) (M.pac (M.pe_cmpR (M.o_eq hr) (M.pe_cmpR (M.o_in hr) (M.pe_ix M.o_ix (M.pv 0) M.pe_int (fun _ _ => rfl)) (M.pe_ix M.o_ix (M.pe_ix M.o_ix (M.pv 1) M.pe_int (fun _ _ => rfl)) (M.pv 2) (fun _ _ => rfl)) rfl) (M.pe_cmpR (M.o_eq hr) (M.pe_ix M.o_ix (M.pv 0) M.pe_int (fun _ _ => rfl)) M.pe_str (nomark _)) (nomark _)) M.pa_nil))))))
        M.pss_nil)
      (M.pss_cons (M.ps_if (M.pt_cmpR (M.o_eq hr) (M.pe_ix M.o_ix (M.pv 0) M.pe_int (fun _ _ => rfl)) M.pe_str (nomark _))
        (M.pss_cons (M.ps_set (i := 3) scEnds.nd rfl (Or.inl rfl) (M.pe_and (M.pe_cmpR M.o_lt (M.pv 2) (M.pcb M.o_len (by rfl) T.len (by decide +kernel) (M.pac (M.pe_ix M.o_ix (M.pv 1) M.pe_int (fun _ _ => rfl)) M.pa_nil)) (nomark _)) (M.pe_and (M.pe_cmpR (M.o_eq hr) (M.pe_ix M.o_ix (M.pe_ix M.o_ix (M.pe_ix M.o_ix (M.pv 1) M.pe_int (fun _ _ => rfl)) (M.pv 2) (fun _ _ => rfl)) M.pe_int (fun _ _ => rfl)) (M.pe_ix M.o_ix (M.pv 0) M.pe_int (fun _ _ => rfl)) (nomark _)) (M.pe_one (M.pe_cmpR (M.o_in hr) (M.pe_ix M.o_ix (M.pv 0) M.pe_int (fun _ _ => rfl)) (M.pe_tup (M.pac M.pe_str (M.pac (M.pe_ix M.o_ix (M.pe_ix M.o_ix (M.pe_ix M.o_ix (M.pv 1) M.pe_int (fun _ _ => rfl)) (M.pv 2) (fun _ _ => rfl)) M.pe_int (fun _ _ => rfl)) M.pa_nil))) rfl)))))
        (M.pss_one (M.ps_ret (M.pe_slice M.o_slc (M.pe_lst (M.pac (M.pe_op M.o_add (M.pv 2) M.pe_int) M.pa_nil)) M.po_none (M.po_some (M.pct M.o_int1 (by rfl) T.int (by decide +kernel) (M.pac (M.pv 3) M.pa_nil)))))))
        M.pss_nil)
      (M.pss_cons (M.ps_set (i := 4) scEnds.nd rfl (Or.inr rfl) (M.pe_lst (M.pac (M.pv 2) M.pa_nil)))
      (M.pss_cons (M.ps_if (M.pt_cmpR (M.o_eq hr) (M.pe_ix M.o_ix (M.pv 0) M.pe_int (fun _ _ => rfl)) M.pe_str (nomark _))
        (M.pss_cons (M.ps_set (i := 5) scEnds.nd rfl (Or.inl rfl) M.pe_int)
        (M.pss_cons (M.ps_while PassesOwn.never (M.pt_cmpR M.o_lt (M.pv 5) (M.pcb M.o_len (by rfl) T.len (by decide +kernel) (M.pac (M.pv 4) M.pa_nil)) (nomark _))
          (M.pss_cons (M.ps_set (i := 4) scEnds.nd rfl (Or.inr rfl) (M.pe_op M.o_add (M.pv 4) (M.pe_comp (N := ["_law_one", "_law_spots"]) (caps := [none, some 4]) (bs_mk (by decide +kernel)) (by rfl) (by rfl) rfl (M.pi_any (M.pe_own D_law_ends (hr.mono (by omega)) (by rfl) (M.pac (M.pe_ix M.o_ix (M.pv 0) M.pe_int (fun _ _ => rfl)) (M.pac (M.pv 1) (M.pac (M.pe_ix M.o_ix (M.pv 4) (M.pv 5) (fun _ _ => rfl)) M.pa_nil))))) (fun _ _ _ _ => (M.pg_name (i := 0) (by decide +kernel : List.Nodup (["_law_one", "_law_spots"] : List Str)) rfl (Or.inl rfl))) (fun _ _ _ _ => (M.pts_one (M.pt_cmpR (M.o_notIn hr) (M.pv 0) (M.pv 1) rfl))) (fun _ _ _ _ => (M.pv 0)))))
          (M.pss_one (M.ps_set (i := 5) scEnds.nd rfl (Or.inl rfl) (M.pe_op M.o_add (M.pv 5) M.pe_int)))))
        (M.pss_one (M.ps_ret (M.pv 4)))))
        M.pss_nil)
      (M.pss_cons (M.ps_set (i := 6) scEnds.nd rfl (Or.inr rfl) (M.pe_lst M.pa_nil))
      (M.pss_cons (M.ps_for PassesOwn.never rfl (M.pi_any (M.pe_ix M.o_ix (M.pv 0) M.pe_int (fun _ _ => rfl))) (M.pg_name (i := 7) scEnds.nd rfl (Or.inl rfl))
        (M.pss_cons (M.ps_if (M.pt_cmpR (M.o_eq hr) (M.pe_ix M.o_ix (M.pv 0) M.pe_int (fun _ _ => rfl)) M.pe_str (nomark _))
          (M.pss_one (M.ps_set (i := 6) scEnds.nd rfl (Or.inr rfl) (M.pe_lst M.pa_nil)))
          M.pss_nil)
        (M.pss_cons (M.ps_for PassesOwn.never rfl (M.pi_any (M.pv 4)) (M.pg_name (i := 8) scEnds.nd rfl (Or.inl rfl))
          (M.pss_one (M.ps_set (i := 6) scEnds.nd rfl (Or.inr rfl) (M.pe_op M.o_add (M.pv 6) (M.pe_comp (N := ["_law_end", "_law_behind"]) (caps := [none, some 6]) (bs_mk (by decide +kernel)) (by rfl) (by rfl) rfl (M.pi_any (M.pe_own D_law_ends (hr.mono (by omega)) (by rfl) (M.pac (M.pv 7) (M.pac (M.pv 1) (M.pac (M.pv 8) M.pa_nil))))) (fun _ _ _ _ => (M.pg_name (i := 0) (by decide +kernel : List.Nodup (["_law_end", "_law_behind"] : List Str)) rfl (Or.inl rfl))) (fun _ _ _ _ => (M.pts_one (M.pt_cmpR (M.o_notIn hr) (M.pv 0) (M.pv 1) rfl))) (fun _ _ _ _ => (M.pv 0)))))))
        (M.pss_one (M.ps_if (M.pt_cmpR (M.o_eq hr) (M.pe_ix M.o_ix (M.pv 0) M.pe_int (fun _ _ => rfl)) M.pe_str (nomark _))
          (M.pss_one (M.ps_set (i := 4) scEnds.nd rfl (Or.inr rfl) (M.pv 6)))
          M.pss_nil)))))
      (M.pss_one (M.ps_ret (M.pe_ifExp (M.pt_cmpR (M.o_eq hr) (M.pe_ix M.o_ix (M.pv 0) M.pe_int (fun _ _ => rfl)) M.pe_str (nomark _)) (M.pv 4) (M.pv 6))))))))))), fun ds S Q h => ?_⟩
    obtain ⟨p, L, i, rfl, hd, ho, hn, hL, hl12, hi, q⟩ := h
    have e0 : startA NscEnds [tD p, lD L, .int i] = [some (tD p), some (lD L), some (.int i), none, none, none, none, none, none] := rfl
    rw [e0]
    simp only [aRet, aRetN, aAndV, aOrV, aNotV, aCall, aCons, aNil, aVar, aC, aOp, aUn, aB, aTru, aIf, aSeq, aIfS, aNot, aAnd, aOr, aAsg, agName, aNext, aChain, aSl, aPart, aNoPart, aDrop, aTup, aLst, rd_dat, rd_new, mod_lst, le_int', lt_int', aI_int, add_int', add_lst', eq_int', eq_str', tru_bl, tru_lst, tru_tup, true_and, aIsi, aLen, see_int', see_str', see_bl', see_non', see_tup', see_lst', see_stc', see_scr', List.getElem?_cons_zero, List.getElem?_cons_succ, List.set_cons_zero, List.set_cons_succ, Option.some.injEq, exists_eq_left', List.cons.injEq, and_true, D.ty.injEq, D.bl.injEq, D.int.injEq, D.str.injEq, and_assoc, exists_and_left, exists_eq_left, exists_and_right, ret_bl, ret_int, Bool.false_eq_true, if_true, if_false, Bool.not_true, Bool.not_false]
    have fin : ∀ (b : Bool) (j : Nat), (b = true → j ≤ 100) → (∀ j', j' ∈ (if b then [j] else []) ↔ Fit L p i j') → aInt1 [.bl b] S (fun r S1 => ∃ i_1, r.d = D.int i_1 ∧ aSlc (D.lst [D.int (j : Int)]) none (some i_1) S1 fun r S' => M.ret S S' r Q) := fun b j hj hF => by
      refine .inr ⟨b, rfl, _, rfl, ?_⟩
      unfold aSlc
      rw [see_lst']
      show M.ret S S (.new (.lst (cutD _ _ _))) Q
      rw [cut_one]
      exact ret_new (purs_iL _) (q _ _ (by cases b <;> simp) hF (.inr rfl))
    have hms : i < L.ms.length := by rw [hL.len]; omega
    cases p with
    | stay =>
      simp only [tD, lD, ix_tup, at0, at1, at2, aRet, aRetN, aAndV, aOrV, aNotV, aCall, aCons, aNil, aVar, aC, aOp, aUn, aB, aTru, aIf, aSeq, aIfS, aNot, aAnd, aOr, aAsg, agName, aNext, aChain, aSl, aPart, aNoPart, aDrop, aTup, aLst, rd_dat, rd_new, mod_lst, le_int', lt_int', aI_int, add_int', add_lst', eq_int', eq_str', tru_bl, tru_lst, tru_tup, true_and, aIsi, aLen, see_int', see_str', see_bl', see_non', see_tup', see_lst', see_stc', see_scr', List.getElem?_cons_zero, List.getElem?_cons_succ, List.set_cons_zero, List.set_cons_succ, Option.some.injEq, exists_eq_left', List.cons.injEq, and_true, D.ty.injEq, D.bl.injEq, D.int.injEq, D.str.injEq, and_assoc, exists_and_left, exists_eq_left, exists_and_right, ret_bl, ret_int, Bool.false_eq_true, if_true, if_false, Bool.not_true, Bool.not_false]
      rw [if_pos (by decide)]
      exact ⟨sz rfl, ret_new rfl (q [i] _ (by simp) (fun j => by simp [Fit]) (.inr rfl))⟩
    | step b x =>
      simp only [tD, lD, ix_tup, at0, at1, at2, aRet, aRetN, aAndV, aOrV, aNotV, aCall, aCons, aNil, aVar, aC, aOp, aUn, aB, aTru, aIf, aSeq, aIfS, aNot, aAnd, aOr, aAsg, agName, aNext, aChain, aSl, aPart, aNoPart, aDrop, aTup, aLst, rd_dat, rd_new, mod_lst, le_int', lt_int', aI_int, add_int', add_lst', eq_int', eq_str', tru_bl, tru_lst, tru_tup, true_and, aIsi, aLen, see_int', see_str', see_bl', see_non', see_tup', see_lst', see_stc', see_scr', List.getElem?_cons_zero, List.getElem?_cons_succ, List.set_cons_zero, List.set_cons_succ, Option.some.injEq, exists_eq_left', List.cons.injEq, and_true, D.ty.injEq, D.bl.injEq, D.int.injEq, D.str.injEq, and_assoc, exists_and_left, exists_eq_left, exists_and_right, ret_bl, ret_int, Bool.false_eq_true, if_true, if_false, Bool.not_true, Bool.not_false]
      rw [if_neg (by decide)]
      refine ⟨sz rfl, in_ao (by decide +kernel) ⟨_, rfl, ?_⟩⟩
      rw [if_neg (by decide), if_pos (by decide)]
      refine ⟨L.st.length, by simp [lenD], ?_⟩
      have e1 : (i : Int) + 1 = ((i + 1 : Nat) : Int) := by omega
      rw [e1]
      have no : (∀ s, L.st[i]? = some s → s.1 = b → ¬ (x = "*" ∨ x = s.2)) → ∀ j', j' ∈ (if false = true then [i + 1] else []) ↔ Fit L (.step b x) i j' := fun h j' => by
        simp only [Fit, Bool.false_eq_true, if_false, List.not_mem_nil, false_iff]
        rintro ⟨_, s, h1, h2, h3⟩
        exact h s h1 h2 h3
      refine ite2 (fun h => ?_) (fun h => ?_)
      · have h : i < L.st.length := by simpa using h
        have hs : L.st[i]? = some L.st[i] := List.getElem?_eq_getElem h
        have hat : atI (L.st.map sD) (i : Int) = some (sD L.st[i]) := atI_nat (by simp [h])
        have hok := hL.st L.st[i] (List.getElem_mem h)
        generalize L.st[i] = sg at hs hat hok
        simp only [ix_lst, hat, Option.some.injEq, exists_eq_left', sD, ix_tup, at0, at1, aRet, aRetN, aAndV, aOrV, aNotV, aCall, aCons, aNil, aVar, aC, aOp, aUn, aB, aTru, aIf, aSeq, aIfS, aNot, aAnd, aOr, aAsg, agName, aNext, aChain, aSl, aPart, aNoPart, aDrop, aTup, aLst, rd_dat, rd_new, mod_lst, le_int', lt_int', aI_int, add_int', add_lst', eq_int', eq_str', tru_bl, tru_lst, tru_tup, true_and, aIsi, aLen, see_int', see_str', see_bl', see_non', see_tup', see_lst', see_stc', see_scr', List.getElem?_cons_zero, List.getElem?_cons_succ, List.set_cons_zero, List.set_cons_succ, Option.some.injEq, exists_eq_left', List.cons.injEq, and_true, D.ty.injEq, D.bl.injEq, D.int.injEq, D.str.injEq, and_assoc, exists_and_left, exists_eq_left, exists_and_right, ret_bl, ret_int, Bool.false_eq_true, if_true, if_false, Bool.not_true, Bool.not_false]
        refine ite2 (fun hb => ?_) (fun hb => ?_)
        · have hb : side sg.1 = side b := by simpa using hb
          have hb : sg.1 = b := by revert hb; cases sg.1 <;> cases b <;> decide
          refine ⟨sz rfl, in_texts (n := 0) (ss := ["*", sg.2]) (wd_ok ho) (by decide) (by simp only [List.all_cons, List.all_nil, hok, Bool.and_true]; decide +kernel) ⟨sz rfl, ?_⟩ (by simp)⟩
          rw [Bool.false_bne]
          refine fin _ _ (fun _ => by omega) fun j' => ?_
          simp only [Fit, hs, Option.some.injEq, exists_eq_left']
          have ei : inS (.str x) ["*", sg.2] = decide (x = "*" ∨ x = sg.2) := by
            simp only [inS, List.any_cons, List.any_nil, Bool.or_false, isS]
            by_cases h1 : x = "*" <;> by_cases h2 : x = sg.2 <;> simp [h1, h2]
          rw [ei]
          by_cases hx : x = "*" ∨ x = sg.2
          · simp [hx, hb]
          · simp [hx]
        · refine ⟨sz rfl, fin false _ (fun _ => by omega) (no fun s h1 h2 => ?_)⟩
          rw [hs] at h1
          cases h1
          exact absurd h2 (fun e => hb (by rw [e]; exact decide_eq_true rfl))
      · have h : ¬ i < L.st.length := by simpa using h
        refine ⟨sz rfl, fin false _ (fun _ => by omega) (no fun s h1 h2 => ?_)⟩
        rw [List.getElem?_eq_none (by omega)] at h1
        cases h1
    | mk b m =>
      simp only [tD, lD, ix_tup, at0, at1, at2, aRet, aRetN, aAndV, aOrV, aNotV, aCall, aCons, aNil, aVar, aC, aOp, aUn, aB, aTru, aIf, aSeq, aIfS, aNot, aAnd, aOr, aAsg, agName, aNext, aChain, aSl, aPart, aNoPart, aDrop, aTup, aLst, rd_dat, rd_new, mod_lst, le_int', lt_int', aI_int, add_int', add_lst', eq_int', eq_str', tru_bl, tru_lst, tru_tup, true_and, aIsi, aLen, see_int', see_str', see_bl', see_non', see_tup', see_lst', see_stc', see_scr', List.getElem?_cons_zero, List.getElem?_cons_succ, List.set_cons_zero, List.set_cons_succ, Option.some.injEq, exists_eq_left', List.cons.injEq, and_true, D.ty.injEq, D.bl.injEq, D.int.injEq, D.str.injEq, and_assoc, exists_and_left, exists_eq_left, exists_and_right, ret_bl, ret_int, Bool.false_eq_true, if_true, if_false, Bool.not_true, Bool.not_false]
      rw [if_neg (by cases b <;> decide)]
      refine ⟨sz rfl, in_ao (mkS_ok b) ⟨_, rfl, ?_⟩⟩
      rw [if_pos (by cases b <;> decide)]
      refine ⟨sz rfl, ?_⟩
      have hs : L.ms[i]? = some L.ms[i] := List.getElem?_eq_getElem hms
      have hat : atI (L.ms.map mD) (i : Int) = some (mD L.ms[i]) := atI_nat (by simp [hms])
      obtain ⟨hl50, hok⟩ := hL.ms L.ms[i] (List.getElem_mem hms)
      generalize L.ms[i] = mg at hs hat hok hl50
      simp only [ix_lst, hat, Option.some.injEq, exists_eq_left', mD, aRet, aRetN, aAndV, aOrV, aNotV, aCall, aCons, aNil, aVar, aC, aOp, aUn, aB, aTru, aIf, aSeq, aIfS, aNot, aAnd, aOr, aAsg, agName, aNext, aChain, aSl, aPart, aNoPart, aDrop, aTup, aLst, rd_dat, rd_new, mod_lst, le_int', lt_int', aI_int, add_int', add_lst', eq_int', eq_str', tru_bl, tru_lst, tru_tup, true_and, aIsi, aLen, see_int', see_str', see_bl', see_non', see_tup', see_lst', see_stc', see_scr', List.getElem?_cons_zero, List.getElem?_cons_succ, List.set_cons_zero, List.set_cons_succ, Option.some.injEq, exists_eq_left', List.cons.injEq, and_true, D.ty.injEq, D.bl.injEq, D.int.injEq, D.str.injEq, and_assoc, exists_and_left, exists_eq_left, exists_and_right, ret_bl, ret_int, Bool.false_eq_true, if_true, if_false, Bool.not_true, Bool.not_false]
      refine in_texts (n := 0) (ss := mg) (nm_ok ho) (by decide) (List.all_eq_true.mpr hok) ?_ (by omega)
      rw [Bool.false_bne]
      rw [inS_mem]
      have e2 : ∀ (c : Bool) {Q' : AK}, Q' (.dat (.bl (decide (c = b)))) S → aEq (.bl c) (.bl (decide (mkS b = "at"))) S Q' := fun c Q' q' => by
        have : decide (mkS b = "at") = b := by cases b <;> decide
        rw [this]; exact q'
      refine e2 _ (fin _ _ (fun _ => by omega) fun j' => ?_)
      simp only [Fit, hs, Option.some.injEq, exists_eq_left']
      by_cases hx : decide (m ∈ mg) = b
      · simp [hx]
      · simp [hx]
    | many p =>
      obtain ⟨j, rfl⟩ : ∃ j, k = j + 1 := ⟨k - 1, by simp only [dp] at hd; omega⟩
      simp only [tD, lD, ix_tup, at0, at1, at2, aRet, aRetN, aAndV, aOrV, aNotV, aCall, aCons, aNil, aVar, aC, aOp, aUn, aB, aTru, aIf, aSeq, aIfS, aNot, aAnd, aOr, aAsg, agName, aNext, aChain, aSl, aPart, aNoPart, aDrop, aTup, aLst, rd_dat, rd_new, mod_lst, le_int', lt_int', aI_int, add_int', add_lst', eq_int', eq_str', tru_bl, tru_lst, tru_tup, true_and, aIsi, aLen, see_int', see_str', see_bl', see_non', see_tup', see_lst', see_stc', see_scr', List.getElem?_cons_zero, List.getElem?_cons_succ, List.set_cons_zero, List.set_cons_succ, Option.some.injEq, exists_eq_left', List.cons.injEq, and_true, D.ty.injEq, D.bl.injEq, D.int.injEq, D.str.injEq, and_assoc, exists_and_left, exists_eq_left, exists_and_right, ret_bl, ret_int, Bool.false_eq_true, if_true, if_false, Bool.not_true, Bool.not_false]
      rw [if_neg (by decide)]
      refine ⟨sz rfl, in_ao (by decide +kernel) ⟨_, rfl, ?_⟩⟩
      rw [if_neg (by decide), if_neg (by decide)]
      refine ⟨sz rfl, ?_⟩
      rw [if_pos (by decide)]
      have hN : N p + 1 ≤ 40 := by simpa only [N] using hn
      have hD : dp p ≤ j := by simp only [dp] at hd; omega
      have le : ∀ b, Star (Fit L p) i b → b ≤ L.st.length := fun b hb => star_le (fun x y => fit_le L p x y) hi hb
      refine ⟨fun m δ S' => ∃ (B : List Nat) (kk : Nat), δ = [some (.tup [.str "many", tD p]), some (.tup [.lst (L.ms.map mD), .lst (L.st.map sD)]), some (.int i), none, some (.lst (iL B)), some (.int kk), none, none, none] ∧ S' = S ∧ kk ≤ B.length ∧ m + kk = L.st.length + 2 ∧ B.Nodup ∧ (∀ b ∈ B, Star (Fit L p) i b) ∧ i ∈ B ∧ (∀ t b, t < kk → B[t]? = some b → ∀ j, Fit L p b j → j ∈ B), ⟨L.st.length + 2, [i], 0, rfl, rfl, Nat.zero_le _, rfl, by simp, fun b hb => by rw [List.mem_singleton.mp hb]; exact .refl i, by simp, fun t b h => absurd h (Nat.not_lt_zero _)⟩, ?_⟩
      rintro m δ S' ⟨B, kk, rfl, rfl, hkk, hm, hnd, hst, hiB, hcl⟩
      have hBl : B.length ≤ L.st.length + 1 := js_len hnd fun b hb => le b (hst b hb)
      simp only [aRet, aRetN, aAndV, aOrV, aNotV, aCall, aCons, aNil, aVar, aC, aOp, aUn, aB, aTru, aIf, aSeq, aIfS, aNot, aAnd, aOr, aAsg, agName, aNext, aChain, aSl, aPart, aNoPart, aDrop, aTup, aLst, rd_dat, rd_new, mod_lst, le_int', lt_int', aI_int, add_int', add_lst', eq_int', eq_str', tru_bl, tru_lst, tru_tup, true_and, aIsi, aLen, see_int', see_str', see_bl', see_non', see_tup', see_lst', see_stc', see_scr', List.getElem?_cons_zero, List.getElem?_cons_succ, List.set_cons_zero, List.set_cons_succ, Option.some.injEq, exists_eq_left', List.cons.injEq, and_true, D.ty.injEq, D.bl.injEq, D.int.injEq, D.str.injEq, and_assoc, exists_and_left, exists_eq_left, exists_and_right, ret_bl, ret_int, Bool.false_eq_true, if_true, if_false, Bool.not_true, Bool.not_false]
      refine ⟨B.length, by simp [lenD, iL_len], ?_⟩
      refine ite2 (fun h => ?_) (fun h => ?_)
      · have h : kk < B.length := by simpa using h
        have hb : B[kk]? = some B[kk] := List.getElem?_eq_getElem h
        have hbm : B[kk] ∈ B := List.getElem_mem h
        generalize B[kk] = b at hb hbm
        refine ⟨fun δ' S2 => ∃ js : List Nat, js.Nodup ∧ (∀ j', j' ∈ js ↔ Fit L p b j') ∧ S2 = S' ∧ δ' = [some (.tup [.str "many", tD p]), some (.tup [.lst (L.ms.map mD), .lst (L.st.map sD)]), some (.int i), none, some (.lst (iL (addJ B js))), some (.int ((kk + 1 : Nat) : Int)), none, none, none], ?_, ?_⟩
        · rintro δ' S2 ⟨js, h1, h2, rfl, rfl⟩
          refine ⟨m - 1, by omega, addJ B js, kk + 1, rfl, rfl, by rw [addJ, List.length_append]; omega, by omega, nodup_addJ hnd h1, fun x hx => ?_, mem_addJ.mpr (.inl hiB), fun t x ht hx y hy => ?_⟩
          · rcases mem_addJ.mp hx with hx | hx
            · exact hst x hx
            · exact .tail (hst b hbm) ((h2 x).mp hx)
          · rw [addJ, List.getElem?_append_left (by omega)] at hx
            by_cases htk : t = kk
            · subst htk
              rw [hb] at hx; cases hx
              exact mem_addJ.mpr (.inr ((h2 y).mpr hy))
            · exact mem_addJ.mpr (.inl (hcl t x (by omega) hx y hy))
        · have hat : atI (iL B) (kk : Int) = some (.int (b : Int)) := atI_nat (by rw [iL, List.getElem?_map, hb]; rfl)
          simp only [aComp, iAny, ix_tup, ix_lst, at0, at1, hat, aRet, aRetN, aAndV, aOrV, aNotV, aCall, aCons, aNil, aVar, aC, aOp, aUn, aB, aTru, aIf, aSeq, aIfS, aNot, aAnd, aOr, aAsg, agName, aNext, aChain, aSl, aPart, aNoPart, aDrop, aTup, aLst, rd_dat, rd_new, mod_lst, le_int', lt_int', aI_int, add_int', add_lst', eq_int', eq_str', tru_bl, tru_lst, tru_tup, true_and, aIsi, aLen, see_int', see_str', see_bl', see_non', see_tup', see_lst', see_stc', see_scr', List.getElem?_cons_zero, List.getElem?_cons_succ, List.set_cons_zero, List.set_cons_succ, Option.some.injEq, exists_eq_left', List.cons.injEq, and_true, D.ty.injEq, D.bl.injEq, D.int.injEq, D.str.injEq, and_assoc, exists_and_left, exists_eq_left, exists_and_right, ret_bl, ret_int, Bool.false_eq_true, if_true, if_false, Bool.not_true, Bool.not_false]
          refine ⟨j, rfl, p, L, b, rfl, hD, ho, by omega, hL, hl12, le b (hst b hbm), fun js r h1 h2 hr => ?_⟩
          have hjl : js.length ≤ L.st.length + 1 := js_len h1 fun x hx => fit_le L p b x (le b (hst b hbm)) ((h2 x).mp hx)
          have er : iAnyD S' (fun ds P S1 => compD P (agName 0) (aB (aOp (aIn true) (aVar 0) (aVar 1))) (aVar 0) ds [] (captA [none, some 4] [some (.tup [.str "many", tD p]), some (.tup [.lst (L.ms.map mD), .lst (L.st.map sD)]), some (.int i), none, some (.lst (iL B)), some (.int kk), none, none, none]) S1 fun ds' S2 => (iL B).length + ds'.length ≤ sizeLine ∧ ∃ js : List Nat, js.Nodup ∧ (∀ j', j' ∈ js ↔ Fit L p b j') ∧ S2 = S' ∧ [some (D.tup [.str "many", tD p]), some (.tup [.lst (L.ms.map mD), .lst (L.st.map sD)]), some (.int i), none, some (.lst (iL B ++ ds')), some (.int ((kk : Int) + 1)), none, none, none] = [some (.tup [.str "many", tD p]), some (.tup [.lst (L.ms.map mD), .lst (L.st.map sD)]), some (.int i), none, some (.lst (iL (addJ B js))), some (.int ((kk + 1 : Nat) : Int)), none, none, none]) (.lst (iL js)) := by
            refine filt (B := B) js (by omega) ⟨by rw [iL_len, iL_len, sizeLine_eq]; have := List.length_filter_le (fun j => decide (j ∉ B)) js; omega, js, h1, h2, rfl, ?_⟩
            rw [addJ, iL_append]; rfl
          rcases hr with rfl | rfl
          · simpa only [aRet, aRetN, aAndV, aOrV, aNotV, aCall, aCons, aNil, aVar, aC, aOp, aUn, aB, aTru, aIf, aSeq, aIfS, aNot, aAnd, aOr, aAsg, agName, aNext, aChain, aSl, aPart, aNoPart, aDrop, aTup, aLst, rd_dat, rd_new, mod_lst, le_int', lt_int', aI_int, add_int', add_lst', eq_int', eq_str', tru_bl, tru_lst, tru_tup, true_and, aIsi, aLen, see_int', see_str', see_bl', see_non', see_tup', see_lst', see_stc', see_scr', List.getElem?_cons_zero, List.getElem?_cons_succ, List.set_cons_zero, List.set_cons_succ, Option.some.injEq, exists_eq_left', List.cons.injEq, and_true, D.ty.injEq, D.bl.injEq, D.int.injEq, D.str.injEq, and_assoc, exists_and_left, exists_eq_left, exists_and_right, ret_bl, ret_int, Bool.false_eq_true, if_true, if_false, Bool.not_true, Bool.not_false] using er
          · simpa only [aRet, aRetN, aAndV, aOrV, aNotV, aCall, aCons, aNil, aVar, aC, aOp, aUn, aB, aTru, aIf, aSeq, aIfS, aNot, aAnd, aOr, aAsg, agName, aNext, aChain, aSl, aPart, aNoPart, aDrop, aTup, aLst, rd_dat, rd_new, mod_lst, le_int', lt_int', aI_int, add_int', add_lst', eq_int', eq_str', tru_bl, tru_lst, tru_tup, true_and, aIsi, aLen, see_int', see_str', see_bl', see_non', see_tup', see_lst', see_stc', see_scr', List.getElem?_cons_zero, List.getElem?_cons_succ, List.set_cons_zero, List.set_cons_succ, Option.some.injEq, exists_eq_left', List.cons.injEq, and_true, D.ty.injEq, D.bl.injEq, D.int.injEq, D.str.injEq, and_assoc, exists_and_left, exists_eq_left, exists_and_right, ret_bl, ret_int, Bool.false_eq_true, if_true, if_false, Bool.not_true, Bool.not_false] using er
      · have h : ¬ kk < B.length := by simpa using h
        have hke : kk = B.length := by omega
        refine ret_pur (show pur (.lst (iL B)) = true from purs_iL B) (q B _ hnd (fun x => ⟨fun hx => by simp only [Fit]; exact hst x hx, fun hx => ?_⟩) (.inl rfl))
        simp only [Fit] at hx
        clear hst
        induction hx with
        | refl => exact hiB
        | tail g rr ih =>
          obtain ⟨t, ht, e⟩ := List.getElem_of_mem ih
          exact hcl t _ (by omega) (by rw [List.getElem?_eq_getElem ht, e]) _ rr
    | seq ps =>
      obtain ⟨j, rfl⟩ : ∃ j, k = j + 1 := ⟨k - 1, by simp only [dp] at hd; omega⟩
      simp only [tD, lD, ix_tup, at0, at1, at2, aRet, aRetN, aAndV, aOrV, aNotV, aCall, aCons, aNil, aVar, aC, aOp, aUn, aB, aTru, aIf, aSeq, aIfS, aNot, aAnd, aOr, aAsg, agName, aNext, aChain, aSl, aPart, aNoPart, aDrop, aTup, aLst, rd_dat, rd_new, mod_lst, le_int', lt_int', aI_int, add_int', add_lst', eq_int', eq_str', tru_bl, tru_lst, tru_tup, true_and, aIsi, aLen, see_int', see_str', see_bl', see_non', see_tup', see_lst', see_stc', see_scr', List.getElem?_cons_zero, List.getElem?_cons_succ, List.set_cons_zero, List.set_cons_succ, Option.some.injEq, exists_eq_left', List.cons.injEq, and_true, D.ty.injEq, D.bl.injEq, D.int.injEq, D.str.injEq, and_assoc, exists_and_left, exists_eq_left, exists_and_right, ret_bl, ret_int, Bool.false_eq_true, if_true, if_false, Bool.not_true, Bool.not_false]
      rw [if_neg (by decide)]
      refine ⟨sz rfl, in_ao (by decide +kernel) ⟨_, rfl, ?_⟩⟩
      rw [if_neg (by decide), if_neg (by decide)]
      refine ⟨sz rfl, ?_⟩
      rw [if_neg (by decide)]
      refine ⟨sz rfl, ?_⟩
      have hN : Ns ps + 1 ≤ 40 := by simpa only [N] using hn
      have hD : dps ps ≤ j := by simp only [dp] at hd; omega
      simp only [aFor, iAny, ix_tup, at1, aRet, aRetN, aAndV, aOrV, aNotV, aCall, aCons, aNil, aVar, aC, aOp, aUn, aB, aTru, aIf, aSeq, aIfS, aNot, aAnd, aOr, aAsg, agName, aNext, aChain, aSl, aPart, aNoPart, aDrop, aTup, aLst, rd_dat, rd_new, mod_lst, le_int', lt_int', aI_int, add_int', add_lst', eq_int', eq_str', tru_bl, tru_lst, tru_tup, true_and, aIsi, aLen, see_int', see_str', see_bl', see_non', see_tup', see_lst', see_stc', see_scr', List.getElem?_cons_zero, List.getElem?_cons_succ, List.set_cons_zero, List.set_cons_succ, Option.some.injEq, exists_eq_left', List.cons.injEq, and_true, D.ty.injEq, D.bl.injEq, D.int.injEq, D.str.injEq, and_assoc, exists_and_left, exists_eq_left, exists_and_right, ret_bl, ret_int, Bool.false_eq_true, if_true, if_false, Bool.not_true, Bool.not_false, iAnyD]
      refine loop_by (fun rest δ S' => ∃ (qs rs : List Pt) (B C : List Nat) (v7 v8 : Option D), rest = rs.map tD ∧ qs ++ rs = ps ∧ S' = S ∧ B.Nodup ∧ (∀ x, x ∈ B ↔ FitS L qs i x) ∧ δ = [some (.tup [.str "then", .tup (tDs ps)]), some (lD L), some (.int i), none, some (.lst (iL B)), none, some (.lst (iL C)), v7, v8]) ?_ ?_ _ _ _
        ⟨[], ps, [i], [], none, none, tDs_map ps, rfl, rfl, by simp, fun x => by simp [FitS], rfl⟩
      · rintro δ S' ⟨qs, rs, B, C, v7, v8, hr, he, rfl, hnd, hB, rfl⟩
        have : rs = [] := by cases rs with
          | nil => rfl
          | cons _ _ => simp at hr
        subst this
        rw [List.append_nil] at he
        subst he
        refine ⟨trivial, ?_⟩
        simp only [ix_tup, at0, aRet, aRetN, aAndV, aOrV, aNotV, aCall, aCons, aNil, aVar, aC, aOp, aUn, aB, aTru, aIf, aSeq, aIfS, aNot, aAnd, aOr, aAsg, agName, aNext, aChain, aSl, aPart, aNoPart, aDrop, aTup, aLst, rd_dat, rd_new, mod_lst, le_int', lt_int', aI_int, add_int', add_lst', eq_int', eq_str', tru_bl, tru_lst, tru_tup, true_and, aIsi, aLen, see_int', see_str', see_bl', see_non', see_tup', see_lst', see_stc', see_scr', List.getElem?_cons_zero, List.getElem?_cons_succ, List.set_cons_zero, List.set_cons_succ, Option.some.injEq, exists_eq_left', List.cons.injEq, and_true, D.ty.injEq, D.bl.injEq, D.int.injEq, D.str.injEq, and_assoc, exists_and_left, exists_eq_left, exists_and_right, ret_bl, ret_int, Bool.false_eq_true, if_true, if_false, Bool.not_true, Bool.not_false]
        rw [if_pos (by decide)]
        exact ret_pur (show pur (.lst (iL B)) = true from purs_iL B) (q B _ hnd (fun x => by simp only [Fit]; exact hB x) (.inl rfl))
      · rintro x rest δ S' N' ⟨qs, rs, B, C, v7, v8, hr, he, rfl, hnd, hB, rfl⟩ hN'
        cases rs with
        | nil => simp at hr
        | cons r rs =>
          rw [List.map_cons] at hr
          injection hr with h1 h2
          subst h1; subst h2
          have hm : r ∈ ps := by rw [← he]; simp
          have hnr := N_mem hm
          refine ⟨trivial, ?_⟩
          simp only [ix_tup, at0, aRet, aRetN, aAndV, aOrV, aNotV, aCall, aCons, aNil, aVar, aC, aOp, aUn, aB, aTru, aIf, aSeq, aIfS, aNot, aAnd, aOr, aAsg, agName, aNext, aChain, aSl, aPart, aNoPart, aDrop, aTup, aLst, rd_dat, rd_new, mod_lst, le_int', lt_int', aI_int, add_int', add_lst', eq_int', eq_str', tru_bl, tru_lst, tru_tup, true_and, aIsi, aLen, see_int', see_str', see_bl', see_non', see_tup', see_lst', see_stc', see_scr', List.getElem?_cons_zero, List.getElem?_cons_succ, List.set_cons_zero, List.set_cons_succ, Option.some.injEq, exists_eq_left', List.cons.injEq, and_true, D.ty.injEq, D.bl.injEq, D.int.injEq, D.str.injEq, and_assoc, exists_and_left, exists_eq_left, exists_and_right, ret_bl, ret_int, Bool.false_eq_true, if_true, if_false, Bool.not_true, Bool.not_false]
          rw [if_pos (by decide)]
          refine ⟨sz rfl, ?_⟩
          refine ⟨_, rfl, ?_⟩
          refine inner (j := j) (by have := dps_mem hm; omega) (okps_mem.mp ho r hm) (by omega) hL hl12 B [] (fun b hb => fitS_le L qs i b hi ((hB b).mp hb)) (by simp) (by simp) fun C' v8' hC1 hC2 => ?_
          simp only [ix_tup, at0, aRet, aRetN, aAndV, aOrV, aNotV, aCall, aCons, aNil, aVar, aC, aOp, aUn, aB, aTru, aIf, aSeq, aIfS, aNot, aAnd, aOr, aAsg, agName, aNext, aChain, aSl, aPart, aNoPart, aDrop, aTup, aLst, rd_dat, rd_new, mod_lst, le_int', lt_int', aI_int, add_int', add_lst', eq_int', eq_str', tru_bl, tru_lst, tru_tup, true_and, aIsi, aLen, see_int', see_str', see_bl', see_non', see_tup', see_lst', see_stc', see_scr', List.getElem?_cons_zero, List.getElem?_cons_succ, List.set_cons_zero, List.set_cons_succ, Option.some.injEq, exists_eq_left', List.cons.injEq, and_true, D.ty.injEq, D.bl.injEq, D.int.injEq, D.str.injEq, and_assoc, exists_and_left, exists_eq_left, exists_and_right, ret_bl, ret_int, Bool.false_eq_true, if_true, if_false, Bool.not_true, Bool.not_false]
          rw [if_pos (by decide)]
          refine hN' _ _ ⟨qs ++ [r], rs, C', C', some (tD r), v8', rfl, by rw [List.append_assoc]; exact he, rfl, hC1, fun y => ?_, rfl⟩
          rw [hC2, fitS_snoc]
          simp only [List.not_mem_nil, false_or]
          exact ⟨fun ⟨b, h1, h2⟩ => ⟨b, (hB b).mp h1, h2⟩, fun ⟨b, h1, h2⟩ => ⟨b, (hB b).mpr h1, h2⟩⟩
    | alt ps =>
      obtain ⟨j, rfl⟩ : ∃ j, k = j + 1 := ⟨k - 1, by simp only [dp] at hd; omega⟩
      simp only [tD, lD, ix_tup, at0, at1, at2, aRet, aRetN, aAndV, aOrV, aNotV, aCall, aCons, aNil, aVar, aC, aOp, aUn, aB, aTru, aIf, aSeq, aIfS, aNot, aAnd, aOr, aAsg, agName, aNext, aChain, aSl, aPart, aNoPart, aDrop, aTup, aLst, rd_dat, rd_new, mod_lst, le_int', lt_int', aI_int, add_int', add_lst', eq_int', eq_str', tru_bl, tru_lst, tru_tup, true_and, aIsi, aLen, see_int', see_str', see_bl', see_non', see_tup', see_lst', see_stc', see_scr', List.getElem?_cons_zero, List.getElem?_cons_succ, List.set_cons_zero, List.set_cons_succ, Option.some.injEq, exists_eq_left', List.cons.injEq, and_true, D.ty.injEq, D.bl.injEq, D.int.injEq, D.str.injEq, and_assoc, exists_and_left, exists_eq_left, exists_and_right, ret_bl, ret_int, Bool.false_eq_true, if_true, if_false, Bool.not_true, Bool.not_false]
      rw [if_neg (by decide)]
      refine ⟨sz rfl, in_ao (by decide +kernel) ⟨_, rfl, ?_⟩⟩
      rw [if_neg (by decide), if_neg (by decide)]
      refine ⟨sz rfl, ?_⟩
      rw [if_neg (by decide)]
      refine ⟨sz rfl, ?_⟩
      have hN : Ns ps + 1 ≤ 40 := by simpa only [N] using hn
      have hD : dps ps ≤ j := by simp only [dp] at hd; omega
      simp only [aFor, iAny, ix_tup, at1, aRet, aRetN, aAndV, aOrV, aNotV, aCall, aCons, aNil, aVar, aC, aOp, aUn, aB, aTru, aIf, aSeq, aIfS, aNot, aAnd, aOr, aAsg, agName, aNext, aChain, aSl, aPart, aNoPart, aDrop, aTup, aLst, rd_dat, rd_new, mod_lst, le_int', lt_int', aI_int, add_int', add_lst', eq_int', eq_str', tru_bl, tru_lst, tru_tup, true_and, aIsi, aLen, see_int', see_str', see_bl', see_non', see_tup', see_lst', see_stc', see_scr', List.getElem?_cons_zero, List.getElem?_cons_succ, List.set_cons_zero, List.set_cons_succ, Option.some.injEq, exists_eq_left', List.cons.injEq, and_true, D.ty.injEq, D.bl.injEq, D.int.injEq, D.str.injEq, and_assoc, exists_and_left, exists_eq_left, exists_and_right, ret_bl, ret_int, Bool.false_eq_true, if_true, if_false, Bool.not_true, Bool.not_false, iAnyD]
      refine loop_by (fun rest δ S' => ∃ (qs rs : List Pt) (C : List Nat) (v7 v8 : Option D), rest = rs.map tD ∧ qs ++ rs = ps ∧ S' = S ∧ C.Nodup ∧ (∀ x, x ∈ C ↔ ∃ q ∈ qs, Fit L q i x) ∧ δ = [some (.tup [.str "either", .tup (tDs ps)]), some (lD L), some (.int i), none, some (.lst (iL [i])), none, some (.lst (iL C)), v7, v8]) ?_ ?_ _ _ _
        ⟨[], ps, [], none, none, tDs_map ps, rfl, rfl, by simp, fun x => by simp, rfl⟩
      · rintro δ S' ⟨qs, rs, C, v7, v8, hr, he, rfl, hnd, hC, rfl⟩
        have : rs = [] := by cases rs with
          | nil => rfl
          | cons _ _ => simp at hr
        subst this
        rw [List.append_nil] at he
        subst he
        refine ⟨trivial, ?_⟩
        simp only [ix_tup, at0, aRet, aRetN, aAndV, aOrV, aNotV, aCall, aCons, aNil, aVar, aC, aOp, aUn, aB, aTru, aIf, aSeq, aIfS, aNot, aAnd, aOr, aAsg, agName, aNext, aChain, aSl, aPart, aNoPart, aDrop, aTup, aLst, rd_dat, rd_new, mod_lst, le_int', lt_int', aI_int, add_int', add_lst', eq_int', eq_str', tru_bl, tru_lst, tru_tup, true_and, aIsi, aLen, see_int', see_str', see_bl', see_non', see_tup', see_lst', see_stc', see_scr', List.getElem?_cons_zero, List.getElem?_cons_succ, List.set_cons_zero, List.set_cons_succ, Option.some.injEq, exists_eq_left', List.cons.injEq, and_true, D.ty.injEq, D.bl.injEq, D.int.injEq, D.str.injEq, and_assoc, exists_and_left, exists_eq_left, exists_and_right, ret_bl, ret_int, Bool.false_eq_true, if_true, if_false, Bool.not_true, Bool.not_false]
        rw [if_neg (by decide)]
        exact ret_pur (show pur (.lst (iL C)) = true from purs_iL C) (q C _ hnd (fun x => by simp only [Fit]; rw [fitA_mem]; exact hC x) (.inl rfl))
      · rintro x rest δ S' N' ⟨qs, rs, C, v7, v8, hr, he, rfl, hnd, hC, rfl⟩ hN'
        cases rs with
        | nil => simp at hr
        | cons r rs =>
          rw [List.map_cons] at hr
          injection hr with h1 h2
          subst h1; subst h2
          have hm : r ∈ ps := by rw [← he]; simp
          have hnr := N_mem hm
          refine ⟨trivial, ?_⟩
          simp only [ix_tup, at0, aRet, aRetN, aAndV, aOrV, aNotV, aCall, aCons, aNil, aVar, aC, aOp, aUn, aB, aTru, aIf, aSeq, aIfS, aNot, aAnd, aOr, aAsg, agName, aNext, aChain, aSl, aPart, aNoPart, aDrop, aTup, aLst, rd_dat, rd_new, mod_lst, le_int', lt_int', aI_int, add_int', add_lst', eq_int', eq_str', tru_bl, tru_lst, tru_tup, true_and, aIsi, aLen, see_int', see_str', see_bl', see_non', see_tup', see_lst', see_stc', see_scr', List.getElem?_cons_zero, List.getElem?_cons_succ, List.set_cons_zero, List.set_cons_succ, Option.some.injEq, exists_eq_left', List.cons.injEq, and_true, D.ty.injEq, D.bl.injEq, D.int.injEq, D.str.injEq, and_assoc, exists_and_left, exists_eq_left, exists_and_right, ret_bl, ret_int, Bool.false_eq_true, if_true, if_false, Bool.not_true, Bool.not_false]
          rw [if_neg (by decide)]
          refine ⟨_, rfl, ?_⟩
          refine inner (j := j) (by have := dps_mem hm; omega) (okps_mem.mp ho r hm) (by omega) hL hl12 [i] C (fun b hb => by rw [List.mem_singleton.mp hb]; exact hi) hnd (fun c hc => by
            obtain ⟨q', _, h⟩ := (hC c).mp hc
            exact fit_le L q' i c hi h) fun C' v8' hC1 hC2 => ?_
          simp only [ix_tup, at0, aRet, aRetN, aAndV, aOrV, aNotV, aCall, aCons, aNil, aVar, aC, aOp, aUn, aB, aTru, aIf, aSeq, aIfS, aNot, aAnd, aOr, aAsg, agName, aNext, aChain, aSl, aPart, aNoPart, aDrop, aTup, aLst, rd_dat, rd_new, mod_lst, le_int', lt_int', aI_int, add_int', add_lst', eq_int', eq_str', tru_bl, tru_lst, tru_tup, true_and, aIsi, aLen, see_int', see_str', see_bl', see_non', see_tup', see_lst', see_stc', see_scr', List.getElem?_cons_zero, List.getElem?_cons_succ, List.set_cons_zero, List.set_cons_succ, Option.some.injEq, exists_eq_left', List.cons.injEq, and_true, D.ty.injEq, D.bl.injEq, D.int.injEq, D.str.injEq, and_assoc, exists_and_left, exists_eq_left, exists_and_right, ret_bl, ret_int, Bool.false_eq_true, if_true, if_false, Bool.not_true, Bool.not_false]
          rw [if_neg (by decide)]
          refine hN' _ _ ⟨qs ++ [r], rs, C', some (tD r), v8', rfl, by rw [List.append_assoc]; exact he, rfl, hC1, fun y => ?_, rfl⟩
          rw [hC2, hC]
          simp
theorem d_noneE {k : Nat} {sp : AN} (F : Src K mg "_law_ends" PscEnds sEnds) (h : ∀ ds S Q, ¬ sp ds S Q) : Def P w K mg base (k + 1) "_law_ends" PscEnds (conSp K sp) :=
  F.def scEnds (fun vs H Q E z => by obtain ⟨_, _, _, _, _, _, q, _⟩ := z; exact (h _ _ _ q).elim) fun f cdv A outer s H vs Q E hr z => by obtain ⟨_, _, _, _, _, _, q, _⟩ := z; exact (h _ _ _ q).elim
theorem d_Ends (T : Txt K mg) (F : Src K mg "_law_ends" PscEnds sEnds) : ∀ k, k ≤ 4 → Def P w K mg base (k + 3) "_law_ends" PscEnds (conSp K (spEnds k))
  | 0, h => d_Ends0 T F 0 h (d_noneE F fun ds S Q ⟨j, e, _⟩ => by omega)
  | k + 1, h => d_Ends0 T F (k + 1) h ((d_Ends T F k (by omega)).imp fun vs H Q E z => by
      obtain ⟨w, ds, S, Qa, ok, rep, ⟨j, e, q⟩, bk⟩ := z
      obtain rfl : j = k := by omega
      exact ⟨w, ds, S, Qa, ok, rep, q, bk⟩)
noncomputable def spRight : AN := fun ds S Q => ∃ (p : Pt) (L : Ln), ds = [tD p, lD L] ∧ dp p ≤ 4 ∧ Okp p ∧ N p ≤ 40 ∧ LnOk L ∧ L.st.length ≤ 12 ∧ ∀ b : Bool, (b = true ↔ Fit L p 0 L.st.length) → Q (.dat (.bl b)) S
theorem d_Right (T : Txt K mg) (F : Src K mg "_law_right" PscRight sRight) (D_law_ends : Def P w K mg base 7 "_law_ends" PscEnds (conSp K (spEnds 4))) : Def P w K mg base 8 "_law_right" PscRight (conSp K spRight) := by
  refine defA F scRight (fun ds S Q h => ?_) (fun f cdv A outer s H E hr => ?_)
  · obtain ⟨p, L, rfl, _⟩ := h; rfl
  · refine ⟨_, (M.pss_one (M.ps_ret (M.pe_cmpR (M.o_in hr) (M.pcb M.o_len (by rfl) T.len (by decide +kernel) (M.pac (M.pe_ix M.o_ix (M.pv 1) M.pe_int (fun _ _ => rfl)) M.pa_nil)) (M.pe_own D_law_ends (hr.mono (by decide)) (by rfl) (M.pac (M.pv 0) (M.pac (M.pv 1) (M.pac M.pe_int M.pa_nil)))) rfl))), fun ds S Q h => ?_⟩
    obtain ⟨p, L, rfl, hd, ho, hn, hL, hl, q⟩ := h
    have e0 : startA NscRight [tD p, lD L] = [some (tD p), some (lD L)] := rfl
    rw [e0]
    simp only [lD, ix_tup, at0, at1, aRet, aRetN, aAndV, aOrV, aNotV, aCall, aCons, aNil, aVar, aC, aOp, aUn, aB, aTru, aIf, aSeq, aIfS, aNot, aAnd, aOr, aAsg, agName, aNext, aChain, aSl, aPart, aNoPart, aDrop, aTup, aLst, rd_dat, rd_new, mod_lst, le_int', lt_int', aI_int, add_int', add_lst', eq_int', eq_str', tru_bl, tru_lst, tru_tup, true_and, aIsi, aLen, see_int', see_str', see_bl', see_non', see_tup', see_lst', see_stc', see_scr', List.getElem?_cons_zero, List.getElem?_cons_succ, List.set_cons_zero, List.set_cons_succ, Option.some.injEq, exists_eq_left', List.cons.injEq, and_true, D.ty.injEq, D.bl.injEq, D.int.injEq, D.str.injEq, and_assoc, exists_and_left, exists_eq_left, exists_and_right, ret_bl, ret_int, Bool.false_eq_true, if_true, if_false, Bool.not_true, Bool.not_false]
    refine ⟨L.st.length, by simp [lenD], p, L, 0, rfl, hd, ho, hn, hL, hl, Nat.zero_le _, fun js r h1 h2 hr => ?_⟩
    have key : aIn false (.int (L.st.length : Int)) (.lst (iL js)) S fun r S' => M.ret S S' r Q := by
      refine in_ints ?_
      rw [Bool.false_bne, ret_bl]
      exact q _ (by rw [decide_eq_true_eq]; exact h2 _)
    rcases hr with rfl | rfl
    · exact key
    · exact key
end
end K63
set_option Elab.async false
set_option linter.all false
set_option maxRecDepth 100000
set_option maxHeartbeats 4000000
namespace K63
open PySem L2 M
noncomputable abbrev sJoin : Stmt := top 32
noncomputable abbrev NscJoin : List Str := ["_law_one", "_law_other", "_law_meet"]
noncomputable abbrev PscJoin : List Str := ["_law_one", "_law_other"]
theorem scJoin : FnScope NscJoin PscJoin (defScope sJoin) := ⟨rfl, rfl, rfl, by decide +kernel, rfl, by decide +kernel, by decide +kernel⟩
noncomputable abbrev sBack : Stmt := top 35
noncomputable abbrev NscBack : List Str := ["_law_line_here", "_law_other"]
noncomputable abbrev PscBack : List Str := ["_law_line_here"]
theorem scBack : FnScope NscBack PscBack (defScope sBack) := ⟨rfl, rfl, rfl, by decide +kernel, rfl, by decide +kernel, by decide +kernel⟩
structure LnU (U : List Str) (L : Ln) : Prop where
  len : L.ms.length = L.st.length + 1
  ms : ∀ m ∈ L.ms, m.length ≤ 20 ∧ ∀ y ∈ m, y ∈ U
  st : ∀ s ∈ L.st, okS s.2 = true
theorem LnU.ok {U : List Str} {L : Ln} (h : LnU U L) (hU : ∀ y ∈ U, okS y = true) : LnOk L :=
  ⟨h.len, fun m hm => ⟨by have := (h.ms m hm).1; omega, fun y hy => hU y ((h.ms m hm).2 y hy)⟩, h.st⟩
theorem LnOk.rev {L : Ln} (h : LnOk L) : LnOk L.rev := by
  refine ⟨by simp [Ln.rev, h.len], fun m hm => h.ms m (List.mem_reverse.mp hm), fun s hs => ?_⟩
  obtain ⟨t, ht, rfl⟩ := List.mem_map.mp hs
  exact h.st t (List.mem_reverse.mp ht)
theorem nodup_len : ∀ (U ss : List Str), ss.Nodup → (∀ y ∈ ss, y ∈ U) → ss.length ≤ U.length
  | U, [], _, _ => Nat.zero_le _
  | U, a :: r, h, g => by
    have ha : a ∈ U := g a List.mem_cons_self
    have h' := List.nodup_cons.mp h
    have := nodup_len (U.erase a) r h'.2 fun y hy => by
      refine (List.mem_erase_of_ne fun e => ?_).mpr (g y (List.mem_cons_of_mem _ hy))
      subst e; exact h'.1 hy
    rw [List.length_erase_of_mem ha] at this
    have hp := List.length_pos_of_mem ha
    rw [List.length_cons]; omega
theorem pur_mD (m : List Str) : pur (mD m) = true := purs_strs m
theorem purs_mD : ∀ l : List (List Str), purs (l.map mD) = true
  | [] => rfl
  | a :: r => by simp only [List.map_cons, purs, pur_mD, purs_mD r, Bool.and_self]
theorem purs_sD : ∀ l : List (Bool × Str), purs (l.map sD) = true
  | [] => rfl
  | a :: r => by simp only [List.map_cons, purs, purs_sD r, sD, pur, Bool.and_self]
theorem pur_lD (L : Ln) : pur (lD L) = true := by simp only [lD, pur, purs, purs_mD, purs_sD, Bool.and_self]
theorem at_last {α : Type} {xs : List α} {x : α} : atI (xs ++ [x]) (-1) = some x := by
  unfold atI ixN
  rw [if_neg (by decide), if_pos (by rw [List.length_append]; show -((xs.length + 1 : Nat) : Int) ≤ -1; omega), List.length_append]
  have : ((-1 : Int) + ((xs.length + [x].length : Nat) : Int)).toNat = xs.length := by show ((-1 : Int) + ((xs.length + 1 : Nat) : Int)).toNat = _; omega
  rw [this]; simp
theorem cut_init {α : Type} {xs : List α} {x : α} : cutD (xs ++ [x]) none (some (-1)) = xs := by
  unfold cutD
  have : HT.sIx (xs ++ [x]).length (xs ++ [x]).length (some (-1)) = xs.length := by
    show (if (-1 : Int) < 0 then ((-1 : Int) + ((xs ++ [x]).length : Int)).toNat else min (-1 : Int).toNat (xs ++ [x]).length) = _
    rw [if_pos (by decide), List.length_append]
    show ((-1 : Int) + ((xs.length + 1 : Nat) : Int)).toNat = _
    omega
  rw [this]
  show ((xs ++ [x]).drop 0).take (xs.length - 0) = xs
  simp
theorem cut_rest {α : Type} {xs : List α} {x : α} : cutD (x :: xs) (some 1) none = xs := cut_from (xs := x :: xs) (k := 1) (by simp)
theorem cat0 {xs ys : List D} {S : Sto} {Q : AK} (hl : xs.length + ys.length ≤ sizeLine) (q : Q (.dat (.tup (xs ++ ys))) S) : aAdd0 (.tup xs) (.tup ys) S Q := by
  cases xs with
  | nil => exact q
  | cons a r => exact ⟨List.cons_ne_nil _ _, hl, q⟩
theorem catL {xs ys : List D} {S : Sto} {Q : AK} (hl : xs.length + ys.length ≤ sizeLine) (q : Q (.new (.lst (xs ++ ys))) S) : aAdd0 (.lst xs) (.lst ys) S Q := ⟨hl, q⟩
section
variable {P : Program} {w : World} {K : PySem.W.Frag} {mg : Str → Option Value} {base : Heap}
noncomputable def spJoin : AN := fun ds S Q => ∃ (U : List Str) (A B : Ln), ds = [lD A, lD B] ∧ LnU U A ∧ LnU U B ∧ U.length ≤ 20 ∧ A.st.length + B.st.length ≤ 1000 ∧ ∀ C, LnU U C → C.st.length = A.st.length + B.st.length → Q (.dat (lD C)) S
theorem d_Join (T : Txt K mg) (F : Src K mg "_law_join" PscJoin sJoin) : Def P w K mg base 1 "_law_join" PscJoin (conSp K spJoin) := by
  refine defA F scJoin (fun ds S Q h => ?_) (fun f cdv A outer s H E hr => ?_)
  · obtain ⟨U, A, B, rfl, _⟩ := h; rfl
  · refine ⟨_, (M.pss_cons (M.ps_set (i := 2) scJoin.nd rfl (Or.inl rfl) (M.pct M.o_tupleOf (by rfl) T.tuple (by decide +kernel) (M.pac (M.pe_sortSet rfl (by rfl) T.sorted (by rfl) T.set (M.pe_op M.o_add0 (M.pe_ix M.o_ix (M.pe_ix M.o_ix (M.pv 0) M.pe_int (fun _ _ => rfl)) (M.pe_un M.o_neg M.pe_int) (fun _ _ => rfl)) (M.pe_ix M.o_ix (M.pe_ix M.o_ix (M.pv 1) M.pe_int (fun _ _ => rfl)) M.pe_int (fun _ _ => rfl)))) M.pa_nil)))
      (M.pss_one (M.ps_ret (M.pe_tup (M.pac (M.pe_op M.o_add0 (M.pe_op M.o_add0 (M.pe_slice M.o_slc (M.pe_ix M.o_ix (M.pv 0) M.pe_int (fun _ _ => rfl)) M.po_none (M.po_some (M.pe_un M.o_neg M.pe_int))) (M.pe_lst (M.pac (M.pv 2) M.pa_nil))) (M.pe_slice M.o_slc (M.pe_ix M.o_ix (M.pv 1) M.pe_int (fun _ _ => rfl)) (M.po_some M.pe_int) M.po_none)) (M.pac (M.pe_op M.o_add0 (M.pe_ix M.o_ix (M.pv 0) M.pe_int (fun _ _ => rfl)) (M.pe_ix M.o_ix (M.pv 1) M.pe_int (fun _ _ => rfl))) M.pa_nil)))))), fun ds S Q h => ?_⟩
    obtain ⟨U, A, B, rfl, hA, hB, hU, hl, q⟩ := h
    have e0 : startA NscJoin [lD A, lD B] = [some (lD A), some (lD B), none] := rfl
    rw [e0]
    obtain ⟨ams, ast⟩ := A
    obtain ⟨bms, bst⟩ := B
    have hAl : ams.length = ast.length + 1 := hA.len
    have hBl : bms.length = bst.length + 1 := hB.len
    obtain ⟨a0, x, rfl⟩ : ∃ a0 x, ams = a0 ++ [x] := by
      rcases List.eq_nil_or_concat ams with h | ⟨a, x, h⟩
      · rw [h] at hAl; cases hAl
      · exact ⟨a, x, by rw [h, List.concat_eq_append]⟩
    obtain ⟨y, b0, rfl⟩ : ∃ y b0, bms = y :: b0 := by
      cases bms with
      | nil => cases hBl
      | cons y b => exact ⟨y, b, rfl⟩
    have hx := hA.ms x (by simp)
    have hy := hB.ms y (by simp)
    have hAl : a0.length = ast.length := by simpa using hAl
    have hBl : b0.length = bst.length := by simpa using hBl
    simp only [lD, ix_tup, at0, at1, List.map_append, List.map_cons, List.map_nil, aRet, aRetN, aAndV, aOrV, aNotV, aCall, aCons, aNil, aVar, aC, aOp, aUn, aB, aTru, aIf, aSeq, aIfS, aNot, aAnd, aOr, aAsg, agName, aNext, aChain, aSl, aPart, aNoPart, aDrop, aTup, aLst, rd_dat, rd_new, mod_lst, le_int', lt_int', aI_int, add_int', add_lst', eq_int', eq_str', tru_bl, tru_lst, tru_tup, true_and, aIsi, aLen, see_int', see_str', see_bl', see_non', see_tup', see_lst', see_stc', see_scr', List.getElem?_cons_zero, List.getElem?_cons_succ, List.set_cons_zero, List.set_cons_succ, Option.some.injEq, exists_eq_left', List.cons.injEq, and_true, D.ty.injEq, D.bl.injEq, D.int.injEq, D.str.injEq, and_assoc, exists_and_left, exists_eq_left, exists_and_right, ret_bl, ret_int, Bool.false_eq_true, if_true, if_false, Bool.not_true, Bool.not_false, ix_lst, at_last, Option.some.injEq, exists_eq_left']
    simp only [aSortSet, lD, ix_tup, at0, at1, aRet, aRetN, aAndV, aOrV, aNotV, aCall, aCons, aNil, aVar, aC, aOp, aUn, aB, aTru, aIf, aSeq, aIfS, aNot, aAnd, aOr, aAsg, agName, aNext, aChain, aSl, aPart, aNoPart, aDrop, aTup, aLst, rd_dat, rd_new, mod_lst, le_int', lt_int', aI_int, add_int', add_lst', eq_int', eq_str', tru_bl, tru_lst, tru_tup, true_and, aIsi, aLen, see_int', see_str', see_bl', see_non', see_tup', see_lst', see_stc', see_scr', List.getElem?_cons_zero, List.getElem?_cons_succ, List.set_cons_zero, List.set_cons_succ, Option.some.injEq, exists_eq_left', List.cons.injEq, and_true, D.ty.injEq, D.bl.injEq, D.int.injEq, D.str.injEq, and_assoc, exists_and_left, exists_eq_left, exists_and_right, ret_bl, ret_int, Bool.false_eq_true, if_true, if_false, Bool.not_true, Bool.not_false, ix_lst, at_last, Option.some.injEq, exists_eq_left']
    refine cat0 (by rw [List.length_map, List.length_map, sizeLine_eq]; omega) ⟨x ++ y, .inl (by rw [List.map_append]; rfl), by rw [List.length_append]; omega, fun ss n1 n2 n3 => ?_⟩
    have hss : ∀ z ∈ ss, z ∈ U := fun z hz => by
      rcases List.mem_append.mp ((n2 z).mp hz) with h | h
      · exact hx.2 z h
      · exact hy.2 z h
    have hsl := nodup_len U ss n1 hss
    have hl : ast.length + bst.length ≤ 1000 := hl
    simp only [aTupleOf, aSlc, aRet, aRetN, aAndV, aOrV, aNotV, aCall, aCons, aNil, aVar, aC, aOp, aUn, aB, aTru, aIf, aSeq, aIfS, aNot, aAnd, aOr, aAsg, agName, aNext, aChain, aSl, aPart, aNoPart, aDrop, aTup, aLst, rd_dat, rd_new, mod_lst, le_int', lt_int', aI_int, add_int', add_lst', eq_int', eq_str', tru_bl, tru_lst, tru_tup, true_and, aIsi, aLen, see_int', see_str', see_bl', see_non', see_tup', see_lst', see_stc', see_scr', List.getElem?_cons_zero, List.getElem?_cons_succ, List.set_cons_zero, List.set_cons_succ, Option.some.injEq, exists_eq_left', List.cons.injEq, and_true, D.ty.injEq, D.bl.injEq, D.int.injEq, D.str.injEq, and_assoc, exists_and_left, exists_eq_left, exists_and_right, ret_bl, ret_int, Bool.false_eq_true, if_true, if_false, Bool.not_true, Bool.not_false, cut_init, cut_rest]
    refine ⟨sz rfl, catL (by rw [List.length_map, sizeLine_eq]; show _ + 1 ≤ _; omega) (catL (by rw [List.length_append, List.length_map, List.length_map, sizeLine_eq]; show _ + 1 + _ ≤ _; omega) (catL (by rw [List.length_map, List.length_map, sizeLine_eq]; omega) ⟨sz rfl, ?_⟩))⟩
    have e1 : D.tup [.lst (a0.map mD ++ [.tup (ss.map D.str)] ++ b0.map mD), .lst (ast.map sD ++ bst.map sD)] = lD ⟨a0 ++ [ss] ++ b0, ast ++ bst⟩ := by
      simp only [lD, List.map_append]; rfl
    show M.ret S S (.dat (.tup [.lst (a0.map mD ++ [.tup (ss.map D.str)] ++ b0.map mD), .lst (ast.map sD ++ bst.map sD)])) Q
    rw [e1]
    refine ret_pur (pur_lD _) (q _ ⟨?_, fun m hm => ?_, fun s hs => ?_⟩ (by simp))
    · show (a0 ++ [ss] ++ b0).length = (ast ++ bst).length + 1
      simp only [List.length_append, List.length_singleton]; omega
    · rcases List.mem_append.mp hm with hm | hm
      · rcases List.mem_append.mp hm with hm | hm
        · exact hA.ms m (List.mem_append_left _ hm)
        · rw [List.mem_singleton.mp hm]; exact ⟨by omega, hss⟩
      · exact hB.ms m (List.mem_cons_of_mem _ hm)
    · rcases List.mem_append.mp hs with hs | hs
      · exact hA.st s hs
      · exact hB.st s hs
noncomputable def spBack : AN := fun ds S Q => ∃ L : Ln, ds = [lD L] ∧ L.ms.length ≤ 1000 ∧ L.st.length ≤ 1000 ∧ Q (.dat (lD L.rev)) S
theorem d_Back (T : Txt K mg) (F : Src K mg "_law_back" PscBack sBack) : Def P w K mg base 1 "_law_back" PscBack (conSp K spBack) := by
  refine defA F scBack (fun ds S Q h => ?_) (fun f cdv A outer s H E hr => ?_)
  · obtain ⟨L, rfl, _⟩ := h; rfl
  · refine ⟨_, (M.pss_cons (M.ps_set (i := 1) scBack.nd rfl (Or.inr rfl) (M.pe_disp (M.pps_cons M.pe_str (M.pps_cons M.pe_str M.pps_nil))))
      (M.pss_one (M.ps_ret (M.pe_tup (M.pac (M.pe_revL (M.pe_ix M.o_ix (M.pv 0) M.pe_int (fun _ _ => rfl))) (M.pac (M.pe_comp (N := ["_law_side", "_law_word", "_law_other"]) (caps := [none, none, some 1]) (bs_mk (by decide +kernel)) (by rfl) (by rfl) rfl (M.pi_any (M.pe_revL (M.pe_ix M.o_ix (M.pv 0) M.pe_int (fun _ _ => rfl)))) (fun _ _ _ _ => (M.pg_tup (n := 2) rfl (M.pgs_cons (M.pg_name (i := 0) (by decide +kernel : List.Nodup (["_law_side", "_law_word", "_law_other"] : List Str)) rfl (Or.inl rfl)) (M.pgs_cons (M.pg_name (i := 1) (by decide +kernel : List.Nodup (["_law_side", "_law_word", "_law_other"] : List Str)) rfl (Or.inl rfl)) M.pgs_nil)))) (fun _ _ _ _ => M.pts_nil) (fun _ _ _ _ => (M.pe_tup (M.pac (M.pe_dget (hu_of hr) (M.pv 2) (M.pv 0) (fun _ _ => rfl)) (M.pac (M.pv 1) M.pa_nil))))) M.pa_nil)))))), fun ds S Q h => ?_⟩
    obtain ⟨L, rfl, h1, h2, q⟩ := h
    have e0 : startA NscBack [lD L] = [some (lD L), none] := rfl
    rw [e0]
    simp only [lD, ix_tup, at0, at1, aRet, aRetN, aAndV, aOrV, aNotV, aCall, aCons, aNil, aVar, aC, aOp, aUn, aB, aTru, aIf, aSeq, aIfS, aNot, aAnd, aOr, aAsg, agName, aNext, aChain, aSl, aPart, aNoPart, aDrop, aTup, aLst, rd_dat, rd_new, mod_lst, le_int', lt_int', aI_int, add_int', add_lst', eq_int', eq_str', tru_bl, tru_lst, tru_tup, true_and, aIsi, aLen, see_int', see_str', see_bl', see_non', see_tup', see_lst', see_stc', see_scr', List.getElem?_cons_zero, List.getElem?_cons_succ, List.set_cons_zero, List.set_cons_succ, Option.some.injEq, exists_eq_left', List.cons.injEq, and_true, D.ty.injEq, D.bl.injEq, D.int.injEq, D.str.injEq, and_assoc, exists_and_left, exists_eq_left, exists_and_right, ret_bl, ret_int, Bool.false_eq_true, if_true, if_false, Bool.not_true, Bool.not_false, aDisp, aPairs, aRevL]
    have hx : (S ++ [some (MO.dct [] [])])[S.length]? = some (some (MO.dct [] [])) := by simp
    refine ⟨hx, _, rfl, ?_⟩
    have e1 : ∀ o : MO, List.set (S ++ [some (MO.dct [] [])]) S.length (some o) = S ++ [some o] := fun o => by
      rw [List.set_append_right _ _ (Nat.le_refl _), Nat.sub_self]; rfl
    rw [e1]
    generalize hS1 : S ++ [some (MO.dct (List.map Sum.inr ["on", "back"]) [D.str "back", D.str "on"])] = S1
    have hat : S1[S.length]? = some (some (MO.dct (List.map Sum.inr ["on", "back"]) [D.str "back", D.str "on"])) := by rw [← hS1]; simp
    have sd : see S1 (.loc S.length) = .dct (List.map Sum.inr ["on", "back"]) [D.str "back", D.str "on"] := by simp only [see, hat]; rfl
    simp only [aComp, iAny, aRevL, ix_tup, at1, aRet, aRetN, aAndV, aOrV, aNotV, aCall, aCons, aNil, aVar, aC, aOp, aUn, aB, aTru, aIf, aSeq, aIfS, aNot, aAnd, aOr, aAsg, agName, aNext, aChain, aSl, aPart, aNoPart, aDrop, aTup, aLst, rd_dat, rd_new, mod_lst, le_int', lt_int', aI_int, add_int', add_lst', eq_int', eq_str', tru_bl, tru_lst, tru_tup, true_and, aIsi, aLen, see_int', see_str', see_bl', see_non', see_tup', see_lst', see_stc', see_scr', List.getElem?_cons_zero, List.getElem?_cons_succ, List.set_cons_zero, List.set_cons_succ, Option.some.injEq, exists_eq_left', List.cons.injEq, and_true, D.ty.injEq, D.bl.injEq, D.int.injEq, D.str.injEq, and_assoc, exists_and_left, exists_eq_left, exists_and_right, ret_bl, ret_int, Bool.false_eq_true, if_true, if_false, Bool.not_true, Bool.not_false]
    refine ⟨_, rfl, ?_⟩
    rw [← List.map_reverse, ← List.map_reverse]
    refine comp_by (fun rest acc δ S' => ∃ (r1 r2 : List (Bool × Str)) (v0 v1 : Option D), rest = r2.map sD ∧ acc = (r1.map fl).map sD ∧ r1 ++ r2 = L.st.reverse ∧ S' = S1 ∧ δ = [v0, v1, some (.loc S.length)]) ?_ ?_ _ [] _ _ ⟨[], L.st.reverse, none, none, rfl, rfl, rfl, rfl, rfl⟩
    · rintro acc δ S' ⟨r1, r2, v0, v1, hr, rfl, he, rfl, rfl⟩
      have : r2 = [] := by cases r2 with
        | nil => rfl
        | cons _ _ => simp at hr
      subst this
      rw [List.append_nil] at he
      subst he
      refine ⟨trivial, sz rfl, ?_⟩
      show M.ret S S' (.dat (lD L.rev)) Q
      exact ⟨_, out_dat (pur_lD _), fun k o hk e => .inl (by rw [← hS1, List.getElem?_append_left hk] at e; exact e), by rw [← hS1, List.take_left]; exact q⟩
    · rintro x rest acc δ S' N' ⟨r1, r2, v0, v1, hr, rfl, he, rfl, rfl⟩ hN'
      cases r2 with
      | nil => simp at hr
      | cons r rs =>
        rw [List.map_cons] at hr
        injection hr with g1 g2
        subst g1; subst g2
        have hlen : r1.length ≤ L.st.length := by rw [← List.length_reverse (as := L.st), ← he, List.length_append]; omega
        obtain ⟨b, y⟩ := r
        refine ⟨trivial, _, rfl, rfl, _, _, rfl, _, _, rfl, rfl, ?_⟩
        simp only [aYes, aTup, aCons, aNil, aDGet, aVar, if_true, List.set_cons_zero, List.set_cons_succ, List.getElem?_cons_zero, List.getElem?_cons_succ, Option.some.injEq, exists_eq_left', rd_dat]
        refine ⟨_, _, _, .str (side (!b)), sd, rfl, by cases b <;> rfl, sz rfl, by rw [List.length_map, List.length_map, sizeLine_eq]; omega, hN' _ _ _ ⟨r1 ++ [(b, y)], rs, _, _, rfl, by simp [List.map_append, fl, sD], by rw [List.append_assoc]; exact he, rfl, rfl⟩⟩
end
end K63
set_option Elab.async false
set_option linter.all false
set_option maxRecDepth 100000
set_option maxHeartbeats 4000000
namespace K63
open PySem L2 M
noncomputable abbrev sGone : Stmt := top 33
noncomputable abbrev NscGone : List Str := ["_law_feed_here", "_law_pattern_here", "_law_words", "_law_marks", "_law_here", "_law_line_here", "_law_word", "_law_k", "_law_one"]
noncomputable abbrev PscGone : List Str := ["_law_feed_here", "_law_pattern_here", "_law_words", "_law_marks"]
theorem scGone : FnScope NscGone PscGone (defScope sGone) := ⟨rfl, rfl, rfl, by decide +kernel, rfl, by decide +kernel, by decide +kernel⟩
mutual
noncomputable def mks : Pt → List Str
  | .stay => []
  | .step _ _ => []
  | .mk _ m => [m]
  | .many p => mks p
  | .seq ps => mkss ps
  | .alt ps => mkss ps
noncomputable def mkss : List Pt → List Str
  | [] => []
  | p :: ps => mks p ++ mkss ps
end
theorem mkss_mem {y : Str} : ∀ {ps : List Pt}, y ∈ mkss ps ↔ ∃ p ∈ ps, y ∈ mks p
  | [] => by simp [mkss]
  | p :: ps => by simp [mkss, mkss_mem (ps := ps)]
mutual
theorem mks_bk : ∀ (p : Pt) (y : Str), y ∈ mks (bk p) → y ∈ mks p
  | .stay, y, h => h
  | .step b x, y, h => h
  | .mk b m, y, h => h
  | .many p, y, h => by simp only [bk, mks] at h ⊢; exact mks_bk p y h
  | .seq ps, y, h => by
    simp only [bk, mks] at h ⊢
    obtain ⟨p, hp, g⟩ := mkss_mem.mp h
    exact mkss_bk ps y (mkss_mem.mpr ⟨p, List.mem_reverse.mp hp, g⟩)
  | .alt ps, y, h => by
    simp only [bk, mks] at h ⊢
    obtain ⟨p, hp, g⟩ := mkss_mem.mp h
    exact mkss_bk ps y (mkss_mem.mpr ⟨p, List.mem_reverse.mp hp, g⟩)
theorem mkss_bk : ∀ (ps : List Pt) (y : Str), y ∈ mkss (bks ps) → y ∈ mkss ps
  | [], y, h => h
  | p :: ps, y, h => by
    simp only [bks, mkss, List.mem_append] at h ⊢
    rcases h with h | h
    · exact .inl (mks_bk p y h)
    · exact .inr (mkss_bk ps y h)
end
mutual
theorem mks_len : ∀ p, (mks p).length ≤ N p
  | .stay => Nat.zero_le _
  | .step b x => Nat.zero_le _
  | .mk b m => Nat.le_refl _
  | .many p => by have := mks_len p; simp only [mks, N]; omega
  | .seq ps => by have := mkss_len ps; simp only [mks, N]; omega
  | .alt ps => by have := mkss_len ps; simp only [mks, N]; omega
theorem mkss_len : ∀ ps, (mkss ps).length ≤ Ns ps
  | [] => Nat.le_refl _
  | p :: ps => by have := mks_len p; have := mkss_len ps; simp only [mkss, Ns, List.length_append]; omega
end
mutual
theorem mks_ok : ∀ p, Okp p → ∀ y ∈ mks p, Nm y
  | .stay, h, y, hy => by simp [mks] at hy
  | .step b x, h, y, hy => by simp [mks] at hy
  | .mk b m, h, y, hy => by simp only [mks, List.mem_singleton] at hy; subst hy; exact h
  | .many p, h, y, hy => by simp only [mks] at hy; exact mks_ok p h y hy
  | .seq ps, h, y, hy => by simp only [mks] at hy; exact mkss_ok ps h y hy
  | .alt ps, h, y, hy => by simp only [mks] at hy; exact mkss_ok ps h y hy
theorem mkss_ok : ∀ ps, Okps ps → ∀ y ∈ mkss ps, Nm y
  | [], h, y, hy => by simp [mkss] at hy
  | p :: ps, h, y, hy => by
    simp only [mkss, List.mem_append] at hy
    rcases hy with hy | hy
    · exact mks_ok p h.1 y hy
    · exact mkss_ok ps h.2 y hy
end
mutual
noncomputable def gs : Pt → Nat
  | .stay => 0
  | .step _ _ => 1
  | .mk _ _ => 0
  | .many p => 2 * gs p
  | .seq ps => gss ps
  | .alt ps => gss ps
noncomputable def gss : List Pt → Nat
  | [] => 0
  | p :: ps => gs p + gss ps
end
theorem gss_mem : ∀ {ps : List Pt} {q : Pt}, q ∈ ps → gs q ≤ gss ps
  | a :: r, q, hq => by
    rcases List.mem_cons.mp hq with rfl | hq
    · simp only [gss]; omega
    · have := gss_mem hq; simp only [gss]; omega
mutual
theorem gs_le : ∀ (p : Pt) (k : Nat), dp p ≤ k → gs p ≤ 2 ^ k * N p
  | .stay, k, h => Nat.zero_le _
  | .step b x, k, h => by
    simp only [gs, N]
    have : 0 < 2 ^ k := Nat.pow_pos (by decide)
    omega
  | .mk b m, k, h => Nat.zero_le _
  | .many p, k, h => by
    simp only [dp] at h
    obtain ⟨j, rfl⟩ : ∃ j, k = j + 1 := ⟨k - 1, by omega⟩
    have := gs_le p j (by omega)
    simp only [gs, N, Nat.pow_succ, Nat.mul_add]
    rw [Nat.mul_comm (2 ^ j) 2, Nat.mul_assoc]
    omega
  | .seq ps, k, h => by
    simp only [dp] at h
    have := gss_le ps k (by omega)
    simp only [gs, N, Nat.mul_add]
    omega
  | .alt ps, k, h => by
    simp only [dp] at h
    have := gss_le ps k (by omega)
    simp only [gs, N, Nat.mul_add]
    omega
theorem gss_le : ∀ (ps : List Pt) (k : Nat), dps ps ≤ k → gss ps ≤ 2 ^ k * Ns ps
  | [], k, h => Nat.zero_le _
  | p :: ps, k, h => by
    simp only [dps] at h
    have h1 := gs_le p k (by omega)
    have h2 := gss_le ps k (by omega)
    simp only [gss, Ns, Nat.mul_add]
    omega
end
theorem gs_128 {p : Pt} (h : dp p ≤ 4) (hn : N p ≤ 8) : gs p ≤ 128 := by
  have h1 := gs_le p 4 h
  have : 2 ^ 4 * N p = 16 * N p := rfl
  omega
noncomputable def gd : Nat → Nat
  | 0 => 10
  | k + 1 => 10 + 8 * gd k
theorem gd10 (k : Nat) : 10 ≤ gd k := by cases k <;> simp [gd]
theorem set_same {S : Sto} {p : Nat} {o : MO} (h : S[p]? = some (some o)) : S.set p (some o) = S := by
  have hl := lt_of_at h
  rw [List.getElem?_eq_getElem hl] at h
  have h : S[p] = some o := by simpa using h
  rw [← h]; simp
theorem some_marks {p : Nat} {S : Sto} {Q : List D → Sto → Prop} : ∀ (ms : List Str) {n : Nat} {o : MO} (hS : S[p]? = some (some o)) (ho : Fd n o) (hn : n + ms.length < 1000000000000) (hl : ms.length ≤ 7)
    (q : ∀ (ys : List Str) (o' : MO), ys.length ≤ ms.length → (∀ y ∈ ys, y ∈ ms) → Fd (n + ms.length) o' → Q (ys.map D.str) (S.set p (some o'))),
    compD (fun _ => True) (agName 0) (aB (aOp aEq (aCall spDraw (aCons (aVar 1) (aCons (aC (.int 2)) aNil))) (aC (.int 1)))) (aVar 0) (ms.map D.str) [] [none, some (.loc p)] S Q := by
  intro ms n o hS ho hn hl q
  refine comp_by (fun rest acc δ S' => ∃ (r1 r2 ys : List Str) (o2 : MO) (v : Option D), rest = r2.map D.str ∧ acc = ys.map D.str ∧ r1 ++ r2 = ms ∧ ys.length ≤ r1.length ∧ (∀ y ∈ ys, y ∈ r1) ∧ Fd (n + r1.length) o2 ∧ S' = S.set p (some o2) ∧ δ = [v, some (.loc p)]) ?_ ?_ _ [] _ _ ⟨[], ms, [], o, none, rfl, rfl, rfl, Nat.le_refl _, by simp, ho, (set_same hS).symm, rfl⟩
  · rintro acc δ S' ⟨r1, r2, ys, o2, v, hr, rfl, he, h1, h2, h3, rfl, rfl⟩
    have : r2 = [] := by cases r2 with
      | nil => rfl
      | cons _ _ => simp at hr
    subst this
    rw [List.append_nil] at he
    subst he
    exact ⟨trivial, q ys o2 h1 h2 h3⟩
  · rintro x rest acc δ S' N' ⟨r1, r2, ys, o2, v, hr, rfl, he, h1, h2, h3, rfl, rfl⟩ hN'
    cases r2 with
    | nil => simp at hr
    | cons r rs =>
      rw [List.map_cons] at hr
      injection hr with e1 e2
      subst e1; subst e2
      have hlen : r1.length + (rs.length + 1) = ms.length := by rw [← he, List.length_append]; rfl
      refine ⟨trivial, ?_⟩
      simp only [agName, aB, aOp, aVar, aCall, aCons, aNil, aC, List.set_cons_zero, List.getElem?_cons_zero, List.getElem?_cons_succ, Option.some.injEq, exists_eq_left', rd_dat]
      refine draw_of (o := o2) (set_at hS) h3 (by omega) (by decide) (by decide) fun z o3 hz ho3 => ?_
      rw [List.set_set]
      refine ⟨_, rfl, ite2 (fun h => ?_) (fun h => ?_)⟩
      · refine ⟨by rw [List.length_map, sizeLine_eq]; omega, hN' _ _ _ ⟨r1 ++ [r], rs, ys ++ [r], o3, _, rfl, by rw [List.map_append]; rfl, by rw [List.append_assoc]; exact he, by simp; omega, fun y hy => ?_, ho3.mono (by simp; omega), rfl, rfl⟩⟩
        rcases List.mem_append.mp hy with hy | hy
        · exact List.mem_append_left _ (h2 y hy)
        · exact List.mem_append_right _ hy
      · exact hN' _ _ _ ⟨r1 ++ [r], rs, ys, o3, _, rfl, rfl, by rw [List.append_assoc]; exact he, by simp; omega, fun y hy => List.mem_append_left _ (h2 y hy), ho3.mono (by simp; omega), rfl, rfl⟩
section
variable {P : Program} {w : World} {K : PySem.W.Frag} {mg : Str → Option Value} {base : Heap}
noncomputable def spGone (k : Nat) : AN := fun ds S Q => ∃ (U : List Str) (p n : Nat) (x : Pt) (ws ms : List Str) (o : MO), ds = [.loc p, tD x, .lst (ws.map D.str), .lst (ms.map D.str)] ∧ dp x ≤ k ∧ Okp x ∧ N x ≤ 8 ∧ (∀ y ∈ ws, Nm y) ∧ (∀ y ∈ ms, Nm y) ∧ ws.length ≤ 7 ∧ ms.length ≤ 7 ∧ U.length ≤ 20 ∧ (∀ y ∈ ms, y ∈ U) ∧ (∀ y ∈ mks x, y ∈ U) ∧ S[p]? = some (some o) ∧ Fd n o ∧ n + gd k < 1000000000000 ∧
  ∀ (L : Ln) (o' : MO), LnU U L → L.st.length ≤ gs x → Fd (n + gd k) o' → Q (.dat (lD L)) (S.set p (some o'))
theorem d_Gone0 (T : Txt K mg) (F : Src K mg "_law_gone" PscGone sGone) (D_law_draw : Def P w K mg base 1 "_law_draw" PscDraw (conSp K spDraw)) (D_law_join : Def P w K mg base 1 "_law_join" PscJoin (conSp K spJoin)) (k : Nat) (hk : k ≤ 4) (D_law_gone : Def P w K mg base (k + 2) "_law_gone" PscGone (conSp K (fun ds S Q => ∃ j, j + 1 = k ∧ spGone j ds S Q))) : Def P w K mg base (k + 3) "_law_gone" PscGone (conSp K (spGone k)) := by
  refine defA F scGone (fun ds S Q h => ?_) (fun f cdv A outer s H E hr => ?_)
  · obtain ⟨U, p, n, x, ws, ms, o, rfl, _⟩ := h; rfl
  · refine ⟨_, (M.pss_cons (M.ps_set (i := 4) scGone.nd rfl (Or.inl rfl) (M.pct M.o_tupleOf (by rfl) T.tuple (by decide +kernel) (M.pac (M.pe_comp (N := ["_law_mark", "_law_feed_here"]) (caps := [none, some 0]) (bs_mk (by decide +kernel)) (by rfl) (by rfl) rfl (M.pi_any (M.pv 3)) (fun _ _ _ _ => (M.pg_name (i := 0) (by decide +kernel : List.Nodup (["_law_mark", "_law_feed_here"] : List Str)) rfl (Or.inl rfl))) (fun _ _ _ _ => (M.pts_one (M.pt_cmpR (M.o_eq hr) (M.pe_own D_law_draw (hr.mono (by omega)) (by rfl) (M.pac (M.pv 1) (M.pac M.pe_int M.pa_nil))) M.pe_int (nomark _)))) (fun _ _ _ _ => (M.pv 0))) M.pa_nil)))
      (M.pss_cons (M.ps_set (i := 5) scGone.nd rfl (Or.inl rfl) (M.pe_tup (M.pac (M.pe_lst (M.pac (M.pv 4) M.pa_nil)) (M.pac (M.pe_lst M.pa_nil) M.pa_nil))))
      (M.pss_cons (M.ps_if (M.pt_cmpR (M.o_eq hr) (M.pe_ix M.o_ix (M.pv 1) M.pe_int (fun _ _ => rfl)) M.pe_str (nomark _))
        (M.pss_one (M.ps_ret (M.pe_tup (M.pac (M.pe_lst (M.pac (M.pe_tup (M.pac (M.pe_ix M.o_ix (M.pv 1) M.pe_int (fun _ _ => rfl)) M.pa_nil)) M.pa_nil)) (M.pac (M.pe_lst M.pa_nil) M.pa_nil)))))
        M.pss_nil)
      (M.pss_cons (M.ps_if (M.pt_cmpR (M.o_eq hr) (M.pe_ix M.o_ix (M.pv 1) M.pe_int (fun _ _ => rfl)) M.pe_str (nomark _))
        (M.pss_one (M.ps_ret (M.pe_tup (M.pac (M.pe_lst (M.pac (M.pe_tup M.pa_nil) M.pa_nil)) (M.pac (M.pe_lst M.pa_nil) M.pa_nil)))))
        M.pss_nil)
      (M.pss_cons (M.ps_if (M.pt_cmpR (M.o_eq hr) (M.pe_ix M.o_ix (M.pv 1) M.pe_int (fun _ _ => rfl)) M.pe_str (nomark _))
        (M.pss_cons (M.ps_set (i := 6) scGone.nd rfl (Or.inl rfl) (M.pe_ix M.o_ix (M.pv 1) M.pe_int (fun _ _ => rfl)))
        (M.pss_cons (M.ps_if (M.pt_cmpR (M.o_eq hr) (M.pv 6) M.pe_str (nomark _))
          (M.pss_one (M.ps_set (i := 6) scGone.nd rfl (Or.inl rfl) (M.pe_ix M.o_ix (M.pe_op M.o_add (M.pv 2) (M.pe_lst (M.pac M.pe_str M.pa_nil))) (M.pe_own D_law_draw (hr.mono (by omega)) (by rfl) (M.pac (M.pv 0) (M.pac (M.pe_op M.o_add (M.pcb M.o_len (by rfl) T.len (by decide +kernel) (M.pac (M.pv 2) M.pa_nil)) M.pe_int) M.pa_nil))) (fun _ _ => rfl))))
          M.pss_nil)
        (M.pss_one (M.ps_ret (M.pe_tup (M.pac (M.pe_lst (M.pac (M.pv 4) (M.pac (M.pe_tup M.pa_nil) M.pa_nil))) (M.pac (M.pe_lst (M.pac (M.pe_tup (M.pac (M.pe_ix M.o_ix (M.pv 1) M.pe_int (fun _ _ => rfl)) (M.pac (M.pv 6) M.pa_nil))) M.pa_nil)) M.pa_nil)))))))
        M.pss_nil)
      (M.pss_cons (M.ps_if (M.pt_cmpR (M.o_eq hr) (M.pe_ix M.o_ix (M.pv 1) M.pe_int (fun _ _ => rfl)) M.pe_str (nomark _))
        (M.pss_one (M.ps_for PassesOwn.never rfl (M.pi_range1 (by rfl) T.range (M.pac (M.pe_own D_law_draw (hr.mono (by omega)) (by rfl) (M.pac (M.pv 0) (M.pac M.pe_int M.pa_nil))) M.pa_nil)) (M.pg_name (i := 7) scGone.nd rfl (Or.inl rfl))
          (M.pss_one (M.ps_set (i := 5) scGone.nd rfl (Or.inl rfl) (M.pe_own D_law_join (hr.mono (by omega)) (by rfl) (M.pac (M.pv 5) (M.pac (M.pe_own D_law_gone (hr.mono (by omega)) (by rfl) (M.pac (M.pv 0) (M.pac (M.pe_ix M.o_ix (M.pv 1) M.pe_int (fun _ _ => rfl)) (M.pac (M.pv 2) (M.pac (M.pv 3) M.pa_nil))))) M.pa_nil)))))))
        M.pss_nil)
      (M.pss_cons (M.ps_if (M.pt_cmpR (M.o_eq hr) (M.pe_ix M.o_ix (M.pv 1) M.pe_int (fun _ _ => rfl)) M.pe_str (nomark _))
        (M.pss_one (M.ps_for PassesOwn.never rfl (M.pi_any (M.pe_ix M.o_ix (M.pv 1) M.pe_int (fun _ _ => rfl))) (M.pg_name (i := 8) scGone.nd rfl (Or.inl rfl))
          (M.pss_one (M.ps_set (i := 5) scGone.nd rfl (Or.inl rfl) (M.pe_own D_law_join (hr.mono (by omega)) (by rfl) (M.pac (M.pv 5) (M.pac (M.pe_own D_law_gone (hr.mono (by omega)) (by rfl) (M.pac (M.pv 0) (M.pac (M.pv 8) (M.pac (M.pv 2) (M.pac (M.pv 3) M.pa_nil))))) M.pa_nil)))))))
        M.pss_nil)
      (M.pss_cons (M.ps_if (M.pw_pt (M.pw_and (M.pt_cmpR (M.o_eq hr) (M.pe_ix M.o_ix (M.pv 1) M.pe_int (fun _ _ => rfl)) M.pe_str (nomark _)) (M.pw_and1 (M.pt_cmpR (M.o_ne hr) (M.pe_ix M.o_ix (M.pv 1) M.pe_int (fun _ _ => rfl)) (M.pe_tup M.pa_nil) (nomark _)))))
        (M.pss_one (M.ps_set (i := 5) scGone.nd rfl (Or.inl rfl) (M.pe_own D_law_gone (hr.mono (by omega)) (by rfl) (M.pac (M.pv 0) (M.pac (M.pe_ix M.o_ix (M.pe_ix M.o_ix (M.pv 1) M.pe_int (fun _ _ => rfl)) (M.pe_own D_law_draw (hr.mono (by omega)) (by rfl) (M.pac (M.pv 0) (M.pac (M.pcb M.o_len (by rfl) T.len (by decide +kernel) (M.pac (M.pe_ix M.o_ix (M.pv 1) M.pe_int (fun _ _ => rfl)) M.pa_nil)) M.pa_nil))) (fun _ _ => rfl)) (M.pac (M.pv 2) (M.pac (M.pv 3) M.pa_nil)))))))
        M.pss_nil)
      (M.pss_one (M.ps_ret (M.pv 5))))))))))), fun ds S Q h => ?_⟩
    obtain ⟨U, p, n, x, ws, ms, o, rfl, hd, ho, hN, hw, hm, lw, lm, hU, hmU, hxU, hS, hF, hn, q⟩ := h
    have e0 : startA NscGone [.loc p, tD x, .lst (ws.map D.str), .lst (ms.map D.str)] = [some (.loc p), some (tD x), some (.lst (ws.map D.str)), some (.lst (ms.map D.str)), none, none, none, none, none] := rfl
    rw [e0]
    have g10 := gd10 k
    simp only [aRet, aRetN, aAndV, aOrV, aNotV, aCall, aCons, aNil, aVar, aC, aOp, aUn, aB, aTru, aIf, aSeq, aIfS, aNot, aAnd, aOr, aAsg, agName, aNext, aChain, aSl, aPart, aNoPart, aDrop, aTup, aLst, rd_dat, rd_new, mod_lst, le_int', lt_int', aI_int, add_int', add_lst', eq_int', eq_str', tru_bl, tru_lst, tru_tup, true_and, aIsi, aLen, see_int', see_str', see_bl', see_non', see_tup', see_lst', see_stc', see_scr', List.getElem?_cons_zero, List.getElem?_cons_succ, List.set_cons_zero, List.set_cons_succ, Option.some.injEq, exists_eq_left', List.cons.injEq, and_true, D.ty.injEq, D.bl.injEq, D.int.injEq, D.str.injEq, and_assoc, exists_and_left, exists_eq_left, exists_and_right, ret_bl, ret_int, Bool.false_eq_true, if_true, if_false, Bool.not_true, Bool.not_false, aTupleOf, aComp, iAny, iAnyD]
    refine some_marks ms hS hF (by omega) lm fun ys o1 y1 y2 ho1 => ?_
    have hS1 := set_at (o' := o1) hS
    have lys : ys.length ≤ 20 := by omega
    have l0 : LnU U ⟨[ys], []⟩ := ⟨rfl, fun m hm => by rw [List.mem_singleton.mp hm]; exact ⟨lys, fun y hy => hmU y (y2 y hy)⟩, fun s hs => by simp at hs⟩
    have fin : ∀ (L : Ln) (o2 : MO), LnU U L → L.st.length ≤ gs x → Fd (n + gd k) o2 → M.ret S (S.set p (some o2)) (.dat (lD L)) Q := fun L o2 h1 h2 h3 => ret_setF (pur_lD L) h3 (q L o2 h1 h2 h3)
    have ho1' : Fd (n + gd k) o1 := ho1.mono (by omega)
    refine ⟨sz rfl, sz rfl, sz rfl, ?_⟩
    cases x with
    | stay =>
      simp only [tD, ix_tup, at0, at1, at2, aRet, aRetN, aAndV, aOrV, aNotV, aCall, aCons, aNil, aVar, aC, aOp, aUn, aB, aTru, aIf, aSeq, aIfS, aNot, aAnd, aOr, aAsg, agName, aNext, aChain, aSl, aPart, aNoPart, aDrop, aTup, aLst, rd_dat, rd_new, mod_lst, le_int', lt_int', aI_int, add_int', add_lst', eq_int', eq_str', tru_bl, tru_lst, tru_tup, true_and, aIsi, aLen, see_int', see_str', see_bl', see_non', see_tup', see_lst', see_stc', see_scr', List.getElem?_cons_zero, List.getElem?_cons_succ, List.set_cons_zero, List.set_cons_succ, Option.some.injEq, exists_eq_left', List.cons.injEq, and_true, D.ty.injEq, D.bl.injEq, D.int.injEq, D.str.injEq, and_assoc, exists_and_left, exists_eq_left, exists_and_right, ret_bl, ret_int, Bool.false_eq_true, if_true, if_false, Bool.not_true, Bool.not_false]
      rw [if_neg (by decide), if_neg (by decide), if_neg (by decide), if_neg (by decide), if_neg (by decide), if_neg (by decide)]
      exact fin ⟨[ys], []⟩ o1 l0 (Nat.zero_le _) ho1'
    | step b w =>
      simp only [tD, ix_tup, at0, at1, at2, aRet, aRetN, aAndV, aOrV, aNotV, aCall, aCons, aNil, aVar, aC, aOp, aUn, aB, aTru, aIf, aSeq, aIfS, aNot, aAnd, aOr, aAsg, agName, aNext, aChain, aSl, aPart, aNoPart, aDrop, aTup, aLst, rd_dat, rd_new, mod_lst, le_int', lt_int', aI_int, add_int', add_lst', eq_int', eq_str', tru_bl, tru_lst, tru_tup, true_and, aIsi, aLen, see_int', see_str', see_bl', see_non', see_tup', see_lst', see_stc', see_scr', List.getElem?_cons_zero, List.getElem?_cons_succ, List.set_cons_zero, List.set_cons_succ, Option.some.injEq, exists_eq_left', List.cons.injEq, and_true, D.ty.injEq, D.bl.injEq, D.int.injEq, D.str.injEq, and_assoc, exists_and_left, exists_eq_left, exists_and_right, ret_bl, ret_int, Bool.false_eq_true, if_true, if_false, Bool.not_true, Bool.not_false]
      rw [if_neg (by decide), if_neg (by decide), if_pos (by decide)]
      have last : ∀ (v : Str) (o2 : MO), okS v = true → Fd (n + gd k) o2 → M.ret S (S.set p (some o2)) (.dat (.tup [.lst [.tup (ys.map D.str), .tup []], .lst [.tup [.str (side b), .str v]]])) Q := fun v o2 hv h2 =>
        fin ⟨[ys, []], [(b, v)]⟩ o2 ⟨rfl, fun m hm => by
          simp only [List.mem_cons, List.not_mem_nil, or_false] at hm
          rcases hm with rfl | rfl
          · exact ⟨lys, fun y hy => hmU y (y2 y hy)⟩
          · exact ⟨by simp, by simp⟩, fun s hs => by rw [List.mem_singleton.mp hs]; exact hv⟩ (Nat.le_refl 1) h2
      refine ite2 (fun h => ?_) (fun h => ?_)
      · refine ⟨sz rfl, by rw [List.length_map, sizeLine_eq]; show _ + 1 ≤ _; omega, ws.length, by simp [lenD], ?_⟩
        refine draw_of hS1 ho1 (by omega) (by omega) (by omega) fun z o2 hz ho2 => ?_
        rw [List.set_set]
        refine pick (by rw [List.length_append, List.length_map]; show z < ws.length + 1; omega) fun e he => ?_
        obtain ⟨v, rfl, hv⟩ : ∃ v, e = .str v ∧ okS v = true := by
          rcases List.mem_append.mp he with he | he
          · obtain ⟨v, hv, rfl⟩ := List.mem_map.mp he
            exact ⟨v, rfl, nm_ok (hw v hv)⟩
          · exact ⟨_, List.mem_singleton.mp he, by decide +kernel⟩
        simp only [ix_tup, at0, at1, at2, aRet, aRetN, aAndV, aOrV, aNotV, aCall, aCons, aNil, aVar, aC, aOp, aUn, aB, aTru, aIf, aSeq, aIfS, aNot, aAnd, aOr, aAsg, agName, aNext, aChain, aSl, aPart, aNoPart, aDrop, aTup, aLst, rd_dat, rd_new, mod_lst, le_int', lt_int', aI_int, add_int', add_lst', eq_int', eq_str', tru_bl, tru_lst, tru_tup, true_and, aIsi, aLen, see_int', see_str', see_bl', see_non', see_tup', see_lst', see_stc', see_scr', List.getElem?_cons_zero, List.getElem?_cons_succ, List.set_cons_zero, List.set_cons_succ, Option.some.injEq, exists_eq_left', List.cons.injEq, and_true, D.ty.injEq, D.bl.injEq, D.int.injEq, D.str.injEq, and_assoc, exists_and_left, exists_eq_left, exists_and_right, ret_bl, ret_int, Bool.false_eq_true, if_true, if_false, Bool.not_true, Bool.not_false]
        exact ⟨sz rfl, sz rfl, sz rfl, sz rfl, sz rfl, last v o2 hv (ho2.mono (by omega))⟩
      · exact ⟨sz rfl, sz rfl, sz rfl, sz rfl, sz rfl, last w o1 (wd_ok ho) ho1'⟩
    | mk b m =>
      simp only [tD, ix_tup, at0, at1, at2, aRet, aRetN, aAndV, aOrV, aNotV, aCall, aCons, aNil, aVar, aC, aOp, aUn, aB, aTru, aIf, aSeq, aIfS, aNot, aAnd, aOr, aAsg, agName, aNext, aChain, aSl, aPart, aNoPart, aDrop, aTup, aLst, rd_dat, rd_new, mod_lst, le_int', lt_int', aI_int, add_int', add_lst', eq_int', eq_str', tru_bl, tru_lst, tru_tup, true_and, aIsi, aLen, see_int', see_str', see_bl', see_non', see_tup', see_lst', see_stc', see_scr', List.getElem?_cons_zero, List.getElem?_cons_succ, List.set_cons_zero, List.set_cons_succ, Option.some.injEq, exists_eq_left', List.cons.injEq, and_true, D.ty.injEq, D.bl.injEq, D.int.injEq, D.str.injEq, and_assoc, exists_and_left, exists_eq_left, exists_and_right, ret_bl, ret_int, Bool.false_eq_true, if_true, if_false, Bool.not_true, Bool.not_false]
      have hmm := hxU m (by simp [mks])
      cases b
      · rw [if_neg (by decide), if_pos (by decide)]
        exact ⟨sz rfl, sz rfl, sz rfl, sz rfl, fin ⟨[[]], []⟩ o1 ⟨rfl, fun m hm => by rw [List.mem_singleton.mp hm]; exact ⟨by simp, by simp⟩, fun s hs => by simp at hs⟩ (Nat.zero_le _) ho1'⟩
      · rw [if_pos (by decide)]
        exact ⟨sz rfl, sz rfl, sz rfl, sz rfl, fin ⟨[[m]], []⟩ o1 ⟨rfl, fun m' hm => by rw [List.mem_singleton.mp hm]; exact ⟨by simp, fun y hy => by rw [List.mem_singleton.mp hy]; exact hmm⟩, fun s hs => by simp at hs⟩ (Nat.zero_le _) ho1'⟩
    | many x =>
      obtain ⟨j, rfl⟩ : ∃ j, k = j + 1 := ⟨k - 1, by simp only [dp] at hd; omega⟩
      have hgs := gs_128 (p := .many x) (by omega) hN
      simp only [dp] at hd
      simp only [N] at hN
      simp only [gs] at hgs
      have hxU : ∀ y ∈ mks x, y ∈ U := hxU
      have ed : gd (j + 1) = 10 + 8 * gd j := rfl
      rw [ed] at hn
      simp only [tD, ix_tup, at0, at1, at2, aRet, aRetN, aAndV, aOrV, aNotV, aCall, aCons, aNil, aVar, aC, aOp, aUn, aB, aTru, aIf, aSeq, aIfS, aNot, aAnd, aOr, aAsg, agName, aNext, aChain, aSl, aPart, aNoPart, aDrop, aTup, aLst, rd_dat, rd_new, mod_lst, le_int', lt_int', aI_int, add_int', add_lst', eq_int', eq_str', tru_bl, tru_lst, tru_tup, true_and, aIsi, aLen, see_int', see_str', see_bl', see_non', see_tup', see_lst', see_stc', see_scr', List.getElem?_cons_zero, List.getElem?_cons_succ, List.set_cons_zero, List.set_cons_succ, Option.some.injEq, exists_eq_left', List.cons.injEq, and_true, D.ty.injEq, D.bl.injEq, D.int.injEq, D.str.injEq, and_assoc, exists_and_left, exists_eq_left, exists_and_right, ret_bl, ret_int, Bool.false_eq_true, if_true, if_false, Bool.not_true, Bool.not_false, aFor, iRng]
      rw [if_neg (by decide), if_neg (by decide), if_neg (by decide), if_pos (by decide)]
      refine draw_of hS1 ho1 (by omega) (by decide) (by decide) fun z o2 hz ho2 => ?_
      rw [List.set_set]
      have hz : z ≤ 2 := by omega
      have hzd : z * gd j ≤ 2 * gd j := Nat.mul_le_mul_right _ hz
      have hzg : z * gs x ≤ 2 * gs x := Nat.mul_le_mul_right _ hz
      refine ⟨(z : Int), rfl, by omega, by omega, ?_⟩
      refine loop_by (fun rest δ S' => ∃ (n2 : Nat) (o3 : MO) (L : Ln) (v7 : Option D), δ = [some (.loc p), some (.tup [.str "many", tD x]), some (.lst (ws.map D.str)), some (.lst (ms.map D.str)), some (.tup (ys.map D.str)), some (lD L), none, v7, none] ∧
          S' = S.set p (some o3) ∧ Fd n2 o3 ∧ n2 + rest.length * gd j ≤ n + 8 + z * gd j ∧ LnU U L ∧ L.st.length + rest.length * gs x ≤ z * gs x) ?_ ?_ _ _ _
        ⟨n + ms.length + 1, o2, ⟨[ys], []⟩, none, rfl, rfl, ho2, by simp [iRngD]; omega, l0, by simp [iRngD]⟩
      · rintro δ S' ⟨n2, o3, L, v7, rfl, rfl, ho3, hn2, hL, hl⟩
        refine ⟨trivial, ?_⟩
        simp only [ix_tup, at0, at1, aRet, aRetN, aAndV, aOrV, aNotV, aCall, aCons, aNil, aVar, aC, aOp, aUn, aB, aTru, aIf, aSeq, aIfS, aNot, aAnd, aOr, aAsg, agName, aNext, aChain, aSl, aPart, aNoPart, aDrop, aTup, aLst, rd_dat, rd_new, mod_lst, le_int', lt_int', aI_int, add_int', add_lst', eq_int', eq_str', tru_bl, tru_lst, tru_tup, true_and, aIsi, aLen, see_int', see_str', see_bl', see_non', see_tup', see_lst', see_stc', see_scr', List.getElem?_cons_zero, List.getElem?_cons_succ, List.set_cons_zero, List.set_cons_succ, Option.some.injEq, exists_eq_left', List.cons.injEq, and_true, D.ty.injEq, D.bl.injEq, D.int.injEq, D.str.injEq, and_assoc, exists_and_left, exists_eq_left, exists_and_right, ret_bl, ret_int, Bool.false_eq_true, if_true, if_false, Bool.not_true, Bool.not_false]
        rw [if_neg (by decide), if_neg (by decide)]
        simp only [List.length_nil, Nat.zero_mul, Nat.add_zero] at hn2 hl
        exact fin L o3 hL (by simp only [gs]; omega) (ho3.mono (by rw [ed]; omega))
      · rintro t rest δ S' N' ⟨n2, o3, L, v7, rfl, rfl, ho3, hn2, hL, hl⟩ hN'
        have e1 : (rest.length + 1) * gd j = rest.length * gd j + gd j := by rw [Nat.add_mul, Nat.one_mul]
        have e2 : (rest.length + 1) * gs x = rest.length * gs x + gs x := by rw [Nat.add_mul, Nat.one_mul]
        simp only [List.length_cons, e1, e2] at hn2 hl
        refine ⟨trivial, ?_⟩
        simp only [ix_tup, at0, at1, aRet, aRetN, aAndV, aOrV, aNotV, aCall, aCons, aNil, aVar, aC, aOp, aUn, aB, aTru, aIf, aSeq, aIfS, aNot, aAnd, aOr, aAsg, agName, aNext, aChain, aSl, aPart, aNoPart, aDrop, aTup, aLst, rd_dat, rd_new, mod_lst, le_int', lt_int', aI_int, add_int', add_lst', eq_int', eq_str', tru_bl, tru_lst, tru_tup, true_and, aIsi, aLen, see_int', see_str', see_bl', see_non', see_tup', see_lst', see_stc', see_scr', List.getElem?_cons_zero, List.getElem?_cons_succ, List.set_cons_zero, List.set_cons_succ, Option.some.injEq, exists_eq_left', List.cons.injEq, and_true, D.ty.injEq, D.bl.injEq, D.int.injEq, D.str.injEq, and_assoc, exists_and_left, exists_eq_left, exists_and_right, ret_bl, ret_int, Bool.false_eq_true, if_true, if_false, Bool.not_true, Bool.not_false]
        refine ⟨j, rfl, U, p, n2, x, ws, ms, o3, rfl, by omega, ho, by omega, hw, hm, lw, lm, hU, hmU, hxU, set_at hS, ho3, by omega, fun L2 o4 hL2 hl2 ho4 => ?_⟩
        rw [List.set_set]
        refine ⟨U, L, L2, rfl, hL, hL2, hU, by omega, fun C hC hCl => hN' _ _ ⟨n2 + gd j, o4, C, _, rfl, rfl, ho4, by omega, hC, by omega⟩⟩
    | seq ps =>
      obtain ⟨j, rfl⟩ : ∃ j, k = j + 1 := ⟨k - 1, by simp only [dp] at hd; omega⟩
      have hgs := gs_128 (p := .seq ps) (by omega) hN
      simp only [dp] at hd
      simp only [N] at hN
      simp only [gs] at hgs
      have hxU : ∀ y ∈ mkss ps, y ∈ U := hxU
      have hpl := Ns_len ps
      have ed : gd (j + 1) = 10 + 8 * gd j := rfl
      rw [ed] at hn
      simp only [tD, ix_tup, at0, at1, at2, aRet, aRetN, aAndV, aOrV, aNotV, aCall, aCons, aNil, aVar, aC, aOp, aUn, aB, aTru, aIf, aSeq, aIfS, aNot, aAnd, aOr, aAsg, agName, aNext, aChain, aSl, aPart, aNoPart, aDrop, aTup, aLst, rd_dat, rd_new, mod_lst, le_int', lt_int', aI_int, add_int', add_lst', eq_int', eq_str', tru_bl, tru_lst, tru_tup, true_and, aIsi, aLen, see_int', see_str', see_bl', see_non', see_tup', see_lst', see_stc', see_scr', List.getElem?_cons_zero, List.getElem?_cons_succ, List.set_cons_zero, List.set_cons_succ, Option.some.injEq, exists_eq_left', List.cons.injEq, and_true, D.ty.injEq, D.bl.injEq, D.int.injEq, D.str.injEq, and_assoc, exists_and_left, exists_eq_left, exists_and_right, ret_bl, ret_int, Bool.false_eq_true, if_true, if_false, Bool.not_true, Bool.not_false, aFor, iAny, iAnyD]
      rw [if_neg (by decide), if_neg (by decide), if_neg (by decide), if_neg (by decide), if_pos (by decide)]
      have hzd : ps.length * gd j ≤ 7 * gd j := Nat.mul_le_mul_right _ (by omega)
      refine loop_by (fun rest δ S' => ∃ (qs rs : List Pt) (n2 : Nat) (o3 : MO) (L : Ln) (v8 : Option D), rest = rs.map tD ∧ qs ++ rs = ps ∧ δ = [some (.loc p), some (.tup [.str "then", .tup (tDs ps)]), some (.lst (ws.map D.str)), some (.lst (ms.map D.str)), some (.tup (ys.map D.str)), some (lD L), none, none, v8] ∧
          S' = S.set p (some o3) ∧ Fd n2 o3 ∧ n2 + rs.length * gd j ≤ n + 7 + ps.length * gd j ∧ LnU U L ∧ L.st.length + gss rs ≤ gss ps) ?_ ?_ _ _ _
        ⟨[], ps, n + ms.length, o1, ⟨[ys], []⟩, none, tDs_map ps, rfl, rfl, rfl, ho1, by omega, l0, by simp⟩
      · rintro δ S' ⟨qs, rs, n2, o3, L, v8, hr, he, rfl, rfl, ho3, hn2, hL, hl⟩
        refine ⟨trivial, ?_⟩
        simp only [ix_tup, at0, at1, aRet, aRetN, aAndV, aOrV, aNotV, aCall, aCons, aNil, aVar, aC, aOp, aUn, aB, aTru, aIf, aSeq, aIfS, aNot, aAnd, aOr, aAsg, agName, aNext, aChain, aSl, aPart, aNoPart, aDrop, aTup, aLst, rd_dat, rd_new, mod_lst, le_int', lt_int', aI_int, add_int', add_lst', eq_int', eq_str', tru_bl, tru_lst, tru_tup, true_and, aIsi, aLen, see_int', see_str', see_bl', see_non', see_tup', see_lst', see_stc', see_scr', List.getElem?_cons_zero, List.getElem?_cons_succ, List.set_cons_zero, List.set_cons_succ, Option.some.injEq, exists_eq_left', List.cons.injEq, and_true, D.ty.injEq, D.bl.injEq, D.int.injEq, D.str.injEq, and_assoc, exists_and_left, exists_eq_left, exists_and_right, ret_bl, ret_int, Bool.false_eq_true, if_true, if_false, Bool.not_true, Bool.not_false]
        rw [if_neg (by decide)]
        exact fin L o3 hL (by simp only [gs]; omega) (ho3.mono (by rw [ed]; omega))
      · rintro t rest δ S' N' ⟨qs, rs, n2, o3, L, v8, hr, he, rfl, rfl, ho3, hn2, hL, hl⟩ hN'
        cases rs with
        | nil => simp at hr
        | cons r rs =>
          rw [List.map_cons] at hr
          injection hr with h1 h2
          subst h1; subst h2
          have hrm : r ∈ ps := by rw [← he]; simp
          have hnr := N_mem hrm
          have e1 : (rs.length + 1) * gd j = rs.length * gd j + gd j := by rw [Nat.add_mul, Nat.one_mul]
          simp only [List.length_cons, e1, gss] at hn2 hl
          refine ⟨trivial, ?_⟩
          simp only [ix_tup, at0, at1, aRet, aRetN, aAndV, aOrV, aNotV, aCall, aCons, aNil, aVar, aC, aOp, aUn, aB, aTru, aIf, aSeq, aIfS, aNot, aAnd, aOr, aAsg, agName, aNext, aChain, aSl, aPart, aNoPart, aDrop, aTup, aLst, rd_dat, rd_new, mod_lst, le_int', lt_int', aI_int, add_int', add_lst', eq_int', eq_str', tru_bl, tru_lst, tru_tup, true_and, aIsi, aLen, see_int', see_str', see_bl', see_non', see_tup', see_lst', see_stc', see_scr', List.getElem?_cons_zero, List.getElem?_cons_succ, List.set_cons_zero, List.set_cons_succ, Option.some.injEq, exists_eq_left', List.cons.injEq, and_true, D.ty.injEq, D.bl.injEq, D.int.injEq, D.str.injEq, and_assoc, exists_and_left, exists_eq_left, exists_and_right, ret_bl, ret_int, Bool.false_eq_true, if_true, if_false, Bool.not_true, Bool.not_false]
          refine ⟨j, rfl, U, p, n2, r, ws, ms, o3, rfl, by have := dps_mem hrm; omega, okps_mem.mp ho r hrm, by omega, hw, hm, lw, lm, hU, hmU, fun y hy => hxU y (mkss_mem.mpr ⟨r, hrm, hy⟩), set_at hS, ho3, by omega, fun L2 o4 hL2 hl2 ho4 => ?_⟩
          rw [List.set_set]
          refine ⟨U, L, L2, rfl, hL, hL2, hU, by omega, fun C hC hCl => hN' _ _ ⟨qs ++ [r], rs, n2 + gd j, o4, C, _, rfl, by rw [List.append_assoc]; exact he, rfl, rfl, ho4, by omega, hC, by omega⟩⟩
    | alt ps =>
      obtain ⟨j, rfl⟩ : ∃ j, k = j + 1 := ⟨k - 1, by simp only [dp] at hd; omega⟩
      have hth := th_tD (j + 1) (.alt ps) (by simp only [dp] at hd ⊢; omega) ho (by omega)
      simp only [dp] at hd
      simp only [N] at hN
      have hxU : ∀ y ∈ mkss ps, y ∈ U := hxU
      have hpl := Ns_len ps
      have ed : gd (j + 1) = 10 + 8 * gd j := rfl
      rw [ed] at hn
      simp only [tD, ix_tup, at0, at1, at2, aRet, aRetN, aAndV, aOrV, aNotV, aCall, aCons, aNil, aVar, aC, aOp, aUn, aB, aTru, aIf, aSeq, aIfS, aNot, aAnd, aOr, aAsg, agName, aNext, aChain, aSl, aPart, aNoPart, aDrop, aTup, aLst, rd_dat, rd_new, mod_lst, le_int', lt_int', aI_int, add_int', add_lst', eq_int', eq_str', tru_bl, tru_lst, tru_tup, true_and, aIsi, aLen, see_int', see_str', see_bl', see_non', see_tup', see_lst', see_stc', see_scr', List.getElem?_cons_zero, List.getElem?_cons_succ, List.set_cons_zero, List.set_cons_succ, Option.some.injEq, exists_eq_left', List.cons.injEq, and_true, D.ty.injEq, D.bl.injEq, D.int.injEq, D.str.injEq, and_assoc, exists_and_left, exists_eq_left, exists_and_right, ret_bl, ret_int, Bool.false_eq_true, if_true, if_false, Bool.not_true, Bool.not_false]
      rw [if_neg (by decide), if_neg (by decide), if_neg (by decide), if_neg (by decide), if_neg (by decide), if_pos (by decide)]
      have hth2 : thB (2 * (j + 1)) (.tup (tDs ps)) = true := by
        simp only [tD, thB, Bool.and_eq_true, List.all_eq_true] at hth
        exact hth.2 _ (by simp)
      refine ⟨sz rfl, ?_⟩
      show fit (.tup (tDs ps)) = true ∧ fit (.tup []) = true ∧ _
      refine ⟨th_fit hth2 (by omega), rfl, _, rfl, ite2 (fun hb => ?_) (fun hb => fin ⟨[ys], []⟩ o1 l0 (Nat.zero_le _) ho1')⟩
      have hpos : 0 < ps.length := by
        cases ps with
        | nil => exact absurd hb (by show ¬ ((!PyData.eqv (.tuple []) (.tuple [])) = true); decide)
        | cons a r => simp
      refine ⟨ps.length, by simp [lenD, tDs_map], ?_⟩
      refine draw_of hS1 ho1 (by omega) (by omega) (by omega) fun z o2 hz ho2 => ?_
      rw [List.set_set]
      refine pickT (by rw [tDs_map, List.length_map]; omega) fun e he => ?_
      rw [tDs_map] at he
      obtain ⟨r, hrm, rfl⟩ := List.mem_map.mp he
      have hnr := N_mem hrm
      refine ⟨j, rfl, U, p, n + ms.length + 1, r, ws, ms, o2, rfl, by have := dps_mem hrm; omega, okps_mem.mp ho r hrm, by omega, hw, hm, lw, lm, hU, hmU, fun y hy => hxU y (mkss_mem.mpr ⟨r, hrm, hy⟩), set_at hS, ho2, by omega, fun L o4 hL hl ho4 => ?_⟩
      rw [List.set_set]
      exact fin L o4 hL (by have := gss_mem hrm; simp only [gs]; omega) (ho4.mono (by rw [ed]; omega))
theorem d_noneG {k : Nat} {sp : AN} (F : Src K mg "_law_gone" PscGone sGone) (h : ∀ ds S Q, ¬ sp ds S Q) : Def P w K mg base (k + 1) "_law_gone" PscGone (conSp K sp) :=
  F.def scGone (fun vs H Q E z => by obtain ⟨_, _, _, _, _, _, q, _⟩ := z; exact (h _ _ _ q).elim) fun f cdv A outer s H vs Q E hr z => by obtain ⟨_, _, _, _, _, _, q, _⟩ := z; exact (h _ _ _ q).elim
theorem d_Gone (T : Txt K mg) (F : Src K mg "_law_gone" PscGone sGone) (D_law_draw : Def P w K mg base 1 "_law_draw" PscDraw (conSp K spDraw)) (D_law_join : Def P w K mg base 1 "_law_join" PscJoin (conSp K spJoin)) : ∀ k, k ≤ 4 → Def P w K mg base (k + 3) "_law_gone" PscGone (conSp K (spGone k))
  | 0, h => d_Gone0 T F D_law_draw D_law_join 0 h (d_noneG F fun ds S Q ⟨j, e, _⟩ => by omega)
  | k + 1, h => d_Gone0 T F D_law_draw D_law_join (k + 1) h ((d_Gone T F D_law_draw D_law_join k (by omega)).imp fun vs H Q E z => by
      obtain ⟨w, ds, S, Qa, ok, rep, ⟨j, e, q⟩, bk⟩ := z
      obtain rfl : j = k := by omega
      exact ⟨w, ds, S, Qa, ok, rep, q, bk⟩)
end
end K63
set_option Elab.async false
set_option linter.all false
set_option maxRecDepth 100000
set_option maxHeartbeats 4000000
namespace K63
open PySem L2 M
noncomputable abbrev sLine : Stmt := top 34
noncomputable abbrev NscLine : List Str := ["_law_feed_here", "_law_pattern_here", "_law_words", "_law_marks", "_law_line_here", "_law_k"]
noncomputable abbrev PscLine : List Str := ["_law_feed_here", "_law_pattern_here", "_law_words", "_law_marks"]
theorem scLine : FnScope NscLine PscLine (defScope sLine) := ⟨rfl, rfl, rfl, by decide +kernel, rfl, by decide +kernel, by decide +kernel⟩
noncomputable def TT (S : Sto) (p : Nat) (o : MO) (A B : List D) : Sto := S.set p (some o) ++ [some (.lst A), some (.lst B)]
section
variable {S : Sto} {p : Nat} {o o' : MO} {A B A' B' : List D}
theorem TTp (h : p < S.length) : (TT S p o A B)[p]? = some (some o) := by
  unfold TT
  rw [List.getElem?_append_left (by simpa using h), List.getElem?_set, if_pos rfl, if_pos h]
theorem TTa : (TT S p o A B)[S.length]? = some (some (.lst A)) := by
  unfold TT
  rw [List.getElem?_append_right (by simp)]; simp
theorem TTb : (TT S p o A B)[S.length + 1]? = some (some (.lst B)) := by
  unfold TT
  rw [List.getElem?_append_right (by simp)]; simp
theorem TTsp (h : p < S.length) : (TT S p o A B).set p (some o') = TT S p o' A B := by
  unfold TT
  rw [List.set_append_left _ _ (by simpa using h), List.set_set]
theorem TTsa : (TT S p o A B).set S.length (some (.lst A')) = TT S p o A' B := by
  unfold TT
  rw [List.set_append_right _ _ (by simp)]; simp
theorem TTsb : (TT S p o A B).set (S.length + 1) (some (.lst B')) = TT S p o A B' := by
  unfold TT
  rw [List.set_append_right _ _ (by simp)]; simp
end
section
variable {P : Program} {w : World} {K : PySem.W.Frag} {mg : Str → Option Value} {base : Heap}
noncomputable def spLine : AN := fun ds S Q => ∃ (U : List Str) (p n : Nat) (x : Pt) (ws ms : List Str) (o : MO), ds = [.loc p, tD x, .lst (ws.map D.str), .lst (ms.map D.str)] ∧ dp x ≤ 4 ∧ Okp x ∧ N x ≤ 8 ∧ (∀ y ∈ ws, Nm y) ∧ (∀ y ∈ ms, Nm y) ∧ ws.length ≤ 7 ∧ ms.length ≤ 7 ∧ U.length ≤ 20 ∧ (∀ y ∈ ms, y ∈ U) ∧ (∀ y ∈ mks x, y ∈ U) ∧ S[p]? = some (some o) ∧ Fd n o ∧ n + (gd 4 + 100) < 1000000000000 ∧
  ∀ (L : Ln) (o' : MO), LnU U L → L.st.length ≤ 11 → Fd (n + (gd 4 + 100)) o' → Q (.dat (lD L)) (S.set p (some o'))
theorem d_Line (T : Txt K mg) (F : Src K mg "_law_line" PscLine sLine) (D_law_draw : Def P w K mg base 1 "_law_draw" PscDraw (conSp K spDraw)) (D_law_gone : Def P w K mg base 7 "_law_gone" PscGone (conSp K (spGone 4))) : Def P w K mg base 8 "_law_line" PscLine (conSp K spLine) := by
  refine defA F scLine (fun ds S Q h => ?_) (fun f cdv A outer s H E hr => ?_)
  · obtain ⟨U, p, n, x, ws, ms, o, rfl, _⟩ := h; rfl
  · refine ⟨_, (M.pss_cons (M.ps_if (M.pt_cmpR M.o_gt (M.pe_own D_law_draw (hr.mono (by decide)) (by rfl) (M.pac (M.pv 0) (M.pac M.pe_int M.pa_nil))) M.pe_int (nomark _))
        (M.pss_cons (M.ps_set (i := 4) scLine.nd rfl (Or.inl rfl) (M.pe_own D_law_gone (hr.mono (by decide)) (by rfl) (M.pac (M.pv 0) (M.pac (M.pv 1) (M.pac (M.pv 2) (M.pac (M.pv 3) M.pa_nil))))))
        (M.pss_one (M.ps_if (M.pt_cmpR M.o_lt (M.pcb M.o_len (by rfl) T.len (by decide +kernel) (M.pac (M.pe_ix M.o_ix (M.pv 4) M.pe_int (fun _ _ => rfl)) M.pa_nil)) M.pe_int (nomark _))
          (M.pss_one (M.ps_ret (M.pv 4)))
          M.pss_nil)))
        M.pss_nil)
      (M.pss_cons (M.ps_set (i := 4) scLine.nd rfl (Or.inl rfl) (M.pe_tup (M.pac (M.alo (M.pe_lst (M.pac (M.pct M.o_tupleOf (by rfl) T.tuple (by decide +kernel) (M.pac (M.pe_comp (N := ["_law_mark", "_law_feed_here"]) (caps := [none, some 0]) (bs_mk (by decide +kernel)) (by rfl) (by rfl) rfl (M.pi_any (M.pv 3)) (fun _ _ _ _ => (M.pg_name (i := 0) (by decide +kernel : List.Nodup (["_law_mark", "_law_feed_here"] : List Str)) rfl (Or.inl rfl))) (fun _ _ _ _ => (M.pts_one (M.pt_cmpR (M.o_eq hr) (M.pe_own D_law_draw (hr.mono (by decide)) (by rfl) (M.pac (M.pv 1) (M.pac M.pe_int M.pa_nil))) M.pe_int (nomark _)))) (fun _ _ _ _ => (M.pv 0))) M.pa_nil)) M.pa_nil))) (M.pac (M.alo (M.pe_lst M.pa_nil)) M.pa_nil))))
      (M.pss_cons (M.ps_for PassesOwn.never rfl (M.pi_range1 (by rfl) T.range (M.pac (M.pe_own D_law_draw (hr.mono (by decide)) (by rfl) (M.pac (M.pv 0) (M.pac M.pe_int M.pa_nil))) M.pa_nil)) (M.pg_name (i := 5) scLine.nd rfl (Or.inl rfl))
        (M.pss_cons (M.ps_expr (M.pe_bm PySem.F.plainAttrs_list PySem.F.slot_list_append PySem.F.type_list_append M.m_append (M.pe_ix M.o_ix (M.pv 4) M.pe_int (fun _ _ => rfl)) (M.pac (M.pe_tup (M.pac (M.pe_ix M.o_ix (M.pe_lst (M.pac M.pe_str (M.pac M.pe_str M.pa_nil))) (M.pe_own D_law_draw (hr.mono (by decide)) (by rfl) (M.pac (M.pv 0) (M.pac M.pe_int M.pa_nil))) (fun _ _ => rfl)) (M.pac (M.pe_ix M.o_ix (M.pe_op M.o_add (M.pv 2) (M.pe_lst (M.pac M.pe_str M.pa_nil))) (M.pe_own D_law_draw (hr.mono (by decide)) (by rfl) (M.pac (M.pv 0) (M.pac (M.pe_op M.o_add (M.pcb M.o_len (by rfl) T.len (by decide +kernel) (M.pac (M.pv 2) M.pa_nil)) M.pe_int) M.pa_nil))) (fun _ _ => rfl)) M.pa_nil))) M.pa_nil)))
        (M.pss_one (M.ps_expr (M.pe_bm PySem.F.plainAttrs_list PySem.F.slot_list_append PySem.F.type_list_append M.m_append (M.pe_ix M.o_ix (M.pv 4) M.pe_int (fun _ _ => rfl)) (M.pac (M.pct M.o_tupleOf (by rfl) T.tuple (by decide +kernel) (M.pac (M.pe_comp (N := ["_law_mark", "_law_feed_here"]) (caps := [none, some 0]) (bs_mk (by decide +kernel)) (by rfl) (by rfl) rfl (M.pi_any (M.pv 3)) (fun _ _ _ _ => (M.pg_name (i := 0) (by decide +kernel : List.Nodup (["_law_mark", "_law_feed_here"] : List Str)) rfl (Or.inl rfl))) (fun _ _ _ _ => (M.pts_one (M.pt_cmpR (M.o_eq hr) (M.pe_own D_law_draw (hr.mono (by decide)) (by rfl) (M.pac (M.pv 1) (M.pac M.pe_int M.pa_nil))) M.pe_int (nomark _)))) (fun _ _ _ _ => (M.pv 0))) M.pa_nil)) M.pa_nil))))))
      (M.pss_one (M.ps_ret (M.fre (M.fre (M.pv 4)))))))), fun ds S Q h => ?_⟩
    obtain ⟨U, p, n, x, ws, ms, o, rfl, hd, ho, hN, hw, hm, lw, lm, hU, hmU, hxU, hS, hF, hn, q⟩ := h
    have e0 : startA NscLine [.loc p, tD x, .lst (ws.map D.str), .lst (ms.map D.str)] = [some (.loc p), some (tD x), some (.lst (ws.map D.str)), some (.lst (ms.map D.str)), none, none] := rfl
    rw [e0]
    simp only [aRet, aRetN, aAndV, aOrV, aNotV, aCall, aCons, aNil, aVar, aC, aOp, aUn, aB, aTru, aIf, aSeq, aIfS, aNot, aAnd, aOr, aAsg, agName, aNext, aChain, aSl, aPart, aNoPart, aDrop, aTup, aLst, rd_dat, rd_new, mod_lst, le_int', lt_int', aI_int, add_int', add_lst', eq_int', eq_str', tru_bl, tru_lst, tru_tup, true_and, aIsi, aLen, see_int', see_str', see_bl', see_non', see_tup', see_lst', see_stc', see_scr', List.getElem?_cons_zero, List.getElem?_cons_succ, List.set_cons_zero, List.set_cons_succ, Option.some.injEq, exists_eq_left', List.cons.injEq, and_true, D.ty.injEq, D.bl.injEq, D.int.injEq, D.str.injEq, and_assoc, exists_and_left, exists_eq_left, exists_and_right, ret_bl, ret_int, Bool.false_eq_true, if_true, if_false, Bool.not_true, Bool.not_false, aTupleOf, aComp, iAny, iAnyD]
    refine draw_of hS hF (by omega) (by decide) (by decide) fun z o1 hz ho1 => ?_
    simp only [aRet, aRetN, aAndV, aOrV, aNotV, aCall, aCons, aNil, aVar, aC, aOp, aUn, aB, aTru, aIf, aSeq, aIfS, aNot, aAnd, aOr, aAsg, agName, aNext, aChain, aSl, aPart, aNoPart, aDrop, aTup, aLst, rd_dat, rd_new, mod_lst, le_int', lt_int', aI_int, add_int', add_lst', eq_int', eq_str', tru_bl, tru_lst, tru_tup, true_and, aIsi, aLen, see_int', see_str', see_bl', see_non', see_tup', see_lst', see_stc', see_scr', List.getElem?_cons_zero, List.getElem?_cons_succ, List.set_cons_zero, List.set_cons_succ, Option.some.injEq, exists_eq_left', List.cons.injEq, and_true, D.ty.injEq, D.bl.injEq, D.int.injEq, D.str.injEq, and_assoc, exists_and_left, exists_eq_left, exists_and_right, ret_bl, ret_int, Bool.false_eq_true, if_true, if_false, Bool.not_true, Bool.not_false]
    have tail : ∀ (v4 : Option D) (n1 : Nat) (o2 : MO), Fd n1 o2 → n1 ≤ n + 1 + gd 4 →
    aAlloc
      (aLst
        (aCons
          (aCall aTupleOf
            (aCons
              (aComp [none, some 0] (iAny (aVar 3)) (agName 0)
                (aB (aOp aEq (aCall spDraw (aCons (aVar 1) (aCons (aC (D.int 2)) aNil))) (aC (D.int 1)))) (aVar 0))
              aNil))
          aNil))
      [some (D.loc p), some (tD x), some (D.lst (List.map D.str ws)), some (D.lst (List.map D.str ms)), v4, none]
      (List.set S p (some o2)) fun x_1 S1 =>
      aAlloc (aLst aNil)
        [some (D.loc p), some (tD x), some (D.lst (List.map D.str ws)), some (D.lst (List.map D.str ms)), v4, none] S1
        fun x_2 S1 =>
        [x_1.d, x_2.d].length ≤ sizeLine ∧
          aFor (iRng (aCons (aCall spDraw (aCons (aVar 0) (aCons (aC (D.int 5)) aNil))) aNil)) (agName 5)
            (aSeq
              (aDrop
                (aBM "list" aAppend (aOp aIx (aVar 4) (aC (D.int 1)))
                  (aCons
                    (aTup
                      (aCons
                        (aOp aIx
                          (aLst
                            (aCons (aC (D.str "on")) (aCons (aC (D.str "back")) aNil)))
                          (aCall spDraw (aCons (aVar 0) (aCons (aC (D.int 2)) aNil))))
                        (aCons
                          (aOp aIx (aOp aAdd (aVar 2) (aLst (aCons (aC (D.str "u")) aNil)))
                            (aCall spDraw
                              (aCons (aVar 0)
                                (aCons (aOp aAdd (aCall aLen (aCons (aVar 2) aNil)) (aC (D.int 1))) aNil))))
                          aNil)))
                    aNil)))
              (aDrop
                (aBM "list" aAppend (aOp aIx (aVar 4) (aC (D.int 0)))
                  (aCons
                    (aCall aTupleOf
                      (aCons
                        (aComp [none, some 0] (iAny (aVar 3)) (agName 0)
                          (aB (aOp aEq (aCall spDraw (aCons (aVar 1) (aCons (aC (D.int 2)) aNil))) (aC (D.int 1))))
                          (aVar 0))
                        aNil))
                    aNil))))
            {
              nx :=
                aRet (aFrz (aFrz (aVar 4)))
                  { nx := fun x S' => M.ret S S' (R.dat D.non) Q, rt := fun r S' => M.ret S S' r Q },
              rt := fun r S' => M.ret S S' r Q }
            [some (D.loc p), some (tD x), some (D.lst (List.map D.str ws)), some (D.lst (List.map D.str ms)),
              some (D.tup [x_1.d, x_2.d]), none]
            S1 := by
      intro v4 n1 o2 ho2 hn1
      simp only [aAlloc, aLst, aNil, aTupleOf, aComp, iAny, aRet, aRetN, aAndV, aOrV, aNotV, aCall, aCons, aNil, aVar, aC, aOp, aUn, aB, aTru, aIf, aSeq, aIfS, aNot, aAnd, aOr, aAsg, agName, aNext, aChain, aSl, aPart, aNoPart, aDrop, aTup, aLst, rd_dat, rd_new, mod_lst, le_int', lt_int', aI_int, add_int', add_lst', eq_int', eq_str', tru_bl, tru_lst, tru_tup, true_and, aIsi, aLen, see_int', see_str', see_bl', see_non', see_tup', see_lst', see_stc', see_scr', List.getElem?_cons_zero, List.getElem?_cons_succ, List.set_cons_zero, List.set_cons_succ, Option.some.injEq, exists_eq_left', List.cons.injEq, and_true, D.ty.injEq, D.bl.injEq, D.int.injEq, D.str.injEq, and_assoc, exists_and_left, exists_eq_left, exists_and_right, ret_bl, ret_int, Bool.false_eq_true, if_true, if_false, Bool.not_true, Bool.not_false]
      refine some_marks ms (set_at hS) ho2 (by omega) lm fun ys o3 y1 y2 ho3 => ?_
      rw [List.set_set]
      have lys : ys.length ≤ 20 := by omega
      simp only [aFor, iRng, aRet, aRetN, aAndV, aOrV, aNotV, aCall, aCons, aNil, aVar, aC, aOp, aUn, aB, aTru, aIf, aSeq, aIfS, aNot, aAnd, aOr, aAsg, agName, aNext, aChain, aSl, aPart, aNoPart, aDrop, aTup, aLst, rd_dat, rd_new, mod_lst, le_int', lt_int', aI_int, add_int', add_lst', eq_int', eq_str', tru_bl, tru_lst, tru_tup, true_and, aIsi, aLen, see_int', see_str', see_bl', see_non', see_tup', see_lst', see_stc', see_scr', List.getElem?_cons_zero, List.getElem?_cons_succ, List.set_cons_zero, List.set_cons_succ, Option.some.injEq, exists_eq_left', List.cons.injEq, and_true, D.ty.injEq, D.bl.injEq, D.int.injEq, D.str.injEq, and_assoc, exists_and_left, exists_eq_left, exists_and_right, ret_bl, ret_int, Bool.false_eq_true, if_true, if_false, Bool.not_true, Bool.not_false]
      have eS : ∀ A : List D, (S.set p (some o3) ++ [some (MO.lst A)]) ++ [some (MO.lst [])] = TT S p o3 A [] := fun A => by simp [TT]
      refine ⟨sz rfl, sz rfl, sz rfl, ?_⟩
      have l1 : (S.set p (some o3)).length = S.length := List.length_set ..
      have l2 : ∀ A : List D, List.length (S.set p (some o3) ++ [some (MO.lst A)]) = S.length + 1 := fun A => by simp
      rw [eS, l2, l1]
      have hp := lt_of_at hS
      refine draw_of (o := o3) (TTp hp) ho3 (by omega) (by decide) (by decide) fun u o4 hu ho4 => ?_
      rw [TTsp hp]
      refine ⟨(u : Int), rfl, by omega, by omega, ?_⟩
      have hu : u ≤ 4 := by omega
      refine loop_by (fun rest δ S' => ∃ (n2 : Nat) (o5 : MO) (L : Ln) (v5 : Option D), δ = [some (.loc p), some (tD x), some (.lst (ws.map D.str)), some (.lst (ms.map D.str)), some (.tup [.loc S.length, .loc (S.length + 1)]), v5] ∧
          S' = TT S p o5 (L.ms.map mD) (L.st.map sD) ∧ Fd n2 o5 ∧ n2 + rest.length * 9 ≤ n + 9 + gd 4 + u * 9 ∧ LnU U L ∧ L.st.length + rest.length = u) ?_ ?_ _ _ _
        ⟨n1 + ms.length + 1, o4, ⟨[ys], []⟩, none, rfl, rfl, ho4, by simp [iRngD]; omega, ⟨rfl, fun m hm => by rw [List.mem_singleton.mp hm]; exact ⟨lys, fun y hy => hmU y (y2 y hy)⟩, fun s hs => by simp at hs⟩, by simp [iRngD]⟩
      · rintro δ S' ⟨n2, o5, L, v5, rfl, rfl, ho5, hn2, hL, hl⟩
        refine ⟨trivial, ?_⟩
        simp only [aRet, aRetN, aAndV, aOrV, aNotV, aCall, aCons, aNil, aVar, aC, aOp, aUn, aB, aTru, aIf, aSeq, aIfS, aNot, aAnd, aOr, aAsg, agName, aNext, aChain, aSl, aPart, aNoPart, aDrop, aTup, aLst, rd_dat, rd_new, mod_lst, le_int', lt_int', aI_int, add_int', add_lst', eq_int', eq_str', tru_bl, tru_lst, tru_tup, true_and, aIsi, aLen, see_int', see_str', see_bl', see_non', see_tup', see_lst', see_stc', see_scr', List.getElem?_cons_zero, List.getElem?_cons_succ, List.set_cons_zero, List.set_cons_succ, Option.some.injEq, exists_eq_left', List.cons.injEq, and_true, D.ty.injEq, D.bl.injEq, D.int.injEq, D.str.injEq, and_assoc, exists_and_left, exists_eq_left, exists_and_right, ret_bl, ret_int, Bool.false_eq_true, if_true, if_false, Bool.not_true, Bool.not_false, aFrz]
        simp only [List.length_nil, Nat.zero_mul, Nat.add_zero] at hn2 hl
        refine ⟨S.length, _, _, rfl, TTa, S.length + 1, L.st.map sD, _, rfl, by rw [List.getElem?_set_ne (by omega)]; exact TTb, ?_⟩
        have e1 : List.map (sb (S.length + 1) (.lst (L.st.map sD))) (List.map (sb S.length (.lst (L.ms.map mD))) [.loc S.length, .loc (S.length + 1)]) = [.lst (L.ms.map mD), .lst (L.st.map sD)] := by
          simp [sb]
        rw [e1]
        have fd : Fd (n + (gd 4 + 100)) o5 := ho5.mono (by omega)
        refine ret_gen (out_dat (pur_lD L)) fd ?_ (q L o5 hL (by omega) fd)
        rw [TT, List.set_append_right _ _ (by simp), List.set_append_right _ _ (by simp), List.take_left' (by simp)]
      · rintro t rest δ S' N' ⟨n2, o5, L, v5, rfl, rfl, ho5, hn2, hL, hl⟩ hN'
        have e1 : (rest.length + 1) * 9 = rest.length * 9 + 9 := by rw [Nat.add_mul]
        simp only [List.length_cons, e1] at hn2 hl
        refine ⟨trivial, ?_⟩
        simp only [ix_tup, at0, at1, aBM, isTy, aLst, aNil, aRet, aRetN, aAndV, aOrV, aNotV, aCall, aCons, aNil, aVar, aC, aOp, aUn, aB, aTru, aIf, aSeq, aIfS, aNot, aAnd, aOr, aAsg, agName, aNext, aChain, aSl, aPart, aNoPart, aDrop, aTup, aLst, rd_dat, rd_new, mod_lst, le_int', lt_int', aI_int, add_int', add_lst', eq_int', eq_str', tru_bl, tru_lst, tru_tup, true_and, aIsi, aLen, see_int', see_str', see_bl', see_non', see_tup', see_lst', see_stc', see_scr', List.getElem?_cons_zero, List.getElem?_cons_succ, List.set_cons_zero, List.set_cons_succ, Option.some.injEq, exists_eq_left', List.cons.injEq, and_true, D.ty.injEq, D.bl.injEq, D.int.injEq, D.str.injEq, and_assoc, exists_and_left, exists_eq_left, exists_and_right, ret_bl, ret_int, Bool.false_eq_true, if_true, if_false, Bool.not_true, Bool.not_false]
        have sa : ∀ (o : MO) (A B : List D), see (TT S p o A B) (.loc S.length) = .lst A := fun o A B => by simp only [see, TTa]; rfl
        have sb' : ∀ (o : MO) (A B : List D), see (TT S p o A B) (.loc (S.length + 1)) = .lst B := fun o A B => by simp only [see, TTb]; rfl
        have hlm := hL.len
        rw [sb']
        refine ⟨trivial, sz rfl, draw_of (o := o5) (TTp hp) ho5 (by omega) (by decide) (by decide) fun z1 o6 hz1 ho6 => ?_⟩
        rw [TTsp hp]
        refine pick (by show z1 < 2; omega) fun e he => ?_
        obtain ⟨b, rfl⟩ : ∃ b, e = .str (side b) := by
          simp only [List.mem_cons, List.not_mem_nil, or_false] at he
          rcases he with rfl | rfl
          · exact ⟨true, rfl⟩
          · exact ⟨false, rfl⟩
        refine ⟨sz rfl, by rw [List.length_map, sizeLine_eq]; show _ + 1 ≤ _; omega, ws.length, by simp [lenD], ?_⟩
        refine draw_of (o := o6) (TTp hp) ho6 (by omega) (by omega) (by omega) fun z2 o7 hz2 ho7 => ?_
        rw [TTsp hp]
        refine pick (by rw [List.length_append, List.length_map]; show z2 < ws.length + 1; omega) fun e he => ?_
        obtain ⟨v, rfl, hv⟩ : ∃ v, e = .str v ∧ okS v = true := by
          rcases List.mem_append.mp he with he | he
          · obtain ⟨v, hv, rfl⟩ := List.mem_map.mp he
            exact ⟨v, rfl, nm_ok (hw v hv)⟩
          · exact ⟨_, List.mem_singleton.mp he, by decide +kernel⟩
        refine ⟨sz rfl, S.length + 1, _, _, rfl, rfl, TTb, by rw [List.length_map, sizeLine_eq]; omega, ?_⟩
        rw [TTsb]
        simp only [sa, true_and, aComp, iAny, aRet, aRetN, aAndV, aOrV, aNotV, aCall, aCons, aNil, aVar, aC, aOp, aUn, aB, aTru, aIf, aSeq, aIfS, aNot, aAnd, aOr, aAsg, agName, aNext, aChain, aSl, aPart, aNoPart, aDrop, aTup, aLst, rd_dat, rd_new, mod_lst, le_int', lt_int', aI_int, add_int', add_lst', eq_int', eq_str', tru_bl, tru_lst, tru_tup, true_and, aIsi, aLen, see_int', see_str', see_bl', see_non', see_tup', see_lst', see_stc', see_scr', List.getElem?_cons_zero, List.getElem?_cons_succ, List.set_cons_zero, List.set_cons_succ, Option.some.injEq, exists_eq_left', List.cons.injEq, and_true, D.ty.injEq, D.bl.injEq, D.int.injEq, D.str.injEq, and_assoc, exists_and_left, exists_eq_left, exists_and_right, ret_bl, ret_int, Bool.false_eq_true, if_true, if_false, Bool.not_true, Bool.not_false]
        refine some_marks ms (TTp hp) ho7 (by omega) lm fun zs o8 z1 z2 ho8 => ?_
        rw [TTsp hp]
        simp only [aTupleOf, aRet, aRetN, aAndV, aOrV, aNotV, aCall, aCons, aNil, aVar, aC, aOp, aUn, aB, aTru, aIf, aSeq, aIfS, aNot, aAnd, aOr, aAsg, agName, aNext, aChain, aSl, aPart, aNoPart, aDrop, aTup, aLst, rd_dat, rd_new, mod_lst, le_int', lt_int', aI_int, add_int', add_lst', eq_int', eq_str', tru_bl, tru_lst, tru_tup, true_and, aIsi, aLen, see_int', see_str', see_bl', see_non', see_tup', see_lst', see_stc', see_scr', List.getElem?_cons_zero, List.getElem?_cons_succ, List.set_cons_zero, List.set_cons_succ, Option.some.injEq, exists_eq_left', List.cons.injEq, and_true, D.ty.injEq, D.bl.injEq, D.int.injEq, D.str.injEq, and_assoc, exists_and_left, exists_eq_left, exists_and_right, ret_bl, ret_int, Bool.false_eq_true, if_true, if_false, Bool.not_true, Bool.not_false]
        refine ⟨S.length, _, _, rfl, rfl, TTa, by rw [List.length_map, sizeLine_eq]; omega, ?_⟩
        rw [TTsa]
        refine hN' _ _ ⟨n2 + 1 + 1 + ms.length, o8, ⟨L.ms ++ [zs], L.st ++ [(b, v)]⟩, _, rfl, by simp only [List.map_append]; rfl, ho8, by omega, ⟨by simp [hlm], fun m hm => ?_, fun s hs => ?_⟩, by simp; omega⟩
        · rcases List.mem_append.mp hm with hm | hm
          · exact hL.ms m hm
          · rw [List.mem_singleton.mp hm]; exact ⟨by omega, fun y hy => hmU y (z2 y hy)⟩
        · rcases List.mem_append.mp hs with hs | hs
          · exact hL.st s hs
          · rw [List.mem_singleton.mp hs]; exact hv
    refine ite2 (fun h => ?_) (fun h => tail none (n + 1) o1 ho1 (by omega))
    refine ⟨U, p, n + 1, x, ws, ms, o1, rfl, hd, ho, hN, hw, hm, lw, lm, hU, hmU, hxU, set_at hS, ho1, by omega, fun L o2 hL hl ho2 => ?_⟩
    rw [List.set_set]
    refine ⟨_, at1, ?_⟩
    refine ⟨L.st.length, by simp [lenD, see, R.d], ite2 (fun h => ?_) (fun h => tail (some (lD L)) _ o2 ho2 (by omega))⟩
    have h : L.st.length < 12 := by have := of_decide_eq_true h; omega
    have fd : Fd (n + (gd 4 + 100)) o2 := ho2.mono (by omega)
    exact ret_setF (pur_lD L) fd (q L o2 hL (by omega) fd)
end
end K63
set_option Elab.async false
set_option linter.all false
set_option maxRecDepth 100000
set_option maxHeartbeats 4000000
namespace J
open PySem
theorem by5 {p : List Value → Prop} (h : ∀ a b c d f, p [a, b, c, d, f]) (us : List Value) (e : us.length = 5) : p us := by
  cases us with
  | nil => cases e
  | cons a r => exact by4 (p := fun r => p (a :: r)) (h a) r (Nat.succ.inj e)
end J
namespace K63
open PySem L2 M
noncomputable abbrev sLaw : Stmt := top 36
noncomputable abbrev NscLaw : List Str := ["_law_script", "_law_feed_here", "_law_words", "_law_marks", "_law_pattern_here", "_law_found", "_law_again", "_law_k", "_law_line_here", "_law_due"]
noncomputable abbrev PscLaw : List Str := ["_law_script"]
theorem scLaw : FnScope NscLaw PscLaw (defScope sLaw) := ⟨rfl, rfl, rfl, by decide +kernel, rfl, by decide +kernel, by decide +kernel⟩
noncomputable def strOf : Value → Option Str
  | .str x _ => some x
  | _ => none
theorem strs_vals : ∀ {vs : List Value} {ss : List Str}, vs.map strOf = ss.map some → Vals (ss.map V.str) vs
  | [], [], _ => .nil
  | v :: vs, s :: ss, h => by
    rw [List.map_cons, List.map_cons] at h
    have h1 := List.cons.inj h
    refine .cons ?_ (strs_vals h1.2)
    cases v <;> simp [strOf] at h1
    obtain ⟨rfl, _⟩ := h1
    exact ⟨_, rfl⟩
theorem stc_of {K : PySem.W.Frag} {a : Addr} {od : Option Addr} {its : Array Value} {n : Nat} {sl : Array (Option Value)} {ss : List Str} (l : K.lookup a = some ⟨.type "tuple", od, .seq its n, sl⟩) (q : (its.toList.map strOf == ss.map some) = true) (h : ss.length ≤ 100) (H : Hp) : SqT K H a (ss.map V.str) := by
  have v := strs_vals (eq_of_beq q)
  refine .inr ⟨_, its, n, l, rfl, rfl, ?_, v⟩
  have := v.length
  rw [List.length_map] at this
  rw [sizeLine_eq, ← Array.length_toList]; omega
theorem eqv_ints : ∀ ns : List Int, PyData.eqvAll (pys (ns.map D.int)) (pys (ns.map D.int)) = true
  | [] => rfl
  | n :: ns => by simp [pys, py, PyData.eqvAll, PyData.eqv, eqv_ints ns]
theorem ne_bl {b : Bool} {S : Sto} {p X : Sto → Prop} (h : X S) : aNe (.bl b) (.bl b) S fun r S1 => ∃ c, r.d = .bl c ∧ if c = true then p S1 else X S1 := by
  refine ⟨false, ?_, h⟩
  show D.bl (!decide (b = b)) = _
  simp
theorem ret_take0 {S' : Sto} {b : Bool} {Q : AK} (hs : S'.take 0 = []) (q : Q (.dat (.bl b)) []) : M.ret [] S' (.dat (.bl b)) Q :=
  ⟨_, out_dat rfl, fun k o hk e => absurd hk (Nat.not_lt_zero _), by show Q _ (S'.take 0); rw [hs]; exact q⟩
section
variable {P : Program} {w : World} {K : PySem.W.Frag} {mg : Str → Option Value} {base : Heap}
noncomputable def spLawA : AN := fun ds S Q => ∃ ns : List Int, ds = [.scr ns] ∧ S = [] ∧ Q (.dat (.bl true)) []
theorem d_LawA {f : Addr} {fd : FuncData} (T : Txt K mg) (F : Fun K "law" "law" sLaw f fd) (D_law_feed : Def P w K mg base 1 "_law_feed" PscFeed (conSp K spFeed)) (D_law_draw : Def P w K mg base 1 "_law_draw" PscDraw (conSp K spDraw)) (D_law_names : Def P w K mg base 2 "_law_names" PscNames (conSp K spNames))
    (D_law_pattern : Def P w K mg base 7 "_law_pattern" PscLPat (conSp K (spLPat 4))) (D_backwards : Def P w K mg base 7 "backwards" PscBk (conSp K (spBk 4))) (D_is_pattern : Def P w K mg base 4 "is_pattern" PscPat (conSp K spPat)) (D_law_counts : Def P w K mg base 8 "_law_counts" PscCnt (conSp K spCnt)) (D_law_line : Def P w K mg base 8 "_law_line" PscLine (conSp K spLine)) (D_law_right : Def P w K mg base 8 "_law_right" PscRight (conSp K spRight)) (D_law_back : Def P w K mg base 1 "_law_back" PscBack (conSp K spBack)) :
    FnOk P w K mg base CX0 9 f fd PscLaw (conSp K spLawA) := by
  refine okB F scLaw (fun ds S Q h => ?_) (fun f cdv A outer s H E hr => ?_)
  · obtain ⟨ns, rfl, _⟩ := h; rfl
  · refine ⟨_, (M.pss_cons (M.ps_set (i := 1) scLaw.nd rfl (Or.inl rfl) (M.alo (M.pe_own D_law_feed (hr.mono (by decide)) (by rfl) (M.pac (M.pv 0) M.pa_nil))))
      (M.pss_cons (M.ps_set (i := 2) scLaw.nd rfl (Or.inl rfl) (M.pe_own D_law_names (hr.mono (by decide)) (by rfl) (M.pac (M.pv 1) (M.pac (M.pe_op M.o_add M.pe_int (M.pe_own D_law_draw (hr.mono (by decide)) (by rfl) (M.pac (M.pv 1) (M.pac M.pe_int M.pa_nil)))) M.pa_nil))))
      (M.pss_cons (M.ps_set (i := 3) scLaw.nd rfl (Or.inl rfl) (M.pe_own D_law_names (hr.mono (by decide)) (by rfl) (M.pac (M.pv 1) (M.pac (M.pe_own D_law_draw (hr.mono (by decide)) (by rfl) (M.pac (M.pv 1) (M.pac M.pe_int M.pa_nil))) M.pa_nil))))
      (M.pss_cons (M.ps_set (i := 4) scLaw.nd rfl (Or.inl rfl) (M.pe_own D_law_pattern (hr.mono (by decide)) (by rfl) (M.pac (M.pv 1) (M.pac (M.pv 2) (M.pac (M.pv 3) (M.pac (M.alo (M.pe_lst (M.pac (M.pe_op M.o_add M.pe_int (M.pe_own D_law_draw (hr.mono (by decide)) (by rfl) (M.pac (M.pv 1) (M.pac M.pe_int M.pa_nil)))) M.pa_nil))) (M.pac M.pe_int M.pa_nil)))))))
      (M.pss_cons (M.ps_set (i := 5) scLaw.nd rfl (Or.inl rfl) (M.pe_own D_backwards (hr.mono (by decide)) (by rfl) (M.pac (M.pv 4) M.pa_nil)))
      (M.pss_cons (M.ps_if (M.pw_pt (M.pw_or (M.pt_not (M.pt_val (M.pe_own D_is_pattern (hr.mono (by decide)) (by rfl) (M.pac (M.pv 5) M.pa_nil)))) (M.pw_or1 (M.pt_cmpR (M.o_ne hr) (M.pe_own D_law_counts (hr.mono (by decide)) (by rfl) (M.pac (M.pv 5) M.pa_nil)) (M.pe_own D_law_counts (hr.mono (by decide)) (by rfl) (M.pac (M.pv 4) M.pa_nil)) (nomark _)))))
        (M.pss_one (M.ps_ret M.pe_bl))
        M.pss_nil)
      (M.pss_cons (M.ps_set (i := 6) scLaw.nd rfl (Or.inl rfl) (M.pe_own D_backwards (hr.mono (by decide)) (by rfl) (M.pac (M.pv 5) M.pa_nil)))
      (M.pss_cons (M.ps_if (M.pt_not (M.pt_val (M.pe_own D_is_pattern (hr.mono (by decide)) (by rfl) (M.pac (M.pv 6) M.pa_nil))))
        (M.pss_one (M.ps_ret M.pe_bl))
        M.pss_nil)
      (M.pss_cons (M.ps_for PassesOwn.never rfl (M.pi_range1 (by rfl) T.range (M.pac (M.pe_op M.o_add M.pe_int (M.pe_own D_law_draw (hr.mono (by decide)) (by rfl) (M.pac (M.pv 1) (M.pac M.pe_int M.pa_nil)))) M.pa_nil)) (M.pg_name (i := 7) scLaw.nd rfl (Or.inl rfl))
        (M.pss_cons (M.ps_set (i := 8) scLaw.nd rfl (Or.inl rfl) (M.pe_own D_law_line (hr.mono (by decide)) (by rfl) (M.pac (M.pv 1) (M.pac (M.pv 4) (M.pac (M.pv 2) (M.pac (M.pv 3) M.pa_nil))))))
        (M.pss_cons (M.ps_set (i := 9) scLaw.nd rfl (Or.inl rfl) (M.pe_own D_law_right (hr.mono (by decide)) (by rfl) (M.pac (M.pv 4) (M.pac (M.pv 8) M.pa_nil))))
        (M.pss_cons (M.ps_if (M.pw_pt (M.pw_or (M.pt_cmpR (M.o_ne hr) (M.pe_own D_law_right (hr.mono (by decide)) (by rfl) (M.pac (M.pv 5) (M.pac (M.pe_own D_law_back (hr.mono (by decide)) (by rfl) (M.pac (M.pv 8) M.pa_nil)) M.pa_nil))) (M.pv 9) (nomark _)) (M.pw_or1 (M.pt_cmpR (M.o_ne hr) (M.pe_own D_law_right (hr.mono (by decide)) (by rfl) (M.pac (M.pv 6) (M.pac (M.pv 8) M.pa_nil))) (M.pv 9) (nomark _)))))
          (M.pss_one (M.ps_ret M.pe_bl))
          M.pss_nil)
        (M.pss_cons (M.ps_set (i := 8) scLaw.nd rfl (Or.inl rfl) (M.pe_own D_law_line (hr.mono (by decide)) (by rfl) (M.pac (M.pv 1) (M.pac (M.pv 5) (M.pac (M.pv 2) (M.pac (M.pv 3) M.pa_nil))))))
        (M.pss_one (M.ps_if (M.pt_cmpR (M.o_ne hr) (M.pe_own D_law_right (hr.mono (by decide)) (by rfl) (M.pac (M.pv 5) (M.pac (M.pv 8) M.pa_nil))) (M.pe_own D_law_right (hr.mono (by decide)) (by rfl) (M.pac (M.pv 4) (M.pac (M.pe_own D_law_back (hr.mono (by decide)) (by rfl) (M.pac (M.pv 8) M.pa_nil)) M.pa_nil))) (nomark _))
          (M.pss_one (M.ps_ret M.pe_bl))
          M.pss_nil)))))))
      (M.pss_one (M.ps_ret M.pe_bl))))))))))), fun ds S Q h => ?_⟩
    obtain ⟨ns, rfl, rfl, q⟩ := h
    have e0 : startA NscLaw [.scr ns] = [some (.scr ns), none, none, none, none, none, none, none, none, none] := rfl
    rw [e0]
    simp only [aRet, aRetN, aAndV, aOrV, aNotV, aCall, aCons, aNil, aVar, aC, aOp, aUn, aB, aTru, aIf, aSeq, aIfS, aNot, aAnd, aOr, aAsg, agName, aNext, aChain, aSl, aPart, aNoPart, aDrop, aTup, aLst, rd_dat, rd_new, mod_lst, le_int', lt_int', aI_int, add_int', add_lst', eq_int', eq_str', tru_bl, tru_lst, tru_tup, true_and, aIsi, aLen, see_int', see_str', see_bl', see_non', see_tup', see_lst', see_stc', see_scr', List.getElem?_cons_zero, List.getElem?_cons_succ, List.set_cons_zero, List.set_cons_succ, Option.some.injEq, exists_eq_left', List.cons.injEq, and_true, D.ty.injEq, D.bl.injEq, D.int.injEq, D.str.injEq, and_assoc, exists_and_left, exists_eq_left, exists_and_right, ret_bl, ret_int, Bool.false_eq_true, if_true, if_false, Bool.not_true, Bool.not_false, aAlloc]
    refine ⟨ns, rfl, fun o1 h1 => ?_⟩
    simp only [List.nil_append, List.length_nil]
    refine draw_of (o := o1) rfl h1 (by decide) (by decide) (by decide) fun z1 o2 hz1 h2 => ?_
    simp only [aRet, aRetN, aAndV, aOrV, aNotV, aCall, aCons, aNil, aVar, aC, aOp, aUn, aB, aTru, aIf, aSeq, aIfS, aNot, aAnd, aOr, aAsg, agName, aNext, aChain, aSl, aPart, aNoPart, aDrop, aTup, aLst, rd_dat, rd_new, mod_lst, le_int', lt_int', aI_int, add_int', add_lst', eq_int', eq_str', tru_bl, tru_lst, tru_tup, true_and, aIsi, aLen, see_int', see_str', see_bl', see_non', see_tup', see_lst', see_stc', see_scr', List.getElem?_cons_zero, List.getElem?_cons_succ, List.set_cons_zero, List.set_cons_succ, Option.some.injEq, exists_eq_left', List.cons.injEq, and_true, D.ty.injEq, D.bl.injEq, D.int.injEq, D.str.injEq, and_assoc, exists_and_left, exists_eq_left, exists_and_right, ret_bl, ret_int, Bool.false_eq_true, if_true, if_false, Bool.not_true, Bool.not_false, List.set_cons_zero]
    rw [show (1 : Int) + (z1 : Int) = ((1 + z1 : Nat) : Int) by omega]
    refine ⟨0, _, 1 + z1, o2, rfl, rfl, h2, by omega, by omega, fun ws o3 lw hw h3 => ?_⟩
    simp only [aRet, aRetN, aAndV, aOrV, aNotV, aCall, aCons, aNil, aVar, aC, aOp, aUn, aB, aTru, aIf, aSeq, aIfS, aNot, aAnd, aOr, aAsg, agName, aNext, aChain, aSl, aPart, aNoPart, aDrop, aTup, aLst, rd_dat, rd_new, mod_lst, le_int', lt_int', aI_int, add_int', add_lst', eq_int', eq_str', tru_bl, tru_lst, tru_tup, true_and, aIsi, aLen, see_int', see_str', see_bl', see_non', see_tup', see_lst', see_stc', see_scr', List.getElem?_cons_zero, List.getElem?_cons_succ, List.set_cons_zero, List.set_cons_succ, Option.some.injEq, exists_eq_left', List.cons.injEq, and_true, D.ty.injEq, D.bl.injEq, D.int.injEq, D.str.injEq, and_assoc, exists_and_left, exists_eq_left, exists_and_right, ret_bl, ret_int, Bool.false_eq_true, if_true, if_false, Bool.not_true, Bool.not_false, List.set_cons_zero]
    refine draw_of (o := o3) rfl h3 (by omega) (by decide) (by decide) fun z2 o4 hz2 h4 => ?_
    simp only [aRet, aRetN, aAndV, aOrV, aNotV, aCall, aCons, aNil, aVar, aC, aOp, aUn, aB, aTru, aIf, aSeq, aIfS, aNot, aAnd, aOr, aAsg, agName, aNext, aChain, aSl, aPart, aNoPart, aDrop, aTup, aLst, rd_dat, rd_new, mod_lst, le_int', lt_int', aI_int, add_int', add_lst', eq_int', eq_str', tru_bl, tru_lst, tru_tup, true_and, aIsi, aLen, see_int', see_str', see_bl', see_non', see_tup', see_lst', see_stc', see_scr', List.getElem?_cons_zero, List.getElem?_cons_succ, List.set_cons_zero, List.set_cons_succ, Option.some.injEq, exists_eq_left', List.cons.injEq, and_true, D.ty.injEq, D.bl.injEq, D.int.injEq, D.str.injEq, and_assoc, exists_and_left, exists_eq_left, exists_and_right, ret_bl, ret_int, Bool.false_eq_true, if_true, if_false, Bool.not_true, Bool.not_false, List.set_cons_zero]
    refine ⟨0, _, z2, o4, rfl, rfl, h4, by omega, by omega, fun ms o5 lm hm h5 => ?_⟩
    simp only [aRet, aRetN, aAndV, aOrV, aNotV, aCall, aCons, aNil, aVar, aC, aOp, aUn, aB, aTru, aIf, aSeq, aIfS, aNot, aAnd, aOr, aAsg, agName, aNext, aChain, aSl, aPart, aNoPart, aDrop, aTup, aLst, rd_dat, rd_new, mod_lst, le_int', lt_int', aI_int, add_int', add_lst', eq_int', eq_str', tru_bl, tru_lst, tru_tup, true_and, aIsi, aLen, see_int', see_str', see_bl', see_non', see_tup', see_lst', see_stc', see_scr', List.getElem?_cons_zero, List.getElem?_cons_succ, List.set_cons_zero, List.set_cons_succ, Option.some.injEq, exists_eq_left', List.cons.injEq, and_true, D.ty.injEq, D.bl.injEq, D.int.injEq, D.str.injEq, and_assoc, exists_and_left, exists_eq_left, exists_and_right, ret_bl, ret_int, Bool.false_eq_true, if_true, if_false, Bool.not_true, Bool.not_false, List.set_cons_zero]
    refine draw_of (o := o5) rfl h5 (by omega) (by decide) (by decide) fun z3 o6 hz3 h6 => ?_
    simp only [aRet, aRetN, aAndV, aOrV, aNotV, aCall, aCons, aNil, aVar, aC, aOp, aUn, aB, aTru, aIf, aSeq, aIfS, aNot, aAnd, aOr, aAsg, agName, aNext, aChain, aSl, aPart, aNoPart, aDrop, aTup, aLst, rd_dat, rd_new, mod_lst, le_int', lt_int', aI_int, add_int', add_lst', eq_int', eq_str', tru_bl, tru_lst, tru_tup, true_and, aIsi, aLen, see_int', see_str', see_bl', see_non', see_tup', see_lst', see_stc', see_scr', List.getElem?_cons_zero, List.getElem?_cons_succ, List.set_cons_zero, List.set_cons_succ, Option.some.injEq, exists_eq_left', List.cons.injEq, and_true, D.ty.injEq, D.bl.injEq, D.int.injEq, D.str.injEq, and_assoc, exists_and_left, exists_eq_left, exists_and_right, ret_bl, ret_int, Bool.false_eq_true, if_true, if_false, Bool.not_true, Bool.not_false, List.set_cons_zero]
    rw [show (1 : Int) + (z3 : Int) = ((1 + z3 : Nat) : Int) by omega]
    have ed : drw 4 = 1023 := rfl
    have eg : gd 4 = 46810 := rfl
    refine ⟨sz rfl, 0, 1, _, 1 + z3, ws, ms, o6, rfl, hw, hm, by omega, by omega, by decide, rfl, rfl, by omega, by omega, h6, by omega, fun x o7 c hd hN ho h7 => ?_⟩
    rw [ed] at h7
    have hN8 : N x ≤ 8 := by omega
    have hd' : dp (bk x) ≤ 4 := by rw [dp_bk]; exact hd
    have hN' : N (bk x) ≤ 8 := by rw [N_bk]; exact hN8
    have ho' : Okp (bk x) := ok_bk x ho
    simp only [aRet, aRetN, aAndV, aOrV, aNotV, aCall, aCons, aNil, aVar, aC, aOp, aUn, aB, aTru, aIf, aSeq, aIfS, aNot, aAnd, aOr, aAsg, agName, aNext, aChain, aSl, aPart, aNoPart, aDrop, aTup, aLst, rd_dat, rd_new, mod_lst, le_int', lt_int', aI_int, add_int', add_lst', eq_int', eq_str', tru_bl, tru_lst, tru_tup, true_and, aIsi, aLen, see_int', see_str', see_bl', see_non', see_tup', see_lst', see_stc', see_scr', List.getElem?_cons_zero, List.getElem?_cons_succ, List.set_cons_zero, List.set_cons_succ, Option.some.injEq, exists_eq_left', List.cons.injEq, and_true, D.ty.injEq, D.bl.injEq, D.int.injEq, D.str.injEq, and_assoc, exists_and_left, exists_eq_left, exists_and_right, ret_bl, ret_int, Bool.false_eq_true, if_true, if_false, Bool.not_true, Bool.not_false, List.set_cons_zero, List.set_cons_succ, List.cons_append, List.nil_append]
    refine ⟨x, rfl, hd, ho, by omega, ?_⟩
    simp only [aRet, aRetN, aAndV, aOrV, aNotV, aCall, aCons, aNil, aVar, aC, aOp, aUn, aB, aTru, aIf, aSeq, aIfS, aNot, aAnd, aOr, aAsg, agName, aNext, aChain, aSl, aPart, aNoPart, aDrop, aTup, aLst, rd_dat, rd_new, mod_lst, le_int', lt_int', aI_int, add_int', add_lst', eq_int', eq_str', tru_bl, tru_lst, tru_tup, true_and, aIsi, aLen, see_int', see_str', see_bl', see_non', see_tup', see_lst', see_stc', see_scr', List.getElem?_cons_zero, List.getElem?_cons_succ, List.set_cons_zero, List.set_cons_succ, Option.some.injEq, exists_eq_left', List.cons.injEq, and_true, D.ty.injEq, D.bl.injEq, D.int.injEq, D.str.injEq, and_assoc, exists_and_left, exists_eq_left, exists_and_right, ret_bl, ret_int, Bool.false_eq_true, if_true, if_false, Bool.not_true, Bool.not_false]
    refine ⟨_, rfl, thB_mono (th_tD 4 (bk x) hd' ho' (by omega)) (by decide), ?_⟩
    rw [pat_ok (by omega) ho' (by omega)]
    refine ⟨true, rfl, ?_⟩
    rw [if_neg (by decide)]
    refine ⟨bk x, rfl, hd', ho', by omega, x, rfl, hd, ho, by omega, ?_⟩
    rw [cnts_bk]
    show fit (.lst ((cnts x).map D.int)) = true ∧ fit (.lst ((cnts x).map D.int)) = true ∧ _
    refine ⟨fit_ints _, fit_ints _, _, rfl, ?_⟩
    rw [if_neg (by
      show ¬ ((!PyData.eqv (.list (pys ((cnts x).map D.int))) (.list (pys ((cnts x).map D.int)))) = true)
      rw [show PyData.eqv (.list (pys ((cnts x).map D.int))) (.list (pys ((cnts x).map D.int))) = true from eqv_ints _]
      decide)]
    refine ⟨bk x, rfl, hd', ho', by omega, ?_⟩
    rw [bk_bk]
    simp only [aRet, aRetN, aAndV, aOrV, aNotV, aCall, aCons, aNil, aVar, aC, aOp, aUn, aB, aTru, aIf, aSeq, aIfS, aNot, aAnd, aOr, aAsg, agName, aNext, aChain, aSl, aPart, aNoPart, aDrop, aTup, aLst, rd_dat, rd_new, mod_lst, le_int', lt_int', aI_int, add_int', add_lst', eq_int', eq_str', tru_bl, tru_lst, tru_tup, true_and, aIsi, aLen, see_int', see_str', see_bl', see_non', see_tup', see_lst', see_stc', see_scr', List.getElem?_cons_zero, List.getElem?_cons_succ, List.set_cons_zero, List.set_cons_succ, Option.some.injEq, exists_eq_left', List.cons.injEq, and_true, D.ty.injEq, D.bl.injEq, D.int.injEq, D.str.injEq, and_assoc, exists_and_left, exists_eq_left, exists_and_right, ret_bl, ret_int, Bool.false_eq_true, if_true, if_false, Bool.not_true, Bool.not_false]
    refine ⟨_, rfl, thB_mono (th_tD 4 x hd ho (by omega)) (by decide), ?_⟩
    rw [pat_ok (by omega) ho (by omega)]
    refine ⟨true, rfl, ?_⟩
    rw [if_neg (by decide)]
    simp only [aFor, iRng, aRet, aRetN, aAndV, aOrV, aNotV, aCall, aCons, aNil, aVar, aC, aOp, aUn, aB, aTru, aIf, aSeq, aIfS, aNot, aAnd, aOr, aAsg, agName, aNext, aChain, aSl, aPart, aNoPart, aDrop, aTup, aLst, rd_dat, rd_new, mod_lst, le_int', lt_int', aI_int, add_int', add_lst', eq_int', eq_str', tru_bl, tru_lst, tru_tup, true_and, aIsi, aLen, see_int', see_str', see_bl', see_non', see_tup', see_lst', see_stc', see_scr', List.getElem?_cons_zero, List.getElem?_cons_succ, List.set_cons_zero, List.set_cons_succ, Option.some.injEq, exists_eq_left', List.cons.injEq, and_true, D.ty.injEq, D.bl.injEq, D.int.injEq, D.str.injEq, and_assoc, exists_and_left, exists_eq_left, exists_and_right, ret_bl, ret_int, Bool.false_eq_true, if_true, if_false, Bool.not_true, Bool.not_false, List.set_cons_zero, List.set_cons_succ, List.cons_append, List.nil_append]
    refine draw_of (o := o7) rfl h7 (by omega) (by decide) (by decide) fun z4 o8 hz4 h8 => ?_
    simp only [aRet, aRetN, aAndV, aOrV, aNotV, aCall, aCons, aNil, aVar, aC, aOp, aUn, aB, aTru, aIf, aSeq, aIfS, aNot, aAnd, aOr, aAsg, agName, aNext, aChain, aSl, aPart, aNoPart, aDrop, aTup, aLst, rd_dat, rd_new, mod_lst, le_int', lt_int', aI_int, add_int', add_lst', eq_int', eq_str', tru_bl, tru_lst, tru_tup, true_and, aIsi, aLen, see_int', see_str', see_bl', see_non', see_tup', see_lst', see_stc', see_scr', List.getElem?_cons_zero, List.getElem?_cons_succ, List.set_cons_zero, List.set_cons_succ, Option.some.injEq, exists_eq_left', List.cons.injEq, and_true, D.ty.injEq, D.bl.injEq, D.int.injEq, D.str.injEq, and_assoc, exists_and_left, exists_eq_left, exists_and_right, ret_bl, ret_int, Bool.false_eq_true, if_true, if_false, Bool.not_true, Bool.not_false, List.set_cons_zero, List.set_cons_succ]
    rw [show (8 : Int) + (z4 : Int) = ((8 + z4 : Nat) : Int) by omega]
    refine ⟨by omega, by omega, ?_⟩
    refine loop_by (fun rest δ S' => ∃ (n2 : Nat) (o9 : MO) (v7 v8 v9 : Option D), δ = [some (.scr ns), some (.loc 0), some (.lst (ws.map D.str)), some (.lst (ms.map D.str)), some (tD x), some (tD (bk x)), some (tD x), v7, v8, v9] ∧
        S' = [some o9, some (.lst [.int c])] ∧ Fd n2 o9 ∧ n2 + rest.length * 100000 ≤ 10000000) ?_ ?_ _ _ _
      ⟨_, o8, none, none, none, rfl, rfl, h8, by simp [iRngD]; omega⟩
    · rintro δ S' ⟨n2, o9, v7, v8, v9, rfl, rfl, h9, hn⟩
      refine ⟨trivial, ?_⟩
      simp only [aRet, aRetN, aAndV, aOrV, aNotV, aCall, aCons, aNil, aVar, aC, aOp, aUn, aB, aTru, aIf, aSeq, aIfS, aNot, aAnd, aOr, aAsg, agName, aNext, aChain, aSl, aPart, aNoPart, aDrop, aTup, aLst, rd_dat, rd_new, mod_lst, le_int', lt_int', aI_int, add_int', add_lst', eq_int', eq_str', tru_bl, tru_lst, tru_tup, true_and, aIsi, aLen, see_int', see_str', see_bl', see_non', see_tup', see_lst', see_stc', see_scr', List.getElem?_cons_zero, List.getElem?_cons_succ, List.set_cons_zero, List.set_cons_succ, Option.some.injEq, exists_eq_left', List.cons.injEq, and_true, D.ty.injEq, D.bl.injEq, D.int.injEq, D.str.injEq, and_assoc, exists_and_left, exists_eq_left, exists_and_right, ret_bl, ret_int, Bool.false_eq_true, if_true, if_false, Bool.not_true, Bool.not_false]
      exact ret_take0 rfl q
    · rintro t rest δ S' N' ⟨n2, o9, v7, v8, v9, rfl, rfl, h9, hn⟩ hN''
      refine ⟨trivial, ?_⟩
      have e1 : (rest.length + 1) * 100000 = rest.length * 100000 + 100000 := by rw [Nat.add_mul]
      simp only [List.length_cons, e1] at hn
      simp only [aRet, aRetN, aAndV, aOrV, aNotV, aCall, aCons, aNil, aVar, aC, aOp, aUn, aB, aTru, aIf, aSeq, aIfS, aNot, aAnd, aOr, aAsg, agName, aNext, aChain, aSl, aPart, aNoPart, aDrop, aTup, aLst, rd_dat, rd_new, mod_lst, le_int', lt_int', aI_int, add_int', add_lst', eq_int', eq_str', tru_bl, tru_lst, tru_tup, true_and, aIsi, aLen, see_int', see_str', see_bl', see_non', see_tup', see_lst', see_stc', see_scr', List.getElem?_cons_zero, List.getElem?_cons_succ, List.set_cons_zero, List.set_cons_succ, Option.some.injEq, exists_eq_left', List.cons.injEq, and_true, D.ty.injEq, D.bl.injEq, D.int.injEq, D.str.injEq, and_assoc, exists_and_left, exists_eq_left, exists_and_right, ret_bl, ret_int, Bool.false_eq_true, if_true, if_false, Bool.not_true, Bool.not_false]
      have hUx : ∀ y ∈ mks x, y ∈ ms ++ mks x := fun y hy => List.mem_append_right _ hy
      have hUb : ∀ y ∈ mks (bk x), y ∈ ms ++ mks x := fun y hy => List.mem_append_right _ (mks_bk x y hy)
      have hUm : ∀ y ∈ ms, y ∈ ms ++ mks x := fun y hy => List.mem_append_left _ hy
      have hUl : (ms ++ mks x).length ≤ 20 := by have := mks_len x; rw [List.length_append]; omega
      have hUo : ∀ y ∈ ms ++ mks x, okS y = true := fun y hy => by
        rcases List.mem_append.mp hy with hy | hy
        · exact nm_ok (hm y hy)
        · exact nm_ok (mks_ok x ho y hy)
      generalize ms ++ mks x = U at hUx hUb hUm hUl hUo
      refine ⟨U, 0, n2, x, ws, ms, o9, rfl, hd, ho, hN8, hw, hm, by omega, by omega, hUl, hUm, hUx, rfl, h9, by omega, fun L o10 hL hl h10 => ?_⟩
      have hLk := hL.ok hUo
      obtain ⟨r1, r2⟩ := rev_len L
      have hll := hL.len
      refine ⟨x, L, rfl, hd, ho, by omega, hLk, by omega, fun b1 hb1 => ?_⟩
      refine ⟨L, rfl, by omega, by omega, ?_⟩
      refine ⟨bk x, L.rev, rfl, hd', ho', by omega, hLk.rev, by omega, fun b2 hb2 => ?_⟩
      have e2 : b2 = b1 := Bool.eq_iff_iff.mpr (hb2.trans ((whole_rev hll x).trans hb1.symm))
      subst e2
      refine ne_bl ?_
      refine ⟨x, L, rfl, hd, ho, by omega, hLk, by omega, fun b3 hb3 => ?_⟩
      have e3 : b3 = b2 := Bool.eq_iff_iff.mpr (hb3.trans hb1.symm)
      subst e3
      refine ne_bl ?_
      refine ⟨U, 0, _, bk x, ws, ms, o10, rfl, hd', ho', hN', hw, hm, by omega, by omega, hUl, hUm, hUb, rfl, h10, by omega, fun L' o11 hL' hl' h11 => ?_⟩
      have hLk' := hL'.ok hUo
      obtain ⟨r1', r2'⟩ := rev_len L'
      have hll' := hL'.len
      refine ⟨bk x, L', rfl, hd', ho', by omega, hLk', by omega, fun b4 hb4 => ?_⟩
      refine ⟨L', rfl, by omega, by omega, ?_⟩
      refine ⟨x, L'.rev, rfl, hd, ho, by omega, hLk'.rev, by omega, fun b5 hb5 => ?_⟩
      have hwr := whole_rev hll' (bk x)
      rw [bk_bk] at hwr
      have e5 : b5 = b4 := Bool.eq_iff_iff.mpr (hb5.trans (hwr.trans hb4.symm))
      subst e5
      refine ne_bl ?_
      exact hN'' _ _ ⟨_, o11, _, _, _, rfl, rfl, h11, by omega⟩
noncomputable def spLaw (K : PySem.W.Frag) : Sp := fun vs H Q _ => ∃ (a : Addr) (ns : List Int), vs = [.ref a] ∧ SqL K H a (ns.map V.int) ∧ ns.length ≤ 63 ∧ ∀ H', Q (.bl true) H'
theorem top_of {f : Addr} {fd : FuncData} {k : Nat} (h : FnOk P w K mg base CX0 k f fd PscLaw (conSp K spLawA)) : FnOk P w K mg base CX0 k f fd PscLaw (spLaw K) := h.imp fun vs H Q E z => by
  obtain ⟨a, ns, rfl, hS, _, q⟩ := z
  refine ⟨⟨H, fun _ => none⟩, [.scr ns], [], fun r S => r = .dat (.bl true), ⟨Same.refl _, fun n o e => by simp at e, fun n m o o' e => by simp at e, fun _ _ => rfl⟩, ?_, ⟨ns, rfl, rfl, rfl⟩, fun r S' v w' H' _ _ rep e => ?_⟩
  · simp only [Reps, Rep]; exact ⟨_, _, rfl, ⟨a, rfl, hS⟩, rfl⟩
  · subst e
    have : v = .bl true := rep_bl rep rfl
    subst this
    exact q H'
end
end K63
set_option Elab.async false
set_option linter.all false
set_option maxRecDepth 100000
set_option maxHeartbeats 4000000
namespace K63
open PySem L2
theorem all_mk {l : PySem.W.OpenLaw} {w : World} {K : PySem.W.Frag} {h : Heap} {mg : Str → Option Value} {fa : Addr} (X : K.In h) (G : h.Ns mainGlobals mg) (hfa : mg "law" = some (.ref fa))
    {f_scRow : Addr} {oc_scRow kV_scRow dc_scRow pm_scRow cd_scRow ct_scRow : Value} {od_scRow an_scRow : Option Addr} {sl_scRow : Array (Option Value)}
    {f_scName : Addr} {oc_scName kV_scName dc_scName pm_scName cd_scName ct_scName : Value} {od_scName an_scName : Option Addr} {sl_scName : Array (Option Value)}
    {f_scPat : Addr} {oc_scPat kV_scPat dc_scPat pm_scPat cd_scPat ct_scPat : Value} {od_scPat an_scPat : Option Addr} {sl_scPat : Array (Option Value)}
    {f_scLeaf : Addr} {oc_scLeaf kV_scLeaf dc_scLeaf pm_scLeaf cd_scLeaf ct_scLeaf : Value} {od_scLeaf an_scLeaf : Option Addr} {sl_scLeaf : Array (Option Value)}
    {f_scWord : Addr} {oc_scWord kV_scWord dc_scWord pm_scWord cd_scWord ct_scWord : Value} {od_scWord an_scWord : Option Addr} {sl_scWord : Array (Option Value)}
    {f_scJoint : Addr} {oc_scJoint kV_scJoint dc_scJoint pm_scJoint cd_scJoint ct_scJoint : Value} {od_scJoint an_scJoint : Option Addr} {sl_scJoint : Array (Option Value)}
    {f_scWithin : Addr} {oc_scWithin kV_scWithin dc_scWithin pm_scWithin cd_scWithin ct_scWithin : Value} {od_scWithin an_scWithin : Option Addr} {sl_scWithin : Array (Option Value)}
    {f_scBelow : Addr} {oc_scBelow kV_scBelow dc_scBelow pm_scBelow cd_scBelow ct_scBelow : Value} {od_scBelow an_scBelow : Option Addr} {sl_scBelow : Array (Option Value)}
    {f_scOther : Addr} {oc_scOther kV_scOther dc_scOther pm_scOther cd_scOther ct_scOther : Value} {od_scOther an_scOther : Option Addr} {sl_scOther : Array (Option Value)}
    {f_scBk : Addr} {oc_scBk kV_scBk dc_scBk pm_scBk cd_scBk ct_scBk : Value} {od_scBk an_scBk : Option Addr} {sl_scBk : Array (Option Value)}
    {f_scFeed : Addr} {oc_scFeed kV_scFeed dc_scFeed pm_scFeed cd_scFeed ct_scFeed : Value} {od_scFeed an_scFeed : Option Addr} {sl_scFeed : Array (Option Value)}
    {f_scDraw : Addr} {oc_scDraw kV_scDraw dc_scDraw pm_scDraw cd_scDraw ct_scDraw : Value} {od_scDraw an_scDraw : Option Addr} {sl_scDraw : Array (Option Value)}
    {f_scNames : Addr} {oc_scNames kV_scNames dc_scNames pm_scNames cd_scNames ct_scNames : Value} {od_scNames an_scNames : Option Addr} {sl_scNames : Array (Option Value)}
    {f_scLLeaf : Addr} {oc_scLLeaf kV_scLLeaf dc_scLLeaf pm_scLLeaf cd_scLLeaf ct_scLLeaf : Value} {od_scLLeaf an_scLLeaf : Option Addr} {sl_scLLeaf : Array (Option Value)}
    {f_scLPat : Addr} {oc_scLPat kV_scLPat dc_scLPat pm_scLPat cd_scLPat ct_scLPat : Value} {od_scLPat an_scLPat : Option Addr} {sl_scLPat : Array (Option Value)}
    {f_scEnds : Addr} {oc_scEnds kV_scEnds dc_scEnds pm_scEnds cd_scEnds ct_scEnds : Value} {od_scEnds an_scEnds : Option Addr} {sl_scEnds : Array (Option Value)}
    {f_scRight : Addr} {oc_scRight kV_scRight dc_scRight pm_scRight cd_scRight ct_scRight : Value} {od_scRight an_scRight : Option Addr} {sl_scRight : Array (Option Value)}
    {f_scAll : Addr} {oc_scAll kV_scAll dc_scAll pm_scAll cd_scAll ct_scAll : Value} {od_scAll an_scAll : Option Addr} {sl_scAll : Array (Option Value)}
    {f_scCnt : Addr} {oc_scCnt kV_scCnt dc_scCnt pm_scCnt cd_scCnt ct_scCnt : Value} {od_scCnt an_scCnt : Option Addr} {sl_scCnt : Array (Option Value)}
    {f_scJoin : Addr} {oc_scJoin kV_scJoin dc_scJoin pm_scJoin cd_scJoin ct_scJoin : Value} {od_scJoin an_scJoin : Option Addr} {sl_scJoin : Array (Option Value)}
    {f_scGone : Addr} {oc_scGone kV_scGone dc_scGone pm_scGone cd_scGone ct_scGone : Value} {od_scGone an_scGone : Option Addr} {sl_scGone : Array (Option Value)}
    {f_scLine : Addr} {oc_scLine kV_scLine dc_scLine pm_scLine cd_scLine ct_scLine : Value} {od_scLine an_scLine : Option Addr} {sl_scLine : Array (Option Value)}
    {f_scBack : Addr} {oc_scBack kV_scBack dc_scBack pm_scBack cd_scBack ct_scBack : Value} {od_scBack an_scBack : Option Addr} {sl_scBack : Array (Option Value)}
    {f_scLaw : Addr} {oc_scLaw kV_scLaw dc_scLaw pm_scLaw cd_scLaw ct_scLaw : Value} {od_scLaw an_scLaw : Option Addr} {sl_scLaw : Array (Option Value)}
    {t_LONGEST : Tok}
    {t_MOST_PARTS : Tok}
    {t_MOST_WITHIN : Tok}
    {t_DEEPEST : Tok}
    {t_ANY : Tok}
    {ad_LEAVES : Addr}
    {od_LEAVES : Option Addr} {its_LEAVES : Array Value} {n_LEAVES : Nat} {sl_LEAVES : Array (Option Value)}
    {ad_SIDES : Addr}
    {od_SIDES : Option Addr} {its_SIDES : Array Value} {n_SIDES : Nat} {sl_SIDES : Array (Option Value)}
    (a_scRow : PySem.W.nsIn K mainGlobals "is_row" = some (some (.ref f_scRow))) (l_scRow : K.lookup f_scRow = some ⟨oc_scRow, od_scRow, .func (PySem.W.fnOf "is_row" "is_row" (defArgs sRow) (defBody sRow) (defScope sRow) .none kV_scRow dc_scRow pm_scRow an_scRow cd_scRow ct_scRow), sl_scRow⟩) (c_scRow : PySem.W.codeIn K cd_scRow "is_row" = true) (k_scRow : PySem.W.keepIn K (.ref f_scRow) = true)
    (a_scName : PySem.W.nsIn K mainGlobals "is_name" = some (some (.ref f_scName))) (l_scName : K.lookup f_scName = some ⟨oc_scName, od_scName, .func (PySem.W.fnOf "is_name" "is_name" (defArgs sName) (defBody sName) (defScope sName) .none kV_scName dc_scName pm_scName an_scName cd_scName ct_scName), sl_scName⟩) (c_scName : PySem.W.codeIn K cd_scName "is_name" = true) (k_scName : PySem.W.keepIn K (.ref f_scName) = true)
    (a_scPat : PySem.W.nsIn K mainGlobals "is_pattern" = some (some (.ref f_scPat))) (l_scPat : K.lookup f_scPat = some ⟨oc_scPat, od_scPat, .func (PySem.W.fnOf "is_pattern" "is_pattern" (defArgs sPat) (defBody sPat) (defScope sPat) .none kV_scPat dc_scPat pm_scPat an_scPat cd_scPat ct_scPat), sl_scPat⟩) (c_scPat : PySem.W.codeIn K cd_scPat "is_pattern" = true) (k_scPat : PySem.W.keepIn K (.ref f_scPat) = true)
    (a_scLeaf : PySem.W.nsIn K mainGlobals "is_leaf" = some (some (.ref f_scLeaf))) (l_scLeaf : K.lookup f_scLeaf = some ⟨oc_scLeaf, od_scLeaf, .func (PySem.W.fnOf "is_leaf" "is_leaf" (defArgs sLeaf) (defBody sLeaf) (defScope sLeaf) .none kV_scLeaf dc_scLeaf pm_scLeaf an_scLeaf cd_scLeaf ct_scLeaf), sl_scLeaf⟩) (c_scLeaf : PySem.W.codeIn K cd_scLeaf "is_leaf" = true) (k_scLeaf : PySem.W.keepIn K (.ref f_scLeaf) = true)
    (a_scWord : PySem.W.nsIn K mainGlobals "is_word" = some (some (.ref f_scWord))) (l_scWord : K.lookup f_scWord = some ⟨oc_scWord, od_scWord, .func (PySem.W.fnOf "is_word" "is_word" (defArgs sWord) (defBody sWord) (defScope sWord) .none kV_scWord dc_scWord pm_scWord an_scWord cd_scWord ct_scWord), sl_scWord⟩) (c_scWord : PySem.W.codeIn K cd_scWord "is_word" = true) (k_scWord : PySem.W.keepIn K (.ref f_scWord) = true)
    (a_scJoint : PySem.W.nsIn K mainGlobals "is_joint" = some (some (.ref f_scJoint))) (l_scJoint : K.lookup f_scJoint = some ⟨oc_scJoint, od_scJoint, .func (PySem.W.fnOf "is_joint" "is_joint" (defArgs sJoint) (defBody sJoint) (defScope sJoint) .none kV_scJoint dc_scJoint pm_scJoint an_scJoint cd_scJoint ct_scJoint), sl_scJoint⟩) (c_scJoint : PySem.W.codeIn K cd_scJoint "is_joint" = true) (k_scJoint : PySem.W.keepIn K (.ref f_scJoint) = true)
    (a_scWithin : PySem.W.nsIn K mainGlobals "right_within" = some (some (.ref f_scWithin))) (l_scWithin : K.lookup f_scWithin = some ⟨oc_scWithin, od_scWithin, .func (PySem.W.fnOf "right_within" "right_within" (defArgs sWithin) (defBody sWithin) (defScope sWithin) .none kV_scWithin dc_scWithin pm_scWithin an_scWithin cd_scWithin ct_scWithin), sl_scWithin⟩) (c_scWithin : PySem.W.codeIn K cd_scWithin "right_within" = true) (k_scWithin : PySem.W.keepIn K (.ref f_scWithin) = true)
    (a_scBelow : PySem.W.nsIn K mainGlobals "layer_below" = some (some (.ref f_scBelow))) (l_scBelow : K.lookup f_scBelow = some ⟨oc_scBelow, od_scBelow, .func (PySem.W.fnOf "layer_below" "layer_below" (defArgs sBelow) (defBody sBelow) (defScope sBelow) .none kV_scBelow dc_scBelow pm_scBelow an_scBelow cd_scBelow ct_scBelow), sl_scBelow⟩) (c_scBelow : PySem.W.codeIn K cd_scBelow "layer_below" = true) (k_scBelow : PySem.W.keepIn K (.ref f_scBelow) = true)
    (a_scOther : PySem.W.nsIn K mainGlobals "other_side" = some (some (.ref f_scOther))) (l_scOther : K.lookup f_scOther = some ⟨oc_scOther, od_scOther, .func (PySem.W.fnOf "other_side" "other_side" (defArgs sOther) (defBody sOther) (defScope sOther) .none kV_scOther dc_scOther pm_scOther an_scOther cd_scOther ct_scOther), sl_scOther⟩) (c_scOther : PySem.W.codeIn K cd_scOther "other_side" = true) (k_scOther : PySem.W.keepIn K (.ref f_scOther) = true)
    (a_scBk : PySem.W.nsIn K mainGlobals "backwards" = some (some (.ref f_scBk))) (l_scBk : K.lookup f_scBk = some ⟨oc_scBk, od_scBk, .func (PySem.W.fnOf "backwards" "backwards" (defArgs sBk) (defBody sBk) (defScope sBk) .none kV_scBk dc_scBk pm_scBk an_scBk cd_scBk ct_scBk), sl_scBk⟩) (c_scBk : PySem.W.codeIn K cd_scBk "backwards" = true) (k_scBk : PySem.W.keepIn K (.ref f_scBk) = true)
    (a_scFeed : PySem.W.nsIn K mainGlobals "_law_feed" = some (some (.ref f_scFeed))) (l_scFeed : K.lookup f_scFeed = some ⟨oc_scFeed, od_scFeed, .func (PySem.W.fnOf "_law_feed" "_law_feed" (defArgs sFeed) (defBody sFeed) (defScope sFeed) .none kV_scFeed dc_scFeed pm_scFeed an_scFeed cd_scFeed ct_scFeed), sl_scFeed⟩) (c_scFeed : PySem.W.codeIn K cd_scFeed "_law_feed" = true) (k_scFeed : PySem.W.keepIn K (.ref f_scFeed) = true)
    (a_scDraw : PySem.W.nsIn K mainGlobals "_law_draw" = some (some (.ref f_scDraw))) (l_scDraw : K.lookup f_scDraw = some ⟨oc_scDraw, od_scDraw, .func (PySem.W.fnOf "_law_draw" "_law_draw" (defArgs sDraw) (defBody sDraw) (defScope sDraw) .none kV_scDraw dc_scDraw pm_scDraw an_scDraw cd_scDraw ct_scDraw), sl_scDraw⟩) (c_scDraw : PySem.W.codeIn K cd_scDraw "_law_draw" = true) (k_scDraw : PySem.W.keepIn K (.ref f_scDraw) = true)
    (a_scNames : PySem.W.nsIn K mainGlobals "_law_names" = some (some (.ref f_scNames))) (l_scNames : K.lookup f_scNames = some ⟨oc_scNames, od_scNames, .func (PySem.W.fnOf "_law_names" "_law_names" (defArgs sNames) (defBody sNames) (defScope sNames) .none kV_scNames dc_scNames pm_scNames an_scNames cd_scNames ct_scNames), sl_scNames⟩) (c_scNames : PySem.W.codeIn K cd_scNames "_law_names" = true) (k_scNames : PySem.W.keepIn K (.ref f_scNames) = true)
    (a_scLLeaf : PySem.W.nsIn K mainGlobals "_law_leaf" = some (some (.ref f_scLLeaf))) (l_scLLeaf : K.lookup f_scLLeaf = some ⟨oc_scLLeaf, od_scLLeaf, .func (PySem.W.fnOf "_law_leaf" "_law_leaf" (defArgs sLLeaf) (defBody sLLeaf) (defScope sLLeaf) .none kV_scLLeaf dc_scLLeaf pm_scLLeaf an_scLLeaf cd_scLLeaf ct_scLLeaf), sl_scLLeaf⟩) (c_scLLeaf : PySem.W.codeIn K cd_scLLeaf "_law_leaf" = true) (k_scLLeaf : PySem.W.keepIn K (.ref f_scLLeaf) = true)
    (a_scLPat : PySem.W.nsIn K mainGlobals "_law_pattern" = some (some (.ref f_scLPat))) (l_scLPat : K.lookup f_scLPat = some ⟨oc_scLPat, od_scLPat, .func (PySem.W.fnOf "_law_pattern" "_law_pattern" (defArgs sLPat) (defBody sLPat) (defScope sLPat) .none kV_scLPat dc_scLPat pm_scLPat an_scLPat cd_scLPat ct_scLPat), sl_scLPat⟩) (c_scLPat : PySem.W.codeIn K cd_scLPat "_law_pattern" = true) (k_scLPat : PySem.W.keepIn K (.ref f_scLPat) = true)
    (a_scEnds : PySem.W.nsIn K mainGlobals "_law_ends" = some (some (.ref f_scEnds))) (l_scEnds : K.lookup f_scEnds = some ⟨oc_scEnds, od_scEnds, .func (PySem.W.fnOf "_law_ends" "_law_ends" (defArgs sEnds) (defBody sEnds) (defScope sEnds) .none kV_scEnds dc_scEnds pm_scEnds an_scEnds cd_scEnds ct_scEnds), sl_scEnds⟩) (c_scEnds : PySem.W.codeIn K cd_scEnds "_law_ends" = true) (k_scEnds : PySem.W.keepIn K (.ref f_scEnds) = true)
    (a_scRight : PySem.W.nsIn K mainGlobals "_law_right" = some (some (.ref f_scRight))) (l_scRight : K.lookup f_scRight = some ⟨oc_scRight, od_scRight, .func (PySem.W.fnOf "_law_right" "_law_right" (defArgs sRight) (defBody sRight) (defScope sRight) .none kV_scRight dc_scRight pm_scRight an_scRight cd_scRight ct_scRight), sl_scRight⟩) (c_scRight : PySem.W.codeIn K cd_scRight "_law_right" = true) (k_scRight : PySem.W.keepIn K (.ref f_scRight) = true)
    (a_scAll : PySem.W.nsIn K mainGlobals "_law_all" = some (some (.ref f_scAll))) (l_scAll : K.lookup f_scAll = some ⟨oc_scAll, od_scAll, .func (PySem.W.fnOf "_law_all" "_law_all" (defArgs sAll) (defBody sAll) (defScope sAll) .none kV_scAll dc_scAll pm_scAll an_scAll cd_scAll ct_scAll), sl_scAll⟩) (c_scAll : PySem.W.codeIn K cd_scAll "_law_all" = true) (k_scAll : PySem.W.keepIn K (.ref f_scAll) = true)
    (a_scCnt : PySem.W.nsIn K mainGlobals "_law_counts" = some (some (.ref f_scCnt))) (l_scCnt : K.lookup f_scCnt = some ⟨oc_scCnt, od_scCnt, .func (PySem.W.fnOf "_law_counts" "_law_counts" (defArgs sCnt) (defBody sCnt) (defScope sCnt) .none kV_scCnt dc_scCnt pm_scCnt an_scCnt cd_scCnt ct_scCnt), sl_scCnt⟩) (c_scCnt : PySem.W.codeIn K cd_scCnt "_law_counts" = true) (k_scCnt : PySem.W.keepIn K (.ref f_scCnt) = true)
    (a_scJoin : PySem.W.nsIn K mainGlobals "_law_join" = some (some (.ref f_scJoin))) (l_scJoin : K.lookup f_scJoin = some ⟨oc_scJoin, od_scJoin, .func (PySem.W.fnOf "_law_join" "_law_join" (defArgs sJoin) (defBody sJoin) (defScope sJoin) .none kV_scJoin dc_scJoin pm_scJoin an_scJoin cd_scJoin ct_scJoin), sl_scJoin⟩) (c_scJoin : PySem.W.codeIn K cd_scJoin "_law_join" = true) (k_scJoin : PySem.W.keepIn K (.ref f_scJoin) = true)
    (a_scGone : PySem.W.nsIn K mainGlobals "_law_gone" = some (some (.ref f_scGone))) (l_scGone : K.lookup f_scGone = some ⟨oc_scGone, od_scGone, .func (PySem.W.fnOf "_law_gone" "_law_gone" (defArgs sGone) (defBody sGone) (defScope sGone) .none kV_scGone dc_scGone pm_scGone an_scGone cd_scGone ct_scGone), sl_scGone⟩) (c_scGone : PySem.W.codeIn K cd_scGone "_law_gone" = true) (k_scGone : PySem.W.keepIn K (.ref f_scGone) = true)
    (a_scLine : PySem.W.nsIn K mainGlobals "_law_line" = some (some (.ref f_scLine))) (l_scLine : K.lookup f_scLine = some ⟨oc_scLine, od_scLine, .func (PySem.W.fnOf "_law_line" "_law_line" (defArgs sLine) (defBody sLine) (defScope sLine) .none kV_scLine dc_scLine pm_scLine an_scLine cd_scLine ct_scLine), sl_scLine⟩) (c_scLine : PySem.W.codeIn K cd_scLine "_law_line" = true) (k_scLine : PySem.W.keepIn K (.ref f_scLine) = true)
    (a_scBack : PySem.W.nsIn K mainGlobals "_law_back" = some (some (.ref f_scBack))) (l_scBack : K.lookup f_scBack = some ⟨oc_scBack, od_scBack, .func (PySem.W.fnOf "_law_back" "_law_back" (defArgs sBack) (defBody sBack) (defScope sBack) .none kV_scBack dc_scBack pm_scBack an_scBack cd_scBack ct_scBack), sl_scBack⟩) (c_scBack : PySem.W.codeIn K cd_scBack "_law_back" = true) (k_scBack : PySem.W.keepIn K (.ref f_scBack) = true)
    (a_scLaw : PySem.W.nsIn K mainGlobals "law" = some (some (.ref f_scLaw))) (l_scLaw : K.lookup f_scLaw = some ⟨oc_scLaw, od_scLaw, .func (PySem.W.fnOf "law" "law" (defArgs sLaw) (defBody sLaw) (defScope sLaw) .none kV_scLaw dc_scLaw pm_scLaw an_scLaw cd_scLaw ct_scLaw), sl_scLaw⟩) (c_scLaw : PySem.W.codeIn K cd_scLaw "law" = true) (k_scLaw : PySem.W.keepIn K (.ref f_scLaw) = true)
    (z_len : PySem.W.nsIn K mainGlobals "len" = some none)
    (z_isinstance : PySem.W.nsIn K mainGlobals "isinstance" = some none)
    (z_str : PySem.W.nsIn K mainGlobals "str" = some none)
    (z_int : PySem.W.nsIn K mainGlobals "int" = some none)
    (z_tuple : PySem.W.nsIn K mainGlobals "tuple" = some none)
    (z_list : PySem.W.nsIn K mainGlobals "list" = some none)
    (z_all : PySem.W.nsIn K mainGlobals "all" = some none)
    (z_range : PySem.W.nsIn K mainGlobals "range" = some none)
    (z_sorted : PySem.W.nsIn K mainGlobals "sorted" = some none)
    (z_set : PySem.W.nsIn K mainGlobals "set" = some none)
    (z_reversed : PySem.W.nsIn K mainGlobals "reversed" = some none)
    (m_LONGEST : PySem.W.nsIn K mainGlobals "LONGEST" = some (some (.int 8 t_LONGEST)))
    (m_MOST_PARTS : PySem.W.nsIn K mainGlobals "MOST_PARTS" = some (some (.int 40 t_MOST_PARTS)))
    (m_MOST_WITHIN : PySem.W.nsIn K mainGlobals "MOST_WITHIN" = some (some (.int 39 t_MOST_WITHIN)))
    (m_DEEPEST : PySem.W.nsIn K mainGlobals "DEEPEST" = some (some (.int 10 t_DEEPEST)))
    (m_ANY : PySem.W.nsIn K mainGlobals "ANY" = some (some (.str "*" t_ANY)))
    (m_LEAVES : PySem.W.nsIn K mainGlobals "LEAVES" = some (some (.ref ad_LEAVES)))
    (l_LEAVES : K.lookup ad_LEAVES = some ⟨.type "tuple", od_LEAVES, .seq its_LEAVES n_LEAVES, sl_LEAVES⟩)
    (q_LEAVES : (its_LEAVES.toList.map strOf == (["stay", "step", "at", "off"] : List Str).map some) = true)
    (m_SIDES : PySem.W.nsIn K mainGlobals "SIDES" = some (some (.ref ad_SIDES)))
    (l_SIDES : K.lookup ad_SIDES = some ⟨.type "tuple", od_SIDES, .seq its_SIDES n_SIDES, sl_SIDES⟩)
    (q_SIDES : (its_SIDES.toList.map strOf == (["on", "back"] : List Str).map some) = true) :
    ∃ fd : FuncData, (∀ (s : Shared) (v : Value), BindsTo s fd ⟨[v], []⟩ [("_law_script", v)]) ∧ ∀ base : Heap, K.In base → base.Ns mainGlobals mg → FnOk l.prog w K mg base CX0 9 fa fd ["_law_script"] (spLaw K) := by
  have e := hfa.symm.trans (PySem.W.mg_of X G a_scLaw)
  cases e
  have S_scRow : Src K mg "is_row" PscRow sRow := J.src_mk X G a_scRow l_scRow c_scRow k_scRow fun _ _ _ _ _ _ => J.by2 (fun _ _ => rfl)
  have S_scName : Src K mg "is_name" PscName sName := J.src_mk X G a_scName l_scName c_scName k_scName fun _ _ _ _ _ _ => J.by1 (fun _ => rfl)
  have S_scPat : Src K mg "is_pattern" PscPat sPat := J.src_mk X G a_scPat l_scPat c_scPat k_scPat fun _ _ _ _ _ _ => J.by1 (fun _ => rfl)
  have S_scLeaf : Src K mg "is_leaf" PscLeaf sLeaf := J.src_mk X G a_scLeaf l_scLeaf c_scLeaf k_scLeaf fun _ _ _ _ _ _ => J.by1 (fun _ => rfl)
  have S_scWord : Src K mg "is_word" PscWord sWord := J.src_mk X G a_scWord l_scWord c_scWord k_scWord fun _ _ _ _ _ _ => J.by1 (fun _ => rfl)
  have S_scJoint : Src K mg "is_joint" PscJoint sJoint := J.src_mk X G a_scJoint l_scJoint c_scJoint k_scJoint fun _ _ _ _ _ _ => J.by1 (fun _ => rfl)
  have S_scWithin : Src K mg "right_within" PscWithin sWithin := J.src_mk X G a_scWithin l_scWithin c_scWithin k_scWithin fun _ _ _ _ _ _ => J.by1 (fun _ => rfl)
  have S_scBelow : Src K mg "layer_below" PscBelow sBelow := J.src_mk X G a_scBelow l_scBelow c_scBelow k_scBelow fun _ _ _ _ _ _ => J.by1 (fun _ => rfl)
  have S_scOther : Src K mg "other_side" PscOther sOther := J.src_mk X G a_scOther l_scOther c_scOther k_scOther fun _ _ _ _ _ _ => J.by1 (fun _ => rfl)
  have S_scBk : Src K mg "backwards" PscBk sBk := J.src_mk X G a_scBk l_scBk c_scBk k_scBk fun _ _ _ _ _ _ => J.by1 (fun _ => rfl)
  have S_scFeed : Src K mg "_law_feed" PscFeed sFeed := J.src_mk X G a_scFeed l_scFeed c_scFeed k_scFeed fun _ _ _ _ _ _ => J.by1 (fun _ => rfl)
  have S_scDraw : Src K mg "_law_draw" PscDraw sDraw := J.src_mk X G a_scDraw l_scDraw c_scDraw k_scDraw fun _ _ _ _ _ _ => J.by2 (fun _ _ => rfl)
  have S_scNames : Src K mg "_law_names" PscNames sNames := J.src_mk X G a_scNames l_scNames c_scNames k_scNames fun _ _ _ _ _ _ => J.by2 (fun _ _ => rfl)
  have S_scLLeaf : Src K mg "_law_leaf" PscLLeaf sLLeaf := J.src_mk X G a_scLLeaf l_scLLeaf c_scLLeaf k_scLLeaf fun _ _ _ _ _ _ => J.by3 (fun _ _ _ => rfl)
  have S_scLPat : Src K mg "_law_pattern" PscLPat sLPat := J.src_mk X G a_scLPat l_scLPat c_scLPat k_scLPat fun _ _ _ _ _ _ => J.by5 (fun _ _ _ _ _ => rfl)
  have S_scEnds : Src K mg "_law_ends" PscEnds sEnds := J.src_mk X G a_scEnds l_scEnds c_scEnds k_scEnds fun _ _ _ _ _ _ => J.by3 (fun _ _ _ => rfl)
  have S_scRight : Src K mg "_law_right" PscRight sRight := J.src_mk X G a_scRight l_scRight c_scRight k_scRight fun _ _ _ _ _ _ => J.by2 (fun _ _ => rfl)
  have S_scAll : Src K mg "_law_all" PscAll sAll := J.src_mk X G a_scAll l_scAll c_scAll k_scAll fun _ _ _ _ _ _ => J.by1 (fun _ => rfl)
  have S_scCnt : Src K mg "_law_counts" PscCnt sCnt := J.src_mk X G a_scCnt l_scCnt c_scCnt k_scCnt fun _ _ _ _ _ _ => J.by1 (fun _ => rfl)
  have S_scJoin : Src K mg "_law_join" PscJoin sJoin := J.src_mk X G a_scJoin l_scJoin c_scJoin k_scJoin fun _ _ _ _ _ _ => J.by2 (fun _ _ => rfl)
  have S_scGone : Src K mg "_law_gone" PscGone sGone := J.src_mk X G a_scGone l_scGone c_scGone k_scGone fun _ _ _ _ _ _ => J.by4 (fun _ _ _ _ => rfl)
  have S_scLine : Src K mg "_law_line" PscLine sLine := J.src_mk X G a_scLine l_scLine c_scLine k_scLine fun _ _ _ _ _ _ => J.by4 (fun _ _ _ _ => rfl)
  have S_scBack : Src K mg "_law_back" PscBack sBack := J.src_mk X G a_scBack l_scBack c_scBack k_scBack fun _ _ _ _ _ _ => J.by1 (fun _ => rfl)
  have F := fun_mk (st := sLaw) l_scLaw c_scLaw k_scLaw
  have T : Txt K mg := ⟨PySem.W.mg_none_of X G z_len, PySem.W.mg_none_of X G z_isinstance, PySem.W.mg_none_of X G z_str, PySem.W.mg_none_of X G z_int, PySem.W.mg_none_of X G z_tuple, PySem.W.mg_none_of X G z_list, PySem.W.mg_none_of X G z_all, PySem.W.mg_none_of X G z_range, PySem.W.mg_none_of X G z_sorted, PySem.W.mg_none_of X G z_set, PySem.W.mg_none_of X G z_reversed, ⟨_, PySem.W.mg_of X G m_LONGEST⟩, ⟨_, PySem.W.mg_of X G m_MOST_PARTS⟩, ⟨_, PySem.W.mg_of X G m_MOST_WITHIN⟩, ⟨_, PySem.W.mg_of X G m_DEEPEST⟩, ⟨_, PySem.W.mg_of X G m_ANY⟩, ⟨_, PySem.W.mg_of X G m_LEAVES, fun H => stc_of l_LEAVES q_LEAVES (by decide) H⟩, ⟨_, PySem.W.mg_of X G m_SIDES, fun H => stc_of l_SIDES q_SIDES (by decide) H⟩⟩
  refine ⟨PySem.W.fnOf "law" "law" (defArgs sLaw) (defBody sLaw) (defScope sLaw) .none kV_scLaw dc_scLaw pm_scLaw an_scLaw cd_scLaw ct_scLaw, fun s v => .of_eq rfl, fun base _ _ => ?_⟩
  have D_draw := d_Draw (P := l.prog) (w := w) (base := base) T S_scDraw
  have D_row := d_Row (P := l.prog) (w := w) (base := base) T S_scRow
  have D_name := d_Name (P := l.prog) (w := w) (base := base) T S_scName
  have D_pat := d_Pat T S_scPat (d_Leaf T S_scLeaf D_name D_row (d_Word T S_scWord D_name)) (d_Joint T S_scJoint D_row) (d_Below T S_scBelow (d_Within T S_scWithin))
  exact top_of (d_LawA T F (d_Feed T S_scFeed) D_draw (d_Names T S_scNames D_draw) (d_LPat T S_scLPat D_draw (d_LLeaf T S_scLLeaf D_draw) 4 (Nat.le_refl _)) (d_Bk T S_scBk (d_Other T S_scOther) 4 (Nat.le_refl _)) D_pat (d_Cnt T S_scCnt (d_All T S_scAll 4 (Nat.le_refl _))) (d_Line T S_scLine D_draw (d_Gone T S_scGone D_draw (d_Join T S_scJoin) 4 (Nat.le_refl _))) (d_Right T S_scRight (d_Ends T S_scEnds 4 (Nat.le_refl _))) (d_Back T S_scBack))
theorem walk {l : PySem.W.OpenLaw} {q : Program} {loose : List Str} {XP : (Str → Option Value) → Heap → Prop} {YP : World → Heap → Prop} {d : DefRec} {K : Params → PySem.W.Frag} (hn : l.most = some 63) (hdf : d.params.defaults = [])
    (hY : ∀ (w : World) (h : Heap), YP w h → (K w.params).In h)
    (F : ∀ (w : World) (mg : Str → Option Value) (fa : Addr) (h : Heap), (K w.params).In h → h.Ns mainGlobals mg → mg d.name = some (.ref fa) →
      ∃ fd : FuncData, (∀ (s : Shared) (u : Value), BindsTo s fd ⟨[u], []⟩ [("_law_script", u)]) ∧ ∀ base : Heap, (K w.params).In base → base.Ns mainGlobals mg → FnOk l.prog w (K w.params) mg base CX0 9 fa fd ["_law_script"] (spLaw (K w.params))) :
    PySem.W.WalkO q loose XP YP l.row.toRowW d [] (fun f vs => PySem.call f vs) :=
  L2.walk_of (n := 63) (k := 9) (x := "_law_script") (CX := fun _ => CX0) (sp := fun w => spLaw (K w.params)) hn (by decide) hdf ⟨rfl, by decide, by decide, rfl⟩ hY F (fun _ _ a ns hl _ hS => ⟨a, ns, rfl, hS, hl, fun _ => rfl⟩) fun _ _ _ _ _ z => z
end K63
open PySem PySem.W PyProof.Rows
set_option maxRecDepth 100000 in
set_option maxHeartbeats 0 in
theorem PySem.Challenge.cw_pathask_k63_backwards_holds : PySem.Challenge.rw_pathask_k63_backwards.Holds := by
  w_on; o_law; k_head; (case hw => w_witness2)
  k_fill
  refine K63.walk (l := PySem.Challenge.rw_pathask_k63_backwards) rfl rfl (fun w h Y => PySem.W.kIn_of Y) ?F
  case F =>
    intro w mg fa h KX G hmg
    refine' K63.all_mk KX G hmg ?a_scRow ?l_scRow ?c_scRow ?k_scRow ?a_scName ?l_scName ?c_scName ?k_scName ?a_scPat ?l_scPat ?c_scPat ?k_scPat ?a_scLeaf ?l_scLeaf ?c_scLeaf ?k_scLeaf ?a_scWord ?l_scWord ?c_scWord ?k_scWord ?a_scJoint ?l_scJoint ?c_scJoint ?k_scJoint ?a_scWithin ?l_scWithin ?c_scWithin ?k_scWithin ?a_scBelow ?l_scBelow ?c_scBelow ?k_scBelow ?a_scOther ?l_scOther ?c_scOther ?k_scOther ?a_scBk ?l_scBk ?c_scBk ?k_scBk ?a_scFeed ?l_scFeed ?c_scFeed ?k_scFeed ?a_scDraw ?l_scDraw ?c_scDraw ?k_scDraw ?a_scNames ?l_scNames ?c_scNames ?k_scNames ?a_scLLeaf ?l_scLLeaf ?c_scLLeaf ?k_scLLeaf ?a_scLPat ?l_scLPat ?c_scLPat ?k_scLPat ?a_scEnds ?l_scEnds ?c_scEnds ?k_scEnds ?a_scRight ?l_scRight ?c_scRight ?k_scRight ?a_scAll ?l_scAll ?c_scAll ?k_scAll ?a_scCnt ?l_scCnt ?c_scCnt ?k_scCnt ?a_scJoin ?l_scJoin ?c_scJoin ?k_scJoin ?a_scGone ?l_scGone ?c_scGone ?k_scGone ?a_scLine ?l_scLine ?c_scLine ?k_scLine ?a_scBack ?l_scBack ?c_scBack ?k_scBack ?a_scLaw ?l_scLaw ?c_scLaw ?k_scLaw ?z_len ?z_isinstance ?z_str ?z_int ?z_tuple ?z_list ?z_all ?z_range ?z_sorted ?z_set ?z_reversed ?m_LONGEST ?m_MOST_PARTS ?m_MOST_WITHIN ?m_DEEPEST ?m_ANY ?m_LEAVES ?l_LEAVES ?q_LEAVES ?m_SIDES ?l_SIDES ?q_SIDES
    (case a_scRow => k_is)
    (case l_scRow => k_is)
    (case c_scRow => k_is)
    (case k_scRow => k_is)
    (case a_scName => k_is)
    (case l_scName => k_is)
    (case c_scName => k_is)
    (case k_scName => k_is)
    (case a_scPat => k_is)
    (case l_scPat => k_is)
    (case c_scPat => k_is)
    (case k_scPat => k_is)
    (case a_scLeaf => k_is)
    (case l_scLeaf => k_is)
    (case c_scLeaf => k_is)
    (case k_scLeaf => k_is)
    (case a_scWord => k_is)
    (case l_scWord => k_is)
    (case c_scWord => k_is)
    (case k_scWord => k_is)
    (case a_scJoint => k_is)
    (case l_scJoint => k_is)
    (case c_scJoint => k_is)
    (case k_scJoint => k_is)
    (case a_scWithin => k_is)
    (case l_scWithin => k_is)
    (case c_scWithin => k_is)
    (case k_scWithin => k_is)
    (case a_scBelow => k_is)
    (case l_scBelow => k_is)
    (case c_scBelow => k_is)
    (case k_scBelow => k_is)
    (case a_scOther => k_is)
    (case l_scOther => k_is)
    (case c_scOther => k_is)
    (case k_scOther => k_is)
    (case a_scBk => k_is)
    (case l_scBk => k_is)
    (case c_scBk => k_is)
    (case k_scBk => k_is)
    (case a_scFeed => k_is)
    (case l_scFeed => k_is)
    (case c_scFeed => k_is)
    (case k_scFeed => k_is)
    (case a_scDraw => k_is)
    (case l_scDraw => k_is)
    (case c_scDraw => k_is)
    (case k_scDraw => k_is)
    (case a_scNames => k_is)
    (case l_scNames => k_is)
    (case c_scNames => k_is)
    (case k_scNames => k_is)
    (case a_scLLeaf => k_is)
    (case l_scLLeaf => k_is)
    (case c_scLLeaf => k_is)
    (case k_scLLeaf => k_is)
    (case a_scLPat => k_is)
    (case l_scLPat => k_is)
    (case c_scLPat => k_is)
    (case k_scLPat => k_is)
    (case a_scEnds => k_is)
    (case l_scEnds => k_is)
    (case c_scEnds => k_is)
    (case k_scEnds => k_is)
    (case a_scRight => k_is)
    (case l_scRight => k_is)
    (case c_scRight => k_is)
    (case k_scRight => k_is)
    (case a_scAll => k_is)
    (case l_scAll => k_is)
    (case c_scAll => k_is)
    (case k_scAll => k_is)
    (case a_scCnt => k_is)
    (case l_scCnt => k_is)
    (case c_scCnt => k_is)
    (case k_scCnt => k_is)
    (case a_scJoin => k_is)
    (case l_scJoin => k_is)
    (case c_scJoin => k_is)
    (case k_scJoin => k_is)
    (case a_scGone => k_is)
    (case l_scGone => k_is)
    (case c_scGone => k_is)
    (case k_scGone => k_is)
    (case a_scLine => k_is)
    (case l_scLine => k_is)
    (case c_scLine => k_is)
    (case k_scLine => k_is)
    (case a_scBack => k_is)
    (case l_scBack => k_is)
    (case c_scBack => k_is)
    (case k_scBack => k_is)
    (case a_scLaw => k_is)
    (case l_scLaw => k_is)
    (case c_scLaw => k_is)
    (case k_scLaw => k_is)
    (case z_len => k_is)
    (case z_isinstance => k_is)
    (case z_str => k_is)
    (case z_int => k_is)
    (case z_tuple => k_is)
    (case z_list => k_is)
    (case z_all => k_is)
    (case z_range => k_is)
    (case z_sorted => k_is)
    (case z_set => k_is)
    (case z_reversed => k_is)
    (case m_LONGEST => k_is)
    (case m_MOST_PARTS => k_is)
    (case m_MOST_WITHIN => k_is)
    (case m_DEEPEST => k_is)
    (case m_ANY => k_is)
    (case m_LEAVES => k_is)
    (case l_LEAVES => k_is)
    (case q_LEAVES => kernel_rfl)
    (case m_SIDES => k_is)
    (case l_SIDES => k_is)
    (case q_SIDES => kernel_rfl)
