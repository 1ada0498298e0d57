import PyProof.Rows.All
import Wide.All
import OpenK.AllK
import Wide.FinOn
import Lean
import PyProof.EqAt
import PyProof.EqKinds
import PyProof.TupleCall
import KE.KRevIter
import KE.KIntText
import PyProof.Rows.StrNews
import KE.KSortTup
import PyProof.Rows.SetFrom
import PyProof.WalksMore
import KE.KRevSl
import PySem.Challenge.RW_pathask_k31_stands_come_to
set_option Elab.async false
set_option linter.all false
set_option maxRecDepth 100000
namespace L2
open PySem PySem.Spec PyProof.Rows
noncomputable abbrev Key := Sum Int Str
noncomputable def keyIs : Key → Value → Bool
  | .inl k, v => Value.isInt k v
  | .inr x, v => Value.isStrOf x v
noncomputable def keyH (w : World) : Key → Int
  | .inl k => hashInt k
  | .inr x => hashStr w x
theorem keyIs_shape : ∀ {k : Key} {v : Value}, keyIs k v = true → (∃ i t, k = Sum.inl i ∧ v = Value.int i t) ∨ (∃ x t, k = Sum.inr x ∧ v = Value.str x t)
  | .inl i, v, h => by
    obtain ⟨t, e⟩ := Value.isInt_shape (k := i) (v := v) h
    exact .inl ⟨i, t, rfl, e⟩
  | .inr x, v, h => by
    obtain ⟨t, e⟩ := Value.isStrOf_shape (x := x) (v := v) h
    exact .inr ⟨x, t, rfl, e⟩
theorem keyIs_int (i : Int) (t : Tok) : keyIs (.inl i) (.int i t) = true := by simp [keyIs, Value.isInt]
theorem keyIs_str (x : Str) (t : Tok) : keyIs (.inr x) (.str x t) = true := by simp [keyIs, Value.isStrOf]
theorem key_ll (a b : Int) : decide ((Sum.inl a : Key) = Sum.inl b) = (a == b) := by
  by_cases e : a = b
  · subst e; simp
  · have h : ¬ (Sum.inl a : Key) = Sum.inl b := fun q => e (Sum.inl.inj q)
    rw [decide_eq_false h]
    exact (beq_eq_false_iff_ne.mpr e).symm
theorem key_rr (a b : Str) : decide ((Sum.inr a : Key) = Sum.inr b) = decide (a = b) := by
  by_cases e : a = b
  · subst e; simp
  · have h : ¬ (Sum.inr a : Key) = Sum.inr b := fun q => e (Sum.inr.inj q)
    rw [decide_eq_false h, decide_eq_false e]
theorem key_lr (a : Int) (b : Str) : decide ((Sum.inl a : Key) = Sum.inr b) = false := decide_eq_false (fun q => nomatch q)
theorem key_rl (a : Str) (b : Int) : decide ((Sum.inr a : Key) = Sum.inl b) = false := decide_eq_false (fun q => nomatch q)
noncomputable def mixKind (prog : Program) (w : World) : PySem.KeyKind prog w Key where
  is := keyIs
  hash := keyH w
  inj := fun v a b ha hb => by
    rcases keyIs_shape ha with ⟨i, t, rfl, rfl⟩ | ⟨x, t, rfl, rfl⟩
    · rcases keyIs_shape hb with ⟨j, u, rfl, e⟩ | ⟨y, u, rfl, e⟩
      · injection e with e1 _; rw [e1]
      · exact nomatch e
    · rcases keyIs_shape hb with ⟨j, u, rfl, e⟩ | ⟨y, u, rfl, e⟩
      · exact nomatch e
      · injection e with e1 _; rw [e1]
  byValue := fun k v h => by
    rcases keyIs_shape h with ⟨i, t, rfl, rfl⟩ | ⟨x, t, rfl, rfl⟩ <;> rfl
  pyHash := fun hv h => by
    rcases keyIs_shape hv with ⟨i, t, rfl, rfl⟩ | ⟨x, t, rfl, rfl⟩
    · exact wpAny_pyHash_int h
    · exact wpAny_pyHash_str h
  eqBool := fun hu hv h => by
    rcases keyIs_shape hu with ⟨i, t, rfl, rfl⟩ | ⟨x, t, rfl, rfl⟩
    · rcases keyIs_shape hv with ⟨j, u, rfl, rfl⟩ | ⟨y, u, rfl, rfl⟩
      · rw [key_ll] at h; exact wpAny_eqBool_int h
      · rw [key_lr] at h; exact SeqAt.EqAt.int_str i t y u _ _ _ _ h
    · rcases keyIs_shape hv with ⟨j, u, rfl, rfl⟩ | ⟨y, u, rfl, rfl⟩
      · rw [key_rl] at h; exact SeqAt.EqAt.str_int x t j u _ _ _ _ h
      · rw [key_rr] at h; exact wpAny_eqBool_str h
  «strs» := fun k x t v h => by
    rcases keyIs_shape h with ⟨i, u, rfl, e⟩ | ⟨y, u, rfl, e⟩
    · exact nomatch e
    · injection e with e1 _
      subst e1
      cases v <;> rfl
theorem mixKind_int (prog : Program) (w : World) (i : Int) (t : Tok) : (mixKind prog w).is (.inl i) (.int i t) = true := keyIs_int i t
theorem mixKind_str (prog : Program) (w : World) (x : Str) (t : Tok) : (mixKind prog w).is (.inr x) (.str x t) = true := keyIs_str x t
end L2
namespace L2
open PySem PySem.Spec PyProof.Rows
inductive V where
  | non | bl (b : Bool) | int (i : Int) | str (x : Str) | byt (b : Array UInt8) | flt (b : UInt64) | ref (a : Addr) | ty (n : String)
  deriving DecidableEq
noncomputable def RelV : V → Value → Prop
  | .non, u => u = Value.none
  | .bl b, u => u = Value.bool b
  | .int i, u => ∃ t, u = Value.int i t
  | .str x, u => ∃ t, u = Value.str x t
  | .byt b, u => ∃ t, u = Value.bytes b t
  | .flt b, u => ∃ t, u = Value.float b t
  | .ref a, u => u = Value.ref a
  | .ty n, u => u = Value.type n
noncomputable abbrev Vals : List V → List Value → Prop := Paired RelV
theorem Vals.length {xs : List V} {us : List Value} (r : Vals xs us) : xs.length = us.length := Paired.length r
theorem Vals.get : ∀ {xs : List V} {us : List Value} {i : Nat} {x : V}, Vals xs us → xs[i]? = some x → ∃ u, us[i]? = some u ∧ RelV x u
  | _, _, _, _, .nil, e => by simp at e
  | _, _, 0, _, .cons r _, e => by simp at e; subst e; exact ⟨_, rfl, r⟩
  | _, _, i + 1, x, .cons _ t, e => by
    obtain ⟨u, h1, h2⟩ := Vals.get (i := i) (x := x) t (by simpa using e)
    exact ⟨u, by simpa using h1, h2⟩
theorem Vals.append : ∀ {xs ys : List V} {us ws : List Value}, Vals xs us → Vals ys ws → Vals (xs ++ ys) (us ++ ws)
  | _, _, _, _, .nil, s => s
  | _, _, _, _, .cons r t, s => .cons r (Vals.append t s)
theorem Vals.take : ∀ {xs : List V} {us : List Value} (n : Nat), Vals xs us → Vals (xs.take n) (us.take n)
  | _, _, 0, _ => .nil
  | _, _, _ + 1, .nil => .nil
  | _, _, n + 1, .cons r t => .cons r (Vals.take n t)
theorem Vals.drop : ∀ {xs : List V} {us : List Value} (n : Nat), Vals xs us → Vals (xs.drop n) (us.drop n)
  | _, _, 0, r => r
  | _, _, _ + 1, .nil => .nil
  | _, _, n + 1, .cons _ t => Vals.drop n t
noncomputable def RelO : Option V → Option Value → Prop
  | some v, some u => RelV v u
  | none, none => True
  | _, _ => False
noncomputable def KV {κ : Type} : List (κ × V) → List (κ × Value) → Prop := Paired fun (p : κ × V) (q : κ × Value) => p.1 = q.1 ∧ RelV p.2 q.2
noncomputable def kV : Key → V
  | .inl i => .int i
  | .inr x => .str x
inductive HO where
  | lst (xs : List V)
  | tup (xs : List V)
  | dK (kvs : List (Key × V)) | dT (kvs : List (List Key × V))
  | set (S : Int → Bool) (n : Nat)
  | ins (C dx : Addr) (fs : List (Str × V))
  | own (x : Addr)
  | xd (fs : List (Str × V))
  | met (f x : Addr)
  | rng (lo hi : Int)
  | frz (o : Obj) (u : HO)
  | tbl (ps : Array Value)
  | ext (φ : Heap → Prop)
noncomputable abbrev Hp := Addr → Option HO
noncomputable def upd (H : Hp) (a : Addr) (o : HO) : Hp := fun b => if b = a then some o else H b
theorem upd_same {H : Hp} {a : Addr} {o : HO} : upd H a o a = some o := by unfold upd; rw [if_pos rfl]
theorem upd_ne {H : Hp} {a b : Addr} {o : HO} (h : b ≠ a) : upd H a o b = H b := by unfold upd; rw [if_neg h]
theorem ne_of {H : Hp} {a b : Addr} {o u : HO} (h : H a = some o) (h' : H b = some u) (d : o ≠ u) : a ≠ b := by
  intro e; subst e; rw [h] at h'; exact d (Option.some.inj h')
theorem ne_of_none {H : Hp} {a b : Addr} {o : HO} (h : H a = some o) (h' : H b = none) : a ≠ b := by
  intro e; subst e; rw [h] at h'; cases h'
section
variable (P : Program) (w : World)
noncomputable def ObjOk (H : Hp) (h : Heap) (a : Addr) : HO → Prop
  | .lst xs => xs.length ≤ sizeLine ∧ ∃ (its : List Value) (n : Nat), Vals xs its ∧ h.get? a = some { cls := .type "list", data := .seq its.toArray n }
  | .tup xs => xs.length ≤ sizeLine ∧ ∃ its : List Value, Vals xs its ∧ IsTup h a its.toArray
  | .dK kvs => kvs.length ≤ sizeLine ∧ (a == sysModules) = false ∧ ∃ vs, KV kvs vs ∧ h.DictOf (mixKind P w) a vs
  | .dT kvs => kvs.length ≤ sizeLine ∧ (a == sysModules) = false ∧ ∃ xs : List (List Key × Addr × Value),
      Paired (fun (p : List Key × V) (q : List Key × Addr × Value) => p.1 = q.1 ∧ H q.2.1 = some (.tup (p.1.map kV)) ∧ RelV p.2 q.2.2) kvs xs ∧
      ∃ o es ep, h.get? a = some o ∧ o.ExactDict ∧ o.data = .dict es ep ∧ es.toList = xs.map (entryOfKey (tupleKind (mixKind P w))) ∧ (xs.map (·.1)).Nodup
  | .set S n => h.SetOf (intKind P w) a S n
  | .ins C dx fs => H dx = some (.own a) ∧ fs.length ≤ 1000 ∧ dx ≠ a ∧ h.get? a = some (PySem.W.instObj C dx) ∧
      ∃ mA, h.Ns1 dx mA ∧ (∀ f, RelO (fs.lookup f) (mA f)) ∧ PySem.Within mA (fs.map (·.1))
  | .own _ => ∃ o, h.get? a = some o
  | .xd fs => ∃ mA, h.Ns1 a mA ∧ ∀ f, RelO (fs.lookup f) (mA f)
  | .rng lo hi => ∃ t u v, h.get? a = some { cls := .type "range", data := .fields #[.int lo t, .int hi u, .int 1 v] }
  | .frz o u => h.get? a = some o ∧ ObjOk H h a u
  | .tbl ps => h.get? a = some { cls := .none, data := .fields ps }
  | .met f x => h.get? a = some (PySem.W.methodObj (.ref f) (.ref x))
  | .ext φ => φ h ∧ (∃ o, h.get? a = some o) ∧ ∀ h1 h2 : Heap, φ h1 → (∀ o, h1.get? a = some o → h2.get? a = some o) → φ h2
noncomputable def HOk (H : Hp) (h : Heap) : Prop := ∀ a o, H a = some o → ObjOk P w H h a o
end
section
variable {P : Program} {w : World} {H H' : Hp} {h h' : Heap} {a : Addr} {o : HO}
theorem ObjOk.lt (x : ObjOk P w H h a o) : a < h.objs.size := by
  cases o with
  | lst xs => obtain ⟨_, _, _, _, e⟩ := x; exact Heap.lt_size e
  | tup xs => obtain ⟨_, _, _, p⟩ := x; exact p.lt
  | dK kvs => obtain ⟨_, _, _, _, o, _, _, e, _⟩ := x; exact Heap.lt_size e
  | dT kvs => obtain ⟨_, _, _, _, o, _, _, e, _⟩ := x; exact Heap.lt_size e
  | set S n => obtain ⟨o, _, _, _, e, _⟩ := x; exact Heap.lt_size e
  | ins C dx fs => obtain ⟨_, _, _, e, _⟩ := x; exact Heap.lt_size e
  | own y => obtain ⟨_, e⟩ := x; exact Heap.lt_size e
  | xd fs => obtain ⟨_, ⟨_, _, _, e, _⟩, _⟩ := x; exact Heap.lt_size e
  | rng lo hi => obtain ⟨_, _, _, e⟩ := x; exact Heap.lt_size e
  | frz ob u => obtain ⟨e, _⟩ := x; exact Heap.lt_size e
  | tbl ps => exact Heap.lt_size (show h.get? a = some _ from x)
  | met f y => exact Heap.lt_size (show h.get? a = some _ from x)
  | ext φ => obtain ⟨_, ⟨_, e⟩, _⟩ := x; exact Heap.lt_size e
theorem Paired.mapP {α β : Type} {F G : α → β → Prop} : ∀ {l₁ : List α} {l₂ : List β}, Paired F l₁ l₂ → (∀ a b, F a b → G a b) → Paired G l₁ l₂
  | _, _, .nil, _ => .nil
  | _, _, .cons r t, f => .cons (f _ _ r) (Paired.mapP t f)
theorem ObjOk.stay (x : ObjOk P w H h a o) (k : ∀ b u, (b = a ∨ H b = some (.own a)) → h.get? b = some u → h'.get? b = some u)
    (ho : ∀ b, H b = some (.own a) → H' b = some (.own a)) (ht : ∀ b xs, H b = some (.tup xs) → H' b = some (.tup xs)) : ObjOk P w H' h' a o := by
  induction o with
  | lst xs => obtain ⟨z, its, n, r, e⟩ := x; exact ⟨z, its, n, r, k _ _ (.inl rfl) e⟩
  | tup xs => obtain ⟨z, its, r, ob, e, c⟩ := x; exact ⟨z, its, r, ob, k _ _ (.inl rfl) e, c⟩
  | dK kvs => obtain ⟨z, y, vs, r, ob, es, ep, e, c⟩ := x; exact ⟨z, y, vs, r, ob, es, ep, k _ _ (.inl rfl) e, c⟩
  | dT kvs =>
    obtain ⟨z, y, xs, r, ob, es, ep, e, c⟩ := x
    exact ⟨z, y, xs, Paired.mapP r fun p q z => ⟨z.1, ht _ _ z.2.1, z.2.2⟩, ob, es, ep, k _ _ (.inl rfl) e, c⟩
  | set S n => obtain ⟨ob, es, ep, t, e, c⟩ := x; exact ⟨ob, es, ep, t, k _ _ (.inl rfl) e, c⟩
  | ins C dx fs =>
    obtain ⟨d, z, ne, e, mA, ⟨od, es, ep, e2, c⟩, r⟩ := x
    exact ⟨ho _ d, z, ne, k _ _ (.inl rfl) e, mA, ⟨od, es, ep, k _ _ (.inr d) e2, c⟩, r⟩
  | own y => obtain ⟨ob, e⟩ := x; exact ⟨ob, k _ _ (.inl rfl) e⟩
  | xd fs => obtain ⟨mA, ⟨od, es, ep, e, c⟩, r⟩ := x; exact ⟨mA, ⟨od, es, ep, k _ _ (.inl rfl) e, c⟩, r⟩
  | rng lo hi => obtain ⟨t, u, v, e⟩ := x; exact ⟨t, u, v, k _ _ (.inl rfl) e⟩
  | frz ob u ih => obtain ⟨e, q⟩ := x; exact ⟨k _ _ (.inl rfl) e, ih q⟩
  | tbl ps =>
    have e : h.get? a = some { cls := .none, data := .fields ps } := x
    show h'.get? a = some { cls := .none, data := .fields ps }
    exact k a _ (.inl rfl) e
  | met f y =>
    have e : h.get? a = some (PySem.W.methodObj (.ref f) (.ref y)) := x
    show h'.get? a = some (PySem.W.methodObj (.ref f) (.ref y))
    exact k a _ (.inl rfl) e
  | ext φ => obtain ⟨p, ⟨o, e⟩, st⟩ := x; exact ⟨st _ _ p fun o q => k _ _ (.inl rfl) q, ⟨o, k _ _ (.inl rfl) e⟩, st⟩
theorem HOk.lt (x : HOk P w H h) (e : H a = some o) : a < h.objs.size := (x a o e).lt
theorem HOk.fresh (x : HOk P w H h) (e : h.objs.size ≤ a) : H a = none := by
  cases q : H a with
  | none => rfl
  | some u => exact absurd (Nat.lt_of_lt_of_le (x.lt q) e) (Nat.lt_irrefl _)
theorem HOk.kept (x : HOk P w H h) (k : ∀ b u, h.get? b = some u → h'.get? b = some u) : HOk P w H h' := fun a o e =>
  (x a o e).stay (fun b u _ q => k b u q) (fun _ q => q) fun _ _ q => q
theorem HOk.laid (x : HOk P w H h) (k : ∀ b u, h.get? b = some u → h'.get? b = some u) (hp : h.objs.size ≤ a) (new : ObjOk P w (upd H a o) h' a o) : HOk P w (upd H a o) h' := fun b u e => by
  have hn := x.fresh hp
  by_cases hb : b = a
  · subst hb; rw [upd_same] at e; cases e; exact new
  · rw [upd_ne hb] at e
    exact (x b u e).stay (fun c v _ q => k c v q) (fun c q => by rw [upd_ne (ne_of_none q hn)]; exact q) fun c xs q => by rw [upd_ne (ne_of_none q hn)]; exact q
end
noncomputable def Rd (H : Hp) (a : Addr) (u : HO) : Prop := H a = some u ∨ ∃ o, H a = some (.frz o u)
theorem Rd.ok {P : Program} {w : World} {H : Hp} {h : Heap} {a : Addr} {u : HO} (r : Rd H a u) (x : HOk P w H h) : ObjOk P w H h a u := by
  rcases r with r | ⟨o, r⟩
  · exact x a u r
  · obtain ⟨_, q⟩ := x a _ r
    exact q
noncomputable def Mut : Option HO → Prop
  | some (.lst _) => True
  | some (.dK _) => True
  | some (.dT _) => True
  | some (.set _ _) => True
  | some (.ins _ _ _) => True
  | some (.ext _) => True
  | _ => False
section
variable {P : Program} {w : World} {H : Hp} {h h' : Heap} {x e : Addr} {o' : HO}
theorem HOk.write (ok : HOk P w H h) (mu : Mut (H x)) (he : e = x ∨ H e = some (.own x)) (k : ∀ b u, b ≠ e → h.get? b = some u → h'.get? b = some u) (heo : ∃ u, h'.get? e = some u)
    (new : ObjOk P w (upd H x o') h' x o') : HOk P w (upd H x o') h' := fun b u q => by
  have nown : ∀ c y, H c = some (.own y) → c ≠ x := fun c y r z => by subst z; rw [r] at mu; exact mu
  have ntup : ∀ c xs, H c = some (.tup xs) → c ≠ x := fun c xs r z => by subst z; rw [r] at mu; exact mu
  by_cases hb : b = x
  · subst hb; rw [upd_same] at q; cases q; exact new
  · rw [upd_ne hb] at q
    by_cases hbe : b = e
    · have q' : H b = some (.own x) := by
        rcases he with z | z
        · exact absurd (hbe.trans z) hb
        · rw [hbe]; exact z
      rw [q] at q'; cases q'
      obtain ⟨v, hv⟩ := heo
      exact ⟨v, by rw [hbe]; exact hv⟩
    · refine (ok b u q).stay (fun c v hc r => k c v ?_ r) (fun c r => by rw [upd_ne (nown c b r)]; exact r) fun c xs r => by rw [upd_ne (ntup c xs r)]; exact r
      rcases hc with rfl | hc
      · exact hbe
      · rintro rfl
        rcases he with z | z
        · exact nown c b hc z
        · rw [hc] at z; cases z; exact hb rfl
end
structure Un (fs ex : List Addr) (H H' : Hp) (h h' : Heap) : Prop where
  keep : ∀ b o, h.get? b = some o → H b = none → b ∉ fs → b ∉ ex → h'.get? b = some o
  slot : ∀ b o, h.get? b = some o → H b = none → b ∈ fs → b ∉ ex → ∃ sl, h'.get? b = some { o with slots := sl }
  free : ∀ b o, h.get? b = some o → H b = none → b ∉ ex → H' b = none
  there : ∀ b o, h.get? b = some o → b ∉ ex → ∃ o', h'.get? b = some o'
  tups : ∀ b xs, H b = some (.tup xs) → H' b = some (.tup xs)
  frzs : ∀ b o u, H b = some (.frz o u) → H' b = some (.frz o u)
  tbls : ∀ b ps, H b = some (.tbl ps) → ∃ more, H' b = some (.tbl (ps ++ more))
section
variable {fs fs' ex ex' : List Addr} {H H1 H2 : Hp} {h h1 h2 h' : Heap} {a x e : Addr} {o : HO}
theorem Un.any (u : Un fs ex H H1 h h1) {b : Addr} {ob : Obj} (q : h.get? b = some ob) (n : H b = none) (hx : b ∉ ex) : ∃ sl, h1.get? b = some { ob with slots := sl } := by
  by_cases hb : b ∈ fs
  · exact u.slot b ob q n hb hx
  · exact ⟨ob.slots, u.keep b ob q n hb hx⟩
theorem Un.kept (k : ∀ b u, h.get? b = some u → h'.get? b = some u) : Un fs ex H H h h' :=
  ⟨fun b ob q _ _ _ => k b ob q, fun b ob q _ _ _ => ⟨ob.slots, k b ob q⟩, fun _ _ _ n _ => n, fun b ob q _ => ⟨ob, k b ob q⟩, fun _ _ q => q, fun _ _ _ q => q, fun _ ps q => ⟨#[], by rw [q]; simp⟩⟩
theorem Un.refl : Un fs ex H H h h := Un.kept fun _ _ q => q
theorem Un.laid (k : ∀ b u, h.get? b = some u → h'.get? b = some u) (hp : h.objs.size ≤ a) (hn : H a = none) : Un fs ex H (upd H a o) h h' where
  keep := fun b u q _ _ _ => k b u q
  slot := fun b u q _ _ _ => ⟨u.slots, k b u q⟩
  free := fun b u q n _ => by rw [upd_ne (Nat.ne_of_lt (Nat.lt_of_lt_of_le (Heap.lt_size q) hp))]; exact n
  there := fun b u q _ => ⟨u, k b u q⟩
  tups := fun b xs q => by rw [upd_ne (ne_of_none q hn)]; exact q
  frzs := fun b u xs q => by rw [upd_ne (ne_of_none q hn)]; exact q
  tbls := fun b ps q => ⟨#[], by rw [upd_ne (ne_of_none q hn), q]; simp⟩
theorem Un.write (mu : Mut (H x)) (he : e = x ∨ H e = some (.own x)) (k : ∀ b u, b ≠ e → h.get? b = some u → h'.get? b = some u) (heo : ∃ u, h'.get? e = some u) : Un fs ex H (upd H x o) h h' := by
  have hx : ∀ b, H b = none → b ≠ x := fun b n z => by subst z; rw [n] at mu; exact mu
  have hb : ∀ b, H b = none → b ≠ e := fun b n z => by
    subst z
    rcases he with r | r
    · exact hx b n r
    · rw [n] at r; cases r
  have hm : ∀ b u, H b = some u → ¬ Mut (some u) → b ≠ x := fun b u q nm z => by subst z; rw [q] at mu; exact nm mu
  refine ⟨fun b u q n _ _ => k b u (hb b n) q, fun b u q n _ _ => ⟨u.slots, k b u (hb b n) q⟩, fun b u q n _ => by rw [upd_ne (hx b n)]; exact n, fun b u q _ => ?_,
    fun b xs q => by rw [upd_ne (hm b _ q fun z => z)]; exact q, fun b u xs q => by rw [upd_ne (hm b _ q fun z => z)]; exact q, fun b ps q => ⟨#[], by rw [upd_ne (hm b _ q fun z => z), q]; simp⟩⟩
  by_cases hbe : b = e
  · subst hbe; exact heo
  · exact ⟨u, k b u hbe q⟩
end
noncomputable def trk (h : Heap) (H : Hp) : List Addr := (List.range h.objs.size).filter fun a => (H a).isSome
noncomputable def hidT (h : Heap) (H : Hp) : Heap := PySem.W.hideAll h (trk h H)
theorem hidT_size (h : Heap) (H : Hp) : (hidT h H).objs.size = h.objs.size := PySem.W.hideAll_size _ _
theorem hidT_get {h : Heap} {H : Hp} {b : Addr} {o : Obj} (e : h.get? b = some o) (n : H b = none) : (hidT h H).get? b = some o :=
  PySem.W.hideAll_get _ e fun hm => by
    have q : (H b).isSome = true := (List.mem_filter.mp hm).2
    rw [n] at q; simp at q
theorem of_hidT {h : Heap} {H : Hp} {b : Addr} {o : Obj} (e : (hidT h H).get? b = some o) : h.get? b = some o ∧ H b = none := by
  have e' : h.get? b = some o := PySem.W.of_hideAll (trk h H) e
  refine ⟨e', ?_⟩
  cases q : H b with
  | none => rfl
  | some x =>
    have hm : b ∈ trk h H := List.mem_filter.mpr ⟨List.mem_range.mpr (Heap.lt_size e'), by simp [q]⟩
    have z : (hidT h H).get? b = none := PySem.W.hideAll_none (trk h H) hm
    rw [z] at e; cases e
noncomputable def allNews (g h : Heap) (L : Addr) : List (Addr × Obj) := (List.range h.objs.size).filterMap fun a => if a = L ∨ (g.get? a).isSome = true then none else (h.get? a).map fun o => (a, o)
noncomputable def rest (g h : Heap) (L d : Addr) : List (Addr × Obj) := (allNews g h L).filter fun p => decide (p.1 ≠ d)
end L2
namespace L2
open PySem PySem.Spec PyProof.Rows
structure Mod (K : PySem.W.Frag) (mg : Str → Option Value) (base : Heap) : Prop where
  kin : K.In base
  glob : base.Ns mainGlobals mg
  blt : ∃ mb, base.Ns builtinsNs mb ∧ ∀ x : Str, x ≠ "__name__" → mb x = bootBuiltins x
  nolimit : base.NoLimit
/-- the context: a def's body (or a comprehension's block) running. base: fixed through the whole law; s₀, H₀: the entry; outer: the frames whose slots others may change (a def's callers); stack: all frames that run;
   ex: iterators that were made ahead of the entry and are walked here (a comprehension's); fn: the names whose cells were made at the entry (a def: all; a comprehension's block: its own); calm: not within an except suite; pn: pins that every state bears; xe: what is wanted of an exception that leaves the code -/
structure Cx where
  prog : Program
  w : World
  K : PySem.W.Frag
  mg : Str → Option Value
  base : Heap
  A : Around
  N : List Str
  s₀ : Shared
  H₀ : Hp
  env : Env
  outer : List Env
  stack : List Env
  ex : List Addr
  fn : Str → Bool
  calm : Bool
  pn : List (Addr × Obj)
  xe : Value → Shared → Prop
noncomputable def frs (l : List Env) : List Addr := l.filterMap (·.frame)
noncomputable abbrev Cx.fs (X : Cx) : List Addr := frs X.outer
noncomputable def Vis (sc : Scope) (x : Str) : Prop := sc.names.lookup x = some .local ∨ sc.names.lookup x = some .cell ∨ sc.names.lookup x = some .free
noncomputable def Loc (sc : Scope) (x : Str) : Prop := sc.names.lookup x = some .local ∨ sc.names.lookup x = some .cell
noncomputable def Look (env : Env) (h : Heap) (m : Str → Option Value) (x : Str) (u : Value) : Prop :=
  (env.kindOf x = some .local ∧ m x = some u) ∨ ((env.kindOf x = some .cell ∨ env.kindOf x = some .free) ∧ ∃ c, env.cells.lookup x = some c ∧ h.IsCell c (some u))
structure Cx.Ok (X : Cx) : Prop where
  mod : Mod X.K X.mg X.base
  kind : X.env.scope.kind = .function
  glob : X.env.globals = mainGlobals
  blt : X.env.builtins = builtinsNs
  above : X.s₀.heap.objs.size ≤ X.env.locals
  inj : ∀ x y c, X.env.cells.lookup x = some c → X.env.cells.lookup y = some c → x = y
  has : ∀ x, (X.env.kindOf x = some .cell ∨ X.env.kindOf x = some .free) → ∃ c, X.env.cells.lookup x = some c
  cab : ∀ x c, X.fn x = true → X.env.cells.lookup x = some c → X.s₀.heap.objs.size ≤ c
  hd : X.calm = true → X.A.handled = none
  frames : X.A.frames = some X.stack
  stk : X.stack = X.outer ∨ (X.stack = X.env :: X.outer ∧ X.env.frame = some X.env.locals)
  exf : ∀ b ∈ X.ex, b ≠ X.env.locals ∧ ∀ x c, X.env.cells.lookup x = some c → c ≠ b
  bs : ∀ b o, X.base.get? b = some o → X.s₀.heap.get? b = some o ∧ X.H₀ b = none
  bsz : X.base.objs.size ≤ X.s₀.heap.objs.size
  noex : ∀ b o, X.base.get? b = some o → b ∉ X.ex
  exfs : ∀ b ∈ X.ex, b ∉ X.fs
  funs : X.s₀.heap.FunFrames X.base X.outer
  frf : ∀ b ∈ X.fs, X.H₀ b = none
structure Inv (X : Cx) (pins : List (Addr × Obj)) (σ : List (Option V)) (H : Hp) (s : Shared) : Prop where
  ok : X.Ok
  os : s.os = X.s₀.os
  bare : AllBare s.gens
  base : Un X.fs X.ex X.H₀ H X.s₀.heap s.heap
  loc : ∃ m, s.heap.Ns X.env.locals m ∧ ∀ (i : Nat) (x : Str) (v : V), X.N[i]? = some x → σ[i]? = some (some v) → Vis X.env.scope x → ∃ u, RelV v u ∧ Look X.env s.heap m x u
  cell : ∀ x c, X.env.cells.lookup x = some c → ∃ v, s.heap.IsCell c v
  free : H X.env.locals = none
  freeC : ∀ x c, X.env.cells.lookup x = some c → H c = none
  pin : ∀ p ∈ X.pn ++ pins, s.heap.get? p.1 = some p.2 ∧ H p.1 = none ∧ p.1 ≠ X.env.locals ∧ p.1 ∉ X.fs ∧ ∀ v, p.2.data ≠ .cell v
  hok : HOk X.prog X.w H s.heap
  len : σ.length = X.N.length
section
variable {X : Cx} {pins : List (Addr × Obj)} {σ : List (Option V)} {H H' : Hp} {s : Shared} {h' : Heap}
theorem Cx.Ok.nofr (ok : X.Ok) {b : Addr} {o : Obj} (e : X.base.get? b = some o) : b ∉ X.fs := fun hb => by
  have := (ok.funs.mem hb).1
  rw [e] at this; cases this
theorem Inv.bs (I : Inv X pins σ H s) : ∀ b o, X.base.get? b = some o → s.heap.get? b = some o ∧ H b = none := fun b o e =>
  ⟨I.base.keep b o (I.ok.bs b o e).1 (I.ok.bs b o e).2 (I.ok.nofr e) (I.ok.noex b o e), I.base.free b o (I.ok.bs b o e).1 (I.ok.bs b o e).2 (I.ok.noex b o e)⟩
theorem Inv.bk (I : Inv X pins σ H s) : ∀ b o, X.base.get? b = some o → s.heap.get? b = some o := fun b o e => (I.bs b o e).1
theorem Inv.mod (I : Inv X pins σ H s) : Mod X.K X.mg X.base := I.ok.mod
theorem Inv.kIn (I : Inv X pins σ H s) : X.K.In s.heap := I.ok.mod.kin.keeps I.bk
theorem Inv.lt (I : Inv X pins σ H s) : X.env.locals < s.heap.objs.size := let ⟨_, hn, _⟩ := I.loc; hn.lt
theorem Inv.sz (I : Inv X pins σ H s) : X.s₀.heap.objs.size ≤ s.heap.objs.size := Nat.le_trans I.ok.above (Nat.le_of_lt I.lt)
theorem Inv.nofs (I : Inv X pins σ H s) {a : Addr} (h : s.heap.objs.size ≤ a) : a ∉ X.fs := fun hb => by
  obtain ⟨_, o, ho, _⟩ := I.ok.funs.mem hb
  exact absurd (Nat.lt_of_lt_of_le (Heap.lt_size ho) (Nat.le_trans I.sz h)) (Nat.lt_irrefl _)
theorem Inv.cne (I : Inv X pins σ H s) : ∀ x c, X.env.cells.lookup x = some c → c ≠ X.env.locals := fun x c e z => by
  obtain ⟨v, o, ho, hd⟩ := I.cell x c e
  obtain ⟨m, ⟨o', es, ep, ho', hd', _⟩, _⟩ := I.loc
  rw [z, ho'] at ho; cases ho; rw [hd'] at hd; cases hd
theorem Inv.funs (I : Inv X pins σ H s) : s.heap.FunFrames X.base X.outer := by
  have all : ∀ (l : List Env), (∀ b ∈ frs l, b ∈ X.fs) → X.s₀.heap.FunFrames X.base l → s.heap.FunFrames X.base l := by
    intro l
    induction l with
    | nil => intro _ _; trivial
    | cons env r ih =>
      intro hs hl
      obtain ⟨hk, ⟨L, o, hf, hn, ho, hd⟩, hr⟩ := hl
      have hL : L ∈ X.fs := hs L (by unfold frs; rw [List.filterMap_cons, hf]; exact List.mem_cons_self)
      obtain ⟨sl, e⟩ := I.base.slot L o ho (I.ok.frf L hL) hL fun z => I.ok.exfs L z hL
      exact ⟨hk, ⟨L, _, hf, hn, e, hd⟩, ih (fun b hb => hs b (by unfold frs; rw [List.filterMap_cons, hf]; exact List.mem_cons_of_mem _ hb)) hr⟩
  exact all X.outer (fun _ hb => hb) I.ok.funs
theorem Inv.stack (I : Inv X pins σ H s) : s.heap.FunFrames X.base X.stack := by
  rcases I.ok.stk with e | ⟨e, hf⟩
  · rw [e]; exact I.funs
  · rw [e]
    obtain ⟨m, hn, _⟩ := I.loc
    refine .cons (by rw [I.ok.kind]; decide) hf hn ?_ I.funs
    exact Heap.get?_none_of_le (Nat.le_trans I.ok.bsz I.ok.above)
theorem Inv.stkSub (I : Inv X pins σ H s) : ∀ b ∈ frs X.stack, b ∈ X.env.locals :: X.fs := fun b hb => by
  rcases I.ok.stk with e | ⟨e, hf⟩
  · rw [e] at hb; exact List.mem_cons_of_mem _ hb
  · rw [e] at hb
    unfold frs at hb
    rw [List.filterMap_cons, hf] at hb
    exact hb
theorem Inv.stkFree (I : Inv X pins σ H s) : ∀ b ∈ frs X.stack, H b = none := fun b hb => by
  rcases List.mem_cons.mp (I.stkSub b hb) with e | hb
  · rw [e]; exact I.free
  · obtain ⟨_, o, ho, _⟩ := I.ok.funs.mem hb
    exact I.base.free b o ho (I.ok.frf b hb) fun z => I.ok.exfs b z hb
theorem Inv.step {g' : Array GenState} {t' : Nat} {d' : Drawn} {ch : List Addr} (I : Inv X pins σ H s)
    (hch : ∀ b ∈ ch, (b ∈ X.ex ∨ X.s₀.heap.objs.size ≤ b) ∧ b ≠ X.env.locals ∧ (∀ x c, X.env.cells.lookup x = some c → c ≠ b) ∧ ∀ p ∈ X.pn ++ pins, p.1 ≠ b)
    (keep : ∀ b o, b ≠ X.env.locals → b ∉ X.fs → b ∉ ch → s.heap.get? b = some o → H b = none → h'.get? b = some o)
    (slot : ∀ b o, b ≠ X.env.locals → b ∈ X.fs → b ∉ ch → s.heap.get? b = some o → H b = none → ∃ sl, h'.get? b = some { o with slots := sl }) (free : ∀ b o, b ∉ ch → s.heap.get? b = some o → H b = none → H' b = none)
    (there : ∀ b o, b ∉ ch → s.heap.get? b = some o → ∃ o', h'.get? b = some o')
    (tups : ∀ b xs, H b = some (.tup xs) → H' b = some (.tup xs)) (frzs : ∀ b o u, H b = some (.frz o u) → H' b = some (.frz o u)) (tbls : ∀ b ps, H b = some (.tbl ps) → ∃ more, H' b = some (.tbl (ps ++ more)))
    (ns : ∀ m, s.heap.Ns X.env.locals m → h'.Ns X.env.locals m) (hok : HOk X.prog X.w H' h') (hg : AllBare g') :
    Inv X pins σ H' { s with heap := h', gens := g', drawn := d', toks := t' } := by
  have neL : ∀ b o, X.s₀.heap.get? b = some o → b ≠ X.env.locals := fun b o e => Nat.ne_of_lt (Nat.lt_of_lt_of_le (Heap.lt_size e) I.ok.above)
  have neC : ∀ b o, X.s₀.heap.get? b = some o → b ∉ X.ex → b ∉ ch := fun b o e hx hb => by
    rcases (hch b hb).1 with z | z
    · exact hx z
    · exact absurd (Nat.lt_of_lt_of_le (Heap.lt_size e) z) (Nat.lt_irrefl _)
  have cellK : ∀ x c, X.env.cells.lookup x = some c → ∀ v, s.heap.IsCell c v → h'.IsCell c v := fun x c e v ⟨o, ho, hd⟩ => by
    have nch : c ∉ ch := fun z => (hch c z).2.2.1 x c e rfl
    by_cases hc : c ∈ X.fs
    · obtain ⟨sl, q⟩ := slot c o (I.cne x c e) hc nch ho (I.freeC x c e)
      exact ⟨_, q, hd⟩
    · exact ⟨o, keep c o (I.cne x c e) hc nch ho (I.freeC x c e), hd⟩
  refine ⟨I.ok, I.os, hg, ⟨fun b o e n hb hx => ?_, fun b o e n hb hx => ?_, fun b o e n hx => ?_, fun b o e hx => ?_, fun b xs e => tups b xs (I.base.tups b xs e), fun b o xs e => frzs b o xs (I.base.frzs b o xs e), fun b ps e => ?_⟩, ?_, fun x c e => ?_, ?_, fun x c e => ?_, fun p hp => ?_, hok, I.len⟩
  · exact keep b o (neL b o e) hb (neC b o e hx) (I.base.keep b o e n hb hx) (I.base.free b o e n hx)
  · obtain ⟨sl, e1⟩ := I.base.slot b o e n hb hx
    obtain ⟨sl', e2⟩ := slot b _ (neL b o e) hb (neC b o e hx) e1 (I.base.free b o e n hx)
    exact ⟨sl', e2⟩
  · obtain ⟨o', e1⟩ := I.base.there b o e hx
    exact free b o' (neC b o e hx) e1 (I.base.free b o e n hx)
  · obtain ⟨o', e1⟩ := I.base.there b o e hx
    exact there b o' (neC b o e hx) e1
  · obtain ⟨m1, e1⟩ := I.base.tbls b ps e
    obtain ⟨m2, e2⟩ := tbls b _ e1
    exact ⟨m1 ++ m2, by rw [e2, Array.append_assoc]⟩
  · obtain ⟨m, hn, hl⟩ := I.loc
    refine ⟨m, ns m hn, fun i x v e1 e2 e3 => ?_⟩
    obtain ⟨u, r, l⟩ := hl i x v e1 e2 e3
    refine ⟨u, r, ?_⟩
    rcases l with l | ⟨k, c, e, z⟩
    · exact .inl l
    · exact .inr ⟨k, c, e, cellK x c e _ z⟩
  · obtain ⟨v, z⟩ := I.cell x c e
    exact ⟨v, cellK x c e v z⟩
  · obtain ⟨m, ⟨o, _, _, ho, _⟩, _⟩ := I.loc
    exact free _ o (fun z => (hch _ z).2.1 rfl) ho I.free
  · obtain ⟨v, o, ho, hd⟩ := I.cell x c e
    exact free c o (fun z => (hch c z).2.2.1 x c e rfl) ho (I.freeC x c e)
  · obtain ⟨e, n, ne, nf, d⟩ := I.pin p hp
    have nch : p.1 ∉ ch := fun z => (hch p.1 z).2.2.2 p hp rfl
    exact ⟨keep p.1 p.2 ne nf nch e n, free p.1 p.2 nch e n, ne, nf, d⟩
theorem Inv.un {t' : Nat} (I : Inv X pins σ H s) (u : Un X.fs [] H H' s.heap h') (hok : HOk X.prog X.w H' h') : Inv X pins σ H' { s with heap := h', toks := t' } := by
  obtain ⟨m, ⟨o, es, ep, ho, r⟩, _⟩ := id I.loc
  obtain ⟨sl, hL⟩ := u.any ho I.free (by simp)
  exact I.step (g' := s.gens) (d' := s.drawn) (ch := []) (fun _ z => nomatch z) (fun b o _ hb _ e n => u.keep b o e n hb (by simp)) (fun b o _ hb _ e n => u.slot b o e n hb (by simp)) (fun b o _ e n => u.free b o e n (by simp)) (fun b o _ e => u.there b o e (by simp)) u.tups u.frzs u.tbls (fun m' hm => by
    obtain ⟨o', es', ep', ho', r'⟩ := hm
    rw [ho] at ho'; cases ho'
    exact ⟨_, es', ep', hL, r'⟩) hok I.bare
theorem Inv.call {g' : Array GenState} {t' : Nat} {d' : Drawn} {ch : List Addr} (I : Inv X pins σ H s) (u : Un (frs X.stack) ch H H' s.heap h') (hok : HOk X.prog X.w H' h') (hg : AllBare g')
    (hch : ∀ b ∈ ch, (b ∈ X.ex ∨ X.s₀.heap.objs.size ≤ b) ∧ b ≠ X.env.locals ∧ (∀ x c, X.env.cells.lookup x = some c → c ≠ b) ∧ ∀ p ∈ X.pn ++ pins, p.1 ≠ b) :
    Inv X pins σ H' { s with heap := h', gens := g', drawn := d', toks := t' } := by
  obtain ⟨m, ⟨o, es, ep, ho, r⟩, _⟩ := id I.loc
  obtain ⟨sl, hL⟩ := u.any ho I.free fun z => (hch _ z).2.1 rfl
  exact I.step (ch := ch) hch (fun b o hL hb hc e n => u.keep b o e n (fun z => (List.mem_cons.mp (I.stkSub b z)).elim hL hb) hc) (fun b o _ _ hc e n => u.any e n hc) (fun b o hc e n => u.free b o e n hc) (fun b o hc e => u.there b o e hc) u.tups u.frzs u.tbls (fun m' hm => by
    obtain ⟨o', es', ep', ho', r'⟩ := hm
    rw [ho] at ho'; cases ho'
    exact ⟨_, es', ep', hL, r'⟩) hok hg
theorem Inv.turned {t' : Nat} {it : Addr} (I : Inv X pins σ H s) (k : ∀ b o, b ≠ it → s.heap.get? b = some o → h'.get? b = some o) (hn : H it = none) (hL : it ≠ X.env.locals)
    (h1 : it ∈ X.ex ∨ X.s₀.heap.objs.size ≤ it) (h2 : ∀ x c, X.env.cells.lookup x = some c → c ≠ it) (h3 : ∀ p ∈ X.pn ++ pins, p.1 ≠ it) : Inv X pins σ H { s with heap := h', toks := t' } := by
  have nit : ∀ b u, H b = some u → b ≠ it := fun b u e z => by rw [z, hn] at e; cases e
  refine I.step (g' := s.gens) (d' := s.drawn) (ch := [it]) (fun b hb => ?_) (fun b o _ _ hc e _ => k b o (fun z => hc (by simp [z])) e) (fun b o _ _ hc e _ => ⟨o.slots, k b o (fun z => hc (by simp [z])) e⟩) (fun _ _ _ _ n => n)
    (fun b o hc e => ⟨o, k b o (fun z => hc (by simp [z])) e⟩) (fun _ _ e => e) (fun _ _ _ e => e) (fun b ps e => ⟨#[], by rw [e]; simp⟩) (fun m hm => ?_) (fun b u e => ?_) I.bare
  · have e : b = it := by simpa using hb
    subst e
    exact ⟨h1, hL, h2, h3⟩
  · obtain ⟨o, es, ep, ho, r⟩ := hm
    exact ⟨o, es, ep, k _ o (Ne.symm hL) ho, r⟩
  · refine (I.hok b u e).stay (fun c v hc q => k c v ?_ q) (fun _ q => q) fun _ _ q => q
    rcases hc with z | z
    · rw [z]; exact nit b u e
    · exact nit c _ z
theorem Inv.tok (I : Inv X pins σ H s) (t : Nat) : Inv X pins σ H { s with toks := t } := I.un (h' := s.heap) (t' := t) Un.refl I.hok
theorem Inv.kept {t' : Nat} (I : Inv X pins σ H s) (k : ∀ b u, s.heap.get? b = some u → h'.get? b = some u) : Inv X pins σ H { s with heap := h', toks := t' } := I.un (Un.kept k) (I.hok.kept k)
theorem Inv.laid {a : Addr} {o : HO} {t' : Nat} (I : Inv X pins σ H s) (k : ∀ b u, s.heap.get? b = some u → h'.get? b = some u) (hp : s.heap.objs.size ≤ a) (new : ObjOk X.prog X.w (upd H a o) h' a o) :
    Inv X pins σ (upd H a o) { s with heap := h', toks := t' } := I.un (Un.laid k hp (I.hok.fresh hp)) (I.hok.laid k hp new)
theorem Inv.write {x e : Addr} {o : HO} {t' : Nat} (I : Inv X pins σ H s) (mu : Mut (H x)) (he : e = x ∨ H e = some (.own x)) (k : ∀ b u, b ≠ e → s.heap.get? b = some u → h'.get? b = some u) (heo : ∃ u, h'.get? e = some u)
    (new : ObjOk X.prog X.w (upd H x o) h' x o) : Inv X pins σ (upd H x o) { s with heap := h', toks := t' } := I.un (Un.write mu he k heo) (I.hok.write mu he k heo new)
theorem Inv.pins_of {pins' : List (Addr × Obj)} (I : Inv X pins σ H s) (h : ∀ p ∈ pins', s.heap.get? p.1 = some p.2 ∧ H p.1 = none ∧ p.1 ≠ X.env.locals ∧ p.1 ∉ X.fs ∧ ∀ v, p.2.data ≠ .cell v) : Inv X pins' σ H s :=
  ⟨I.ok, I.os, I.bare, I.base, I.loc, I.cell, I.free, I.freeC, fun p hp => (List.mem_append.mp hp).elim (fun z => I.pin p (List.mem_append_left _ z)) (h p), I.hok, I.len⟩
theorem nodup_ix {N : List Str} (hN : N.Nodup) {i j : Nat} {x : Str} (a : N[i]? = some x) (b : N[j]? = some x) : i = j := by
  obtain ⟨h1, e1⟩ := List.getElem?_eq_some_iff.mp a
  obtain ⟨h2, e2⟩ := List.getElem?_eq_some_iff.mp b
  exact (List.getElem_inj hN).mp (e1.trans e2.symm)
theorem store_ok2 {M : Model} {A : Around} {E : Value → Shared → Prop} {i : Nat} {x : Str} {v : V} {u : Value} {Q : Unit → Shared → Prop} (I : Inv X pins σ H s) (hN : X.N.Nodup) (hi : X.N[i]? = some x) (hx : Loc X.env.scope x) (r : RelV v u)
    (h : ∀ s', Inv X pins (σ.set i (some v)) H s' → (∃ a, Heap.SameBut a s.heap s'.heap ∧ (a = X.env.locals ∨ X.env.cells.lookup x = some a)) → Q () s') (hf : X.fn x = true ∨ X.env.scope.names.lookup x = some .local := by first | exact .inl rfl | exact .inr rfl | assumption) : wpAny M A (storeName X.env x u) Q E s := by
  obtain ⟨m, hn, hl⟩ := id I.loc
  have hcls : (X.env.scope.kind == .class || (X.env.scope.kind == .module && X.env.locals != X.env.globals)) = false := by rw [I.ok.kind]; rfl
  have hiσ : i < σ.length := by rw [I.len]; exact (List.getElem?_eq_some_iff.mp hi).1
  have cne := I.cne
  have tracked : ∀ {a : Addr} {h' : Heap}, (∃ o, s.heap.get? a = some o ∧ H a = none) → Heap.SameBut a s.heap h' → HOk X.prog X.w H h' := fun {a h'} ha hs b ob e => by
    obtain ⟨_, _, hfree⟩ := ha
    refine (I.hok b ob e).stay (fun c w' hc q => (hs.2 c ?_).trans q) (fun _ q => q) fun _ _ q => q
    rintro rfl
    rcases hc with rfl | hc
    · rw [hfree] at e; cases e
    · rw [hfree] at hc; cases hc
  rcases hx with hk | hk
  · refine wpAny_storeName_local hk hn (fun h' hn' hs => ?_) hcls
    obtain ⟨oL, _, _, hoL, _⟩ := id hn
    refine h _ ⟨I.ok, I.os, I.bare, ⟨fun b o e n hb hx => ?_, fun b o e n hb hx => ?_, I.base.free, fun b o e hx => ?_, I.base.tups, I.base.frzs, I.base.tbls⟩, ⟨_, hn', fun j y v' e1 e2 e3 => ?_⟩, fun y c e => ?_, I.free, I.freeC, fun p hp => ?_, tracked ⟨oL, hoL, I.free⟩ hs, by simpa using I.len⟩ ⟨_, hs, .inl rfl⟩
    · exact (hs.2 b (Nat.ne_of_lt (Nat.lt_of_lt_of_le (Heap.lt_size e) I.ok.above))).trans (I.base.keep b o e n hb hx)
    · obtain ⟨sl, e1⟩ := I.base.slot b o e n hb hx
      exact ⟨sl, (hs.2 b (Nat.ne_of_lt (Nat.lt_of_lt_of_le (Heap.lt_size e) I.ok.above))).trans e1⟩
    · obtain ⟨o', e1⟩ := I.base.there b o e hx
      exact ⟨o', (hs.2 b (Nat.ne_of_lt (Nat.lt_of_lt_of_le (Heap.lt_size e) I.ok.above))).trans e1⟩
    · by_cases hj : j = i
      · subst hj
        rw [hi] at e1; cases e1
        rw [List.getElem?_set_self hiσ] at e2
        cases e2
        exact ⟨u, r, .inl ⟨hk, by simp⟩⟩
      · rw [List.getElem?_set_ne (Ne.symm hj)] at e2
        obtain ⟨u', r', q⟩ := hl j y v' e1 e2 e3
        refine ⟨u', r', ?_⟩
        rcases q with ⟨k, e⟩ | ⟨k, c, e, z⟩
        · refine .inl ⟨k, ?_⟩
          have : y ≠ x := fun e => hj (nodup_ix hN e1 (e ▸ hi))
          simp [this, e]
        · exact .inr ⟨k, c, e, z.sameBut hs (cne y c e)⟩
    · obtain ⟨w', z⟩ := I.cell y c e
      exact ⟨w', z.sameBut hs (cne y c e)⟩
    · obtain ⟨e, n, ne, nf, d⟩ := I.pin p hp
      exact ⟨(hs.2 p.1 ne).trans e, n, ne, nf, d⟩
  · have hfn : X.fn x = true := by
      rcases hf with z | z
      · exact z
      · rw [z] at hk; cases hk
    obtain ⟨c, hc⟩ := I.ok.has x (.inl hk)
    obtain ⟨w', z⟩ := I.cell x c hc
    refine wpAny_storeName_cell I.ok.kind hk hc z (fun h' hc' hs => ?_)
    obtain ⟨oc, hoc, hocd⟩ := id z
    refine h { s with heap := h' } ⟨I.ok, I.os, I.bare, ⟨fun b o e n hb hx => ?_, fun b o e n hb hx => ?_, I.base.free, fun b o e hx => ?_, I.base.tups, I.base.frzs, I.base.tbls⟩, ⟨m, hn.sameBut hs (Ne.symm (cne x c hc)), fun j y v' e1 e2 e3 => ?_⟩, fun y c' e => ?_, I.free, I.freeC, fun p hp => ?_, tracked ⟨oc, hoc, I.freeC x c hc⟩ hs, by simpa using I.len⟩ ⟨c, hs, .inr hc⟩
    · exact (hs.2 b (Nat.ne_of_lt (Nat.lt_of_lt_of_le (Heap.lt_size e) (I.ok.cab x c hfn hc)))).trans (I.base.keep b o e n hb hx)
    · obtain ⟨sl, e1⟩ := I.base.slot b o e n hb hx
      exact ⟨sl, (hs.2 b (Nat.ne_of_lt (Nat.lt_of_lt_of_le (Heap.lt_size e) (I.ok.cab x c hfn hc)))).trans e1⟩
    · obtain ⟨o', e1⟩ := I.base.there b o e hx
      exact ⟨o', (hs.2 b (Nat.ne_of_lt (Nat.lt_of_lt_of_le (Heap.lt_size e) (I.ok.cab x c hfn hc)))).trans e1⟩
    · by_cases hj : j = i
      · subst hj
        rw [hi] at e1; cases e1
        rw [List.getElem?_set_self hiσ] at e2
        cases e2
        exact ⟨u, r, .inr ⟨.inl hk, c, hc, hc'⟩⟩
      · rw [List.getElem?_set_ne (Ne.symm hj)] at e2
        obtain ⟨u', r', q⟩ := hl j y v' e1 e2 e3
        refine ⟨u', r', ?_⟩
        rcases q with q | ⟨k, c', e, z'⟩
        · exact .inl q
        · refine .inr ⟨k, c', e, z'.sameBut hs ?_⟩
          rintro rfl
          exact hj (nodup_ix hN e1 (I.ok.inj _ _ _ e hc ▸ hi))
    · by_cases hcc : c' = c
      · subst hcc; exact ⟨_, hc'⟩
      · obtain ⟨w2, z2⟩ := I.cell y c' e
        exact ⟨w2, z2.sameBut hs hcc⟩
    · obtain ⟨e, n, ne, nf, d⟩ := I.pin p hp
      refine ⟨(hs.2 p.1 ?_).trans e, n, ne, nf, d⟩
      intro q
      rw [q, hoc] at e
      have q' : oc = p.2 := Option.some.inj e
      exact d w' (by rw [← q']; exact hocd)
theorem store_ok {M : Model} {A : Around} {E : Value → Shared → Prop} {i : Nat} {x : Str} {v : V} {u : Value} {Q : Unit → Shared → Prop} (I : Inv X pins σ H s) (hN : X.N.Nodup) (hi : X.N[i]? = some x) (hx : Loc X.env.scope x) (r : RelV v u)
    (h : ∀ s', Inv X pins (σ.set i (some v)) H s' → Q () s') (hf : X.fn x = true ∨ X.env.scope.names.lookup x = some .local := by first | exact .inl rfl | exact .inr rfl | assumption) : wpAny M A (storeName X.env x u) Q E s :=
  store_ok2 I hN hi hx r (fun s' I' _ => h s' I') hf
theorem Inv.call' {s' : Shared} {ch : List Addr} (I : Inv X pins σ H s) (ho : s'.os = s.os) (u : Un (frs X.stack) ch H H' s.heap s'.heap) (hok : HOk X.prog X.w H' s'.heap) (hg : AllBare s'.gens)
    (hch : ∀ b ∈ ch, (b ∈ X.ex ∨ X.s₀.heap.objs.size ≤ b) ∧ b ≠ X.env.locals ∧ (∀ x c, X.env.cells.lookup x = some c → c ≠ b) ∧ ∀ p ∈ X.pn ++ pins, p.1 ≠ b) : Inv X pins σ H' s' := by
  obtain ⟨h', g', d', t', o'⟩ := s'
  have e : o' = s.os := ho
  subst e
  exact I.call (g' := g') (t' := t') (d' := d') u hok hg hch
end
noncomputable abbrev XK := Value → Option Addr → Hp → Prop
noncomputable abbrev St := List (Option V)
noncomputable abbrev VK := V → Hp → Prop
noncomputable abbrev TE := St → Hp → VK → Prop
noncomputable abbrev TT := St → Hp → (Bool → Hp → Prop) → Prop
noncomputable abbrev TA := St → Hp → (List V → Hp → Prop) → Prop
structure Ends where
  nx : St → Hp → Prop
  rt : VK
  bk : St → Hp → Prop := fun _ _ => False
  ct : St → Hp → Prop := fun _ _ => False
noncomputable abbrev TS := Ends → St → Hp → Prop
noncomputable def EP (X : Cx) (pins : List (Addr × Obj)) (σ : St) (Q : VK) (u : Value) (s' : Shared) : Prop := ∃ v H', Inv X pins σ H' s' ∧ RelV v u ∧ Q v H'
noncomputable def TP (X : Cx) (pins : List (Addr × Obj)) (σ : St) (Q : Bool → Hp → Prop) (b : Bool) (s' : Shared) : Prop := ∃ H', Inv X pins σ H' s' ∧ Q b H'
noncomputable def AP (X : Cx) (pins : List (Addr × Obj)) (σ : St) (Q : List V → Hp → Prop) (us : List Value) (s' : Shared) : Prop := ∃ vs H', Inv X pins σ H' s' ∧ Vals vs us ∧ Q vs H'
noncomputable def SP (X : Cx) (pins : List (Addr × Obj)) (D : Ends) (f : Flow) (s' : Shared) : Prop :=
  match f with
  | .next => ∃ σ' H', Inv X pins σ' H' s' ∧ D.nx σ' H'
  | .brk => ∃ σ' H', Inv X pins σ' H' s' ∧ D.bk σ' H'
  | .cont => ∃ σ' H', Inv X pins σ' H' s' ∧ D.ct σ' H'
  | .ret u => ∃ v σ' H', Inv X pins σ' H' s' ∧ RelV v u ∧ D.rt v H'
noncomputable def PE (X : Cx) (e : Expr) (t : TE) : Prop :=
  ∀ (pins : List (Addr × Obj)) (s : Shared) (σ : St) (H : Hp) (Q : VK), Inv X pins σ H s → t σ H Q → wpAny (model X.prog X.w) X.A (eval e X.env) (EP X pins σ Q) X.xe s
noncomputable def PT (X : Cx) (e : Expr) (t : TT) : Prop :=
  ∀ (pins : List (Addr × Obj)) (s : Shared) (σ : St) (H : Hp) (Q : Bool → Hp → Prop), Inv X pins σ H s → t σ H Q → wpAny (model X.prog X.w) X.A (isTrue e X.env (eval e X.env)) (TP X pins σ Q) X.xe s
noncomputable def PW (X : Cx) (e : Expr) (t : TT) : Prop :=
  ∀ (whole : Sem Value) (pins : List (Addr × Obj)) (s : Shared) (σ : St) (H : Hp) (Q : Bool → Hp → Prop), Inv X pins σ H s → t σ H Q → wpAny (model X.prog X.w) X.A (isTrue e X.env whole) (TP X pins σ Q) X.xe s
theorem PW.pt {X : Cx} {e : Expr} {t : TT} (h : PW X e t) : PT X e t := h _
noncomputable def PA (X : Cx) (es : List Expr) (t : TA) : Prop :=
  ∀ (pos : Pos) (pins : List (Addr × Obj)) (s : Shared) (σ : St) (H : Hp) (Q : List V → Hp → Prop), Inv X pins σ H s → t σ H Q → wpAny (model X.prog X.w) X.A (spliced (backTo pos (starEach es X.env))) (AP X pins σ Q) X.xe s
noncomputable def PS (X : Cx) (st : Stmt) (t : TS) : Prop :=
  ∀ (pins : List (Addr × Obj)) (s : Shared) (σ : St) (H : Hp) (D : Ends), Inv X pins σ H s → t D σ H → wpAny (model X.prog X.w) X.A (exec st X.env) (SP X pins D) X.xe s
noncomputable def PSs (X : Cx) (st : List Stmt) (t : TS) : Prop :=
  ∀ (pins : List (Addr × Obj)) (s : Shared) (σ : St) (H : Hp) (D : Ends), Inv X pins σ H s → t D σ H → wpAny (model X.prog X.w) X.A (execs st X.env) (SP X pins D) X.xe s
theorem thn {α : Type} {t : Sem α} {Q Q' : α → Shared → Prop} {M : Model} {A : Around} {E : Value → Shared → Prop} {s : Shared} (h : wpAny M A t Q E s) (hQ : ∀ a s, Q a s → Q' a s) : wpAny M A t Q' E s := wpAny_mono h hQ fun _ _ x => x
end L2
namespace L2
open PySem PySem.Spec PyProof.Rows
section
variable {X : Cx}
noncomputable def tVar (i : Nat) : TE := fun σ H Q => ∃ v, σ[i]? = some (some v) ∧ Q v H
noncomputable def tC (v : V) : TE := fun _ H Q => Q v H
theorem pe_var {i : Nat} {x : Str} {pos : Pos} (hN : X.N[i]? = some x) (hv : Vis X.env.scope x) (hd : (x == ("__debug__" : Str)) = false := by decide) (hcd : (x == ("__classdict__" : Str)) = false := by decide) : PE X (.Name x pos) (tVar i) := by
  intro pins s σ H Q I h
  obtain ⟨v, e, h⟩ := h
  obtain ⟨m, hn, hl⟩ := I.loc
  obtain ⟨u, r, l⟩ := hl i x v hN e hv
  have fin : EP X pins σ Q u s := ⟨v, H, I, r, h⟩
  rcases l with ⟨hk, hm⟩ | ⟨hk, c, hc, hcell⟩
  · exact wpAny_Name (wpAny_loadName_local I.ok.kind hk hn hm fin) hd
  · rcases hk with hk | hk
    · exact wpAny_Name (wpAny_loadName_cell I.ok.kind hk hc hcell fin) hd
    · exact wpAny_Name (wpAny_loadName_free I.ok.kind hk hc hcell fin hcd) hd
theorem pe_int {i j pos} : PE X (.Constant (.int i) j pos) (tC (.int i)) := fun _ _ _ H _ I h => wpAny_Constant_int ⟨.int i, H, I.tok _, ⟨_, rfl⟩, h⟩
theorem pe_bl {b j pos} : PE X (.Constant (.bool b) j pos) (tC (.bl b)) := fun _ _ _ H _ I h => Constant_bool ⟨.bl b, H, I, rfl, h⟩
theorem pe_str {x j pos} : PE X (.Constant (.str x) j pos) (tC (.str x)) := fun _ _ _ H _ I h => Calls.Constant_str ⟨.str x, H, I.tok _, ⟨_, rfl⟩, h⟩
noncomputable def Gl (X : Cx) (x : Str) : Prop := X.env.kindOf x = some .globalImplicit
theorem ld_glob {E : Value → Shared → Prop} {pins : List (Addr × Obj)} {s : Shared} {σ : St} {H : Hp} {x : Str} {u : Value} {pos : Pos} {Q : Value → Shared → Prop} (I : Inv X pins σ H s) (hg : Gl X x) (hm : X.mg x = some u) (h : Q u s)
    (hd : (x == ("__debug__" : Str)) = false := by decide) : wpAny (model X.prog X.w) X.A (eval (.Name x pos) X.env) Q E s :=
  Calls.Name_function_global I.ok.kind hg (Calls.loadGlobal_global (by rw [I.ok.glob]; exact I.mod.glob.keeps I.bk) hm h) hd
theorem ld_blt {E : Value → Shared → Prop} {pins : List (Addr × Obj)} {s : Shared} {σ : St} {H : Hp} {x : Str} {u : Value} {pos : Pos} {Q : Value → Shared → Prop} (I : Inv X pins σ H s) (hg : Gl X x) (hm : X.mg x = none) (hv : bootBuiltins x = some u) (h : Q u s)
    (hn : x ≠ "__name__" := by decide) (hd : (x == ("__debug__" : Str)) = false := by decide) : wpAny (model X.prog X.w) X.A (eval (.Name x pos) X.env) Q E s := by
  obtain ⟨mb, h1, h2⟩ := I.mod.blt
  exact Calls.Name_function_global I.ok.kind hg (Calls.loadGlobal_builtin (by rw [I.ok.glob]; exact I.mod.glob.keeps I.bk) hm (by rw [I.ok.blt]; exact h1.keeps I.bk) ((h2 x hn).trans hv) h) hd
theorem pe_glob {x : Str} {v : V} {u : Value} {pos : Pos} (hg : Gl X x) (hm : X.mg x = some u) (r : RelV v u) (hd : (x == ("__debug__" : Str)) = false := by decide) : PE X (.Name x pos) (tC v) :=
  fun _ _ _ H _ I h => ld_glob I hg hm ⟨v, H, I, r, h⟩ hd
theorem pe_bltn {x : Str} {v : V} {u : Value} {pos : Pos} (hg : Gl X x) (hm : X.mg x = none) (hv : bootBuiltins x = some u) (r : RelV v u) (hn : x ≠ "__name__" := by decide) (hd : (x == ("__debug__" : Str)) = false := by decide) : PE X (.Name x pos) (tC v) :=
  fun _ _ _ H _ I h => ld_blt I hg hm hv ⟨v, H, I, r, h⟩ hn hd
variable {a b : Expr} {ta tb : TE} {pos : Pos}
noncomputable def tB (t : TE) : TT := fun σ H Q => t σ H fun x H1 => ∃ c, x = .bl c ∧ Q c H1
variable {tA tB' : TT} {rest : List Expr}
noncomputable def tAnd (t u : TT) : TT := fun σ H Q => t σ H fun c H1 => if c = true then u σ H1 Q else Q false H1
noncomputable def tOr (t u : TT) : TT := fun σ H Q => t σ H fun c H1 => if c = true then Q true H1 else u σ H1 Q
noncomputable def tNot (t : TT) : TT := fun σ H Q => t σ H fun c H1 => Q (!c) H1
theorem pw_and1 (ha : PT X a tA) : PW X (.BoolOp .And [a] pos) tA := by
  intro wh pins s σ H Q I h
  refine isTrue_and (thn (ha pins s σ H Q I h) fun c s1 e => ?_)
  cases c with
  | true => exact isTrue_and_nil e
  | false => exact e
theorem pw_or1 (ha : PT X a tA) : PW X (.BoolOp .Or [a] pos) tA := by
  intro wh pins s σ H Q I h
  refine isTrue_or (thn (ha pins s σ H Q I h) fun c s1 e => ?_)
  cases c with
  | false => exact isTrue_or_nil e
  | true => exact e
theorem pw_and (ha : PT X a tA) (hb : PW X (.BoolOp .And (b :: rest) pos) tB') : PW X (.BoolOp .And (a :: b :: rest) pos) (tAnd tA tB') := by
  intro wh pins s σ H Q I h
  refine isTrue_and (thn (ha pins s σ H _ I h) fun c s1 ⟨H1, I1, q1⟩ => ?_)
  cases c with
  | true => exact hb wh pins s1 σ H1 Q I1 q1
  | false => exact ⟨H1, I1, q1⟩
theorem pw_or (ha : PT X a tA) (hb : PW X (.BoolOp .Or (b :: rest) pos) tB') : PW X (.BoolOp .Or (a :: b :: rest) pos) (tOr tA tB') := by
  intro wh pins s σ H Q I h
  refine isTrue_or (thn (ha pins s σ H _ I h) fun c s1 ⟨H1, I1, q1⟩ => ?_)
  cases c with
  | true => exact ⟨H1, I1, q1⟩
  | false => exact hb wh pins s1 σ H1 Q I1 q1
theorem pt_not (ha : PT X a tA) : PT X (.UnaryOp .Not a pos) (tNot tA) := by
  intro pins s σ H Q I h
  exact isTrue_not (ha pins s σ H (fun c H1 => Q (!c) H1) I h)
noncomputable def tAndV (ta tb : TE) : TE := fun σ H Q => ta σ H fun x H1 => ∃ c, x = .bl c ∧ if c = true then tb σ H1 Q else Q (.bl false) H1
theorem pe_one {op} {t : TE} (h : PE X a t) : PE X (.BoolOp op [a] pos) t := fun pins s σ H Q I hw => BoolOp_one (h pins s σ H Q I hw)
theorem pe_and (ha : PE X a ta) (hb : PE X (.BoolOp .And (b :: rest) pos) tb) : PE X (.BoolOp .And (a :: b :: rest) pos) (tAndV ta tb) := by
  intro pins s σ H Q I h
  refine BoolOp_and (thn (ha pins s σ H _ I h) fun v s1 ⟨x, H1, I1, r1, q1⟩ => ?_)
  obtain ⟨c, rfl, q1⟩ := q1
  cases r1
  refine wpAny_truthy_bool ?_
  cases c with
  | true => exact hb pins s1 σ H1 Q I1 q1
  | false => exact ⟨.bl false, H1, I1, rfl, q1⟩
end
end L2
namespace L2
open PySem PySem.Spec PyProof.Rows
noncomputable def SqL (K : PySem.W.Frag) (H : Hp) (a : Addr) (xs : List V) : Prop :=
  Rd H a (.lst xs) ∨
    ∃ (o : Obj) (its : Array Value) (n : Nat), K.lookup a = some o ∧ o.cls = .type "list" ∧ o.dict = none ∧ o.data = .seq its n ∧ its.size ≤ sizeLine ∧ Vals xs its.toList
noncomputable def SqT (K : PySem.W.Frag) (H : Hp) (a : Addr) (xs : List V) : Prop :=
  Rd H a (.tup xs) ∨
    ∃ (o : Obj) (its : Array Value) (n : Nat), K.lookup a = some o ∧ o.cls = .type "tuple" ∧ o.data = .seq its n ∧ its.size ≤ sizeLine ∧ Vals xs its.toList
noncomputable def absV : Value → Option V
  | .none => some .non
  | .bool b => some (.bl b)
  | .int i _ => some (.int i)
  | .str x _ => some (.str x)
  | .bytes b _ => some (.byt b)
  | .float b _ => some (.flt b)
  | .ref a => some (.ref a)
  | .type n => some (.ty n)
  | _ => none
theorem RelV.abs {x : V} {u : Value} (r : RelV x u) : absV u = some x := by
  cases x with
  | non => cases r; rfl
  | bl _ => cases r; rfl
  | int _ => obtain ⟨t, rfl⟩ := r; rfl
  | str _ => obtain ⟨t, rfl⟩ := r; rfl
  | byt _ => obtain ⟨t, rfl⟩ := r; rfl
  | flt _ => obtain ⟨t, rfl⟩ := r; rfl
  | ref _ => cases r; rfl
  | ty _ => cases r; rfl
theorem RelV.inj {x y : V} {u : Value} (r : RelV x u) (q : RelV y u) : x = y := Option.some.inj (r.abs.symm.trans q.abs)
theorem Vals.inj : ∀ {xs ys : List V} {us : List Value}, Vals xs us → Vals ys us → xs = ys
  | _, _, _, .nil, .nil => rfl
  | _, _, _, .cons r t, .cons r' t' => by rw [r.inj r', Vals.inj t t']
section
variable {X : Cx} {pins : List (Addr × Obj)} {σ : St} {H : Hp} {s : Shared} {a : Addr} {xs ys : List V}
theorem SqL.of {K : PySem.W.Frag} (h : H a = some (.lst xs)) : SqL K H a xs := .inl (.inl h)
theorem SqT.of {K : PySem.W.Frag} (h : H a = some (.tup xs)) : SqT K H a xs := .inl (.inl h)
theorem Inv.list (I : Inv X pins σ H s) (h : SqL X.K H a xs) : ∃ its : List Value, Vals xs its ∧ PlainL s.heap a its.toArray ∧ xs.length ≤ sizeLine := by
  rcases h with h | ⟨o, its, n, hk, hc, hd, hs, hz, r⟩
  · obtain ⟨z, its, n, r, e⟩ := h.ok I.hok
    exact ⟨its, r, ⟨_, n, e, rfl, rfl, rfl⟩, z⟩
  · refine ⟨its.toList, r, ⟨o, n, I.kIn a o hk, hc, hd, by simpa using hs⟩, ?_⟩
    have e := r.length
    simp only [Array.length_toList] at e
    omega
theorem Inv.tuple (I : Inv X pins σ H s) (h : SqT X.K H a xs) : ∃ its : List Value, Vals xs its ∧ IsTup s.heap a its.toArray ∧ xs.length ≤ sizeLine := by
  rcases h with h | ⟨o, its, n, hk, hc, hs, hz, r⟩
  · obtain ⟨z, its, r, p⟩ := h.ok I.hok
    exact ⟨its, r, p, z⟩
  · refine ⟨its.toList, r, ⟨o, I.kIn a o hk, hc, n, by simpa using hs⟩, ?_⟩
    have e := r.length
    simp only [Array.length_toList] at e
    omega
theorem Inv.list_inj (I : Inv X pins σ H s) (h : SqL X.K H a xs) (h' : SqL X.K H a ys) : xs = ys := by
  obtain ⟨its, r, ⟨o, n, e, _, _, d⟩, _⟩ := I.list h
  obtain ⟨its', r', ⟨o', n', e', _, _, d'⟩, _⟩ := I.list h'
  rw [e] at e'; cases e'
  rw [d] at d'
  injection d' with d1 _
  have : its = its' := by simpa using congrArg Array.toList d1
  subst this
  exact r.inj r'
theorem Inv.tuple_inj (I : Inv X pins σ H s) (h : SqT X.K H a xs) (h' : SqT X.K H a ys) : xs = ys := by
  obtain ⟨its, r, ⟨o, e, _, n, d⟩, _⟩ := I.tuple h
  obtain ⟨its', r', ⟨o', e', _, n', d'⟩, _⟩ := I.tuple h'
  rw [e] at e'; cases e'
  rw [d] at d'
  injection d' with d1 _
  have : its = its' := by simpa using congrArg Array.toList d1
  subst this
  exact r.inj r'
end
noncomputable abbrev Cx.wish (X : Cx) (E : Value → Shared → Prop) : Cx := { X with xe := E }
noncomputable abbrev Cx.nox (X : Cx) : Cx := X.wish fun _ _ => False
theorem Cx.Ok.wish {X : Cx} (ok : X.Ok) (E : Value → Shared → Prop) : (X.wish E).Ok :=
  ⟨ok.mod, ok.kind, ok.glob, ok.blt, ok.above, ok.inj, ok.has, ok.cab, ok.hd, ok.frames, ok.stk, ok.exf, ok.bs, ok.bsz, ok.noex, ok.exfs, ok.funs, ok.frf⟩
theorem Cx.Ok.unwish {X : Cx} {E : Value → Shared → Prop} (ok : (X.wish E).Ok) : X.Ok :=
  ⟨ok.mod, ok.kind, ok.glob, ok.blt, ok.above, ok.inj, ok.has, ok.cab, ok.hd, ok.frames, ok.stk, ok.exf, ok.bs, ok.bsz, ok.noex, ok.exfs, ok.funs, ok.frf⟩
section
variable {X : Cx} {pins : List (Addr × Obj)} {σ : St} {H : Hp} {s : Shared} {E : Value → Shared → Prop}
theorem Inv.wish (I : Inv X pins σ H s) (E : Value → Shared → Prop) : Inv (X.wish E) pins σ H s := ⟨I.ok.wish E, I.os, I.bare, I.base, I.loc, I.cell, I.free, I.freeC, I.pin, I.hok, I.len⟩
theorem Inv.unwish (I : Inv (X.wish E) pins σ H s) : Inv X pins σ H s := ⟨I.ok.unwish, I.os, I.bare, I.base, I.loc, I.cell, I.free, I.freeC, I.pin, I.hok, I.len⟩
theorem SP.unwish {D : Ends} {f : Flow} {s' : Shared} (h : SP (X.wish E) pins D f s') : SP X pins D f s' := by
  cases f with
  | next => obtain ⟨σ', H', I, q⟩ := h; exact ⟨σ', H', I.unwish, q⟩
  | brk => obtain ⟨σ', H', I, q⟩ := h; exact ⟨σ', H', I.unwish, q⟩
  | cont => obtain ⟨σ', H', I, q⟩ := h; exact ⟨σ', H', I.unwish, q⟩
  | ret u => obtain ⟨v, σ', H', I, r, q⟩ := h; exact ⟨v, σ', H', I.unwish, r, q⟩
theorem PSs.nox {st : List Stmt} {t : TS} (h : PSs X.nox st t) : PSs X st t := fun pins s σ H D I hw =>
  wpAny_mono (h pins s σ H D (I.wish _) hw) (fun _ _ q => q.unwish) fun _ _ z => False.elim z
end
section
variable {X : Cx} {st : Stmt} {rest : List Stmt} {t u : TS} {e : Expr} {te : TE} {pos : Pos}
noncomputable def tNext : TS := fun D σ H => D.nx σ H
noncomputable def tSeq (t u : TS) : TS := fun D σ H => t { D with nx := u D } σ H
theorem pss_nil : PSs X [] tNext := fun _ _ σ H _ I h => wpAny_execs_nil ⟨σ, H, I, h⟩
theorem pss_cons (h1 : PS X st t) (h2 : PSs X rest u) : PSs X (st :: rest) (tSeq t u) := by
  intro pins s σ H D I h
  refine wpAny_execs_cons (thn (h1 pins s σ H { D with nx := u D } I h) fun f s1 q => ?_)
  cases f with
  | next =>
    obtain ⟨σ', H', I', q⟩ := q
    exact h2 pins s1 σ' H' D I' q
  | ret v => exact q
  | brk => exact q
  | cont => exact q
theorem pss_one (h1 : PS X st t) : PSs X [st] t := by
  intro pins s σ H D I h
  refine wpAny_execs_cons (thn (h1 pins s σ H D I h) fun f s1 q => ?_)
  cases f with
  | next => exact wpAny_execs_nil q
  | ret v => exact q
  | brk => exact q
  | cont => exact q
theorem Inv.quiet {pins : List (Addr × Obj)} {σ : St} {H : Hp} {s : Shared} (I : Inv X pins σ H s) : interactive X.env = false := by simp [interactive, I.ok.kind]
noncomputable def tDrop (te : TE) : TS := fun D σ H => te σ H fun _ H1 => D.nx σ H1
theorem ps_expr (he : PE X e te) (hs : swapsWith e none pos.line X.env = pure false := by rfl) : PS X (.Expr e pos) (tDrop te) := by
  intro pins s σ H D I h
  exact wpAny_Expr_any (thn (he pins s σ H _ I h) fun v s1 ⟨x, H1, I1, r1, q1⟩ => ⟨σ, H1, I1, q1⟩) I.quiet hs
noncomputable def tRet (te : TE) : TS := fun D σ H => te σ H D.rt
theorem ps_ret (he : PE X e te) : PS X (.Return (some e) pos) (tRet te) := by
  intro pins s σ H D I h
  exact wpAny_Return_some (thn (he pins s σ H _ I h) fun v s1 ⟨x, H1, I1, r1, q1⟩ => ⟨x, σ, H1, I1, r1, q1⟩)
noncomputable def tIfS (c : TT) (t u : TS) : TS := fun D σ H => c σ H fun b H1 => if b = true then t D σ H1 else u D σ H1
theorem ps_if {c : Expr} {a b : List Stmt} {tc : TT} (hc : PT X c tc) (ha : PSs X a t) (hb : PSs X b u) : PS X (.If c a b pos) (tIfS tc t u) := by
  intro pins s σ H D I h
  refine wpAny_If (thn (hc pins s σ H _ I h) fun d s1 ⟨H1, I1, q1⟩ => ?_)
  cases d with
  | true => exact ha pins s1 σ H1 D I1 q1
  | false => exact hb pins s1 σ H1 D I1 q1
end
noncomputable abbrev TG := V → St → Hp → (St → Hp → Prop) → Prop
noncomputable abbrev TGs := List V → St → Hp → (St → Hp → Prop) → Prop
noncomputable def PG (X : Cx) (target : Expr) (t : TG) : Prop :=
  ∀ (pins : List (Addr × Obj)) (s : Shared) (σ : St) (H : Hp) (v : V) (u : Value) (Q : St → Hp → Prop), Inv X pins σ H s → RelV v u → t v σ H Q →
    wpAny (model X.prog X.w) X.A (assign target X.env u) (fun _ s' => ∃ σ' H', Inv X pins σ' H' s' ∧ Q σ' H') X.xe s
noncomputable def PGs (X : Cx) (ts : List Expr) (t : TGs) : Prop :=
  ∀ (pins : List (Addr × Obj)) (s : Shared) (σ : St) (H : Hp) (vs : List V) (us : List Value) (Q : St → Hp → Prop), Inv X pins σ H s → Vals vs us → t vs σ H Q →
    wpAny (model X.prog X.w) X.A (assignInOrder ((assignEach ts X.env).map (·.2)) us) (fun _ s' => ∃ σ' H', Inv X pins σ' H' s' ∧ Q σ' H') X.xe s
section
variable {X : Cx} {pos : Pos}
noncomputable def gName (i : Nat) : TG := fun v σ H Q => Q (σ.set i (some v)) H
theorem pg_name {i : Nat} {x : Str} (hN : X.N.Nodup) (hi : X.N[i]? = some x) (hx : Loc X.env.scope x) (hf : X.fn x = true ∨ X.env.scope.names.lookup x = some .local := by first | exact .inl rfl | exact .inr rfl | assumption) : PG X (.Name x pos) (gName i) := by
  intro pins s σ H v u Q I r h
  exact wpAny_assign_Name (store_ok I hN hi hx r (fun s' I' => ⟨_, H, I', h⟩) hf)
noncomputable def gNil : TGs := fun vs σ H Q => vs = [] ∧ Q σ H
noncomputable def gCons (t : TG) (u : TGs) : TGs := fun vs σ H Q => ∃ v r, vs = v :: r ∧ t v σ H fun σ' H' => u r σ' H' Q
theorem pgs_nil : PGs X [] gNil := by
  intro pins s σ H vs us Q I r h
  obtain ⟨e, h⟩ := h
  subst e
  cases r
  exact assignInOrder_nil ⟨σ, H, I, h⟩
theorem pgs_cons {e : Expr} {es : List Expr} {t : TG} {u : TGs} (h1 : PG X e t) (h2 : PGs X es u)
    (hs : (assignEach (e :: es) X.env).map (·.2) = assign e X.env :: (assignEach es X.env).map (·.2) := by rfl) : PGs X (e :: es) (gCons t u) := by
  intro pins s σ H vs us Q I r h
  obtain ⟨v, vr, e1, h⟩ := h
  subst e1
  cases r with
  | cons r rr =>
    rw [hs]
    refine assignInOrder_cons (thn (h1 pins s σ H _ _ _ I r h) fun _ s1 ⟨σ1, H1, I1, q1⟩ => ?_)
    exact h2 pins s1 σ1 H1 _ _ Q I1 rr q1
noncomputable def gTup (K : PySem.W.Frag) (n : Nat) (t : TGs) : TG := fun v σ H Q => ∃ a xs, v = .ref a ∧ SqT K H a xs ∧ xs.length = n ∧ t xs σ H Q
theorem pg_tup {es : List Expr} {k : Nat} {t : TGs} {n : Nat} (hc : X.calm = true) (h : PGs X es t)
    (hn : (assignEach es X.env).length = n := by rfl) (hst : (assignEach es X.env).findIdx? (·.1) = none := by rfl) : PG X (.Tuple es k pos) (gTup X.K n t) := by
  intro pins s σ H v u Q I r hw
  obtain ⟨a, xs, e1, hq, hl, hw⟩ := hw
  subst e1
  cases r
  obtain ⟨its, rv, ht, hz⟩ := I.tuple hq
  refine assign_Tuple_tuple (I.ok.hd hc) ht (by simp [hn, ← hl, rv.length]) hst fun h' hx => ?_
  have I1 : Inv X pins σ H { s with heap := h' } := I.kept (t' := s.toks) fun b o e => hx b o (Nat.ne_of_lt (Heap.lt_size e)) e
  exact h pins _ σ H xs _ Q I1 (by simpa using rv) hw
noncomputable def tAsg (te : TE) (g : TG) : TS := fun D σ H => te σ H fun x H1 => g x σ H1 D.nx
theorem ps_asg {tg e : Expr} {te : TE} {g : TG} (he : PE X e te) (hg : PG X tg g) (hs : swapsWithSole [tg] e pos.line X.env = pure false := by rfl) (hw : swappedStores [tg] e X.env = pure none := by rfl)
    (h1 : (assignEach [tg] X.env).map (·.2) = [assign tg X.env] := by rfl) : PS X (.Assign [tg] e pos) (tAsg te g) := by
  intro pins s σ H D I h
  refine wpAny_Assign_stores (thn (he pins s σ H _ I h) fun v s1 ⟨x, H1, I1, r1, q1⟩ => ?_) hs hw
  rw [h1]
  exact thn (hg pins s1 σ H1 x v _ I1 r1 q1) fun _ s2 q => q
theorem ps_set {i : Nat} {x : Str} {e : Expr} {te : TE} {pos' : Pos} (hN : X.N.Nodup) (hi : X.N[i]? = some x) (hx : Loc X.env.scope x) (he : PE X e te) (hs : swapsWith e (some (.Name x pos')) pos.line X.env = pure false := by rfl) (hf : X.fn x = true ∨ X.env.scope.names.lookup x = some .local := by first | exact .inl rfl | exact .inr rfl | assumption) :
    PS X (.Assign [.Name x pos'] e pos) (tAsg te (gName i)) := by
  intro pins s σ H D I h
  refine wpAny_Assign_Name (thn (he pins s σ H _ I h) fun v s1 ⟨y, H1, I1, r1, q1⟩ => ?_) hs
  exact store_ok I1 hN hi hx r1 (fun s2 I2 => ⟨_, H1, I2, q1⟩) hf
end
section
variable {X : Cx} {pos : Pos}
noncomputable def tWhile (c : TT) (tb : TS) : TS := fun D σ H => ∃ W : Nat → St → Hp → Prop, (∃ m, W m σ H) ∧ ∀ m σ H, W m σ H →
  c σ H fun b H1 => if b = true then ∃ N : St → Hp → Prop, (∀ σ' H', N σ' H' → ∃ m', m' < m ∧ W m' σ' H') ∧ tb { D with nx := N, ct := N, bk := D.nx } σ H1 else D.nx σ H1
theorem ps_while {c : Expr} {body : List Stmt} {tc : TT} {tb : TS} (hp : PassesOwn (model X.prog X.w) X.A X.env X.xe) (hc : PT X c tc) (hb : PSs X body tb) : PS X (.While c body [] pos) (tWhile tc tb) := by
  intro pins s σ H D I h
  obtain ⟨W, ⟨m0, w0⟩, turn⟩ := h
  refine wpAny_While (codeAny_whileLoop (fun n s' => ∃ σ' H', Inv X pins σ' H' s' ∧ W n σ' H') ?_ m0 ⟨σ, H, I, w0⟩)
  rintro n s1 ⟨σ1, H1, I1, w1⟩
  refine wpAny_passesOwn hp (thn (hc pins s1 σ1 H1 _ I1 (turn n σ1 H1 w1)) fun b s2 ⟨H2, I2, q2⟩ => ?_)
  cases b with
  | true =>
    obtain ⟨N, hN, q2⟩ := q2
    rw [if_pos rfl]
    refine wpAny_passesOwn hp (thn (hb pins s2 σ1 H2 _ I2 q2) fun f s3 q3 => ?_)
    cases f with
    | next =>
      obtain ⟨σ3, H3, I3, n3⟩ := q3
      obtain ⟨m', hm, w3⟩ := hN σ3 H3 n3
      exact ⟨m', hm, σ3, H3, I3, w3⟩
    | cont =>
      obtain ⟨σ3, H3, I3, n3⟩ := q3
      obtain ⟨m', hm, w3⟩ := hN σ3 H3 n3
      exact ⟨m', hm, σ3, H3, I3, w3⟩
    | brk => exact q3
    | ret v => exact q3
  | false =>
    rw [if_neg Bool.false_ne_true]
    exact wpAny_execs_nil ⟨σ1, H2, I2, q2⟩
end
structure It where
  go : Nat → Hp → Prop
  yld : Nat → Hp → V → Hp → Prop
  stop : Nat → Hp → Prop
noncomputable def FpOk (X : Cx) (pins : List (Addr × Obj)) (H : Hp) (b : Addr) : Prop :=
  H b = none ∧ b ≠ X.env.locals ∧ b ∉ X.fs ∧ (b ∈ X.ex ∨ X.s₀.heap.objs.size ≤ b) ∧ (∀ x c, X.env.cells.lookup x = some c → c ≠ b) ∧ ∀ p ∈ X.pn ++ pins, p.1 ≠ b
theorem Inv.fpOk {X : Cx} {pins : List (Addr × Obj)} {σ : St} {H H' : Hp} {s : Shared} {b : Addr} (I : Inv X pins σ H s) (hb : s.heap.objs.size ≤ b) (hn : H' b = none) : FpOk X pins H' b := by
  refine ⟨hn, Nat.ne_of_gt (Nat.lt_of_lt_of_le I.lt hb), I.nofs hb, .inr (Nat.le_trans I.sz hb), fun x c e z => ?_, fun p hp z => ?_⟩
  · obtain ⟨v, q⟩ := I.cell x c e
    exact absurd (Nat.lt_of_lt_of_le q.lt (by rw [z]; exact hb)) (Nat.lt_irrefl _)
  · exact absurd (Nat.lt_of_lt_of_le (Heap.lt_size (I.pin p hp).1) (by rw [z]; exact hb)) (Nat.lt_irrefl _)
structure Turn (P : Program) (w : World) (K : PySem.W.Frag) (tg : Expr) (J : It) (fp : List Addr) (it : Addr) (tn : Nat → Heap → Prop) : Prop where
  mem : it ∈ fp
  obj : ∀ i h, tn i h → ∀ b ∈ fp, ∃ o, h.get? b = some o ∧ ∀ v, o.data ≠ .cell v
  keep : ∀ i h h', tn i h → (∀ b ∈ fp, ∀ o, h.get? b = some o → h'.get? b = some o) → tn i h'
  item : ∀ (X : Cx), X.prog = P → X.w = w → X.K = K → X.calm = true → ∀ (i : Nat) (pins : List (Addr × Obj)) (s : Shared) (σ : St) (H : Hp) (E : Value → Shared → Prop), Inv X pins σ H s → (∀ b ∈ fp, FpOk X pins H b) → tn i s.heap → J.go i H →
    wpAny (model P w) X.A (pyNext (.ref it)) (fun r s1 => ∃ u, r = some u ∧
      wpAny (model P w) X.A (letOwnedTupleGo tg (.ref it) u) (fun _ s2 => ∃ x H', Inv X pins σ H' s2 ∧ RelV x u ∧ J.yld i H x H' ∧ tn (i + 1) s2.heap ∧ ∀ b ∈ fp, H' b = none) E s1) E s
  done : ∀ (X : Cx), X.prog = P → X.w = w → X.K = K → X.calm = true → ∀ (i : Nat) (pins : List (Addr × Obj)) (s : Shared) (σ : St) (H : Hp) (E : Value → Shared → Prop), Inv X pins σ H s → (∀ b ∈ fp, FpOk X pins H b) → tn i s.heap → J.stop i H →
    wpAny (model P w) X.A (pyNext (.ref it)) (fun r s1 => r = none ∧ Inv X pins σ H s1) E s
  self : ∀ (A : Around) (i : Nat) (s : Shared) (Q : Value → Shared → Prop) (E : Value → Shared → Prop), tn i s.heap → Q (.ref it) s → wpAny (model P w) A (pyIter (.ref it)) Q E s
noncomputable abbrev TI := St → Hp → (It → Hp → Prop) → Prop
noncomputable def PIE (X : Cx) (pins : List (Addr × Obj)) (σ : St) (tg : Expr) (R : It → Hp → Prop) (itv : Value) (s2 : Shared) : Prop :=
  ∃ (it : Addr) (fp : List Addr) (tn : Nat → Heap → Prop) (J : It) (H' : Hp), itv = .ref it ∧ Inv X pins σ H' s2 ∧ Turn X.prog X.w X.K tg J fp it tn ∧ tn 0 s2.heap ∧ (∀ b ∈ fp, FpOk X pins H' b) ∧ R J H'
noncomputable def PI (X : Cx) (tg iter : Expr) (wi : TI) : Prop :=
  ∀ (pins : List (Addr × Obj)) (s : Shared) (σ : St) (H : Hp) (R : It → Hp → Prop), Inv X pins σ H s → wi σ H R →
    wpAny (model X.prog X.w) X.A (eval iter X.env) (fun v s1 => wpAny (model X.prog X.w) X.A (pyIter v) (PIE X pins σ tg R) X.xe s1) X.xe s
theorem go_of {M : Model} {A : Around} {E : Value → Shared → Prop} {s : Shared} {tg : Expr} {it : Addr} {u : Value} {o : Obj} {n : String} {vs : Array Value} {Q : Unit → Shared → Prop} (ho : s.heap.get? it = some o) (hc : o.cls = .type n) (hd : o.data = .fields vs)
    (hn : ["enumerate", "zip", "dict_itemiterator", "dict_reverseitemiterator", "odict_iterator", "itertools.zip_longest", "itertools.pairwise"].contains n = false) (hQ : Q () s) : wpAny M A (letOwnedTupleGo tg (.ref it) u) Q E s := by
  unfold letOwnedTupleGo
  cases tg <;> first
    | exact wpAny_pure hQ
    | (cases u <;> first
        | exact wpAny_pure hQ
        | (refine wpAny_bind (wpAny_load ho ?_)
           rw [hc, hd]
           show wpAny M A (if (["enumerate", "zip", "dict_itemiterator", "dict_reverseitemiterator", "odict_iterator", "itertools.zip_longest", "itertools.pairwise"].contains n && vs[0]? == some (rawInt _)) = true then _ else _) Q E s
           rw [if_neg (by intro h; rw [hn, Bool.false_and] at h; cases h)]
           exact wpAny_pure hQ))
noncomputable def Itl (K : PySem.W.Frag) (a : Addr) : It :=
  ⟨fun i H => ∃ xs x, SqL K H a xs ∧ xs[i]? = some x, fun i H x H' => H' = H ∧ ∀ xs, SqL K H a xs → xs[i]? = some x, fun i H => ∃ xs, SqL K H a xs ∧ xs.length ≤ i⟩
noncomputable def Itt (K : PySem.W.Frag) (a : Addr) : It :=
  ⟨fun i H => ∃ xs x, SqT K H a xs ∧ xs[i]? = some x, fun i H x H' => H' = H ∧ ∀ xs, SqT K H a xs → xs[i]? = some x, fun i H => ∃ xs, SqT K H a xs ∧ xs.length ≤ i⟩
noncomputable def Itr (lo : Int) (n : Nat) : It := ⟨fun i _ => i < n, fun i H x H' => H' = H ∧ x = .int (lo + i), fun i _ => n ≤ i⟩
theorem turn_list {P : Program} {w : World} {K : PySem.W.Frag} {tg : Expr} (a it : Addr) : Turn P w K tg (Itl K a) [it] it (fun i h => h.IsListIter it a i) where
  mem := by simp
  obj := fun i h st b hb => by
    have e : b = it := by simpa using hb
    subst e
    obtain ⟨o, e, c, d⟩ := st
    exact ⟨o, e, fun v z => by rw [d] at z; cases z⟩
  keep := fun i h h' st k => st.at fun o e => k it (by simp) o e
  item := by
    intro X hP hw hK hc i pins s σ H E I hf st hg
    subst hP hw hK
    obtain ⟨xs, x, hq, hx⟩ := hg
    obtain ⟨its, rv, p, hz⟩ := I.list hq
    obtain ⟨u, hu, ru⟩ := rv.get hx
    obtain ⟨f0, f1, f2, f3, f4, f5⟩ := hf it (by simp)
    refine wpAny_pyNext_list_item st p.isList (x := u) (by simpa using hu) fun h' st' sb => ?_
    have I1 : Inv X pins σ H { s with heap := h' } := I.turned (t' := s.toks) (fun b o hb e => (sb.2 b hb).trans e) f0 f1 f3 f4 f5
    obtain ⟨o, e, c, d⟩ := id st'
    exact ⟨u, rfl, go_of (s := { s with heap := h' }) e c d (by decide) ⟨x, H, I1, ru, ⟨rfl, fun ys hy => by rw [I.list_inj hy hq]; exact hx⟩, st', fun b hb => (hf b hb).1⟩⟩
  done := by
    intro X hP hw hK hc i pins s σ H E I hf st hg
    subst hP hw hK
    obtain ⟨xs, hq, hx⟩ := hg
    obtain ⟨its, rv, p, hz⟩ := I.list hq
    obtain ⟨f0, f1, f2, f3, f4, f5⟩ := hf it (by simp)
    have hl := rv.length
    exact wpAny_pyNext_list_end (I.ok.hd hc) st p.isList (by simp; omega) fun h' eb => ⟨rfl, I.turned (t' := s.toks) (fun b o hb e => eb b o hb e) f0 f1 f3 f4 f5⟩
  self := fun _ _ _ _ _ st h => wpAny_pyIter_listiter st h
theorem turn_tuple {P : Program} {w : World} {K : PySem.W.Frag} {tg : Expr} (a it : Addr) : Turn P w K tg (Itt K a) [it] it (fun i h => h.IsTupleIter it a i) where
  mem := by simp
  obj := fun i h st b hb => by
    have e : b = it := by simpa using hb
    subst e
    obtain ⟨o, e, c, d⟩ := st
    exact ⟨o, e, fun v z => by rw [d] at z; cases z⟩
  keep := fun i h h' st k => st.at fun o e => k it (by simp) o e
  item := by
    intro X hP hw hK hc i pins s σ H E I hf st hg
    subst hP hw hK
    obtain ⟨xs, x, hq, hx⟩ := hg
    obtain ⟨its, rv, p, hz⟩ := I.tuple hq
    obtain ⟨u, hu, ru⟩ := rv.get hx
    obtain ⟨f0, f1, f2, f3, f4, f5⟩ := hf it (by simp)
    refine wpAny_pyNext_tuple_item st (show s.heap.IsTuple a its.toArray from p) (x := u) (by simpa using hu) fun h' st' sb => ?_
    have I1 : Inv X pins σ H { s with heap := h' } := I.turned (t' := s.toks) (fun b o hb e => (sb.2 b hb).trans e) f0 f1 f3 f4 f5
    obtain ⟨o, e, c, d⟩ := id st'
    exact ⟨u, rfl, go_of (s := { s with heap := h' }) e c d (by decide) ⟨x, H, I1, ru, ⟨rfl, fun ys hy => by rw [I.tuple_inj hy hq]; exact hx⟩, st', fun b hb => (hf b hb).1⟩⟩
  done := by
    intro X hP hw hK hc i pins s σ H E I hf st hg
    subst hP hw hK
    obtain ⟨xs, hq, hx⟩ := hg
    obtain ⟨its, rv, p, hz⟩ := I.tuple hq
    obtain ⟨f0, f1, f2, f3, f4, f5⟩ := hf it (by simp)
    have hl := rv.length
    exact wpAny_pyNext_tuple_end (I.ok.hd hc) st (show s.heap.IsTuple a its.toArray from p) (by simp; omega) fun h' eb => ⟨rfl, I.turned (t' := s.toks) (fun b o hb e => eb b o hb e) f0 f1 f3 f4 f5⟩
  self := fun _ _ _ _ _ st h => wpAny_pyIter_tupleiter st h
theorem turn_range {P : Program} {w : World} {K : PySem.W.Frag} {tg : Expr} (it : Addr) (lo : Int) (n : Nat) : Turn P w K tg (Itr lo n) [it] it (fun i h => IsRangeIter h it (lo + (i : Nat) * 1) ((n : Int) - (i : Nat)) 1) where
  mem := by simp
  obj := fun i h st b hb => by
    have e : b = it := by simpa using hb
    subst e
    exact ⟨_, st, fun v z => by
      have z' : Data.fields _ = Data.cell v := z
      cases z'⟩
  keep := fun i h h' st k => k it (by simp) _ st
  item := by
    intro X hP hw hK hc i pins s σ H E I hf st hg
    subst hP hw hK
    obtain ⟨f0, f1, f2, f3, f4, f5⟩ := hf it (by simp)
    have W := Walks.range (prog := X.prog) (w := X.w) (I.ok.hd hc) it lo 1 n
    refine W.item i s _ _ hg st fun v h' tk hv st' kk => ?_
    obtain ⟨t, rfl⟩ := hv
    have I1 : Inv X pins σ H { s with heap := h', toks := tk } := I.turned (fun b o hb e => kk b o (by simpa using hb) e) f0 f1 f3 f4 f5
    refine ⟨_, rfl, go_of (s := { s with heap := h', toks := tk }) (n := "range_iterator") st' rfl rfl (by decide) ⟨.int (lo + i), H, I1, ⟨t, ?_⟩, ⟨rfl, rfl⟩, st', fun b hb => (hf b hb).1⟩⟩
    rw [Int.mul_one]
  done := by
    intro X hP hw hK hc i pins s σ H E I hf st hg
    subst hP hw hK
    obtain ⟨f0, f1, f2, f3, f4, f5⟩ := hf it (by simp)
    exact wpAny_pyNext_range_end (I.ok.hd hc) st (by have : n ≤ i := hg; omega) fun h' eb => ⟨rfl, I.turned (t' := s.toks) (fun b o hb e => eb b o hb e) f0 f1 f3 f4 f5⟩
  self := fun _ _ _ _ _ st h => wpAny_pyIter_rangeiter st h
end L2
namespace L2
open PySem PySem.Spec PyProof.Rows
section
variable {X : Cx} {tg : Expr}
theorem range_it {pins : List (Addr × Obj)} {σ : St} {H : Hp} {s : Shared} {R : It → Hp → Prop} {E : Value → Shared → Prop} {lo hi : Int} {t u v : Tok} {tk : Nat} (I : Inv X pins σ H s) (h1 : -(2 ^ 62) ≤ lo) (h2 : lo < 2 ^ 62) (h3 : -(2 ^ 62) ≤ hi) (h4 : hi < 2 ^ 62)
    (q : R (Itr lo (hi - lo).toNat) H) : wpAny (model X.prog X.w) X.A (pyIter (.ref s.heap.objs.size)) (PIE X pins σ tg R) E { s with heap := s.heap.push { cls := .type "range", data := .fields #[.int lo t, .int hi u, .int 1 v] }, toks := tk } := by
  refine wpAny_pyIter_range (IsRange.new ..) (small_one h1 h2 h3 h4) ?_
  have I1 : Inv X pins σ H { s with heap := s.heap.push { cls := .type "range", data := .fields #[.int lo t, .int hi u, .int 1 v] }, toks := tk } := I.kept fun b o e => Heap.get?_push_of_some _ e
  refine ⟨(s.heap.push { cls := .type "range", data := .fields #[.int lo t, .int hi u, .int 1 v] }).objs.size, [(s.heap.push { cls := .type "range", data := .fields #[.int lo t, .int hi u, .int 1 v] }).objs.size], _, _, H, rfl,
    I1.kept (t' := tk) fun b o e => Heap.get?_push_of_some _ e, turn_range _ lo (hi - lo).toNat, ?_, fun b hb => ?_, q⟩
  · have e1 : lo + ((0 : Nat) : Int) * 1 = lo := by simp
    have e2 : (((hi - lo).toNat : Nat) : Int) - ((0 : Nat) : Int) = Builtin.Range.rangeSize lo hi 1 := by rw [rangeSize_one]; split <;> omega
    show IsRangeIter _ _ (lo + ((0 : Nat) : Int) * 1) ((((hi - lo).toNat : Nat) : Int) - ((0 : Nat) : Int)) 1
    rw [e1, e2]
    exact Heap.get?_push_size _ rfl
  · have e : b = (s.heap.push { cls := .type "range", data := .fields #[.int lo t, .int hi u, .int 1 v] }).objs.size := by simpa using hb
    subst e
    exact I1.fpOk (Nat.le_refl _) (I1.hok.fresh (Nat.le_refl _))
noncomputable def iRng1 (ta : TA) : TI := fun σ H R => ta σ H fun vs H1 => ∃ j : Int, vs = [.int j] ∧ -(2 ^ 62) ≤ j ∧ j < 2 ^ 62 ∧ R (Itr 0 j.toNat) H1
theorem pi_range1 {a : Expr} {ta : TA} {p pos : Pos} (hg : Gl X "range") (hm : X.mg "range" = none) (ha : PA X [a] ta) (hs : starEach [a] X.env = [(false, eval a X.env)] := by rfl) : PI X tg (.Call (.Name "range" p) [a] [] pos) (iRng1 ta) := by
  intro pins s σ H R I h
  refine Call_ (ld_blt I hg hm boot_range (PyProof.Rows.callWith_type1 (thn (ha pos pins s σ H _ I h) fun us s1 ⟨vs, H1, I1, r1, q1⟩ => ?_) hs rfl))
  obtain ⟨j, e, q1, q2, q⟩ := q1
  subst e
  cases r1 with
  | cons r rr =>
    cases rr
    obtain ⟨t, rfl⟩ := r
    exact call_range_1 (range_it I1 (by omega) (by omega) q1 q2 (by simpa using q))
noncomputable def tFor (wi : TI) (g : TG) (tb : TS) : TS := fun D σ H => wi σ H fun J H1 => ∃ W : Nat → Nat → St → Hp → Prop, (∃ m, W 0 m σ H1) ∧ ∀ i m σ H, W i m σ H →
  (J.stop i H ∧ D.nx σ H) ∨ (J.go i H ∧ ∃ N : St → Hp → Prop, (∀ σ' H', N σ' H' → ∃ m', m' < m ∧ W (i + 1) m' σ' H') ∧ ∀ x H', J.yld i H x H' → g x σ H' fun σ2 H2 => tb { D with nx := N, ct := N, bk := D.nx } σ2 H2)
noncomputable def pinsAt (fp : List Addr) (h : Heap) : List (Addr × Obj) := fp.filterMap fun b => (h.get? b).map fun o => (b, o)
theorem mem_pinsAt {fp : List Addr} {h : Heap} {b : Addr} {o : Obj} (hb : b ∈ fp) (e : h.get? b = some o) : (b, o) ∈ pinsAt fp h := List.mem_filterMap.mpr ⟨b, hb, by rw [e]; rfl⟩
theorem of_pinsAt {fp : List Addr} {h : Heap} {p : Addr × Obj} (hp : p ∈ pinsAt fp h) : p.1 ∈ fp ∧ h.get? p.1 = some p.2 := by
  obtain ⟨b, hb, e⟩ := List.mem_filterMap.mp hp
  cases q : h.get? b with
  | none => rw [q] at e; cases e
  | some o =>
    rw [q] at e
    have e' : (b, o) = p := Option.some.inj e
    subst e'
    exact ⟨hb, q⟩
theorem Inv.pinned {pins : List (Addr × Obj)} {σ : St} {H : Hp} {s : Shared} {fp : List Addr} (I : Inv X pins σ H s) (hf : ∀ b ∈ fp, FpOk X pins H b) (ho : ∀ b ∈ fp, ∃ o, s.heap.get? b = some o ∧ ∀ v, o.data ≠ .cell v) : Inv X (pins ++ pinsAt fp s.heap) σ H s :=
  I.pins_of fun p hp => (List.mem_append.mp hp).elim (fun z => I.pin p (List.mem_append_right _ z)) fun z => by
    obtain ⟨hb, e⟩ := of_pinsAt z
    obtain ⟨f0, f1, f2, _⟩ := hf p.1 hb
    obtain ⟨o, e', d⟩ := ho p.1 hb
    rw [e] at e'; cases e'
    exact ⟨e, f0, f1, f2, d⟩
theorem Inv.unpinned {pins pl : List (Addr × Obj)} {σ : St} {H : Hp} {s : Shared} (I : Inv X (pins ++ pl) σ H s) : Inv X pins σ H s := I.pins_of fun p hp => I.pin p (List.mem_append_right _ (List.mem_append_left _ hp))
theorem ps_for {iter : Expr} {body : List Stmt} {wi : TI} {g : TG} {tb : TS} {pos : Pos} (hp : PassesOwn (model X.prog X.w) X.A X.env X.xe) (hc : X.calm = true) (hi : PI X tg iter wi) (hg : PG X tg g) (hb : PSs X body tb)
    (hs : ∀ x, foldedSetIterable iter X.env x = pure x := by intro _; rfl) : PS X (.For tg iter body [] pos) (tFor wi g tb) := by
  intro pins s σ H D I h
  refine wpAny_For (thn (hi pins s σ H _ I h) fun v s1 h1 => thn h1 fun itv s2 h2 => ?_) hs
  obtain ⟨it, fp, tn, J, H2, e, I2, T, st2, f2, W, ⟨m0, w0⟩, turn⟩ := h2
  subst e
  have stat : ∀ {H' : Hp}, (∀ b ∈ fp, H' b = none) → ∀ b ∈ fp, FpOk X pins H' b := fun hn b hb => ⟨hn b hb, (f2 b hb).2⟩
  refine codeAny_forLoop_any (fun n s' => ∃ i σ' H', Inv X pins σ' H' s' ∧ tn i s'.heap ∧ (∀ b ∈ fp, H' b = none) ∧ W i n σ' H') ?_ m0 ⟨0, σ, H2, I2, st2, fun b hb => (f2 b hb).1, w0⟩
  rintro n s3 ⟨i, σ3, H3, I3, st3, fr3, w3⟩
  rcases turn i n σ3 H3 w3 with ⟨stop, qn⟩ | ⟨go, N, hN, step⟩
  · refine wpAny_passesOwn hp (thn (T.done X rfl rfl rfl hc i pins s3 σ3 H3 X.xe I3 (stat fr3) st3 stop) fun r s4 ⟨hr, I4⟩ => ?_)
    subst hr
    exact wpAny_execs_nil ⟨σ3, H3, I4, qn⟩
  · refine wpAny_passesOwn hp (thn (T.item X rfl rfl rfl hc i pins s3 σ3 H3 X.xe I3 (stat fr3) st3 go) fun r s4 ⟨u, hr, h4⟩ => ?_)
    subst hr
    refine wpAny_passesOwn hp (thn h4 fun _ s5 ⟨x, H5, I5, r5, y5, st5, fr5⟩ => ?_)
    have I5' := I5.pinned (stat fr5) (T.obj _ _ st5)
    refine wpAny_passesOwn hp (thn (hg _ s5 σ3 H5 x u _ I5' r5 (step x H5 y5)) fun _ s6 ⟨σ6, H6, I6, q6⟩ => ?_)
    refine wpAny_passesOwn hp (thn (hb _ s6 σ6 H6 _ I6 q6) fun f s7 q7 => ?_)
    have again : ∀ {σ7 : St} {H7 : Hp}, Inv X (pins ++ pinsAt fp s5.heap) σ7 H7 s7 → N σ7 H7 → ∃ m, m < n ∧ ∃ i σ' H', Inv X pins σ' H' s7 ∧ tn i s7.heap ∧ (∀ b ∈ fp, H' b = none) ∧ W i m σ' H' := fun {σ7 H7} I7 n7 => by
      obtain ⟨m', hm, w7⟩ := hN σ7 H7 n7
      refine ⟨m', hm, i + 1, σ7, H7, I7.unpinned, T.keep _ _ _ st5 fun b hb o e => (I7.pin (b, o) (List.mem_append_right _ (List.mem_append_right _ (mem_pinsAt hb e)))).1, fun b hb => ?_, w7⟩
      obtain ⟨o, e, d⟩ := T.obj _ _ st5 b hb
      exact (I7.pin (b, o) (List.mem_append_right _ (List.mem_append_right _ (mem_pinsAt hb e)))).2.1
    cases f with
    | next => obtain ⟨σ7, H7, I7, n7⟩ := q7; exact again I7 n7
    | cont => obtain ⟨σ7, H7, I7, n7⟩ := q7; exact again I7 n7
    | brk => obtain ⟨σ7, H7, I7, q7⟩ := q7; exact ⟨σ7, H7, I7.unpinned, q7⟩
    | ret v => obtain ⟨x7, σ7, H7, I7, r7, q7⟩ := q7; exact ⟨x7, σ7, H7, I7.unpinned, r7, q7⟩
end
end L2
namespace L2
open PySem PySem.Spec PyProof.Rows
noncomputable abbrev R2 := V → V → Hp → VK → Prop
noncomputable def OpR (X : Cx) (f : Value → Value → Sem Value) (r : R2) : Prop :=
  ∀ (pins : List (Addr × Obj)) (s : Shared) (σ : St) (H : Hp) (x y : V) (v u : Value) (Q : VK), Inv X pins σ H s → RelV x v → RelV y u → r x y H Q →
    wpAny (model X.prog X.w) X.A (f v u) (EP X pins σ Q) X.xe s
noncomputable def CallR (X : Cx) (f : Value) (r : List V → Hp → VK → Prop) : Prop :=
  ∀ (pins : List (Addr × Obj)) (s : Shared) (σ : St) (H : Hp) (xs : List V) (us : List Value) (Q : VK), Inv X pins σ H s → Vals xs us → r xs H Q →
    wpAny (model X.prog X.w) X.A (call f us) (EP X pins σ Q) X.xe s
noncomputable def TruR (X : Cx) (r : V → Hp → (Bool → Hp → Prop) → Prop) : Prop :=
  ∀ (pins : List (Addr × Obj)) (s : Shared) (σ : St) (H : Hp) (x : V) (v : Value) (Q : Bool → Hp → Prop), Inv X pins σ H s → RelV x v → r x H Q →
    wpAny (model X.prog X.w) X.A (truthy v) (TP X pins σ Q) X.xe s
noncomputable def tOp (r : R2) (ta tb : TE) : TE := fun σ H Q => ta σ H fun x H1 => tb σ H1 fun y H2 => r x y H2 Q
noncomputable def rI (C : Int → Int → Prop) (g : Int → Int → V) : R2 := fun x y H Q => ∃ i j, x = .int i ∧ y = .int j ∧ C i j ∧ Q (g i j) H
noncomputable def rI0 (g : Int → Int → V) : R2 := fun x y H Q => ∃ i j, x = .int i ∧ y = .int j ∧ Q (g i j) H
section
variable {X : Cx} {a b c : Expr} {ta tb tc : TE} {pos : Pos}
theorem binT (ha : PE X a ta) (hb : PE X b tb) {pins : List (Addr × Obj)} {s : Shared} {σ : St} {H : Hp} {R : V → V → Hp → Prop} (I : Inv X pins σ H s)
    (h : ta σ H fun x H1 => tb σ H1 fun y H2 => R x y H2) {Q : Value → Shared → Prop} {f : Value → Value → Sem Value}
    (hf : ∀ v u s2 x y H2, Inv X pins σ H2 s2 → RelV x v → RelV y u → R x y H2 → wpAny (model X.prog X.w) X.A (f v u) Q X.xe s2) :
    wpAny (model X.prog X.w) X.A (eval a X.env) (fun v s₁ => wpAny (model X.prog X.w) X.A (eval b X.env) (fun u s₂ => wpAny (model X.prog X.w) X.A (f v u) Q X.xe s₂) X.xe s₁) X.xe s := by
  refine thn (ha pins s σ H _ I h) fun v s1 ⟨x, H1, I1, r1, q1⟩ => ?_
  refine thn (hb pins s1 σ H1 _ I1 q1) fun u s2 ⟨y, H2, I2, r2, q2⟩ => ?_
  exact hf v u s2 x y H2 I2 r1 r2 q2
theorem pe_op {op : Operator} {r : R2} (ho : OpR X (binaryOp op) r) (ha : PE X a ta) (hb : PE X b tb) : PE X (.BinOp a op b pos) (tOp r ta tb) := by
  intro pins s σ H Q I h
  exact wpAny_BinOp (binT ha hb I h fun v u s2 x y H2 I2 rx ry q => ho pins s2 σ H2 x y v u Q I2 rx ry q)
theorem opI {f : Value → Value → Sem Value} {C : Int → Int → Prop} {g : Int → Int → Int}
    (rule : ∀ (i j : Int) (t u : Tok) (s : Shared) (Q : Value → Shared → Prop) (E : Value → Shared → Prop), C i j → Q (.int (g i j) s.toks) { s with toks := s.toks + 1 } → wpAny (model X.prog X.w) X.A (f (.int i t) (.int j u)) Q E s) :
    OpR X f (rI C fun i j => .int (g i j)) := by
  intro pins s σ H x y v u Q I rx ry h
  obtain ⟨i, j, rfl, rfl, hc, q⟩ := h
  obtain ⟨t, rfl⟩ := rx
  obtain ⟨t', rfl⟩ := ry
  exact rule i j t t' s _ _ hc ⟨.int (g i j), H, I.tok _, ⟨_, rfl⟩, q⟩
theorem opI0 {f : Value → Value → Sem Value} {g : Int → Int → Int}
    (rule : ∀ (i j : Int) (t u : Tok) (s : Shared) (Q : Value → Shared → Prop) (E : Value → Shared → Prop), Q (.int (g i j) s.toks) { s with toks := s.toks + 1 } → wpAny (model X.prog X.w) X.A (f (.int i t) (.int j u)) Q E s) :
    OpR X f (rI0 fun i j => .int (g i j)) := by
  intro pins s σ H x y v u Q I rx ry h
  obtain ⟨i, j, rfl, rfl, q⟩ := h
  obtain ⟨t, rfl⟩ := rx
  obtain ⟨t', rfl⟩ := ry
  exact rule i j t t' s _ _ ⟨.int (g i j), H, I.tok _, ⟨_, rfl⟩, q⟩
theorem opB0 {f : Value → Value → Sem Value} {g : Int → Int → Bool}
    (rule : ∀ (i j : Int) (t u : Tok) (s : Shared) (Q : Value → Shared → Prop) (E : Value → Shared → Prop), Q (.bool (g i j)) s → wpAny (model X.prog X.w) X.A (f (.int i t) (.int j u)) Q E s) :
    OpR X f (rI0 fun i j => .bl (g i j)) := by
  intro pins s σ H x y v u Q I rx ry h
  obtain ⟨i, j, rfl, rfl, q⟩ := h
  obtain ⟨t, rfl⟩ := rx
  obtain ⟨t', rfl⟩ := ry
  exact rule i j t t' s _ _ ⟨.bl (g i j), H, I, rfl, q⟩
noncomputable def CDiv (i j : Int) : Prop := 0 < j ∧ j < 1073741824
noncomputable def CPow (i j : Int) : Prop := 0 ≤ j ∧ j ≤ 1000000 ∧ i.natAbs < 2 ^ 64
noncomputable def CMul (i j : Int) : Prop := (-(2 ^ 64) < i ∧ i < 2 ^ 64) ∨ (-(2 ^ 64) < j ∧ j < 2 ^ 64)
theorem CMul.ok {i j : Int} (h : CMul i j) : IntMulOk i j := by
  rcases h with ⟨h1, h2⟩ | ⟨h1, h2⟩
  · exact .of_left (intBits_le_64 h1 h2)
  · exact .of_right (intBits_le_64 h1 h2)
theorem op_add : OpR X (binaryOp .Add) (rI0 fun i j => .int (i + j)) := opI0 fun _ _ _ _ _ _ _ q => add_int q
theorem op_sub : OpR X (binaryOp .Sub) (rI0 fun i j => .int (i - j)) := opI0 fun _ _ _ _ _ _ _ q => sub_int q
theorem op_mul : OpR X (binaryOp .Mult) (rI CMul fun i j => .int (i * j)) := opI fun _ _ _ _ _ _ _ hc q => mul_int q hc.ok
theorem op_fdiv : OpR X (binaryOp .FloorDiv) (rI CDiv fun i j => .int (i / j)) := opI fun i j _ _ _ _ _ hc q => by
  have h1 : (0 : Int) < j := hc.1
  have h2 : j < 1073741824 := hc.2
  exact floordiv_int (by omega) (by rw [Int.fdiv_eq_ediv_of_nonneg i (by omega)]; exact q) (.inl (PyProof.noPylong_small (by omega)))
theorem op_mod : OpR X (binaryOp .Mod) (rI (fun _ j => 0 < j) fun i j => .int (i % j)) := opI fun i j _ _ _ _ _ hc q => by
  have h1 : (0 : Int) < j := hc
  exact mod_int' (by omega) (by rw [Int.fmod_eq_emod_of_nonneg i (by omega)]; exact q)
theorem op_pow : OpR X (binaryOp .Pow) (rI CPow fun i j => .int (i ^ j.toNat)) := opI fun _ _ _ _ _ _ _ hc q => pow_int_small hc.1 hc.2.1 hc.2.2 q
end
noncomputable def scal : V → V → Bool
  | .non, .non => true | .non, .int _ => true | .int _, .non => true | .non, .bl _ => true | .bl _, .non => true | .non, .str _ => true | .str _, .non => true
  | .int _, .int _ => true | .bl _, .bl _ => true | .str _, .str _ => true | .byt _, .byt _ => true
  | .int _, .str _ => true | .str _, .int _ => true | .bl _, .str _ => true | .str _, .bl _ => true
  | _, _ => false
noncomputable def rEq : R2 := fun x y H Q => scal x y = true ∧ Q (.bl (decide (x = y))) H
noncomputable def rNe : R2 := fun x y H Q => scal x y = true ∧ Q (.bl (!decide (x = y))) H
theorem dec_int {i j : Int} : decide (V.int i = V.int j) = (i == j) := by
  rw [Bool.eq_iff_iff]
  simp
theorem dec_bl {i j : Bool} : decide (V.bl i = V.bl j) = (i == j) := by
  rw [Bool.eq_iff_iff]
  simp
theorem dec_str {i j : Str} : decide (V.str i = V.str j) = (i == j) := by
  rw [Bool.eq_iff_iff]
  simp
theorem dec_byt {i j : Array UInt8} : decide (V.byt i = V.byt j) = (i.toList == j.toList) := by
  rw [Bool.eq_iff_iff]
  cases i
  cases j
  simp
section
variable {X : Cx} {a b c : Expr} {ta tb tc : TE} {pos : Pos}
theorem fin_bl {pins : List (Addr × Obj)} {σ : St} {H : Hp} {s : Shared} {Q : VK} {k k' : Bool} (I : Inv X pins σ H s) (q : Q (.bl k) H) (e : k = k') : EP X pins σ Q (.bool k') s := by
  subst e
  exact ⟨.bl k, H, I, rfl, q⟩
theorem op_eq : OpR X (compareOp .Eq) rEq := by
  intro pins s σ H x y v u Q I rx ry h
  obtain ⟨hs, q⟩ := h
  cases x with
  | non =>
    cases rx
    cases y with
    | non => cases ry; exact PySem.EqNone.eq_none_none (fin_bl I q (by simp))
    | bl j => cases ry; exact PySem.EqNone.eq_none_bool (fin_bl I q (by simp))
    | int j => obtain ⟨t', rfl⟩ := ry; exact PySem.EqNone.eq_none_int (fin_bl I q (by simp))
    | str j => obtain ⟨t', rfl⟩ := ry; exact PySem.EqNone.eq_none_str (fin_bl I q (by simp))
    | _ => exact absurd (show false = true from hs) Bool.false_ne_true
  | bl i =>
    cases rx
    cases y with
    | non => cases ry; exact PySem.EqNone.eq_bool_none (fin_bl I q (by simp))
    | bl j => cases ry; exact eq_bool (fin_bl I q dec_bl)
    | str j => obtain ⟨t', rfl⟩ := ry; exact PySem.EqMixed.eq_bool_str (fin_bl I q (by simp))
    | _ => exact absurd (show false = true from hs) Bool.false_ne_true
  | int i =>
    obtain ⟨t, rfl⟩ := rx
    cases y with
    | non => cases ry; exact PySem.EqNone.eq_int_none (fin_bl I q (by simp))
    | int j => obtain ⟨t', rfl⟩ := ry; exact eq_int (fin_bl I q dec_int)
    | str j => obtain ⟨t', rfl⟩ := ry; exact PySem.EqMixed.eq_int_str (fin_bl I q (by simp))
    | _ => exact absurd (show false = true from hs) Bool.false_ne_true
  | str i =>
    obtain ⟨t, rfl⟩ := rx
    cases y with
    | non => cases ry; exact PySem.EqNone.eq_str_none (fin_bl I q (by simp))
    | bl j => cases ry; exact PySem.EqMixed.eq_str_bool (fin_bl I q (by simp))
    | int j => obtain ⟨t', rfl⟩ := ry; exact PySem.EqMixed.eq_str_int (fin_bl I q (by simp))
    | str j => obtain ⟨t', rfl⟩ := ry; exact eq_str (fin_bl I q dec_str)
    | _ => exact absurd (show false = true from hs) Bool.false_ne_true
  | byt i =>
    obtain ⟨t, rfl⟩ := rx
    cases y with
    | byt j => obtain ⟨t', rfl⟩ := ry; exact PySem.W.eq_bytes (fin_bl I q dec_byt)
    | _ => exact absurd (show false = true from hs) Bool.false_ne_true
  | _ => cases y <;> exact absurd (show false = true from hs) Bool.false_ne_true
theorem op_ne : OpR X (compareOp .NotEq) rNe := by
  intro pins s σ H x y v u Q I rx ry h
  obtain ⟨hs, q⟩ := h
  cases x with
  | non =>
    cases rx
    cases y with
    | non => cases ry; exact PySem.EqNone.ne_none_none (fin_bl I q (by simp))
    | bl j => cases ry; exact PySem.EqNone.ne_none_bool (fin_bl I q (by simp))
    | int j => obtain ⟨t', rfl⟩ := ry; exact PySem.EqNone.ne_none_int (fin_bl I q (by simp))
    | str j => obtain ⟨t', rfl⟩ := ry; exact PySem.EqNone.ne_none_str (fin_bl I q (by simp))
    | _ => exact absurd (show false = true from hs) Bool.false_ne_true
  | bl i =>
    cases rx
    cases y with
    | non => cases ry; exact PySem.EqNone.ne_bool_none (fin_bl I q (by simp))
    | bl j => cases ry; exact ne_bool (fin_bl I q (congrArg not dec_bl))
    | str j => obtain ⟨t', rfl⟩ := ry; exact PySem.EqMixed.ne_bool_str (fin_bl I q (by simp))
    | _ => exact absurd (show false = true from hs) Bool.false_ne_true
  | int i =>
    obtain ⟨t, rfl⟩ := rx
    cases y with
    | non => cases ry; exact PySem.EqNone.ne_int_none (fin_bl I q (by simp))
    | int j => obtain ⟨t', rfl⟩ := ry; exact ne_int (fin_bl I q (congrArg not dec_int))
    | str j => obtain ⟨t', rfl⟩ := ry; exact PySem.EqMixed.ne_int_str (fin_bl I q (by simp))
    | _ => exact absurd (show false = true from hs) Bool.false_ne_true
  | str i =>
    obtain ⟨t, rfl⟩ := rx
    cases y with
    | non => cases ry; exact PySem.EqNone.ne_str_none (fin_bl I q (by simp))
    | bl j => cases ry; exact PySem.EqMixed.ne_str_bool (fin_bl I q (by simp))
    | int j => obtain ⟨t', rfl⟩ := ry; exact PySem.EqMixed.ne_str_int (fin_bl I q (by simp))
    | str j => obtain ⟨t', rfl⟩ := ry; exact ne_str (fin_bl I q (congrArg not dec_str))
    | _ => exact absurd (show false = true from hs) Bool.false_ne_true
  | byt i =>
    obtain ⟨t, rfl⟩ := rx
    cases y with
    | byt j => obtain ⟨t', rfl⟩ := ry; exact PySem.W.ne_bytes (fin_bl I q (congrArg not dec_byt))
    | _ => exact absurd (show false = true from hs) Bool.false_ne_true
  | _ => cases y <;> exact absurd (show false = true from hs) Bool.false_ne_true
theorem op_lt : OpR X (compareOp .Lt) (rI0 fun i j => .bl (decide (i < j))) := opB0 fun _ _ _ _ _ _ _ q => lt_int q
theorem op_ge : OpR X (compareOp .GtE) (rI0 fun i j => .bl (decide (j ≤ i))) := opB0 fun _ _ _ _ _ _ _ q => ge_int q
theorem op_lt_str : OpR X (compareOp .Lt) (fun x y H Q => ∃ i j, x = .str i ∧ y = .str j ∧ Q (.bl (decide (i.cps.toList < j.cps.toList))) H) := by
  intro pins s σ H x y v u Q I rx ry h
  obtain ⟨i, j, rfl, rfl, q⟩ := h
  obtain ⟨t, rfl⟩ := rx
  obtain ⟨t', rfl⟩ := ry
  exact lt_str (fin_bl I q rfl)
theorem nomark (b : Expr) {op : CmpOp} (h : op ≠ .In := by decide) (h2 : op ≠ .NotIn := by decide) : behindInMarks op b = false := by
  have e1 : (op == CmpOp.In) = false := by cases op <;> first | rfl | exact absurd rfl h
  have e2 : (op == CmpOp.NotIn) = false := by cases op <;> first | rfl | exact absurd rfl h2
  cases b <;> simp [behindInMarks, e1, e2]
theorem pe_cmpR {op : CmpOp} {r : R2} (ho : OpR X (compareOp op) r) (ha : PE X a ta) (hb : PE X b tb) (hm : behindInMarks op b = false) : PE X (.Compare a [op] [b] pos) (tOp r ta tb) := by
  intro pins s σ H Q I h
  exact wpAny_Compare1 (binT ha hb I h fun v u s2 x y H2 I2 rx ry q => ho pins s2 σ H2 x y v u Q I2 rx ry q) hm
noncomputable def tTest (t : TE) : TT := fun σ H Q => t σ H fun x H' => ∃ k, x = .bl k ∧ Q k H'
theorem pt_cmpR {op : CmpOp} {r : R2} (ho : OpR X (compareOp op) r) (ha : PE X a ta) (hb : PE X b tb) (hm : behindInMarks op b = false) : PT X (.Compare a [op] [b] pos) (tTest (tOp r ta tb)) := by
  intro pins s σ H Q I h
  refine wpAny_isTrue_Compare1 (thn (ha pins s σ H _ I h) fun v s1 ⟨x, H1, I1, r1, q1⟩ => thn (hb pins s1 σ H1 _ I1 q1) fun u s2 ⟨y, H2, I2, r2, q2⟩ =>
    thn (ho pins s2 σ H2 x y v u _ I2 r1 r2 q2) fun c s3 ⟨z, H3, I3, r3, k, e, q3⟩ => ?_) hm
  subst e
  cases r3
  exact wpAny_truthy_bool ⟨H3, I3, q3⟩
noncomputable def TruV (K : PySem.W.Frag) (x : V) (H : Hp) (k : Bool) : Prop :=
  match x with
  | .non => k = false
  | .bl b => k = b
  | .int i => k = (i != 0)
  | .str y => y.length ≤ sizeLine ∧ k = ((y.length : Int) != 0)
  | .byt y => y.size ≤ sizeLine ∧ k = ((y.size : Int) != 0)
  | .ref p => (∃ xs, SqL K H p xs ∧ k = !xs.isEmpty) ∨ (∃ xs, SqT K H p xs ∧ k = !xs.isEmpty) ∨ ∃ kvs, H p = some (.dK kvs) ∧ k = !kvs.isEmpty
  | _ => False
theorem isEmpty_kv {κ : Type} {kvs : List (κ × V)} {vs : List (κ × Value)} (r : KV kvs vs) : (!vs.isEmpty) = !kvs.isEmpty := by
  cases r <;> rfl
theorem isEmpty_of {xs : List V} {its : List Value} (r : Vals xs its) : (!its.toArray.isEmpty) = !xs.isEmpty := by
  cases r <;> simp
theorem line63 : (sizeLine : Nat) < 2 ^ 63 := by rw [sizeLine_eq]; decide
theorem tru_ok : TruR X (fun x H Q => ∃ k, TruV X.K x H k ∧ Q k H) := by
  intro pins s σ H x v Q I rx h
  obtain ⟨k, e, q⟩ := h
  have hl := line63
  have hs : sizeLine = 16777216 := sizeLine_eq
  cases x with
  | non =>
    cases rx
    have e' : k = false := e
    subst e'
    exact truthy_none ⟨H, I, q⟩
  | bl b =>
    cases rx
    have e' : k = b := e
    subst e'
    exact wpAny_truthy_bool ⟨H, I, q⟩
  | int i =>
    obtain ⟨t, rfl⟩ := rx
    have e' : k = (i != 0) := e
    subst e'
    exact PySem.P.truthy_int ⟨H, I, q⟩
  | str y =>
    obtain ⟨t, rfl⟩ := rx
    obtain ⟨hy, e'⟩ : y.length ≤ sizeLine ∧ k = ((y.length : Int) != 0) := e
    subst e'
    exact PySem.P.truthy_str (by omega) ⟨H, I.tok _, q⟩
  | byt y =>
    obtain ⟨t, rfl⟩ := rx
    obtain ⟨hy, e'⟩ : y.size ≤ sizeLine ∧ k = ((y.size : Int) != 0) := e
    subst e'
    exact PySem.W.truthy_bytes (by omega) ⟨H, I.tok _, q⟩
  | ref p =>
    cases rx
    have e' : (∃ xs, SqL X.K H p xs ∧ k = !xs.isEmpty) ∨ (∃ xs, SqT X.K H p xs ∧ k = !xs.isEmpty) ∨ ∃ kvs, H p = some (.dK kvs) ∧ k = !kvs.isEmpty := e
    rcases e' with ⟨xs, hx, e'⟩ | ⟨xs, hx, e'⟩ | ⟨kvs, hx, e'⟩
    · subst e'
      obtain ⟨its, r, pl, hz⟩ := I.list hx
      have hlen := r.length
      exact wpAny_truthy_list pl.isList (by simp only [List.size_toArray]; omega) ⟨H, I.tok _, by rw [isEmpty_of r]; exact q⟩
    · subst e'
      obtain ⟨its, r, pl, hz⟩ := I.tuple hx
      have hlen := r.length
      exact truthy_tuple pl (by simp only [List.size_toArray]; omega) ⟨H, I.tok _, by rw [isEmpty_of r]; exact q⟩
    · subst e'
      obtain ⟨hz, hS, vs, r, m⟩ : kvs.length ≤ sizeLine ∧ (p == sysModules) = false ∧ ∃ vs, KV kvs vs ∧ s.heap.DictOf (mixKind X.prog X.w) p vs := I.hok p _ hx
      have hlen : kvs.length = vs.length := Paired.length r
      exact wpAny_truthy_dict hS m (by omega) ⟨H, I.tok _, by rw [isEmpty_kv r]; exact q⟩
  | _ => exact (show False from e).elim
theorem pt_truth (ha : PE X a ta) (he : ∀ whole, isTrue a X.env whole = (do let v ← whole; standAt a.pos; holding [v] (truthy v))) :
    PT X a (fun σ H Q => ta σ H fun x H' => ∃ k, TruV X.K x H' k ∧ Q k H') := by
  intro pins s σ H Q I h
  exact isTrue_plain (thn (ha pins s σ H _ I h) fun v s1 ⟨x, H1, I1, r1, q1⟩ => tru_ok pins s1 σ H1 x v Q I1 r1 q1) (he _)
theorem op_add_str : OpR X (binaryOp .Add) (fun x y H Q => ∃ i j, x = .str i ∧ y = .str j ∧ i.length + j.length ≤ sizeLine ∧ Q (.str (i ++ j)) H) := by
  intro pins s σ H x y v u Q I rx ry h
  obtain ⟨i, j, rfl, rfl, hz, q⟩ := h
  obtain ⟨t, rfl⟩ := rx
  obtain ⟨t', rfl⟩ := ry
  exact add_str (fun t' tk => ⟨.str (i ++ j), H, I.tok _, ⟨_, rfl⟩, q⟩) hz
theorem vals1 {x : V} {us : List Value} (r : Vals [x] us) : ∃ u, us = [u] ∧ RelV x u := by
  cases r with
  | cons r1 r2 => cases r2; exact ⟨_, rfl, r1⟩
theorem vals2 {x y : V} {us : List Value} (r : Vals [x, y] us) : ∃ u w', us = [u, w'] ∧ RelV x u ∧ RelV y w' := by
  cases r with
  | cons r1 r2 =>
    cases r2 with
    | cons r3 r4 => cases r4; exact ⟨_, _, rfl, r1, r3⟩
noncomputable def LenV (K : PySem.W.Frag) (x : V) (H : Hp) (n : Nat) : Prop :=
  match x with
  | .str y => y.length ≤ sizeLine ∧ n = y.length
  | .byt y => y.size ≤ sizeLine ∧ n = y.size
  | .ref p => (∃ xs, SqL K H p xs ∧ n = xs.length) ∨ ∃ xs, SqT K H p xs ∧ n = xs.length
  | _ => False
theorem call_len : CallR X (.builtin "len") (fun xs H Q => ∃ x n, xs = [x] ∧ LenV X.K x H n ∧ Q (.int n) H) := by
  intro pins s σ H xs us Q I r h
  obtain ⟨x, n, rfl, e, q⟩ := h
  obtain ⟨u, rfl, rx⟩ := vals1 r
  have hl := line63
  have hs : sizeLine = 16777216 := sizeLine_eq
  cases x with
  | str y =>
    obtain ⟨t, rfl⟩ := rx
    obtain ⟨hy, e'⟩ : y.length ≤ sizeLine ∧ n = y.length := e
    subst e'
    exact len_str (by omega) ⟨.int _, H, I.tok _, ⟨_, rfl⟩, q⟩
  | byt y =>
    obtain ⟨t, rfl⟩ := rx
    obtain ⟨hy, e'⟩ : y.size ≤ sizeLine ∧ n = y.size := e
    subst e'
    exact PySem.W.len_bytes (by omega) ⟨.int _, H, I.tok _, ⟨_, rfl⟩, q⟩
  | ref p =>
    cases rx
    have e' : (∃ xs, SqL X.K H p xs ∧ n = xs.length) ∨ ∃ xs, SqT X.K H p xs ∧ n = xs.length := e
    rcases e' with ⟨xs, hx, e'⟩ | ⟨xs, hx, e'⟩
    · subst e'
      obtain ⟨its, r', pl, hz⟩ := I.list hx
      have hlen := r'.length
      exact Calls.call_len_list pl.isList (by simp only [List.size_toArray]; omega) ⟨.int xs.length, H, I.tok _, ⟨_, by simp only [List.size_toArray]; rw [hlen]⟩, q⟩
    · subst e'
      obtain ⟨its, r', pl, hz⟩ := I.tuple hx
      have hlen := r'.length
      exact len_tuple pl (by simp only [List.size_toArray]; omega) ⟨.int xs.length, H, I.tok _, ⟨_, by simp only [List.size_toArray]; rw [hlen]⟩, q⟩
  | _ => exact (show False from e).elim
end
end L2
namespace L2
open PySem PySem.Spec PyProof.Rows
structure ObjM (h : Heap) (x dx C : Addr) (mA : Str → Option Value) : Prop where
  obj : h.get? x = some (PySem.W.instObj C dx)
  ns : h.Ns1 dx mA
  ne : dx ≠ x
theorem lookIn_ns {h : Heap} {dx : Addr} {mA : Str → Option Value} (n : h.Ns1 dx mA) : ∃ od, h.get? dx = some od ∧ ∀ name, PySem.W.lookIn name od = some (mA name) := by
  obtain ⟨o, es, ep, ho, hd, hk, _, hm⟩ := n
  refine ⟨o, ho, fun name => ?_⟩
  have e := hm name
  unfold nsFind findBy at e
  rw [← Array.find?_toList] at e
  unfold PySem.W.lookIn
  rw [hd]
  dsimp only
  split
  · rename_i y q
    rw [q] at e
    exact congrArg some e
  · rename_i q
    rw [q] at e
    have a : es.toList.any (·.refKey) = false := by
      rw [List.any_eq_false]
      intro y hy
      obtain ⟨z, t, hkey⟩ := hk y (Array.mem_toList_iff.mp hy)
      simp [DictEntry.refKey, hkey]
    have a' : ¬ es.toList.any (·.refKey) = true := by rw [a]; exact Bool.false_ne_true
    rw [if_neg a']
    exact congrArg some e
theorem ObjM.look {h : Heap} {x dx C : Addr} {mA : Str → Option Value} (I : ObjM h x dx C mA) : ∃ od, PySem.W.InstAt h x (PySem.W.instObj C dx) C (some od) ∧ ∀ name, PySem.W.lookIn name od = some (mA name) :=
  let ⟨od, ho, hl⟩ := lookIn_ns I.ns
  ⟨od, ⟨I.obj, rfl, rfl, ho⟩, hl⟩
section
variable {prog : Program} {w : World} {A : Around} {E : Value → Shared → Prop} {s : Shared} {K : PySem.W.Frag} {x dx C f : Addr} {mA : Str → Option Value} {name : Str} {v : Value}
end
theorem RelO.some_of {v : V} {o : Option Value} (r : RelO (some v) o) : ∃ u, o = some u ∧ RelV v u := by
  cases o with
  | none => exact (show False from r).elim
  | some u => exact ⟨u, rfl, r⟩
section
variable {P : Program} {w : World} {H H' : Hp} {h h' : Heap} {a C dx : Addr} {fs fs' : List (Str × V)}
theorem ins_get (hok : HOk P w H h) (e : H a = some (.ins C dx fs)) : ∃ mA, ObjM h a dx C mA ∧ (∀ f, RelO (fs.lookup f) (mA f)) ∧ PySem.Within mA (fs.map (·.1)) ∧ fs.length ≤ 1000 ∧ H dx = some (.own a) := by
  obtain ⟨d, z, ne, ob, mA, n, r, q⟩ := (show ObjOk P w H h a (.ins C dx fs) from hok a _ e)
  exact ⟨mA, ⟨ob, n, ne⟩, r, q, z, d⟩
end
structure Cls (K : PySem.W.Frag) (C : Addr) : Prop where
  pg : PySem.W.plainGet K C Str.empty = true
  hd : PySem.W.hasDictIn K C = true
  po : PySem.W.plainOver K C = true
  sa : PySem.W.findIn K (.ref C) "__setattr__" = some (some (.builtin "object.__setattr__"))
theorem Cls.get {K : PySem.W.Frag} {C : Addr} (c : Cls K C) (f : Str) : PySem.W.plainGet K C f = true := c.pg
section
variable {X : Cx} {pins : List (Addr × Obj)} {σ : St} {H : Hp} {s : Shared} {a C dx : Addr} {fs : List (Str × V)} {f : Str} {v : V} {A : Around} {E : Value → Shared → Prop}
end
section
variable {X : Cx} {o e value : Expr} {f : Str} {pos pos' tpos : Pos} {ta tv : TE}
end
section
variable {X : Cx} {pins : List (Addr × Obj)} {σ : St} {H : Hp} {s : Shared} {A : Around} {E : Value → Shared → Prop} {Q : Value → Shared → Prop} {c : Value} {b : Bool}
inductive TyOf (K : PySem.W.Frag) (H : Hp) : V → Value → Prop where
  | non : TyOf K H .non (.type "NoneType")
  | bl (x : Bool) : TyOf K H (.bl x) (.type "bool")
  | int (i : Int) : TyOf K H (.int i) (.type "int")
  | str (x : Str) : TyOf K H (.str x) (.type "str")
  | flt (x : UInt64) : TyOf K H (.flt x) (.type "float")
  | lst {a : Addr} {xs : List V} (e : H a = some (.lst xs)) : TyOf K H (.ref a) (.type "list")
  | frz {a : Addr} {o : Obj} {xs : List V} (e : H a = some (.frz o (.lst xs))) : TyOf K H (.ref a) (.type "list")
  | tup {a : Addr} {xs : List V} (e : H a = some (.tup xs)) : TyOf K H (.ref a) (.type "tuple")
  | dK {a : Addr} {kvs : List (Key × V)} (e : H a = some (.dK kvs)) : TyOf K H (.ref a) (.type "dict")
  | dT {a : Addr} {kvs : List (List Key × V)} (e : H a = some (.dT kvs)) : TyOf K H (.ref a) (.type "dict")
  | ins {a C dx : Addr} {fs : List (Str × V)} (e : H a = some (.ins C dx fs)) (cl : Cls K C) (ha : PySem.W.findIn K (.ref C) "__class__" = some (some (.builtin "object.__class__")))
      (hn : PySem.W.specialIn K (.builtin "object.__class__") "__get__" = some (some (.builtin "getset_descriptor.__get__"))) (htk : PySem.W.takesIn K (.builtin "object.__class__") = some true)
      (hm : PySem.W.mroIn K C (.type "object") = some true) : TyOf K H (.ref a) (.ref C)
theorem isinst_ok {x : V} {u t : Value} (I : Inv X pins σ H s) (rx : RelV x u) (ty : TyOf X.K H x t) (e : PySem.W.kitOne X.K t c = some b) (h : ∀ tk, Q (.bool b) { s with toks := tk }) :
    wpAny (model X.prog X.w) A (call (.builtin "isinstance") [u, c]) Q E s := by
  cases ty with
  | non => cases (show u = Value.none from rx); exact PySem.W.kia_one PySem.W.kitx_none I.kIn True.intro e (fun z => nomatch z) h
  | bl y => cases (show u = Value.bool y from rx); exact PySem.W.kia_one PySem.W.kitx_bool I.kIn True.intro e (fun z => nomatch z) h
  | int i => obtain ⟨t, q⟩ := (show ∃ t, u = Value.int i t from rx); cases q; exact PySem.W.kia_one PySem.W.kitx_int I.kIn True.intro e (fun z => nomatch z) h
  | str y => obtain ⟨t, q⟩ := (show ∃ t, u = Value.str y t from rx); cases q; exact PySem.W.kia_one PySem.W.kitx_str I.kIn True.intro e (fun z => nomatch z) h
  | flt y => obtain ⟨t, q⟩ := (show ∃ t, u = Value.float y t from rx); cases q; exact PySem.W.kia_one PySem.W.kitx_float I.kIn True.intro e (fun z => nomatch z) h
  | @lst a xs ea =>
    cases (show u = Value.ref a from rx)
    obtain ⟨_, _, n, _, h1⟩ := (show ObjOk X.prog X.w H s.heap a (.lst xs) from I.hok a _ ea)
    exact PySem.W.kia_one PySem.W.kitx_list I.kIn ⟨_, h1, rfl⟩ e (fun z => nomatch z) h
  | @frz a ob xs ea =>
    cases (show u = Value.ref a from rx)
    obtain ⟨_, _, _, n, _, h1⟩ := (show ObjOk X.prog X.w H s.heap a (.frz ob (.lst xs)) from I.hok a _ ea)
    exact PySem.W.kia_one PySem.W.kitx_list I.kIn ⟨_, h1, rfl⟩ e (fun z => nomatch z) h
  | @tup a xs ea =>
    cases (show u = Value.ref a from rx)
    obtain ⟨_, _, _, p⟩ := (show ObjOk X.prog X.w H s.heap a (.tup xs) from I.hok a _ ea)
    obtain ⟨o, h1, h2, _⟩ := p
    exact PySem.W.kia_one PySem.W.kitx_tuple I.kIn ⟨o, h1, h2⟩ e (fun z => nomatch z) h
  | @dK a kvs ea =>
    cases (show u = Value.ref a from rx)
    obtain ⟨_, _, vs, _, p⟩ := (show ObjOk X.prog X.w H s.heap a (.dK kvs) from I.hok a _ ea)
    obtain ⟨o, es, ep, h1, h2, _⟩ := p
    exact PySem.W.kia_one PySem.W.kitx_dict I.kIn ⟨o, h1, h2.1⟩ e (fun z => nomatch z) h
  | @dT a kvs ea =>
    cases (show u = Value.ref a from rx)
    obtain ⟨_, _, xs, _, o, es, ep, h1, h2, _⟩ := (show ObjOk X.prog X.w H s.heap a (.dT kvs) from I.hok a _ ea)
    exact PySem.W.kia_one PySem.W.kitx_dict I.kIn ⟨o, h1, h2.1⟩ e (fun z => nomatch z) h
  | @ins a C dx fs ea cl ha hn htk hm =>
    cases (show u = Value.ref a from rx)
    obtain ⟨mA, O, _⟩ := ins_get I.hok ea
    obtain ⟨od, J, _⟩ := O.look
    exact PySem.W.kia_one (PySem.W.kitx_own (cl.get _) cl.hd ha hn htk hm) I.kIn J e (fun z => nomatch z) h
end
end L2
namespace L2
open PySem PySem.Spec PyProof.Rows
structure Room (k : Nat) (A : Around) : Prop where
  hd : A.handled = none
  dp : A.depth + 3 * k + 5 < recursionLimit
  un : A.units + 16 * k + 200 < cLine
  gd : A.guards = some []
theorem Room.mono {j k : Nat} {A : Around} (r : Room k A) (h : j ≤ k) : Room j A := ⟨r.hd, by have := r.dp; omega, by have := r.un; omega, r.gd⟩
theorem Room.deeper {k : Nat} {A : Around} (r : Room (k + 1) A) (env : Env) : Room k (A.deeper env) :=
  ⟨r.hd, by have := r.dp; show A.depth + 1 + 3 * k + 5 < _; omega, by have := r.un; show A.units + 3 + 16 * k + 200 < _; omega, r.gd⟩
theorem Room.depth {k : Nat} {A : Around} (r : Room k A) : A.depth < recursionLimit := by have := r.dp; omega
theorem Room.units {k : Nat} {A : Around} (r : Room k A) : A.units + 64 < cLine := by have := r.un; omega
noncomputable def tNil : TA := fun _ H Q => Q [] H
noncomputable def tCons (ta : TE) (tr : TA) : TA := fun σ H Q => ta σ H fun x H1 => tr σ H1 fun xs H2 => Q (x :: xs) H2
section
variable {X : Cx} {e : Expr} {es : List Expr} {te : TE} {t : TA} {pos : Pos}
theorem pa_nil : PA X [] tNil := fun _ _ _ _ H Q I h => Calls.spliced_nil ⟨[], H, I, .nil, h⟩
theorem pa_cons (ha : PE X e te) (hr : PA X es t) (hs : starEach (e :: es) X.env = (false, eval e X.env) :: starEach es X.env := by rfl) : PA X (e :: es) (tCons te t) := by
  intro pos pins s σ H Q I h
  rw [hs]
  show wpAny _ _ (spliced ((false, eval e X.env) :: backTo pos (starEach es X.env))) _ _ s
  refine Calls.spliced_cons (thn (ha pins s σ H _ I h) fun u s1 ⟨x, H1, I1, r1, q1⟩ => ?_)
  exact thn (hr pos pins s1 σ H1 _ I1 q1) fun us s2 ⟨xs, H2, I2, r2, q2⟩ => ⟨x :: xs, H2, I2, .cons r1 r2, q2⟩
noncomputable def tTup (t : TA) : TE := fun σ H Q => t σ H fun xs H1 => xs.length ≤ sizeLine ∧ ∀ p, H1 p = none → Q (.ref p) (upd H1 p (.tup xs))
noncomputable def tLst (t : TA) : TE := fun σ H Q => t σ H fun xs H1 => xs.length ≤ sizeLine ∧ ∀ p, H1 p = none → Q (.ref p) (upd H1 p (.lst xs))
theorem pe_tup {x1} (h : PA X es t) : PE X (.Tuple es x1 pos) (tTup t) := by
  intro pins s σ H Q I hq
  refine wpAny_Tuple_spliced (thn (h pos pins s σ H _ I hq) fun us s1 ⟨xs, H1, I1, r, z, q⟩ => ⟨by rw [← r.length]; exact z, ?_⟩)
  have hf : H1 s1.heap.objs.size = none := I1.hok.fresh (Nat.le_refl _)
  refine ⟨.ref s1.heap.objs.size, upd H1 s1.heap.objs.size (.tup xs), I1.laid (t' := s1.toks) (fun b u e => Heap.get?_push_of_some _ e) (Nat.le_refl _) ?_, rfl, q _ hf⟩
  exact ⟨z, us, r, ⟨_, Heap.get?_push_size _ rfl, rfl, _, rfl⟩⟩
theorem pe_lst (h : PA X es t) : PE X (.List es pos) (tLst t) := by
  intro pins s σ H Q I hq
  refine wpAny_List_spliced (thn (h pos pins s σ H _ I hq) fun us s1 ⟨xs, H1, I1, r, z, q⟩ => ⟨by rw [← r.length]; exact z, ?_⟩)
  have hf : H1 s1.heap.objs.size = none := I1.hok.fresh (Nat.le_refl _)
  refine ⟨.ref s1.heap.objs.size, upd H1 s1.heap.objs.size (.lst xs), I1.laid (t' := s1.toks) (fun b u e => Heap.get?_push_of_some _ e) (Nat.le_refl _) ?_, rfl, q _ hf⟩
  exact ⟨z, us, 0, r, Heap.get?_push_size _ rfl⟩
end
noncomputable abbrev Sp := List V → Hp → VK → XK → Prop
noncomputable abbrev CXT := List Env → Hp → Shared → XK → Value → Shared → Prop
structure Env0 (P : Program) (w : World) (K : PySem.W.Frag) (mg : Str → Option Value) (base : Heap) (A : Around) (outer : List Env) (s : Shared) (H : Hp) : Prop where
  frames : A.frames = some outer
  mod : Mod K mg base
  bs : ∀ b o, base.get? b = some o → s.heap.get? b = some o ∧ H b = none
  bsz : base.objs.size ≤ s.heap.objs.size
  funs : s.heap.FunFrames base outer
  frf : ∀ b ∈ frs outer, H b = none
  hok : HOk P w H s.heap
  bare : AllBare s.gens
noncomputable def CE (outer : List Env) (P : Program) (w : World) (H : Hp) (s : Shared) (Q : VK) (u : Value) (s' : Shared) : Prop :=
  ∃ v H', s'.os = s.os ∧ AllBare s'.gens ∧ Un (frs outer) [] H H' s.heap s'.heap ∧ HOk P w H' s'.heap ∧ RelV v u ∧ Q v H'
noncomputable def CR (CX : CXT) (outer : List Env) (P : Program) (w : World) (H : Hp) (s : Shared) (Q : VK) (E : XK) (r : Result) (s' : Shared) : Prop :=
  match r with
  | .ok (.ret u) => CE outer P w H s Q u s'
  | .ok _ => False
  | .error e => CX outer H s E e s'
structure FnOk (P : Program) (w : World) (K : PySem.W.Frag) (mg : Str → Option Value) (base : Heap) (CX : CXT) (k : Nat) (f : Addr) (fd : FuncData) (ps : List Str) (sp : Sp) : Prop where
  len : ∀ vs H Q E, sp vs H Q E → vs.length = ps.length
  run : ∀ (A : Around) (outer : List Env) (s : Shared) (H : Hp) (args : Args) (us : List Value) (vs : List V) (Q : VK) (E : XK), Room k A → Env0 P w K mg base A outer s H → BindsTo s fd args (ps.zip us) → Vals vs us → sp vs H Q E →
    codeAny (model P w) A (.call (.ref f) args) (CR CX outer P w H s Q E) s
theorem FnOk.imp {P : Program} {w : World} {K : PySem.W.Frag} {mg : Str → Option Value} {base : Heap} {CX : CXT} {k : Nat} {f : Addr} {fd : FuncData} {ps : List Str} {sp sp' : Sp} (F : FnOk P w K mg base CX k f fd ps sp)
    (h : ∀ vs H Q E, sp' vs H Q E → sp vs H Q E) : FnOk P w K mg base CX k f fd ps sp' :=
  ⟨fun vs H Q E q => F.len vs H Q E (h _ _ _ _ q), fun A outer s H args us vs Q E hr he hb hv hs => F.run A outer s H args us vs Q E hr he hb hv (h _ _ _ _ hs)⟩
section
variable {X : Cx} {pins : List (Addr × Obj)} {σ : St} {H : Hp} {s s' : Shared}
theorem Inv.env0 (I : Inv X pins σ H s) : Env0 X.prog X.w X.K X.mg X.base X.A X.stack s H :=
  ⟨I.ok.frames, I.ok.mod, I.bs, Nat.le_trans I.ok.bsz I.sz, I.stack, I.stkFree, I.hok, I.bare⟩
theorem Inv.after {Q : VK} {u : Value} (I : Inv X pins σ H s) (h : CE X.stack X.prog X.w H s Q u s') : EP X pins σ Q u s' := by
  obtain ⟨v, H', os, bare, un, hok, r, q⟩ := h
  obtain ⟨hh, g, d, t, os'⟩ := s'
  obtain rfl : os' = s.os := os
  exact ⟨v, H', I.call (h' := hh) (g' := g) (d' := d) (t' := t) (ch := []) un hok bare (fun b z => absurd z (by simp)), r, q⟩
end
noncomputable def tCall (sp : Sp) (dvs : List V) (E : XK) (t : TA) : TE := fun σ H Q => t σ H fun vs H1 => sp (vs ++ dvs) H1 Q E
noncomputable def Binds (K : PySem.W.Frag) (fd : FuncData) (ps : List Str) (ds : List Value) : Prop :=
  ∀ (s : Shared) (us : List Value), K.In s.heap → (us ++ ds).length = ps.length → BindsTo s fd ⟨us, []⟩ (ps.zip (us ++ ds))
theorem Binds.all {K : PySem.W.Frag} {fd : FuncData} {ps : List Str} (h : ∀ us : List Value, us.length = ps.length → bindArgs fd ⟨us, []⟩ = pure (ps.zip us)) : Binds K fd ps [] := fun s us _ hl => by
  rw [List.append_nil] at hl ⊢
  exact .of_eq (h us hl)
noncomputable def Passes (CX : CXT) (X : Cx) (E : XK) : Prop := ∀ (pins : List (Addr × Obj)) (σ : St) (H : Hp) (s : Shared) (e : Value) (s' : Shared), Inv X pins σ H s → CX X.stack H s E e s' → X.xe e s'
section
variable {X : Cx} {CX : CXT} {k : Nat} {f C : Addr} {fd : FuncData} {ps : List Str} {sp : Sp} {dvs : List V} {ds : List Value} {E : XK} {x m : Str} {p pos apos : Pos} {e o : Expr} {es : List Expr} {ta : TE} {t : TA}
theorem run_fn {pins : List (Addr × Obj)} {σ : St} {H : Hp} {s : Shared} {Q : VK} {us : List Value} {vs : List V} (F : FnOk X.prog X.w X.K X.mg X.base CX k f fd ps sp) (hr : Room k X.A) (hb : Binds X.K fd ps ds) (hd : Vals dvs ds) (hx : Passes CX X E)
    (I : Inv X pins σ H s) (r : Vals vs us) (h : sp (vs ++ dvs) H Q E) : wpAny (model X.prog X.w) X.A (call (.ref f) us) (EP X pins σ Q) X.xe s := by
  have r2 : Vals (vs ++ dvs) (us ++ ds) := r.append hd
  have hl : (us ++ ds).length = ps.length := by rw [← r2.length]; exact F.len _ _ _ _ h
  refine wpAny_call (codeAny_mono (F.run X.A X.stack s H ⟨us, []⟩ (us ++ ds) (vs ++ dvs) Q E hr I.env0 (hb s us I.kIn hl) r2 h) fun r s' hq => ?_)
  cases r with
  | error e => exact hx pins σ H s e s' I hq
  | ok fl =>
    cases fl with
    | ret u => exact I.after hq
    | next => exact False.elim hq
    | brk => exact False.elim hq
    | cont => exact False.elim hq
theorem pe_call (F : FnOk X.prog X.w X.K X.mg X.base CX k f fd ps sp) (hr : Room k X.A) (hg : Gl X x) (hm : X.mg x = some (.ref f)) (hk : PySem.W.keepIn X.K (.ref f) = true) (hb : Binds X.K fd ps ds) (hd : Vals dvs ds) (hx : Passes CX X E)
    (ha : PA X (e :: es) t) (hdb : (x == ("__debug__" : Str)) = false := by decide) (he : starEach (e :: es) X.env = (false, eval e X.env) :: starEach es X.env := by rfl) (hpl : (backTo pos (starEach es X.env)).any (·.1) = false := by rfl) :
    PE X (.Call (.Name x p) (e :: es) [] pos) (tCall sp dvs E t) := by
  intro pins s σ H Q I h
  refine wpAny_Call_Name_kw (ld_glob I hg hm ?_ hdb)
  refine PySem.W.callWith_K (h₀ := X.base) I.ok.mod.kin hk (thn (ha pos pins s σ H _ I h) fun us s1 ⟨vs, H1, I1, r, q⟩ => ⟨I1.kIn, ?_⟩) he hpl
  exact run_fn F hr hb hd hx I1 r q
theorem pe_call0 (F : FnOk X.prog X.w X.K X.mg X.base CX k f fd ps sp) (hr : Room k X.A) (hg : Gl X x) (hm : X.mg x = some (.ref f)) (hk : PySem.W.keepIn X.K (.ref f) = true) (hb : Binds X.K fd ps ds) (hd : Vals dvs ds) (hx : Passes CX X E)
    (hdb : (x == ("__debug__" : Str)) = false := by decide) : PE X (.Call (.Name x p) [] [] pos) (tCall sp dvs E tNil) := by
  intro pins s σ H Q I h
  refine wpAny_Call_Name_kw (ld_glob I hg hm ?_ hdb)
  exact PySem.W.callWith_K0 I.kIn hk (run_fn (us := []) F hr hb hd hx I .nil h)
end
section
variable {X : Cx} {CX : CXT} {k : Nat} {f C : Addr} {fd : FuncData} {ps ks : List Str} {sp : Sp} {E : XK} {x m : Str} {p pos apos kpos : Pos} {e o : Expr} {es : List Expr} {kws : List Keyword} {te ta : TE} {t tk : TA} {nm : Option Str}
variable {g : List Value → List Value → List Value} {gV : List V → List V → List V}
end
structure FnScope (N P : List Str) (sc : Scope) : Prop where
  kind : sc.kind = .function
  co : sc.isCoroutine = false
  gen : sc.isGenerator = false
  nd : N.Nodup
  pre : N.take P.length = P
  par : ∀ x ∈ P, sc.names.lookup x = some .local ∨ sc.names.lookup x = some .cell
  nofree : ∀ y ∈ sc.names, y.2 ≠ .free
theorem bindL_out {kindOf : Str → Option NameKind} {x : Str} : ∀ {binds : List (Str × Value)} {m : Str → Option Value}, (∀ v, (x, v) ∉ binds) → bindL kindOf binds m x = m x
  | [], _, _ => rfl
  | (n, v) :: r, m, h => by
    unfold bindL
    rw [bindL_out fun w hw => h w (List.mem_cons_of_mem _ hw)]
    split
    · have : x ≠ n := by rintro rfl; exact h v List.mem_cons_self
      simp [this]
    · rfl
theorem bindC_out {kindOf : Str → Option NameKind} {x : Str} : ∀ {binds : List (Str × Value)} {m : Str → Option Value}, (∀ v, (x, v) ∉ binds) → bindC kindOf binds m x = m x
  | [], _, _ => rfl
  | (n, v) :: r, m, h => by
    unfold bindC
    rw [bindC_out fun w hw => h w (List.mem_cons_of_mem _ hw)]
    split
    · rfl
    · have : x ≠ n := by rintro rfl; exact h v List.mem_cons_self
      simp [this]
theorem bindL_get {kindOf : Str → Option NameKind} {x : Str} {v : Value} : ∀ {P : List Str} {vs : List Value} {i : Nat} {m : Str → Option Value}, P.Nodup → P[i]? = some x → vs[i]? = some v → kindOf x = some .local →
    bindL kindOf (P.zip vs) m x = some v
  | [], _, _, _, _, h, _, _ => by simp at h
  | _ :: _, [], _, _, _, _, h, _ => by simp at h
  | p :: P, w :: vs, 0, m, nd, h1, h2, hk => by
    simp at h1 h2; subst h1; subst h2
    show bindL kindOf ((p, w) :: P.zip vs) m p = _
    unfold bindL
    rw [bindL_out fun v hv => (List.nodup_cons.mp nd).1 (List.of_mem_zip hv).1, if_pos hk]
    simp
  | p :: P, w :: vs, i + 1, m, nd, h1, h2, hk => by
    show bindL kindOf ((p, w) :: P.zip vs) m x = _
    unfold bindL
    exact bindL_get (i := i) (List.nodup_cons.mp nd).2 (by simpa using h1) (by simpa using h2) hk
theorem bindC_get {kindOf : Str → Option NameKind} {x : Str} {v : Value} : ∀ {P : List Str} {vs : List Value} {i : Nat} {m : Str → Option Value}, P.Nodup → P[i]? = some x → vs[i]? = some v → kindOf x ≠ some .local →
    bindC kindOf (P.zip vs) m x = some v
  | [], _, _, _, _, h, _, _ => by simp at h
  | _ :: _, [], _, _, _, _, h, _ => by simp at h
  | p :: P, w :: vs, 0, m, nd, h1, h2, hk => by
    simp at h1 h2; subst h1; subst h2
    show bindC kindOf ((p, w) :: P.zip vs) m p = _
    unfold bindC
    rw [bindC_out fun v hv => (List.nodup_cons.mp nd).1 (List.of_mem_zip hv).1, if_neg hk]
    simp
  | p :: P, w :: vs, i + 1, m, nd, h1, h2, hk => by
    show bindC kindOf ((p, w) :: P.zip vs) m x = _
    unfold bindC
    exact bindC_get (i := i) (List.nodup_cons.mp nd).2 (by simpa using h1) (by simpa using h2) hk
noncomputable def start (N : List Str) (vs : List V) : St := vs.map some ++ List.replicate (N.length - vs.length) none
noncomputable def cxOf (CX : CXT) (P : Program) (w : World) (K : PySem.W.Frag) (mg : Str → Option Value) (base : Heap) (N : List Str) (qual : Str) (scope : Scope) (f : Addr) (cd : Value) (A : Around) (outer : List Env) (s : Shared) (H : Hp) (E : XK) : Cx where
  prog := P
  w := w
  K := K
  mg := mg
  base := base
  A := A.deeper (envOfC qual scope s.heap.objs.size f cd)
  N := N
  s₀ := s
  H₀ := H
  env := envOfC qual scope s.heap.objs.size f cd
  outer := outer
  stack := envOfC qual scope s.heap.objs.size f cd :: outer
  ex := []
  calm := true
  fn := fun _ => true
  pn := []
  xe := fun e s' => wpAny (model P w) (A.deeper (envOfC qual scope s.heap.objs.size f cd)) (leaving (envOfC qual scope s.heap.objs.size f cd) e) (fun _ s'' => CX outer H s E e s'') (fun e' s'' => CX outer H s E e' s'') s'
theorem cell_has {sc : Scope} {n : Nat} {x : Str} (h : sc.names.lookup x = some .cell) : ∃ c, (cellsFrom n sc.names []).lookup x = some c := by
  have q := PySem.W.cellsFrom_some sc.names n [] (.inl h)
  exact Option.isSome_iff_exists.mp q
theorem inv_start {CX : CXT} {P : Program} {w : World} {K : PySem.W.Frag} {mg : Str → Option Value} {base : Heap} {N ps : List Str} {qual : Str} {scope : Scope} {f : Addr} {cd : Value} {A : Around} {outer : List Env} {s s1 : Shared} {H : Hp} {E : XK} {us : List Value} {vs : List V}
    (S : FnScope N ps scope) (hd : A.handled = none) (e0 : Env0 P w K mg base A outer s H) (hl : vs.length = ps.length) (r : Vals vs us)
    (x : InCallC s s.heap.objs.size (bindL (envOfC qual scope s.heap.objs.size f cd).kindOf (ps.zip us) fun _ => none) (cellsFrom (s.heap.objs.size + 1) scope.names []) (bindC (envOfC qual scope s.heap.objs.size f cd).kindOf (ps.zip us) fun _ => none) s1) :
    Inv (cxOf CX P w K mg base N qual scope f cd A outer s H E) [] (start N vs) H s1 := by
  have hpl : ps.length ≤ N.length := by have := congrArg List.length S.pre; rw [List.length_take] at this; omega
  obtain ⟨h1, tk, rfl, hk⟩ := x.done
  have noA : ∀ b : Addr, b ∉ (cxOf CX P w K mg base N qual scope f cd A outer s H E).ex := fun b z => absurd (show b ∈ ([] : List Addr) from z) (by simp)
  refine ⟨⟨e0.mod, S.kind, rfl, rfl, Nat.le_refl _, fun y z c h1 h2 => ?_, fun y hy => ?_, fun y c _ h => ?_, fun _ => hd, Around.frames_deeper e0.frames, .inr ⟨rfl, rfl⟩, fun b z => absurd z (noA b), e0.bs, e0.bsz, fun b _ _ => noA b, fun b z => absurd z (noA b), e0.funs, e0.frf⟩,
    rfl, e0.bare, Un.kept hk, ⟨_, x.toInCall.ns, fun i y v h1 h2 h3 => ?_⟩, fun y c h => ⟨_, x.cell y c h⟩, e0.hok.fresh (Nat.le_refl _), fun y c h => ?_, fun p hp => absurd (show p ∈ ([] : List (Addr × Obj)) from hp) (by simp), e0.hok.kept hk, ?_⟩
  · exact name_of_addr x.apart (PySem.mem_of_lookup h1) (PySem.mem_of_lookup h2)
  · have hy : scope.names.lookup y = some .cell ∨ scope.names.lookup y = some .free := hy
    rcases hy with hy | hy
    · exact cell_has hy
    · exact absurd rfl (S.nofree _ (PySem.mem_of_lookup hy))
  · exact Nat.le_of_lt (x.above y c (PySem.mem_of_lookup h))
  · have hi : i < vs.length := by
      unfold start at h2
      by_cases hi : i < vs.length
      · exact hi
      · rw [List.getElem?_append_right (by simpa using hi)] at h2
        rw [List.getElem?_replicate] at h2
        split at h2 <;> cases h2
    have ha : vs[i]? = some v := by
      unfold start at h2
      rw [List.getElem?_append_left (by simpa using hi), List.getElem?_map] at h2
      cases e : vs[i]? with
      | none => rw [e] at h2; cases h2
      | some a => rw [e] at h2; cases h2; rfl
    obtain ⟨u, hu, rv⟩ := r.get ha
    have hp : ps[i]? = some y := by
      rw [← S.pre, List.getElem?_take_of_lt (by omega)]; exact h1
    have ndP : ps.Nodup := by rw [← S.pre]; exact S.nd.sublist (List.take_sublist _ _)
    refine ⟨u, rv, ?_⟩
    rcases S.par y (List.mem_of_getElem? hp) with k | k
    · exact .inl ⟨k, bindL_get ndP hp hu k⟩
    · obtain ⟨c, e⟩ := cell_has (n := s.heap.objs.size + 1) k
      refine .inr ⟨.inl k, c, e, ?_⟩
      have q := x.cell y c e
      rw [bindC_get ndP hp hu (by show scope.names.lookup y ≠ _; rw [k]; decide)] at q
      exact q
  · exact e0.hok.fresh (Nat.le_of_lt (x.above y c (PySem.mem_of_lookup h)))
  · unfold start
    show _ = N.length
    rw [List.length_append, List.length_map, List.length_replicate]
    omega
theorem fn_of {CX : CXT} {P : Program} {w : World} {K : PySem.W.Frag} {mg : Str → Option Value} {base : Heap} {k : Nat} {f : Addr} {name qual : Str} {params : Arguments} {body : List Stmt} {scope : Scope} {dV kV doc pm cdv ct oc : Value} {an od : Option Addr}
    {osl : Array (Option Value)} {N ps : List Str} {sp : Sp} (lk : K.lookup f = some ⟨oc, od, .func (PySem.W.fnOf name qual params body scope dV kV doc pm an cdv ct), osl⟩) (hcd : PySem.W.codeIn K cdv qual = true) (S : FnScope N ps scope)
    (len : ∀ vs H Q E, sp vs H Q E → vs.length = ps.length)
    (hbody : ∀ (A : Around) (outer : List Env) (s : Shared) (H : Hp) (vs : List V) (Q : VK) (E : XK), Room k (A.deeper (envOfC qual scope s.heap.objs.size f cdv)) → sp vs H Q E →
      ∃ t, PSs (cxOf CX P w K mg base N qual scope f cdv A outer s H E) body t ∧ t { nx := fun _ H' => Q .non H', rt := Q } (start N vs) H) :
    FnOk P w K mg base CX (k + 1) f (PySem.W.fnOf name qual params body scope dV kV doc pm an cdv ct) ps sp := by
  refine ⟨len, fun A outer s H args us vs Q E hr e0 hb r hsp => ?_⟩
  have hl := len _ _ _ _ hsp
  have KX : K.In s.heap := e0.mod.kin.keeps fun b o e => (e0.bs b o e).1
  have lim : s.heap.NoLimit := e0.mod.nolimit.keeps fun b o e => (e0.bs b o e).1
  have hkind : ∀ y ∈ ps.zip us, scope.names.lookup y.1 = some .local ∨ (scope.names.lookup y.1 = some .cell ∧ ((cellsFrom (s.heap.objs.size + 1) scope.names []).lookup y.1).isSome = true) := fun ⟨n, v⟩ hy => by
    rcases S.par n (List.of_mem_zip hy).1 with q | q
    · exact .inl q
    · exact .inr ⟨q, PySem.W.cellsFrom_some _ _ _ (.inl q)⟩
  refine codeAny_call_function hr.depth (KX _ _ lk) rfl S.co S.gen rfl (PySem.W.codeRec_of KX hcd) (hb _ _ _ _ ?_)
  refine wpAny_newFunctionEnv_cells S.kind hkind fun env he s1 x => ?_
  subst he
  refine ⟨lim.keeps x.toInCall.keep, codeAny_func ?_⟩
  obtain ⟨t, ht, hq⟩ := hbody A outer s H vs Q E (hr.deeper _) hsp
  have I : Inv (cxOf CX P w K mg base N qual scope f cdv A outer s H E) [] (start N vs) H s1 := inv_start S hr.hd e0 hl r x
  refine wpAny_mono (ht [] s1 (start N vs) H _ I hq) (fun fl s' hs => ?_) fun e s' hs => hs
  have fin : ∀ {σ' : St} {H' : Hp} {v : V} {u : Value}, Inv (cxOf CX P w K mg base N qual scope f cdv A outer s H E) [] σ' H' s' → RelV v u → Q v H' → CE outer P w H s Q u s' :=
    fun {σ' H' v u} J rv q => ⟨v, H', J.os, J.bare, J.base, J.hok, rv, q⟩
  cases fl with
  | ret u =>
    obtain ⟨v, σ', H', J, rv, q⟩ := hs
    exact fin J rv q
  | next =>
    obtain ⟨σ', H', J, q⟩ := hs
    exact fin (v := V.non) (u := Value.none) J rfl q
  | brk =>
    obtain ⟨_, _, _, q⟩ := hs
    exact False.elim q
  | cont =>
    obtain ⟨_, _, _, q⟩ := hs
    exact False.elim q
end L2
namespace L2
open PySem PySem.Spec PyProof.Rows
section
variable {X : Cx} {x : Str} {p pos : Pos} {e : Expr} {es : List Expr} {t : TA} {id T : String} {r : List V → Hp → VK → Prop}
noncomputable def tCB (r : List V → Hp → VK → Prop) (t : TA) : TE := fun σ H Q => t σ H fun vs H1 => r vs H1 Q
theorem pe_callB (hc : CallR X (.builtin id) r) (hg : Gl X x) (hm : X.mg x = none) (hv : bootBuiltins x = some (.builtin id)) (ha : PA X (e :: es) t) (hn : x ≠ "__name__" := by decide) (hdb : (x == ("__debug__" : Str)) = false := by decide)
    (he : starEach (e :: es) X.env = (false, eval e X.env) :: starEach es X.env := by rfl) (hpl : (backTo pos (starEach es X.env)).any (·.1) = false := by rfl) : PE X (.Call (.Name x p) (e :: es) [] pos) (tCB r t) := by
  intro pins s σ H Q I h
  refine wpAny_Call_Name_kw (ld_blt I hg hm hv ?_ hn hdb)
  exact PyProof.Rows.callWith_builtin1 (thn (ha pos pins s σ H _ I h) fun us s1 ⟨vs, H1, I1, r1, q1⟩ => hc pins s1 σ H1 vs us Q I1 r1 q1) he hpl
theorem pe_callTy (hc : CallR X (.type T) r) (hg : Gl X x) (hm : X.mg x = none) (hv : bootBuiltins x = some (.type T)) (ha : PA X (e :: es) t) (hn : x ≠ "__name__" := by decide) (hdb : (x == ("__debug__" : Str)) = false := by decide)
    (he : starEach (e :: es) X.env = (false, eval e X.env) :: starEach es X.env := by rfl) (hpl : (backTo pos (starEach es X.env)).any (·.1) = false := by rfl) : PE X (.Call (.Name x p) (e :: es) [] pos) (tCB r t) := by
  intro pins s σ H Q I h
  refine wpAny_Call_Name_kw (ld_blt I hg hm hv ?_ hn hdb)
  exact PyProof.Rows.callWith_type1 (thn (ha pos pins s σ H _ I h) fun us s1 ⟨vs, H1, I1, r1, q1⟩ => hc pins s1 σ H1 vs us Q I1 r1 q1) he hpl
end
end L2
namespace L2
open PySem PySem.Spec PyProof.Rows
section
variable {κ : Type} [DecidableEq κ]
noncomputable def valV (kvs : List (κ × V)) (k : κ) : Option V := (kvs.find? fun kv => decide (kv.1 = k)).map (·.2)
noncomputable def putK (kvs : List (κ × V)) (k : κ) (v : V) : List (κ × V) :=
  if (kvs.any fun kv => decide (kv.1 = k)) = true then kvs.map (fun kv => if kv.1 = k then (kv.1, v) else kv) else kvs ++ [(k, v)]
theorem valV_pos {p : κ × V} {r : List (κ × V)} {k : κ} (e : p.1 = k) : valV (p :: r) k = some p.2 := by simp [valV, List.find?_cons, e]
theorem valV_neg {p : κ × V} {r : List (κ × V)} {k : κ} (e : ¬ p.1 = k) : valV (p :: r) k = valV r k := by simp [valV, List.find?_cons, e]
theorem valV_any (k : κ) : ∀ kvs : List (κ × V), (kvs.any fun kv => decide (kv.1 = k)) = (valV kvs k).isSome
  | [] => rfl
  | p :: r => by
    rw [List.any_cons]
    by_cases e : p.1 = k
    · simp only [valV_pos e, decide_eq_true e, Bool.true_or, Option.isSome_some]
    · rw [valV_neg e, decide_eq_false e, Bool.false_or]; exact valV_any k r
theorem length_putK (kvs : List (κ × V)) (k : κ) (v : V) : (putK kvs k v).length ≤ kvs.length + 1 := by
  unfold putK
  split
  · rw [List.length_map]; omega
  · rw [List.length_append, List.length_cons, List.length_nil]; omega
theorem RelO.isSome_eq {o : Option V} {u : Option Value} (r : RelO o u) : o.isSome = u.isSome := by
  cases o with
  | none => cases u with
    | none => rfl
    | some _ => exact (show False from r).elim
  | some _ => cases u with
    | none => exact (show False from r).elim
    | some _ => rfl
theorem KV.val {kvs : List (κ × V)} {vs : List (κ × Value)} (r : KV kvs vs) (k : κ) : RelO (valV kvs k) (valueAt vs k) := by
  unfold KV at r
  induction r with
  | nil => exact True.intro
  | @cons p q ps qs h t ih =>
    obtain ⟨h1, h2⟩ := h
    by_cases e : p.1 = k
    · have e' : q.1 = k := h1.symm.trans e
      have b : valueAt (q :: qs) k = some q.2 := by simp [valueAt, List.find?_cons, e']
      rw [valV_pos e, b]; exact h2
    · have e' : ¬ q.1 = k := fun z => e (h1.trans z)
      have b : valueAt (q :: qs) k = valueAt qs k := by simp [valueAt, List.find?_cons, e']
      rw [valV_neg e, b]; exact ih
theorem KV.any {kvs : List (κ × V)} {vs : List (κ × Value)} (r : KV kvs vs) (k : κ) : (kvs.any fun kv => decide (kv.1 = k)) = vs.any fun kv => decide (kv.1 = k) := by
  unfold KV at r
  induction r with
  | nil => rfl
  | cons h t ih => rw [List.any_cons, List.any_cons, ih, h.1]
theorem KV.repl {kvs : List (κ × V)} {vs : List (κ × Value)} (r : KV kvs vs) (k : κ) {y : V} {u : Value} (ry : RelV y u) :
    KV (kvs.map fun kv => if kv.1 = k then (kv.1, y) else kv) (vs.map fun kv => if kv.1 = k then (kv.1, u) else kv) := by
  unfold KV at r ⊢
  induction r with
  | nil => exact .nil
  | @cons p q ps qs h t ih =>
    rw [List.map_cons, List.map_cons]
    refine .cons ?_ ih
    obtain ⟨h1, h2⟩ := h
    by_cases e : p.1 = k
    · rw [if_pos e, if_pos (h1.symm.trans e)]; exact ⟨h1, ry⟩
    · rw [if_neg e, if_neg (fun z => e (h1.trans z))]; exact ⟨h1, h2⟩
theorem KV.put {kvs : List (κ × V)} {vs : List (κ × Value)} (r : KV kvs vs) (k : κ) {y : V} {u : Value} (ry : RelV y u) : KV (putK kvs k y) (stored vs k u) := by
  unfold putK stored
  rw [r.any k]
  by_cases e : (vs.any fun kv => decide (kv.1 = k)) = true
  · rw [if_pos e, if_pos e]; exact r.repl k ry
  · rw [if_neg e, if_neg e]; exact Paired.snoc r ⟨rfl, ry⟩
theorem KV.length {kvs : List (κ × V)} {vs : List (κ × Value)} (r : KV kvs vs) : kvs.length = vs.length := Paired.length r
end
theorem kV_is {P : Program} {w : World} {k : Key} {u : Value} (r : RelV (kV k) u) : (mixKind P w).is k u = true := by
  cases k with
  | inl i => obtain ⟨t, e⟩ := (show ∃ t, u = Value.int i t from r); subst e; exact mixKind_int P w i t
  | inr x => obtain ⟨t, e⟩ := (show ∃ t, u = Value.str x t from r); subst e; exact mixKind_str P w x t
theorem items_are {P : Program} {w : World} : ∀ {ks : List Key} {us : List Value}, Vals (ks.map kV) us → ItemsAre (mixKind P w) ks us
  | [], _, r => by rw [List.map_nil] at r; cases r; exact .nil
  | k :: ks, _, r => by
    rw [List.map_cons] at r
    cases r with
    | cons h t => exact .cons (kV_is h) (items_are t)
noncomputable abbrev KT (H : Hp) : List (List Key × V) → List (List Key × Addr × Value) → Prop := Paired fun p q => p.1 = q.1 ∧ H q.2.1 = some (.tup (p.1.map kV)) ∧ RelV p.2 q.2.2
theorem KT.val {H : Hp} {kvs : List (List Key × V)} {xs : List (List Key × Addr × Value)} (r : KT H kvs xs) (k : List Key) : RelO (valV kvs k) ((atKey xs k).map (·.2)) := by
  induction r with
  | nil => exact True.intro
  | @cons p q ps qs h t ih =>
    obtain ⟨h1, _, h2⟩ := h
    by_cases e : p.1 = k
    · have e' : q.1 = k := h1.symm.trans e
      have b : atKey (q :: qs) k = some q.2 := by simp [atKey, List.find?_cons, e']
      rw [valV_pos e, b]; exact h2
    · have e' : ¬ q.1 = k := fun z => e (h1.trans z)
      have b : atKey (q :: qs) k = atKey qs k := by simp [atKey, List.find?_cons, e']
      rw [valV_neg e, b]; exact ih
theorem KT.repl {H : Hp} {kvs : List (List Key × V)} {xs : List (List Key × Addr × Value)} (r : KT H kvs xs) (k : List Key) {y : V} {u : Value} (ry : RelV y u) :
    KT H (kvs.map fun kv => if kv.1 = k then (kv.1, y) else kv) (xs.map (putAt k u)) := by
  induction r with
  | nil => exact .nil
  | @cons p q ps qs h t ih =>
    rw [List.map_cons, List.map_cons]
    refine .cons ?_ ih
    obtain ⟨h1, h2, h3⟩ := h
    unfold putAt
    by_cases e : p.1 = k
    · rw [if_pos e, if_pos (h1.symm.trans e)]; exact ⟨h1, h2, ry⟩
    · rw [if_neg e, if_neg (fun z => e (h1.trans z))]; exact ⟨h1, h2, h3⟩
theorem KT.put {H : Hp} {kvs : List (List Key × V)} {xs : List (List Key × Addr × Value)} (r : KT H kvs xs) (k : List Key) {b : Addr} {y : V} {u : Value} (hb : H b = some (.tup (k.map kV))) (ry : RelV y u) :
    KT H (putK kvs k y) (storedH xs k b u) := by
  have e : (kvs.any fun kv => decide (kv.1 = k)) = (atKey xs k).isSome := by
    rw [valV_any, (r.val k).isSome_eq, Option.isSome_map]
  unfold putK storedH
  rw [e]
  by_cases q : (atKey xs k).isSome = true
  · rw [if_pos q, if_pos q]; exact r.repl k ry
  · rw [if_neg q, if_neg q]; exact Paired.snoc r ⟨rfl, hb, ry⟩
theorem KT.keeps {H H' : Hp} {kvs : List (List Key × V)} {xs : List (List Key × Addr × Value)} (r : KT H kvs xs) (ht : ∀ b ys, H b = some (.tup ys) → H' b = some (.tup ys)) : KT H' kvs xs :=
  Paired.mapP r fun _ _ z => ⟨z.1, ht _ _ z.2.1, z.2.2⟩
section
variable {P : Program} {w : World} {H : Hp} {h : Heap} {a : Addr}
theorem rd_of {u : HO} (ok : HOk P w H h) (e : Rd H a u) : ObjOk P w H h a u := e.ok ok
theorem dk_rd {kvs : List (Key × V)} (ok : HOk P w H h) (e : Rd H a (.dK kvs)) : kvs.length ≤ sizeLine ∧ (a == sysModules) = false ∧ ∃ vs, KV kvs vs ∧ h.DictOf (mixKind P w) a vs :=
  show ObjOk P w H h a (.dK kvs) from rd_of ok e
theorem dk_of {kvs : List (Key × V)} (ok : HOk P w H h) (e : H a = some (.dK kvs)) : kvs.length ≤ sizeLine ∧ (a == sysModules) = false ∧ ∃ vs, KV kvs vs ∧ h.DictOf (mixKind P w) a vs := dk_rd ok (.inl e)
theorem key_of {ks : List Key} (ok : HOk P w H h) (e : H a = some (.tup (ks.map kV))) : (tupleKind (mixKind P w)).is h ks a := by
  obtain ⟨_, its, r, o, h1, h2, n, h3⟩ := (show ObjOk P w H h a (.tup (ks.map kV)) from ok a _ e)
  exact ⟨o, its.toArray, n, h1, h2, h3, by simpa using items_are r⟩
theorem dt_rd {kvs : List (List Key × V)} (ok : HOk P w H h) (e : Rd H a (.dT kvs)) : kvs.length ≤ sizeLine ∧ (a == sysModules) = false ∧
    ∃ xs, KT H kvs xs ∧ h.DictOfH (tupleKind (mixKind P w)) a xs := by
  obtain ⟨z, y, xs, r, o, es, ep, h1, h2, h3, h4, h5⟩ := (show ObjOk P w H h a (.dT kvs) from rd_of ok e)
  refine ⟨z, y, xs, r, o, es, ep, h1, h2, h3, h4, fun x hx => ?_, h5⟩
  have all : ∀ {l : List (List Key × V)} {m : List (List Key × Addr × Value)}, KT H l m → ∀ x ∈ m, (tupleKind (mixKind P w)).is h x.1 x.2.1 := by
    intro l m q
    induction q with
    | nil => intro x hx; exact nomatch hx
    | @cons p q ps qs hq t ih =>
      intro x hx
      rcases List.mem_cons.mp hx with e | hx
      · subst e
        exact key_of ok (by rw [← hq.1]; exact hq.2.1)
      · exact ih x hx
  exact all r x hx
theorem dt_of {kvs : List (List Key × V)} (ok : HOk P w H h) (e : H a = some (.dT kvs)) : kvs.length ≤ sizeLine ∧ (a == sysModules) = false ∧
    ∃ xs, KT H kvs xs ∧ h.DictOfH (tupleKind (mixKind P w)) a xs := dt_rd ok (.inl e)
end
noncomputable def DGet (H : Hp) (a : Addr) (y : V) (r : Option V) : Prop :=
  (∃ kvs k, Rd H a (.dK kvs) ∧ y = kV k ∧ r = valV kvs k) ∨ ∃ kvs k b, Rd H a (.dT kvs) ∧ y = .ref b ∧ H b = some (.tup (k.map kV)) ∧ r = valV kvs k
noncomputable def DPut (H : Hp) (a : Addr) (y v : V) (H' : Hp) : Prop :=
  (∃ kvs k, H a = some (.dK kvs) ∧ y = kV k ∧ kvs.length < sizeLine ∧ H' = upd H a (.dK (putK kvs k v))) ∨
  ∃ kvs k b, H a = some (.dT kvs) ∧ y = .ref b ∧ H b = some (.tup (k.map kV)) ∧ kvs.length < sizeLine ∧ H' = upd H a (.dT (putK kvs k v))
theorem DGet.k {H : Hp} {a : Addr} {kvs : List (Key × V)} {k : Key} (e : H a = some (.dK kvs)) : DGet H a (kV k) (valV kvs k) := .inl ⟨kvs, k, .inl e, rfl, rfl⟩
theorem DPut.k {H : Hp} {a : Addr} {kvs : List (Key × V)} {k : Key} {v : V} (e : H a = some (.dK kvs)) (hl : kvs.length < sizeLine) : DPut H a (kV k) v (upd H a (.dK (putK kvs k v))) := .inl ⟨kvs, k, e, rfl, hl, rfl⟩
section
variable {X : Cx} {pins : List (Addr × Obj)} {σ : St} {H : Hp} {s : Shared} {a : Addr} {y v : V} {u r : Value} {o : Option V} {A : Around} {E : Value → Shared → Prop}
theorem Inv.big (I : Inv X pins σ H s) : sysModules < s.heap.objs.size := by
  have h : mainGlobals < s.heap.objs.size := (I.mod.glob.keeps I.bk).lt
  exact Nat.lt_trans (by decide) h
theorem d_getItem {Q : Value → Shared → Prop} (hu : A.units + 1 < cLine) (I : Inv X pins σ H s) (g : DGet H a y (some v)) (ry : RelV y u) (h : ∀ w' s', Inv X pins σ H s' → RelV v w' → Q w' s') :
    wpAny (model X.prog X.w) A (getItem (.ref a) u) Q E s := by
  rcases g with ⟨kvs, k, e, ey, l⟩ | ⟨kvs, k, b, e, ey, eb, l⟩
  · subst ey
    obtain ⟨z, hd, vs, rel, dd⟩ := dk_rd I.hok e
    obtain ⟨w', hw, rw'⟩ := RelO.some_of (v := v) (o := valueAt vs k) (by rw [l]; exact rel.val k)
    exact wpAny_getItem_of (kV_is ry) dd.mapOf hw (h w' _ (I.tok _) rw')
  · subst ey
    cases (show u = Value.ref b from ry)
    obtain ⟨z, hd, xs, rel, dd⟩ := dt_rd I.hok e
    obtain ⟨w', hw, rw'⟩ := RelO.some_of (v := v) (o := (atKey xs k).map (·.2)) (by rw [l]; exact rel.val k)
    obtain ⟨p, hp, hp2⟩ := Option.map_eq_some_iff.mp hw
    refine wpAny_getItem_heap (tupleKind_room_in1 hu) (key_of I.hok eb) dd hp ?_
    rw [hp2]
    exact h w' _ (I.tok _) rw'
theorem d_notIn {Q : Value → Shared → Prop} (hu : A.units + 1 < cLine) (I : Inv X pins σ H s) (g : DGet H a y o) (ry : RelV y u) (h : ∀ s', Inv X pins σ H s' → Q (.bool (!o.isSome)) s') :
    wpAny (model X.prog X.w) A (compareOp .NotIn u (.ref a)) Q E s := by
  rcases g with ⟨kvs, k, e, ey, l⟩ | ⟨kvs, k, b, e, ey, eb, l⟩
  · subst ey
    obtain ⟨z, hd, vs, rel, dd⟩ := dk_rd I.hok e
    refine wpAny_notIn_of (kV_is ry) hd dd.mapOf ?_
    rw [← (rel.val k).isSome_eq, ← l]
    exact h _ (I.tok _)
  · subst ey
    cases (show u = Value.ref b from ry)
    obtain ⟨z, hd, xs, rel, dd⟩ := dt_rd I.hok e
    refine wpAny_notIn_heap (tupleKind_room_in1 hu) (key_of I.hok eb) hd dd ?_
    have q := (rel.val k).isSome_eq
    rw [Option.isSome_map] at q
    rw [← q, ← l]
    exact h _ (I.tok _)
theorem d_write {h' : Heap} {t' : Nat} {ob : HO} (I : Inv X pins σ H s) (mu : Mut (H a)) (hs : Heap.SameBut a s.heap h') (he : ∃ q, h'.get? a = some q) (new : ObjOk X.prog X.w (upd H a ob) h' a ob) :
    Inv X pins σ (upd H a ob) { s with heap := h', toks := t' } :=
  I.write (x := a) (e := a) mu (.inl rfl) (fun b q hb z => (hs.2 b hb).trans z) he new
theorem dk_new {P : Program} {w : World} {H' : Hp} {h' : Heap} {kvs : List (Key × V)} {vs : List (Key × Value)} (z : kvs.length ≤ sizeLine) (hd : (a == sysModules) = false) (rel : KV kvs vs) (dd : h'.DictOf (mixKind P w) a vs) :
    ObjOk P w H' h' a (.dK kvs) := ⟨z, hd, vs, rel, dd⟩
theorem d_setItem {H' : Hp} {Q : Unit → Shared → Prop} (hu : A.units + 1 < cLine) (I : Inv X pins σ H s) (g : DPut H a y v H') (ry : RelV y u) (rv : RelV v r) (h : ∀ s', Inv X pins σ H' s' → Q () s') :
    wpAny (model X.prog X.w) A (setItem (.ref a) u r) Q E s := by
  rcases g with ⟨kvs, k, e, ey, l, eH⟩ | ⟨kvs, k, b, e, ey, eb, l, eH⟩
  · subst ey eH
    obtain ⟨z, hd, vs, rel, dd⟩ := dk_of I.hok e
    have hz : vs.length ≤ sizeLine := by rw [← rel.length]; exact z
    have hl : (putK kvs k v).length ≤ sizeLine := by have := length_putK kvs k v; omega
    refine wpAny_setItem_pairs (hsz := hz) (kV_is ry) dd fun h' dd' hs => h _ ?_
    have he : ∃ q, h'.get? a = some q := let ⟨q, _, _, hq, _⟩ := dd'; ⟨q, hq⟩
    exact d_write I (by rw [e]; exact True.intro) hs he (dk_new hl hd (rel.put k rv) dd')
  · subst ey eH
    cases (show u = Value.ref b from ry)
    obtain ⟨z, hd, xs, rel, dd⟩ := dt_of I.hok e
    have hz : xs.length ≤ sizeLine := by rw [← Paired.length rel]; exact z
    have hl : (putK kvs k v).length ≤ sizeLine := by have := length_putK kvs k v; omega
    refine wpAny_setItem_heap (hsz := hz) (tupleKind_room_in1 hu) (key_of I.hok eb) dd fun h' dd' hs => h _ ?_
    obtain ⟨q, es, ep, hq, h2, h3, h4, _, h5⟩ := dd'
    refine d_write I (by rw [e]; exact True.intro) hs ⟨q, hq⟩ ⟨hl, hd, _, (rel.put k eb rv).keeps fun c ys ec => ?_, q, es, ep, hq, h2, h3, h4, h5⟩
    rw [upd_ne (ne_of ec e (fun z => nomatch z))]
    exact ec
end
section
variable {X : Cx} {pins : List (Addr × Obj)} {σ : St} {H : Hp} {s : Shared} {a : Addr} {kvs : List (Key × V)} {k : Key} {u : Value} {A : Around} {E : Value → Shared → Prop}
theorem d_len {Q : Value → Shared → Prop} (I : Inv X pins σ H s) (e : Rd H a (.dK kvs)) (h : ∀ t s', Inv X pins σ H s' → Q (.int kvs.length t) s') : wpAny (model X.prog X.w) A (call (.builtin "len") [.ref a]) Q E s := by
  obtain ⟨z, hd, vs, rel, dd⟩ := dk_rd I.hok e
  refine call_len_dict hd dd (by rw [← rel.length]; rw [sizeLine_eq] at z; omega) ?_
  rw [← rel.length]
  exact h _ _ (I.tok _)
end
noncomputable def NoSl (i : Expr) : Prop := ∀ ov iv, subscripted i false ov iv = operate [ov, iv] (getItem ov iv)
theorem subD_of {prog : Program} {w : World} {A : Around} {E : Value → Shared → Prop} {s : Shared} {env : Env} {value slice : Expr} {pos : Pos} {T id : String} {Q : Value → Shared → Prop}
    (hl : typeLookup (.type T) "__getitem__" = pure (some (.builtin id))) (hs : NoSl slice)
    (h : wpAny (model prog w) A (eval value env) (fun o s₁ => wpAny (model prog w) A (eval slice env) (fun i s₂ => s₂.TypeIs o T ∧ wpAny (model prog w) A (getItem o i) Q E s₂) E s₁) E s) :
    wpAny (model prog w) A (eval (.Subscript value slice pos) env) Q E s := by
  refine Subscript_ (wpAny_mono h (fun o s₁ h₁ => wpAny_mono h₁ (fun i s₂ h₂ => ?_) fun _ _ x => x) fun _ _ x => x)
  obtain ⟨hT, h₂⟩ := h₂
  unfold subscriptTail
  refine wpAny_bind ?_
  rw [getitemInPython_of_ne hT.not_modules]
  refine wpAny_bind (wpAny_specialOf hT hl ?_)
  have fin : wpAny (model prog w) A (subscripted slice false o i) (fun r s₃ => wpAny (model prog w) A (letTemporaryGo value o r >>= fun _ => pure r) Q E s₃) E s₂ := by
    rw [hs o i]
    exact wpAny_operating (wpAny_mono h₂ (fun r s₃ h₃ => wpAny_bind (wpAny_letTemporaryGo (wpAny_pure h₃))) fun _ _ x => x)
  first
    | exact wpAny_pure (wpAny_bind fin)
    | exact wpAny_bind (wpAny_pure (wpAny_bind fin))
    | exact wpAny_bind fin
theorem dict_typeIs {X : Cx} {pins : List (Addr × Obj)} {σ : St} {H : Hp} {s : Shared} {a : Addr} {y : V} {o : Option V} (I : Inv X pins σ H s) (g : DGet H a y o) : s.TypeIs (.ref a) "dict" := by
  rcases g with ⟨kvs, k, e, _, _⟩ | ⟨kvs, k, b, e, _, _, _⟩
  · obtain ⟨_, _, vs, _, dd⟩ := dk_rd I.hok e
    exact dd.typeIs
  · obtain ⟨_, _, xs, _, dd⟩ := dt_rd I.hok e
    exact dd.typeIs
noncomputable def tDGet (td ty : TE) : TE := fun σ H Q => td σ H fun x H1 => ty σ H1 fun y H2 => ∃ a v, x = .ref a ∧ DGet H2 a y (some v) ∧ Q v H2
noncomputable def sDPut (td ty tv : TE) : TS := fun D σ H => tv σ H fun v H1 => td σ H1 fun x H2 => ty σ H2 fun y H3 => ∃ a H4, x = .ref a ∧ DPut H3 a y v H4 ∧ D.nx σ H4
section
variable {X : Cx} {o i e value : Expr} {pos pos' tpos : Pos} {td ty tv : TE}
theorem pe_dget (hu : X.A.units + 1 < cLine) (ho : PE X o td) (hi : PE X i ty) (hs : NoSl i) : PE X (.Subscript o i pos) (tDGet td ty) := by
  intro pins s σ H Q I h
  refine subD_of PySem.F.slot_dict_getitem.lookup hs (thn (ho pins s σ H _ I h) fun u s1 ⟨x, H1, I1, rx, q1⟩ => thn (hi pins s1 σ H1 _ I1 q1) fun iv s2 ⟨y, H2, I2, ry, a, v, ex, g, q2⟩ => ?_)
  subst ex
  obtain rfl : u = Value.ref a := rx
  exact ⟨dict_typeIs I2 g, d_getItem hu I2 g ry fun w' s3 I3 rw' => ⟨v, H2, I3, rw', q2⟩⟩
theorem ps_dput (hu : X.A.units + 1 < cLine) (ho : PE X o td) (hi : PE X i ty) (hv : PE X value tv) (hs : swapsWith value (some (.Subscript o i pos')) pos.line X.env = pure false) :
    PS X (.Assign [.Subscript o i pos'] value pos) (sDPut td ty tv) := by
  intro pins s σ H D I h
  refine wpAny_Assign_Subscript (thn (hv pins s σ H _ I h) fun r s1 ⟨v, H1, I1, rv, q1⟩ => thn (ho pins s1 σ H1 _ I1 q1) fun u s2 ⟨x, H2, I2, rx, q2⟩ => thn (hi pins s2 σ H2 _ I2 q2) fun iv s3 ⟨y, H3, I3, ry, a, H4, ex, g, q3⟩ => ?_) hs
  subst ex
  obtain rfl : u = Value.ref a := rx
  exact d_setItem hu I3 g ry rv fun s4 I4 => ⟨σ, H4, I4, q3⟩
end
theorem dk_empty {P : Program} {w : World} {H : Hp} (h : Heap) (hb : sysModules < h.objs.size) : ObjOk P w H (h.push { cls := .type "dict", data := .dict #[] }) h.objs.size (.dK []) :=
  ⟨Nat.zero_le _, beq_eq_false_iff_ne.mpr (Ne.symm (Nat.ne_of_lt hb)), [], .nil, Heap.DictOf.new h⟩
noncomputable def tDNewK : TE := fun _ H Q => ∀ p, H p = none → Q (.ref p) (upd H p (.dK []))
section
variable {X : Cx} {pos : Pos}
theorem pe_dnewK : PE X (.Dict [] [] pos) tDNewK := fun pins s σ H Q I h =>
  wpAny_Dict_empty ⟨.ref s.heap.objs.size, _, I.laid (a := s.heap.objs.size) (o := .dK []) (t' := s.toks) (fun _ _ q => Heap.get?_push_of_some _ q) (Nat.le_refl _) (dk_empty s.heap I.big), rfl, h _ (I.hok.fresh (Nat.le_refl _))⟩
end
section
variable {X : Cx} {pins : List (Addr × Obj)} {σ : St} {H : Hp} {s : Shared} {a : Addr} {y d : V} {u r : Value} {o : Option V} {A : Around} {E : Value → Shared → Prop}
end
section
variable {X : Cx} {o e f : Expr} {apos cpos : Pos} {td ty tx : TE}
end
section
variable {X : Cx} {pins : List (Addr × Obj)} {σ : St} {H : Hp} {s : Shared} {a : Addr} {kvs : List (Key × V)} {A : Around} {E : Value → Shared → Prop}
end
section
variable {X : Cx} {pins : List (Addr × Obj)} {σ : St} {H : Hp} {s : Shared} {a : Addr} {y : V} {u : Value} {A : Around} {E : Value → Shared → Prop}
end
end L2
namespace HT
open PySem PyProof.Rows
section
open PySem.SeqAt
open PySem.AutoSeq1 (wpAny_loadPart')
open PySem.MeetsSeq PySem.MeetsSeq2 PySem.MeetsSeq3
end
section
variable {prog : Program} {w : World} {A : Around} {E : Value → Shared → Prop} {s : Shared}
theorem cat_tup {t b : Addr} {vs ws : List Value} {Q : Value → Shared → Prop} (ht : IsTup s.heap t vs.toArray) (hb : IsTup s.heap b ws.toArray) (hv : vs ≠ [])
    (h1 : ws = [] → Q (.ref t) s) (h2 : ws ≠ [] → Q (.ref s.heap.objs.size) { s with heap := s.heap.push { cls := .type "tuple", data := .seq (vs ++ ws).toArray } })
    (hsz : vs.length + ws.length ≤ sizeLine) : wpAny (model prog w) A (binaryOp .Add (.ref t) (.ref b)) Q E s := by
  obtain ⟨⟨cls, dd, data, sl⟩, ho, hc, n, hd⟩ := id ht
  obtain ⟨⟨cls2, dd2, data2, sl2⟩, ho2, hc2, n2, hd2⟩ := id hb
  simp only at hc hd hc2 hd2
  subst hc hd hc2 hd2
  have e : vs.toArray ++ ws.toArray = (vs ++ ws).toArray := by simp
  by_cases hw : ws = []
  · exact concat_meets ⟨_, ho, rfl⟩ ⟨_, ho2, rfl⟩ noFill_tuple_add seq_tuple_add PySem.F.slot_tuple_add PySem.F.entry_tuple_add (PySem.F.args_tuple_add_2 _ _)
      (tuple_addW1 t b vs.toArray ws.toArray n n2 dd dd2 sl sl2 (by simpa using hv) (by simp [hw])) ⟨ho, ho2, h1 hw⟩
  · refine concat_meets ⟨_, ho, rfl⟩ ⟨_, ho2, rfl⟩ noFill_tuple_add seq_tuple_add PySem.F.slot_tuple_add PySem.F.entry_tuple_add (PySem.F.args_tuple_add_2 _ _)
      (tuple_addW2 t b vs.toArray ws.toArray n n2 dd dd2 sl sl2 (by simpa using hv) (by simpa using hw) (by rw [List.size_toArray, List.size_toArray]; exact hsz)) ⟨ho, ho2, ?_⟩
    rw [e]
    exact h2 hw
noncomputable def sIx (n d : Nat) : Option Int → Nat
  | none => d
  | some v => if v < 0 then (v + (n : Int)).toNat else min v.toNat n
theorem sIx_nat (n d k : Nat) : sIx n d (some (k : Int)) = min k n := by
  show (if (k : Int) < 0 then ((k : Int) + (n : Int)).toNat else min (k : Int).toNat n) = min k n
  rw [if_neg (by omega), Int.toNat_natCast]
theorem sIx_le (n d : Nat) (hd : d ≤ n) (o : Option Int) : sIx n d o ≤ n := by
  cases o with
  | none => exact hd
  | some v =>
    show (if v < 0 then (v + (n : Int)).toNat else min v.toNat n) ≤ n
    by_cases hv : v < 0
    · rw [if_pos hv]; omega
    · rw [if_neg hv]; exact Nat.min_le_right _ _
theorem clip_eq (v : Int) (n d : Nat) : (if v < 0 then max (v + (n : Int)) 0 else min v (n : Int)) = ((sIx n d (some v) : Nat) : Int) := by
  show (if v < 0 then max (v + (n : Int)) 0 else min v (n : Int)) = (((if v < 0 then (v + (n : Int)).toNat else min v.toNat n) : Nat) : Int)
  by_cases hv : v < 0
  · simp only [if_pos hv]; omega
  · simp only [if_neg hv]; omega
theorem adjust_gen (lo hi : Option Int) (n : Nat) : Builtin.Slice.sliceAdjust lo hi 1 (n : Int) = (((sIx n 0 lo : Nat) : Int), ((sIx n n hi : Nat) : Int)) := by
  have h1 : ¬ ((1 : Int) < 0) := by omega
  unfold Builtin.Slice.sliceAdjust
  simp only [h1, if_false]
  refine Prod.ext ?_ ?_
  · cases lo with
    | none => rfl
    | some v => exact clip_eq v n 0
  · cases hi with
    | none => rfl
    | some v => exact clip_eq v n n
theorem places_gen (i j : Nat) : Builtin.Slice.slicePlaces (i : Int) (j : Int) 1 = j - i := by
  unfold Builtin.Slice.slicePlaces
  have h1 : (1 : Int) > 0 := by omega
  simp only [h1, if_true, Int.ediv_one]
  split <;> omega
theorem slicePart_ {v : Value} {o : Option Int} {Q : Option Int → Shared → Prop} (p : IsPart v o) (h : Q o s) : wpAny (model prog w) A (Builtin.Slice.slicePartIndex v) Q E s := by
  cases p with
  | none => exact slicePart_none h
  | int i t => exact slicePart_int h
theorem sliceApplied_gen {sl : Addr} {vl vu : Value} {lo hi : Option Int} {n : Nat} {Q : Int × Int × Nat → Shared → Prop} (hs : s.heap.IsSliceOf sl vl vu .none) (pl : IsPart vl lo) (pu : IsPart vu hi)
    (h : Q (((sIx n 0 lo : Nat) : Int), 1, sIx n n hi - sIx n 0 lo) s) : wpAny (model prog w) A (Builtin.Slice.sliceApplied (.ref sl) (pure (n : Int))) Q E s := by
  obtain ⟨os, hos, hcs, hds⟩ := id hs
  unfold Builtin.Slice.sliceApplied Builtin.Slice.sliceFields
  refine wpAny_bind (wpAny_bind (wpAny_field hos hds (x := vl) rfl (wpAny_bind (wpAny_field hos hds (x := vu) rfl (wpAny_bind (wpAny_field hos hds (x := .none) rfl (wpAny_pure ?_)))))))
  refine wpAny_bind (slicePart_none ?_)
  show wpAny _ _ (if ((1 : Int) == 0) = true then _ else _) _ _ s
  rw [if_neg (by decide)]
  refine wpAny_bind (slicePart_ pl (wpAny_bind (slicePart_ pu (wpAny_bind (wpAny_pure ?_)))))
  show wpAny _ _ (match Builtin.Slice.sliceAdjust lo hi 1 (n : Int) with | (lo, hi) => pure (lo, (1 : Int), Builtin.Slice.slicePlaces lo hi 1)) _ _ s
  rw [adjust_gen lo hi n]
  show wpAny _ _ (pure (((sIx n 0 lo : Nat) : Int), (1 : Int), Builtin.Slice.slicePlaces ((sIx n 0 lo : Nat) : Int) ((sIx n n hi : Nat) : Int) 1)) _ _ s
  rw [places_gen]
  exact wpAny_pure h
theorem pick_gen (xs : Array Value) (i k : Nat) : ((List.range k).filterMap fun (m : Nat) => xs[((i : Int) + (m : Int) * 1).toNat]?).toArray = ((xs.toList.drop i).take k).toArray := by
  have e : (fun (m : Nat) => xs[((i : Int) + (m : Int) * 1).toNat]?) = fun m => xs[i + m]? := by
    funext m
    have : ((i : Int) + (m : Int) * 1).toNat = i + m := by omega
    rw [this]
  rw [e]
  have := pick_run xs i k
  rw [List.filterMap_map] at this
  have e2 : ((fun x => xs[x]?) ∘ fun x => i + x) = fun m => xs[i + m]? := rfl
  rw [e2] at this
  rw [this]
theorem getItem_tuple_cut {t sl : Addr} {items : Array Value} {vl vu : Value} {lo hi : Option Int} {Q : Value → Shared → Prop} (ht : IsTup s.heap t items) (hs : s.heap.IsSliceOf sl vl vu .none) (pl : IsPart vl lo) (pu : IsPart vu hi)
    (hw : ¬ (sIx items.size 0 lo = 0 ∧ sIx items.size items.size hi = items.size))
    (h : Q (.ref s.heap.objs.size) { s with heap := s.heap.push { cls := .type "tuple", data := .seq ((items.toList.drop (sIx items.size 0 lo)).take (sIx items.size items.size hi - sIx items.size 0 lo)).toArray } })
    (hsz : items.size ≤ sizeLine) : wpAny (model prog w) A (getItem (.ref t) (.ref sl)) Q E s := by
  have htake : sizeOk (.seq ((items.toList.drop (sIx items.size 0 lo)).take (sIx items.size items.size hi - sIx items.size 0 lo)).toArray) := by
    show ((items.toList.drop (sIx items.size 0 lo)).take (sIx items.size items.size hi - sIx items.size 0 lo)).toArray.size ≤ sizeLine
    rw [List.size_toArray, List.length_take, List.length_drop, Array.length_toList]
    omega
  have hj : sIx items.size items.size hi ≤ items.size := sIx_le _ _ (Nat.le_refl _) hi
  obtain ⟨os, hos, hcs, hds⟩ := id hs
  have hTs : s.TypeIs (.ref sl) "slice" := ⟨os, hos, hcs⟩
  unfold getItem
  try with_reducible refine wpAny_holding ?_
  first | refine wpAny_bind (wpAny_pure ?_) | skip
  refine wpAny_bind (wpAny_sequenceKey ht.typeIs (by decide) ?_)
  refine wpAny_bind (wpAny_callSpecial?_slot (name := Str.ofString "__getitem__") ht.typeIs PyProof.Rows.slot_tuple_getitem
    (wpAny_call_entry PyProof.Rows.slot_tuple_getitem ht.typeIs entry_tuple_getitem ?_ (args_tuple_getitem _ _)))
  show wpAny _ _ (Builtin.Tuple.tupleItemsOf (.ref t) >>= _) _ _ s
  refine wpAny_bind (tupleItemsOf_ ht ?_)
  refine wpAny_bind (wpAny_typeOf hTs ?_)
  rw [if_pos (by decide)]
  refine wpAny_bind (sliceApplied_gen hs pl pu ?_)
  have hno : ¬ ((((sIx items.size 0 lo : Nat) : Int) == 0 && (1 : Int) == 1 && (sIx items.size items.size hi - sIx items.size 0 lo) == items.size) = true) := by
    intro q
    rw [Bool.and_eq_true, Bool.and_eq_true] at q
    have q1 : ((sIx items.size 0 lo : Nat) : Int) = 0 := eq_of_beq q.1.1
    have q2 : sIx items.size items.size hi - sIx items.size 0 lo = items.size := eq_of_beq q.2
    exact hw ⟨by omega, by omega⟩
  show wpAny _ _ (if (((sIx items.size 0 lo : Nat) : Int) == 0 && (1 : Int) == 1 && (sIx items.size items.size hi - sIx items.size 0 lo) == items.size) = true then _ else _) _ _ s
  rw [if_neg hno, pick_gen]
  first
    | exact wpAny_bind (m := Builtin.Tuple.tupleExact _) (wpAny_newObj_type (wpAny_pure ⟨_, rfl, wpAny_pure h⟩) htake)
    | exact wpAny_bind (m := Builtin.Tuple.tupleExact _) (wpAny_newObj_type (wpAny_bind (wpAny_pure (wpAny_pure ⟨_, rfl, wpAny_pure h⟩))) htake)
    | exact wpAny_bind (wpAny_bind (m := Builtin.Tuple.tupleExact _) (wpAny_newObj_type (wpAny_pure (wpAny_pure ⟨_, rfl, wpAny_pure h⟩)) htake))
    | exact wpAny_bind (wpAny_bind (m := Builtin.Tuple.tupleExact _) (wpAny_newObj_type (wpAny_pure ⟨_, rfl, wpAny_pure h⟩) htake))
end
end HT
namespace L2
open PySem PySem.Spec PyProof.Rows
noncomputable abbrev TO := St → Hp → (Option Int → Hp → Prop) → Prop
noncomputable def PO (X : Cx) (e : Option Expr) (t : TO) : Prop :=
  ∀ (pins : List (Addr × Obj)) (s : Shared) (σ : St) (H : Hp) (Q : Option Int → Hp → Prop), Inv X pins σ H s → t σ H Q →
    wpAny (model X.prog X.w) X.A (evalPart e X.env) (fun u s' => ∃ o H', Inv X pins σ H' s' ∧ IsPart u o ∧ Q o H') X.xe s
noncomputable def tNoPart : TO := fun _ H Q => Q none H
noncomputable def tPart (t : TE) : TO := fun σ H Q => t σ H fun x H1 => ∃ i, x = .int i ∧ Q (some i) H1
theorem intsAre_of {ns : List Int} : ∀ {us : List Value}, Vals (ns.map V.int) us → IntsAre us ns := by
  induction ns with
  | nil => intro us r; rw [List.map_nil] at r; cases r; exact .nil
  | cons n ns ih =>
    intro us r
    rw [List.map_cons] at r
    cases r with
    | cons r1 r2 =>
      obtain ⟨t, e⟩ := r1
      subst e
      exact .cons n t (ih r2)
section
variable {X : Cx} {e : Expr} {te : TE} {lo hi : Option Expr} {tl th : TO} {pos p2 : Pos}
theorem po_none : PO X none tNoPart := by
  intro pins s σ H Q I h
  rw [evalPart_none]
  exact wpAny_pure ⟨none, H, I, .none, h⟩
theorem po_some (h : PE X e te) : PO X (some e) (tPart te) := by
  intro pins s σ H Q I hw
  rw [evalPart_some]
  refine thn (h pins s σ H _ I hw) fun u s1 ⟨x, H1, I1, r1, q1⟩ => ?_
  obtain ⟨i, rfl, q⟩ := q1
  obtain ⟨t, rfl⟩ := r1
  exact ⟨some i, H1, I1, .int i t, q⟩
noncomputable def SlR (X : Cx) (r : V → Option Int → Option Int → Hp → VK → Prop) : Prop :=
  ∀ (pins : List (Addr × Obj)) (s : Shared) (σ : St) (H : Hp) (x : V) (v vl vu : Value) (lo hi : Option Int) (sl : Addr) (Q : VK), Inv X pins σ H s → RelV x v → s.heap.IsSliceOf sl vl vu .none → IsPart vl lo → IsPart vu hi → r x lo hi H Q →
    ∃ T id, typeLookup (.type T) "__getitem__" = pure (some (.builtin id)) ∧ s.TypeIs v T ∧ wpAny (model X.prog X.w) X.A (getItem v (.ref sl)) (EP X pins σ Q) X.xe s
theorem SlR.or {r r' : V → Option Int → Option Int → Hp → VK → Prop} (h : SlR X r) (h' : SlR X r') : SlR X (fun x lo hi H Q => r x lo hi H Q ∨ r' x lo hi H Q) := by
  intro pins s σ H x v vl vu lo hi sl Q I rx hs pl pu q
  rcases q with q | q
  · exact h pins s σ H x v vl vu lo hi sl Q I rx hs pl pu q
  · exact h' pins s σ H x v vl vu lo hi sl Q I rx hs pl pu q
noncomputable def tSl (r : V → Option Int → Option Int → Hp → VK → Prop) (te : TE) (tl th : TO) : TE := fun σ H Q => te σ H fun x H1 => tl σ H1 fun l H2 => th σ H2 fun u H3 => r x l u H3 Q
theorem pe_slice {r : V → Option Int → Option Int → Hp → VK → Prop} (hr : SlR X r) (he : PE X e te) (hl : PO X lo tl) (hu : PO X hi th) : PE X (.Subscript e (.Slice lo hi none p2) pos) (tSl r te tl th) := by
  intro pins s σ H Q I h
  refine Subscript_ (thn (he pins s σ H _ I h) fun v s1 ⟨x, H1, I1, r1, q1⟩ => ?_)
  refine wpAny_Slice (thn (hl pins s1 σ H1 _ I1 q1) fun vl s2 ⟨l, H2, I2, pl, q2⟩ => thn (hu pins s2 σ H2 _ I2 q2) fun vu s3 ⟨u, H3, I3, pu, q3⟩ => ?_)
  rw [evalPart_none]
  refine wpAny_pure ?_
  have I4 : Inv X pins σ H3 { s3 with heap := s3.heap.push { cls := .type "slice", data := .fields #[vl, vu, .none] } } := I3.kept (t' := s3.toks) fun b ob q => Heap.get?_push_of_some _ q
  obtain ⟨T, id, hT, ht, hg⟩ := hr pins { s3 with heap := s3.heap.push { cls := .type "slice", data := .fields #[vl, vu, .none] } } σ H3 x v vl vu l u s3.heap.objs.size Q I4 r1 (Heap.IsSliceOf.new ..) pl pu q3
  show wpAny (model X.prog X.w) X.A (subscriptTail e (.Slice lo hi none p2) v (.ref s3.heap.objs.size)) (EP X pins σ Q) X.xe { s3 with heap := s3.heap.push { cls := .type "slice", data := .fields #[vl, vu, .none] } }
  exact tail_any (ops := [.ref s3.heap.objs.size, v]) ht hT hg (by with_unfolding_all rfl)
noncomputable def cutV (xs : List V) (lo hi : Option Int) : List V := (xs.drop (HT.sIx xs.length 0 lo)).take (HT.sIx xs.length xs.length hi - HT.sIx xs.length 0 lo)
theorem cutV_length (xs : List V) (lo hi : Option Int) : (cutV xs lo hi).length ≤ xs.length := by
  unfold cutV
  rw [List.length_take, List.length_drop]
  omega
noncomputable def rSlT (K : PySem.W.Frag) : V → Option Int → Option Int → Hp → VK → Prop := fun x lo hi H Q => ∃ a xs, x = .ref a ∧ SqT K H a xs ∧
  ¬ (HT.sIx xs.length 0 lo = 0 ∧ HT.sIx xs.length xs.length hi = xs.length) ∧ ∀ p, H p = none → Q (.ref p) (upd H p (.tup (cutV xs lo hi)))
theorem sl_tup : SlR X (rSlT X.K) := by
  intro pins s σ H x v vl vu lo hi sl Q I rx hs pl pu h
  obtain ⟨a, xs, rfl, hx, hw, q⟩ := h
  cases rx
  obtain ⟨its, r, ht, hz⟩ := I.tuple hx
  have hlen : its.toArray.size = xs.length := by rw [List.size_toArray]; exact r.length.symm
  refine ⟨"tuple", _, PyProof.Rows.slot_tuple_getitem.lookup, ht.typeIs, ?_⟩
  refine HT.getItem_tuple_cut ht hs pl pu (by rw [hlen]; exact hw) ?_ (by rw [hlen]; exact hz)
  rw [hlen]
  refine ⟨.ref s.heap.objs.size, _, I.laid (t' := s.toks) (o := .tup (cutV xs lo hi)) (fun b ob q => Heap.get?_push_of_some _ q) (Nat.le_refl _) ?_, rfl, q _ (I.hok.fresh (Nat.le_refl _))⟩
  exact ⟨Nat.le_trans (cutV_length xs lo hi) hz, _, (r.drop (HT.sIx xs.length 0 lo)).take (HT.sIx xs.length xs.length hi - HT.sIx xs.length 0 lo), IsTup.new _ _⟩
noncomputable def rCatT (K : PySem.W.Frag) : R2 := fun x y H Q => ∃ a b xs ys, x = .ref a ∧ y = .ref b ∧ SqT K H a xs ∧ SqT K H b ys ∧ xs ≠ [] ∧ xs.length + ys.length ≤ sizeLine ∧
  (ys = [] → Q (.ref a) H) ∧ (ys ≠ [] → ∀ p, H p = none → Q (.ref p) (upd H p (.tup (xs ++ ys))))
theorem Vals.nil_iff {xs : List V} {us : List Value} (r : Vals xs us) : us = [] ↔ xs = [] := by
  cases r with
  | nil => simp
  | cons _ _ => simp
theorem op_catT : OpR X (binaryOp .Add) (rCatT X.K) := by
  intro pins s σ H x y v u Q I rx ry h
  obtain ⟨a, b, xs, ys, rfl, rfl, ha, hb, hx, hz, q1, q2⟩ := h
  cases rx
  cases ry
  obtain ⟨its, r1, p1, _⟩ := I.tuple ha
  obtain ⟨its2, r2, p2, _⟩ := I.tuple hb
  refine HT.cat_tup p1 p2 (fun z => hx (r1.nil_iff.mp z)) (fun z => ⟨.ref a, H, I, rfl, q1 (r2.nil_iff.mp z)⟩) (fun z => ?_) (by rw [← r1.length, ← r2.length]; exact hz)
  refine ⟨.ref s.heap.objs.size, _, I.laid (t' := s.toks) (o := .tup (xs ++ ys)) (fun b ob q => Heap.get?_push_of_some _ q) (Nat.le_refl _) ?_, rfl, q2 (fun w => z (r2.nil_iff.mpr w)) _ (I.hok.fresh (Nat.le_refl _))⟩
  exact ⟨by rw [List.length_append]; exact hz, _, r1.append r2, IsTup.new _ _⟩
end
end L2
namespace L2
open PySem PySem.Spec PyProof.Rows
noncomputable def ixN (n : Nat) (i : Int) : Option Nat := if 0 ≤ i then (if i < n then some i.toNat else none) else if -(n : Int) ≤ i then some (i + n).toNat else none
noncomputable def atI {α : Type} (xs : List α) (i : Int) : Option α := (ixN xs.length i).bind fun j => xs[j]?
theorem ixN_seq {n : Nat} {i : Int} {j : Nat} (h : ixN n i = some j) : seqIndex? i n = some j ∧ j < n ∧ -(n : Int) ≤ i ∧ i < n := by
  unfold ixN at h
  by_cases h0 : 0 ≤ i
  · rw [if_pos h0] at h
    by_cases h1 : i < n
    · rw [if_pos h1] at h
      have e : i.toNat = j := Option.some.inj h
      exact ⟨by rw [seqIndex_of h0 h1, e], by omega, by omega, h1⟩
    · rw [if_neg h1] at h; cases h
  · rw [if_neg h0] at h
    by_cases h1 : -(n : Int) ≤ i
    · rw [if_pos h1] at h
      have e : (i + n).toNat = j := Option.some.inj h
      exact ⟨by rw [seqIndex_neg (by omega) h1, e], by omega, h1, by omega⟩
    · rw [if_neg h1] at h; cases h
theorem atI_get {α : Type} {xs : List α} {i : Int} {v : α} (h : atI xs i = some v) : ∃ j, seqIndex? i xs.length = some j ∧ xs[j]? = some v ∧ j < xs.length ∧ -(xs.length : Int) ≤ i ∧ i < xs.length := by
  unfold atI at h
  cases e : ixN xs.length i with
  | none => rw [e] at h; cases h
  | some j =>
    rw [e] at h
    obtain ⟨h1, h2, h3, h4⟩ := ixN_seq e
    exact ⟨j, h1, h, h2, h3, h4⟩
theorem atI_nat {α : Type} {xs : List α} {j : Nat} {v : α} (h : xs[j]? = some v) : atI xs (j : Int) = some v := by
  have hj : j < xs.length := (List.getElem?_eq_some_iff.mp h).1
  have e : ixN xs.length (j : Int) = some j := by
    unfold ixN
    rw [if_pos (by omega), if_pos (by omega)]; simp
  unfold atI; rw [e]; exact h
noncomputable def PlainIx (b : Expr) : Prop := ∀ o i, subscripted b false o i = operate [o, i] (getItem o i)
noncomputable def IxR (X : Cx) (r : R2) : Prop :=
  ∀ (value slice : Expr) (pins : List (Addr × Obj)) (s : Shared) (σ : St) (H : Hp) (x y : V) (v u : Value) (Q : VK), Inv X pins σ H s → RelV x v → RelV y u → r x y H Q →
    subscripted slice false v u = operate [v, u] (getItem v u) → wpAny (model X.prog X.w) X.A (subscriptTail value slice v u) (EP X pins σ Q) X.xe s
noncomputable def MtR (X : Cx) (id : String) (r : V → List V → Hp → VK → Prop) : Prop :=
  ∀ (pins : List (Addr × Obj)) (s : Shared) (σ : St) (H : Hp) (x : V) (xs : List V) (v : Value) (us : List Value) (Q : VK), Inv X pins σ H s → RelV x v → Vals xs us → r x xs H Q →
    wpAny (model X.prog X.w) X.A (call (.builtin id) (v :: us)) (EP X pins σ Q) X.xe s
section
variable {X : Cx} {a b : Expr} {ta tb : TE} {pos : Pos}
theorem IxR.or {r r' : R2} (h : IxR X r) (h' : IxR X r') : IxR X (fun x y H Q => r x y H Q ∨ r' x y H Q) := by
  intro value slice pins s σ H x y v u Q I rx ry q hs
  rcases q with q | q
  · exact h value slice pins s σ H x y v u Q I rx ry q hs
  · exact h' value slice pins s σ H x y v u Q I rx ry q hs
theorem pe_ix {r : R2} (hr : IxR X r) (ha : PE X a ta) (hb : PE X b tb) (hs : PlainIx b) : PE X (.Subscript a b pos) (tOp r ta tb) := by
  intro pins s σ H Q I h
  exact Subscript_ (binT ha hb I h fun v u s2 x y H2 I2 rx ry q => hr a b pins s2 σ H2 x y v u Q I2 rx ry q (hs _ _))
noncomputable def rIxL (K : PySem.W.Frag) : R2 := fun x y H Q => ∃ p xs i v, x = .ref p ∧ y = .int i ∧ SqL K H p xs ∧ atI xs i = some v ∧ Q v H
noncomputable def rIxT (K : PySem.W.Frag) : R2 := fun x y H Q => ∃ p xs i v, x = .ref p ∧ y = .int i ∧ SqT K H p xs ∧ atI xs i = some v ∧ Q v H
noncomputable def rIxS : R2 := fun x y H Q => ∃ z i c, x = .str z ∧ y = .int i ∧ z.length ≤ sizeLine ∧ atI z.cps.toList i = some c ∧ Q (.str ⟨#[c]⟩) H
theorem ix_list : IxR X (rIxL X.K) := by
  intro value slice pins s σ H x y v u Q I rx ry h hs
  obtain ⟨p, xs, i, z, rfl, rfl, hq, he, q⟩ := h
  cases rx
  obtain ⟨t, rfl⟩ := ry
  obtain ⟨its, r, pl, hz⟩ := I.list hq
  obtain ⟨j, h1, h2, h3, h4, h5⟩ := atI_get he
  obtain ⟨w, ew, rw'⟩ := r.get h2
  have hl := r.length
  have hn := line63
  have fin : EP X pins σ Q w s := ⟨z, H, I, rw', q⟩
  by_cases h0 : 0 ≤ i
  · have hj : i.toNat = j := by
      rw [seqIndex_of h0 h5] at h1
      exact Option.some.inj h1
    exact item_listR pl.isList h0 (by omega) (by rw [hj]; simpa using ew) fin hs
  · have hj : (i + (its.toArray.size : Int)).toNat = j := by
      rw [seqIndex_neg (by omega) h4] at h1
      rw [List.size_toArray, ← hl]
      exact Option.some.inj h1
    exact subscriptTail_builtinR (x := w) pl.isList.typeIs slot_list_getitem.lookup
      (wpAny_getItem_list_neg (Q := fun r s' => r = w ∧ EP X pins σ Q r s') pl.isList (by omega) (by rw [List.size_toArray] <;> omega) (by omega) (by rw [hj]; simpa using ew) ⟨rfl, fin⟩) hs
theorem ix_tup : IxR X (rIxT X.K) := by
  intro value slice pins s σ H x y v u Q I rx ry h hs
  obtain ⟨p, xs, i, z, rfl, rfl, hq, he, q⟩ := h
  cases rx
  obtain ⟨t, rfl⟩ := ry
  obtain ⟨its, r, pl, hz⟩ := I.tuple hq
  obtain ⟨j, h1, h2, h3, h4, h5⟩ := atI_get he
  obtain ⟨w, ew, rw'⟩ := r.get h2
  have hl := r.length
  have hn := line63
  have fin : EP X pins σ Q w s := ⟨z, H, I, rw', q⟩
  exact subscriptTail_builtinR (x := w) pl.typeIs slot_tuple_getitem.lookup
    (getItem_tuple (j := j) (Q := fun r s' => r = w ∧ EP X pins σ Q r s') pl (by omega) (by omega) (by rw [List.size_toArray, ← hl]; exact h1) (by simpa using ew) ⟨rfl, fin⟩) hs
theorem ix_str : IxR X rIxS := by
  intro value slice pins s σ H x y v u Q I rx ry h hs
  obtain ⟨z, i, c, rfl, rfl, hz, he, q⟩ := h
  obtain ⟨t, rfl⟩ := rx
  obtain ⟨t', rfl⟩ := ry
  obtain ⟨j, h1, h2, h3, h4, h5⟩ := atI_get he
  have hl : z.cps.toList.length = z.length := by simp [Str.length]
  rw [hl] at h1 h4 h5
  have hn := line63
  exact tail_any (typeIs_str s z t) slot_str_getitem.lookup (getItem_str (c := c) (by
    have e1 : decide (i < -(2 ^ 63 : Int)) = false := decide_eq_false (by omega)
    have e2 : decide (i ≥ 2 ^ 63) = false := decide_eq_false (by omega)
    rw [e1, e2, Bool.or_false]) (by rw [h1]; simpa using h2) ⟨.str ⟨#[c]⟩, H, I.tok _, ⟨_, rfl⟩, q⟩) hs
noncomputable def rIx (K : PySem.W.Frag) : R2 := fun x y H Q => rIxL K x y H Q ∨ rIxT K x y H Q ∨ rIxS x y H Q
theorem ix_seq : IxR X (rIx X.K) := ix_list.or (ix_tup.or ix_str)
theorem slice_bounds (lo hi : Option Int) (n : Nat) : (sliceBounds lo hi none n).1 = ((HT.sIx n 0 lo : Nat) : Int) ∧ (sliceBounds lo hi none n).2.1 = ((HT.sIx n n hi : Nat) : Int) ∧ (sliceBounds lo hi none n).2.2 = 1 := by
  refine ⟨?_, ?_, rfl⟩
  · cases lo with
    | none => simp [sliceBounds, HT.sIx]
    | some i =>
      simp only [sliceBounds, HT.sIx, Option.getD_none, show (1 : Int) > 0 by decide, if_true]
      by_cases h : i < 0
      · simp only [h, if_true] <;> omega
      · simp only [h, if_false] <;> omega
  · cases hi with
    | none => simp [sliceBounds, HT.sIx]
    | some i =>
      simp only [sliceBounds, HT.sIx, Option.getD_none, show (1 : Int) > 0 by decide, if_true]
      by_cases h : i < 0
      · simp only [h, if_true] <;> omega
      · simp only [h, if_false] <;> omega
theorem slicePick_cut (its : List Value) (lo hi : Option Int) : slicePick its.toArray lo hi none = ((its.drop (HT.sIx its.length 0 lo)).take (HT.sIx its.length its.length hi - HT.sIx its.length 0 lo)).toArray := by
  obtain ⟨h1, h2, h3⟩ := slice_bounds lo hi its.toArray.size
  unfold slicePick
  rw [h1, h2, h3]
  simp only [sliceRange_one, pick_run, List.size_toArray] <;> rfl
noncomputable def rSlL (K : PySem.W.Frag) : V → Option Int → Option Int → Hp → VK → Prop := fun x lo hi H Q => ∃ a xs, x = .ref a ∧ SqL K H a xs ∧ ∀ p, H p = none → Q (.ref p) (upd H p (.lst (cutV xs lo hi)))
theorem sl_list : SlR X (rSlL X.K) := by
  intro pins s σ H x v vl vu lo hi sl Q I rx hs pl pu h
  obtain ⟨a, xs, rfl, hx, q⟩ := h
  cases rx
  obtain ⟨its, r, ht, hz⟩ := I.list hx
  have hlen := r.length
  refine ⟨"list", _, slot_list_getitem.lookup, ht.isList.typeIs, ?_⟩
  refine wpAny_getItem_list_slice ht.isList hs pl pu .none (by simp) ?_ (by rw [List.size_toArray] <;> omega)
  rw [slicePick_cut, ← hlen]
  refine ⟨.ref s.heap.objs.size, _, I.laid (t' := s.toks) (o := .lst (cutV xs lo hi)) (fun b ob q => Heap.get?_push_of_some _ q) (Nat.le_refl _) ?_, rfl, q _ (I.hok.fresh (Nat.le_refl _))⟩
  exact ⟨Nat.le_trans (cutV_length xs lo hi) hz, _, 0, (r.drop (HT.sIx xs.length 0 lo)).take (HT.sIx xs.length xs.length hi - HT.sIx xs.length 0 lo), Heap.get?_push_size _ rfl⟩
theorem call_list_of : CallR X (.type "list") (fun xs H Q => ∃ p ys, xs = [.ref p] ∧ (SqL X.K H p ys ∨ SqT X.K H p ys) ∧ ∀ l, H l = none → Q (.ref l) (upd H l (.lst ys))) := by
  intro pins s σ H xs us Q I r h
  obtain ⟨p, ys, rfl, hq, q⟩ := h
  obtain ⟨u, rfl, rx⟩ := vals1 r
  cases rx
  have fin : ∀ (its : List Value), Vals ys its → ys.length ≤ sizeLine → ∀ (h' : Heap) (c' : Nat), (∀ b o', s.heap.get? b = some o' → h'.get? b = some o') →
      h'.get? s.heap.objs.size = some { cls := .type "list", dict := none, data := .seq its.toArray c', slots := #[] } → EP X pins σ Q (.ref s.heap.objs.size) { s with heap := h' } := fun its r' hz h' c' kp e =>
    ⟨.ref s.heap.objs.size, _, I.laid (t' := s.toks) kp (Nat.le_refl _) (show ObjOk X.prog X.w _ h' _ (.lst ys) from ⟨hz, its, c', r', e⟩), rfl, q _ (I.hok.fresh (Nat.le_refl _))⟩
  rcases hq with hq | hq
  · obtain ⟨its, r', pl, hz⟩ := I.list hq
    have hlen := r'.length
    obtain ⟨o, ho, hc, n, hd⟩ := pl.isList
    exact call_list_seq p (.inl rfl) ho hc hd (fun h' c' kp e => fin its r' hz h' c' kp e) (by simp only [List.size_toArray] <;> omega)
  · obtain ⟨its, r', pl, hz⟩ := I.tuple hq
    have hlen := r'.length
    obtain ⟨o, ho, hc, n, hd⟩ := pl
    exact call_list_seq p (.inr rfl) ho hc hd (fun h' c' kp e => fin its r' hz h' c' kp e) (by simp only [List.size_toArray] <;> omega)
theorem call_tuple_of : CallR X (.type "tuple") (fun xs H Q => ∃ p ys, xs = [.ref p] ∧ ((SqL X.K H p ys ∧ ∀ l, H l = none → Q (.ref l) (upd H l (.tup ys))) ∨ (SqT X.K H p ys ∧ Q (.ref p) H))) := by
  intro pins s σ H xs us Q I r h
  obtain ⟨p, ys, rfl, h⟩ := h
  obtain ⟨u, rfl, rx⟩ := vals1 r
  cases rx
  rcases h with ⟨hq, q⟩ | ⟨hq, q⟩
  · obtain ⟨its, r', pl, hz⟩ := I.list hq
    have hlen := r'.length
    refine call_tuple_list pl.isList (fun h' kp => ?_) (by simp only [List.size_toArray] <;> omega)
    have I1 : Inv X pins σ H { s with heap := h' } := I.kept (t' := s.toks) kp
    have I2 : Inv X pins σ (upd H h'.objs.size (.tup ys)) { s with heap := h'.push { cls := .type "tuple", data := .seq its.toArray } } :=
      I1.laid (t' := s.toks) (fun b o e => Heap.get?_push_of_some _ e) (Nat.le_refl _) (show ObjOk X.prog X.w _ _ _ (.tup ys) from ⟨hz, its, r', IsTup.new _ _⟩)
    exact ⟨.ref h'.objs.size, _, I2, rfl, q _ (I1.hok.fresh (Nat.le_refl _))⟩
  · obtain ⟨its, r', pl, hz⟩ := I.tuple hq
    exact call_tuple_same pl ⟨.ref p, H, I, rfl, q⟩
noncomputable def tyV (K : PySem.W.Frag) (T : String) (x : V) (H : Hp) : Prop := match x with
  | .str _ => T = "str"
  | .int _ => T = "int"
  | .ref p => (T = "list" ∧ ∃ xs, SqL K H p xs) ∨ (T = "tuple" ∧ ∃ o, K.lookup p = some o ∧ o.cls = .type "tuple" ∧ o.dict = none) ∨
      (T = "dict" ∧ ((∃ kvs, H p = some (.dK kvs)) ∨ ∃ kvs, H p = some (.dT kvs))) ∨ (T = "set" ∧ ∃ S n, H p = some (.set S n))
  | _ => False
theorem tyV_is {pins : List (Addr × Obj)} {σ : St} {H : Hp} {s : Shared} {T : String} {x : V} {v : Value} (I : Inv X pins σ H s) (r : RelV x v) (ty : tyV X.K T x H) :
    s.TypeIs v T ∧ ∀ a, v = .ref a → ∃ ob, s.heap.get? a = some ob ∧ ob.dict = none := by
  cases x with
  | str z =>
    obtain ⟨t, rfl⟩ := r
    cases (show T = "str" from ty)
    exact ⟨typeIs_str s z t, fun _ e => nomatch e⟩
  | int i =>
    obtain ⟨t, rfl⟩ := r
    cases (show T = "int" from ty)
    exact ⟨typeIs_int s i t, fun _ e => nomatch e⟩
  | ref p =>
    cases r
    rcases ty with ⟨rfl, xs, hq⟩ | ⟨rfl, o, hk, hc, hd⟩ | ⟨rfl, hk⟩ | ⟨rfl, S, n, hk⟩
    · obtain ⟨its, _, pl, _⟩ := I.list hq
      refine ⟨pl.isList.typeIs, fun a e => ?_⟩
      cases e
      obtain ⟨o, n, e, c, hd, _⟩ := pl
      exact ⟨o, e, hd⟩
    · refine ⟨⟨o, I.kIn p o hk, hc⟩, fun a e => ?_⟩
      cases e
      exact ⟨o, I.kIn _ o hk, hd⟩
    · have z : ∃ o, s.heap.get? p = some o ∧ o.ExactDict := by
        rcases hk with ⟨kvs, hk⟩ | ⟨kvs, hk⟩
        · obtain ⟨_, _, _, _, o, _, _, e, ex, _⟩ := I.hok p _ hk
          exact ⟨o, e, ex⟩
        · obtain ⟨_, _, _, _, o, _, _, e, ex, _⟩ := I.hok p _ hk
          exact ⟨o, e, ex⟩
      obtain ⟨o, e, ex⟩ := z
      refine ⟨⟨o, e, ex.1⟩, fun a e2 => ?_⟩
      cases e2
      exact ⟨o, e, ex.2.1⟩
    · obtain ⟨o, _, _, _, e, ex, _⟩ := I.hok p _ hk
      refine ⟨⟨o, e, ex.1⟩, fun a e2 => ?_⟩
      cases e2
      exact ⟨o, e, ex.2.1⟩
  | _ => exact False.elim ty
noncomputable def tBM0 (K : PySem.W.Frag) (T : String) (r : V → List V → Hp → VK → Prop) (to : TE) : TE := fun σ H Q => to σ H fun x H1 => tyV K T x H1 ∧ r x [] H1 Q
noncomputable def tBM (K : PySem.W.Frag) (T : String) (r : V → List V → Hp → VK → Prop) (to : TE) (t : TA) : TE := fun σ H Q => to σ H fun x H1 => tyV K T x H1 ∧ t σ H1 fun xs H2 => r x xs H2 Q
variable {o e : Expr} {es : List Expr} {to : TE} {t : TA} {name : Str} {apos cpos : Pos} {T id : String} {r : V → List V → Hp → VK → Prop}
theorem pe_bm0 (pa : PlainAttrs T) (slot : Slot T name id) (hty : typeOf (.builtin id) = pure (.type "method_descriptor")) (hm : MtR X id r) (ho : PE X o to)
    (hbase : attributeBase o name X.env (eval o X.env) = eval o X.env := by rfl) (hline : (apos.endLine == cpos.line) = true := by rfl) : PE X (.Call (.Attribute o name apos) [] [] cpos) (tBM0 X.K T r to) := by
  intro pins s σ H Q I h
  refine wpAny_Call_method0_late hbase hline (thn (ho pins s σ H _ I h) fun v s1 ⟨x, H1, I1, r1, ty, q1⟩ => ?_)
  obtain ⟨h1, h2⟩ := tyV_is I1 r1 ty
  exact ⟨T, id, pa, slot, hty, h1, h2, Calls.callWith_builtin rfl (PySem.evalArgs_none (hm pins s1 σ H1 x [] v [] Q I1 r1 .nil q1))⟩
theorem pe_bm (pa : PlainAttrs T) (slot : Slot T name id) (hty : typeOf (.builtin id) = pure (.type "method_descriptor")) (hm : MtR X id r) (ho : PE X o to) (ha : PA X (e :: es) t)
    (hbase : attributeBase o name X.env (eval o X.env) = eval o X.env := by rfl)
    (hfew : ((backTo cpos (starEach (e :: es) X.env)).all (fun x => !x.1) && (backToKw cpos (keywordEach [] X.env)).all (fun x => x.1.isSome)
      && decide ((e :: es).length + ([] : List Keyword).length + (if ([] : List Keyword).isEmpty then 0 else 1) < 30)) = true := by rfl)
    (hline : (apos.endLine == cpos.line) = true := by rfl) (hs : starEach (e :: es) X.env = (false, eval e X.env) :: starEach es X.env := by rfl) (hplain : (backTo cpos (starEach es X.env)).any (·.1) = false := by rfl) :
    PE X (.Call (.Attribute o name apos) (e :: es) [] cpos) (tBM X.K T r to t) := by
  intro pins s σ H Q I h
  refine wpAny_Call_method_late hbase hfew hline rfl (thn (ho pins s σ H _ I h) fun v s1 ⟨x, H1, I1, r1, ty, q1⟩ => ?_)
  obtain ⟨h1, h2⟩ := tyV_is I1 r1 ty
  refine ⟨T, id, pa, slot, hty, h1, h2, ?_⟩
  have hA := ha cpos pins s1 σ H1 _ I1 q1
  rw [hs] at hA ⊢
  refine Calls.callWith_builtin (by show (false || (backTo cpos (starEach es X.env)).any (·.1)) = false; rw [hplain] <;> rfl) (Calls.evalArgs_plain ?_)
  exact thn hA fun us s2 ⟨vs, H2, I2, r2, q2⟩ => hm pins s2 σ H2 x vs v us Q I2 r1 r2 q2
/- xs.append(e), list.index on a module's tuple .. are MtR facts of 06m -/
end
end L2
namespace L2
open PySem PySem.Spec PyProof.Rows
noncomputable def MtM (X : Cx) (id : String) (r : V → List V → Hp → VK → Prop) : Prop :=
  ∀ (pins : List (Addr × Obj)) (s : Shared) (σ : St) (H : Hp) (x : V) (xs : List V) (v : Value) (us : List Value) (Q : VK), Inv X pins σ H s → RelV x v → Vals xs us → r x xs H Q →
    wpAny (model X.prog X.w) X.A (call (.builtin id) (v :: us)) (EP X pins σ Q) X.xe s
theorem Vals.one : ∀ {x : V} {us : List Value}, Vals [x] us → ∃ u, us = [u] ∧ RelV x u
  | _, _, .cons r .nil => ⟨_, rfl, r⟩
theorem Vals.zero : ∀ {us : List Value}, Vals [] us → us = []
  | _, .nil => rfl
theorem Vals.dropLast {xs : List V} {us : List Value} (h : Vals xs us) : Vals xs.dropLast us.dropLast := by
  induction h with
  | nil => exact .nil
  | cons r t ih =>
    cases t with
    | nil => exact .nil
    | cons q t' => exact .cons r ih
theorem Vals.rep {xs : List V} {us : List Value} (h : Vals xs us) : ∀ k : Nat, Vals (List.replicate k xs).flatten (List.replicate k us).flatten
  | 0 => .nil
  | k + 1 => by
    rw [List.replicate_succ, List.replicate_succ, List.flatten_cons, List.flatten_cons]
    exact Vals.append h (Vals.rep h k)
theorem erase_last {α : Type} (l : List α) : l.eraseIdx (l.length - 1) = l.dropLast := by
  induction l with
  | nil => rfl
  | cons a r ih =>
    cases r with
    | nil => rfl
    | cons b r =>
      have e : (a :: b :: r).length - 1 = ((b :: r).length - 1) + 1 := by
        have h1 : (a :: b :: r).length = r.length + 2 := rfl
        have h2 : (b :: r).length = r.length + 1 := rfl
        omega
      rw [e, List.eraseIdx_cons_succ, ih]
      all_goals rfl
theorem foldl_rep (its : List Value) : ∀ (k : Nat) (acc : List Value),
    List.foldl (fun x1 x2 => x1 ++ x2) acc.toArray (List.replicate k its.toArray) = (acc ++ (List.replicate k its).flatten).toArray
  | 0, acc => by simp
  | k + 1, acc => by
    have e : acc.toArray ++ its.toArray = (acc ++ its).toArray := by simp
    have e2 : (acc ++ its) ++ (List.replicate k its).flatten = acc ++ (List.replicate (k + 1) its).flatten := by
      rw [List.replicate_succ, List.flatten_cons, List.append_assoc]
    rw [← e2, ← foldl_rep its k (acc ++ its), ← e, List.replicate_succ, List.foldl_cons]
section
variable {X : Cx} {pins : List (Addr × Obj)} {σ : St} {H : Hp} {s : Shared} {l b : Addr} {xs ys zs : List V}
theorem Inv.lset {its its' : List Value} {n : Nat} {f : Array Value → Array Value} {t' : Nat} (I : Inv X pins σ H s) (hH : H l = some (.lst xs))
    (e : s.heap.get? l = some { cls := .type "list", data := .seq its.toArray n }) (hf : f its.toArray = its'.toArray) (hv : Vals ys its') (hz : ys.length ≤ sizeLine) :
    Inv X pins σ (upd H l (.lst ys)) { s with heap := s.heap.update l (Obj.mapSeq f), toks := t' } := by
  have q := PySem.IsL.update e f
  rw [hf] at q
  refine I.write (x := l) (e := l) (by rw [hH]; exact trivial) (.inl rfl) (fun b' u hb hu => (Heap.get?_update_other s.heap (Obj.mapSeq f) (Ne.symm hb)).trans hu) ⟨_, q⟩ ?_
  exact ⟨hz, its', _, hv, q⟩
theorem Inv.lnew {its : List Value} {t' : Nat} (I : Inv X pins σ H s) (hv : Vals ys its) (hz : ys.length ≤ sizeLine) :
    Inv X pins σ (upd H s.heap.objs.size (.lst ys)) { s with heap := s.heap.push { cls := .type "list", data := .seq its.toArray }, toks := t' } :=
  I.laid (fun _ _ q => Heap.get?_push_of_some _ q) (Nat.le_refl _) ⟨hz, its, 0, hv, Heap.get?_push_size _ rfl⟩
theorem Inv.fresh (I : Inv X pins σ H s) : H s.heap.objs.size = none := I.hok.fresh (Nat.le_refl _)
theorem Inv.lstM (I : Inv X pins σ H s) (hH : H l = some (.lst xs)) : xs.length ≤ sizeLine ∧ ∃ (its : List Value) (n : Nat), Vals xs its ∧ xs.length = its.length ∧ s.heap.get? l = some { cls := .type "list", data := .seq its.toArray n } := by
  obtain ⟨z, its, n, r, e⟩ := I.hok l _ hH
  exact ⟨z, its, n, r, r.length, e⟩
theorem notLongL {n : Nat} (h : n ≤ sizeLine) : Builtin.List.listTooLong n = false := by
  unfold Builtin.List.listTooLong
  exact decide_eq_false (by omega)
end
section
variable {X : Cx}
noncomputable def rAppend : V → List V → Hp → VK → Prop := fun x vs H Q => ∃ l xs y, x = .ref l ∧ vs = [y] ∧ H l = some (.lst xs) ∧ xs.length < sizeLine ∧ Q .non (upd H l (.lst (xs ++ [y])))
theorem mt_append : MtM X "list.append" rAppend := by
  intro pins s σ H x vs v us Q I rx rv h
  obtain ⟨l, xs, y, rfl, rfl, hH, hz, q⟩ := h
  cases rx
  obtain ⟨u, rfl, ru⟩ := rv.one
  obtain ⟨z, its, n, r, hl, e⟩ := I.lstM hH
  refine call_meets F.slot_list_append ⟨_, e, rfl⟩ F.entry_list_append (F.args_list_append_2 _ _) (PySem.list_append l its.toArray n u (by rw [List.size_toArray]; omega)) ⟨e, ?_⟩
  refine ⟨.non, _, I.lset (its' := its ++ [u]) hH e (by simp) (r.append (.cons ru .nil)) ?_, rfl, q⟩
  rw [List.length_append, List.length_singleton]
  omega
noncomputable def rPop : V → List V → Hp → VK → Prop := fun x vs H Q => ∃ l xs y, x = .ref l ∧ vs = [] ∧ H l = some (.lst xs) ∧ xs[xs.length - 1]? = some y ∧ Q y (upd H l (.lst xs.dropLast))
theorem mt_pop : MtM X "list.pop" rPop := by
  intro pins s σ H x vs v us Q I rx rv h
  obtain ⟨l, xs, y, rfl, rfl, hH, hy, q⟩ := h
  cases rx
  have hus := rv.zero
  subst hus
  obtain ⟨z, its, n, r, hl, e⟩ := I.lstM hH
  obtain ⟨u, hu, ru⟩ := r.get hy
  have hy' : its.toArray[its.toArray.size - 1]? = some u := by
    show its.toArray[its.length - 1]? = some u
    rw [← Array.getElem?_toList, ← hl]
    exact hu
  refine call_meets F.slot_list_pop ⟨_, e, rfl⟩ F.entry_list_pop (F.args_list_pop_1 _) (MeetsSeq.list_pop_last l its.toArray n u hy' (by rw [List.size_toArray]; omega)) ⟨e, ?_⟩
  refine ⟨y, _, I.lset (its' := its.dropLast) hH e ?_ r.dropLast ?_, ru, q⟩
  · show its.toArray.eraseIdxIfInBounds (its.toArray.size - 1) = its.dropLast.toArray
    rw [List.size_toArray, List.eraseIdxIfInBounds_toArray, erase_last]
  · rw [List.length_dropLast]
    omega
noncomputable def rCat : R2 := fun x y H Q => ∃ l b xs zs, x = .ref l ∧ y = .ref b ∧ H l = some (.lst xs) ∧ H b = some (.lst zs) ∧ xs.length + zs.length ≤ sizeLine ∧ ∀ p, H p = none → Q (.ref p) (upd H p (.lst (xs ++ zs)))
theorem op_cat : OpR X (binaryOp .Add) rCat := by
  intro pins s σ H x y v u Q I rx ry h
  obtain ⟨l, b, xs, zs, rfl, rfl, hH, hB, hz, q⟩ := h
  cases rx
  cases ry
  obtain ⟨z, its, n, r, hl, e⟩ := I.lstM hH
  obtain ⟨z2, its2, n2, r2, hl2, e2⟩ := I.lstM hB
  refine PySem.P.add_list e e2 ?_ (by rw [List.size_toArray, List.size_toArray]; omega)
  have ea : its.toArray ++ its2.toArray = (its ++ its2).toArray := by simp
  rw [ea]
  exact ⟨.ref _, _, I.lnew (t' := s.toks) (r.append r2) (by rw [List.length_append]; omega), rfl, q _ I.fresh⟩
noncomputable def rRep : R2 := fun x y H Q => ∃ l k xs, x = .ref l ∧ y = .int k ∧ H l = some (.lst xs) ∧ -(2 ^ 63) ≤ k ∧ k < 2 ^ 63 ∧ xs.length * k.toNat ≤ sizeLine ∧
  ∀ p, H p = none → Q (.ref p) (upd H p (.lst (List.replicate k.toNat xs).flatten))
theorem len_rep {α : Type} (xs : List α) (k : Nat) : (List.replicate k xs).flatten.length = k * xs.length := by
  induction k with
  | zero => simp
  | succ k ih => rw [List.replicate_succ, List.flatten_cons, List.length_append, ih, Nat.succ_mul, Nat.add_comm]
theorem op_rep : OpR X (binaryOp .Mult) rRep := by
  intro pins s σ H x y v u Q I rx ry h
  obtain ⟨l, k, xs, rfl, rfl, hH, h1, h2, hz, q⟩ := h
  cases rx
  obtain ⟨t, rfl⟩ := ry
  obtain ⟨z, its, n, r, hl, e⟩ := I.lstM hH
  have hlen : its.toArray.size * k.toNat ≤ sizeLine := by rw [List.size_toArray, ← hl]; exact hz
  have hcap : ¬ its.toArray.size * k.toNat > (2 ^ 63 - 1) / 8 := by
    have : (sizeLine : Nat) ≤ (2 ^ 63 - 1) / 8 := by decide
    omega
  have hfit : ¬ (!Builtin.List.listFitsIndex k) = true := by
    rw [fitsIndex_both h1 h2]
    exact Bool.false_ne_true
  have hlong : ¬ Builtin.List.listTooLong (its.toArray.size * k.toNat) = true := by
    rw [notLongL hlen]
    exact Bool.false_ne_true
  have hnew : List.foldl (fun x1 x2 => x1 ++ x2) #[] (List.replicate (if its.toArray.isEmpty = true then 0 else k.toNat) its.toArray) = (List.replicate k.toNat its).flatten.toArray := by
    have f0 : ∀ m : Nat, List.foldl (fun x1 x2 => x1 ++ x2) #[] (List.replicate m its.toArray) = (List.replicate m its).flatten.toArray := fun m => by
      have := foldl_rep its m []
      rw [List.nil_append] at this
      exact this
    rw [f0]
    cases its with
    | nil => simp
    | cons a r' => rw [if_neg (by simp)]
  refine wpAny_binaryOp_repeat_ref (T := "list") (U := "int") (by decide) ⟨_, e, rfl⟩ (fun s' => typeIs_int s' k t) noFill_list_mul F.fills_int_mul F.slot_int_rmul repeat_list F.slot_int_index.lookup
    (call_meets F.slot_int_rmul (typeIs_int s k t) F.entry_int_rmul (F.args_int_rmul_2 _ _) (int___rmul___int_list k t l its.toArray n)
      ⟨e, rfl, ⟨_, e, rfl⟩, call_meets F.slot_list_mul ⟨_, e, rfl⟩ F.entry_list_mul (F.args_list_mul_2 _ _) (AutoListH.list___mul___list_int_3 l its.toArray n k t hfit hcap hlong) ⟨e, ?_⟩⟩)
  rw [hnew]
  exact ⟨.ref _, _, I.lnew (t' := s.toks) (r.rep k.toNat) (by rw [len_rep, Nat.mul_comm]; exact hz), rfl, q _ I.fresh⟩
end
section
variable {prog : Program} {w : World} {A : Around} {E : Value → Shared → Prop} {s : Shared}
end
section
variable {X : Cx}
end
end L2
namespace Att
open PySem PySem.W PySem.Calls PyProof.Rows
theorem ints_of_wellAll {P : Params} {h : Heap} : ∀ (ns : List Int) (vs : List Value), WellAll P h vs (ns.map WData.int) → IntsAre vs ns := by
  intro ns
  induction ns with
  | nil =>
    intro vs w
    rw [List.map_nil] at w
    cases w
    exact .nil
  | cons n ns ih =>
    intro vs w
    rw [List.map_cons] at w
    cases w with
    | cons a b =>
      cases a
      exact .cons _ _ (ih _ b)
theorem script_of {l : OpenLaw} {n : Nat} (hn : l.most = some n) {P : Params} {h : Heap} {args : List WData} {vals : List Value}
    (hpre : l.row.toRowW.claim.pre args = true) (hwl : WellAll P h vals args) :
    ∃ a vs ns, vals = [Value.ref a] ∧ args = [WData.list (ns.map WData.int)] ∧ h.get? a = some { cls := .type "list", data := .seq vs.toArray } ∧ IntsAre vs ns ∧ ns.length ≤ n := by
  have hsh : WShape.hasAll [] args [.list .int] = true := (pre_splitW hpre).1
  have hc : l.pre.holds [] { args := args } = true := (pre_splitW hpre).2
  obtain ⟨d, r, rfl, h1, h2⟩ := hasAllW_cons hsh
  obtain rfl := hasAllW_nil h2
  obtain ⟨xs, rfl, h3⟩ := hasW_list h1
  obtain ⟨ns, rfl⟩ := items_int h3
  have hlen : ns.length ≤ n := by
    unfold OpenLaw.pre at hc
    have h4 : (WTm.not (.lt (.lit (.int (n : Int))) (.len (.arg 0)))).holds [] { args := [.list (ns.map .int)] } = true := by
      have h4 := (holds_andW hc).1
      rw [hn] at h4
      exact h4
    have h5 := condW_of h4 (w_not (w_lt w_lit (w_len_list (w_arg rfl))))
    rw [List.length_map] at h5
    refine Nat.le_of_not_lt fun q => ?_
    have q' : (n : Int) < ((ns.length : Nat) : Int) := by omega
    first
      | (rw [decide_eq_true q'] at h5; exact absurd h5 (by decide))
      | (simp at h5; omega)
  cases hwl with
  | cons w1 w2 =>
    cases w2
    cases w1 with
    | list ho hall => exact ⟨_, _, ns, rfl, rfl, ho, ints_of_wellAll ns _ hall, hlen⟩
theorem post_true (l : OpenLaw) (args : List WData) : l.row.toRowW.claim.post args (.bool true) args = true :=
  postW_of (r := l.row.toRowW) (X := (true == true))
    (show WShape.has [] (.bool true) .bool = true by first | rfl | decide | simp [WShape.has, WShape.arms, WShape.armsAll])
    (show (WTm.eq .res (.lit (.bool true))).value [] { args := args, res := some (.bool true), after := args } = some (.bool (true == true)) from w_eq_bool (w_res rfl) w_lit) rfl
theorem attach_call {l : OpenLaw} {n : Nat} {q : Program} {loose : List Str} {XP : (Str → Option Value) → Heap → Prop} {YP : World → Heap → Prop} {d : DefRec}
    (hn : l.most = some n) (hdf : d.params.defaults = [])
    (call : ∀ (w : World) (s₀ s₁ : Shared) (mg mb : Str → Option Value) (fa : Addr) (o : Obj) (pm cd doc : Value) (a : Addr) (vs : List Value) (ns : List Int),
      Ground q loose [] XP w s₀ mg mb s₁.heap → YP w s₁.heap →
      s₁.heap.get? fa = some o → o.data = .func (docDef d.name d.params d.body d.scope pm cd doc) → s₁.heap.CodeRec cd d.name → mg d.name = some (.ref fa) →
      s₁.heap.get? a = some { cls := .type "list", data := .seq vs.toArray } → IntsAre vs ns → ns.length ≤ n → s₁.gens = #[] →
      codeAny (model l.prog w) callerA (.call (.ref fa) ⟨[.ref a], []⟩) (fun r s' => r = .ok (.ret (.bool true)) ∧ OldK s₁.heap s'.heap ∧ s'.os = s₁.os ∧ AllBare s'.gens) s₁) :
    WalkO q loose XP YP l.row.toRowW d [] (fun f vs => PySem.call f vs) := by
  intro w s₀ s₁ mg mb G Y fa o pm cd doc dV kV ho hd hcd hD hmg hg args vals as hpre hlay hrd hwl hlo
  obtain rfl : dV = .none := Dflts.none hD hdf
  obtain rfl : kV = .none := Dflts.noKw hD
  obtain ⟨a, vs, ns, rfl, rfl, hobj, hints, hlen⟩ := script_of hn hpre hwl
  refine enter_call (codeAny_mono (call w s₀ s₁ mg mb fa o pm cd doc a vs ns G Y ho (fd_plain hd) hcd hmg hobj hints hlen hg) fun r s' hq => ?_)
  obtain ⟨rfl, h2, h3, h4⟩ := hq
  exact ⟨.inl ⟨.bool true, .bool true, [], rfl, fun _ => rfl, .bool true, post_true l _, fun _ => ⟨List.Pairwise.nil, fun _ hm => (nomatch hm)⟩⟩, h2, h3, h4⟩
section
variable {prog : Program} {w : World} {A : Around} {E : Value → Shared → Prop} {s : Shared} {K : Frag}
end
end Att
namespace L2
open PySem PySem.Spec PyProof.Rows
theorem vals_ints : ∀ {vs : List Value} {ns : List Int}, IntsAre vs ns → Vals (ns.map V.int) vs
  | _, _, .nil => .nil
  | _, _, .cons n t h => .cons ⟨t, rfl⟩ (vals_ints h)
noncomputable def Only (H : Hp) : Prop := ∀ b, H b = none ∨ ∃ o xs, H b = some (.frz o (.lst xs))
theorem law_call {P : Program} {w : World} {K : PySem.W.Frag} {mg mb : Str → Option Value} {CX : CXT} {k : Nat} {fa a : Addr} {fd : FuncData} {x : Str} {sp : Sp} {s₁ : Shared} {vs : List Value} {ns : List Int}
    (KX : K.In s₁.heap) (hns : s₁.heap.Ns mainGlobals mg) (hb : s₁.heap.Ns builtinsNs mb) (hbb : ∀ x : Str, x ≠ "__name__" → mb x = bootBuiltins x) (hlim : s₁.heap.NoLimit) (hg : s₁.gens = #[])
    (ha : s₁.heap.get? a = some { cls := .type "list", data := .seq vs.toArray }) (hi : IntsAre vs ns) (hl : ns.length ≤ sizeLine) (hr : Room k callerA)
    (F : ∀ base : Heap, K.In base → base.Ns mainGlobals mg → FnOk P w K mg base CX k fa fd [x] sp) (hbind : ∀ (s : Shared) (u : Value), BindsTo s fd ⟨[u], []⟩ [(x, u)])
    (hsp : ∀ H : Hp, Only H → SqL K H a (ns.map V.int) → sp [.ref a] H (fun v _ => v = .bl true) fun _ _ _ => False)
    (hCX : ∀ H e s', CX [] H s₁ (fun _ _ _ => False) e s' → False) :
    codeAny (model P w) callerA (.call (.ref fa) ⟨[.ref a], []⟩) (fun r s' => r = .ok (.ret (.bool true)) ∧ OldK s₁.heap s'.heap ∧ s'.os = s₁.os ∧ AllBare s'.gens) s₁ := by
  have rv := vals_ints hi
  have lenV := hi.length
  have core : ∀ H : Hp, Only H → SqL K H a (ns.map V.int) → HOk P w H s₁.heap → (∀ b, H b ≠ none → b = a) → (H a ≠ none → K.lookup a = none) →
      codeAny (model P w) callerA (.call (.ref fa) ⟨[.ref a], []⟩) (fun r s' => r = .ok (.ret (.bool true)) ∧ OldK s₁.heap s'.heap ∧ s'.os = s₁.os ∧ AllBare s'.gens) s₁ := by
    intro H hO hS hok hA hK
    have base_of : ∀ {b : Addr} {o : Obj}, s₁.heap.get? b = some o → H b = none → (hidT s₁.heap H).get? b = some o := fun e n => hidT_get e n
    have noA : ∀ {b : Addr} {o : Obj} {es : Array DictEntry} {ep : Nat}, s₁.heap.get? b = some o → o.data = .dict es ep → H b = none := fun {b o es ep} e d => by
      cases q : H b with
      | none => rfl
      | some u =>
        have e' : b = a := hA b (by rw [q]; simp)
        subst e'
        rw [ha] at e; cases e
        have d' : Data.seq vs.toArray _ = Data.dict es ep := d
        cases d'
    have nsK : ∀ {b : Addr} {m : Str → Option Value}, s₁.heap.Ns b m → (hidT s₁.heap H).Ns b m := fun {b m} ⟨o, es, ep, e, d, r⟩ => ⟨o, es, ep, base_of e (noA e d), d, r⟩
    have hKb : K.In (hidT s₁.heap H) := fun b o e => base_of (KX b o e) (by
      cases q : H b with
      | none => rfl
      | some u =>
        have e' : b = a := hA b (by rw [q]; simp)
        subst e'
        rw [hK (by rw [q]; simp)] at e; cases e)
    have hM : Mod K mg (hidT s₁.heap H) := ⟨hKb, nsK hns, ⟨mb, nsK hb, hbb⟩, let ⟨mc, h1, h2⟩ := hlim; ⟨mc, nsK h1, h2⟩⟩
    have e0 : Env0 P w K mg (hidT s₁.heap H) callerA [] s₁ H := ⟨rfl, hM, fun b o e => of_hidT e, Nat.le_of_eq (hidT_size _ _), trivial, fun b hb => absurd (show b ∈ ([] : List Addr) from hb) (by simp), hok, .of_eq hg⟩
    refine codeAny_mono ((F _ hKb (nsK hns)).run callerA [] s₁ H ⟨[.ref a], []⟩ [.ref a] [.ref a] _ _ hr e0 (hbind s₁ (.ref a)) (.cons rfl .nil) (hsp H hO hS)) fun r s' h => ?_
    cases r with
    | error e => exact (hCX H e s' h).elim
    | ok fl =>
      cases fl with
      | next => exact False.elim h
      | brk => exact False.elim h
      | cont => exact False.elim h
      | ret u =>
        obtain ⟨v, H', os, bare, un, hok', r', q⟩ := h
        have q' : v = .bl true := q
        subst q'
        obtain rfl : u = Value.bool true := r'
        refine ⟨rfl, OldK.of_keep fun b o e => ?_, os, bare⟩
        cases q : H b with
        | none => exact un.keep b o e q (by intro z; exact absurd (show b ∈ ([] : List Addr) from z) (by simp)) (by simp)
        | some u =>
          rcases hO b with z | ⟨ob, xs, z⟩
          · rw [q] at z; cases z
          · have z2 := un.frzs b ob _ z
            obtain ⟨e1, _⟩ := hok b _ z
            obtain ⟨e2, _⟩ := hok' b _ z2
            rw [e] at e1; cases e1
            exact e2
  cases hk : K.lookup a with
  | some o =>
    have e := KX a o hk
    rw [ha] at e
    cases e
    refine core (fun _ => none) (fun _ => .inl rfl) (.inr ⟨_, vs.toArray, _, hk, rfl, rfl, rfl, by rw [List.size_toArray, lenV]; exact hl, by simpa using rv⟩) (fun b u z => by have z' : (none : Option HO) = some u := z; cases z') (fun b z => absurd rfl z) fun z => absurd rfl z
  | none =>
    refine core (fun b => if b = a then some (.frz { cls := .type "list", data := .seq vs.toArray } (.lst (ns.map V.int))) else none) (fun b => ?_) (.inl (.inr ⟨{ cls := .type "list", data := .seq vs.toArray }, if_pos rfl⟩)) (fun b u z => ?_) (fun b z => ?_) fun _ => hk
    · by_cases hb : b = a
      · exact .inr ⟨_, _, if_pos hb⟩
      · exact .inl (if_neg hb)
    · by_cases hb : b = a
      · have z' := (if_pos hb).symm.trans z
        cases z'
        subst hb
        exact ⟨ha, by rw [List.length_map]; exact hl, vs, _, rv, ha⟩
      · have z' := (if_neg hb).symm.trans z
        cases z'
    · by_cases hb : b = a
      · exact hb
      · exact absurd (if_neg hb) z
end L2
namespace L2
open PySem PySem.Spec PyProof.Rows
theorem walk_of {l : PySem.W.OpenLaw} {n k : Nat} {q : Program} {loose : List Str} {XP : (Str → Option Value) → Heap → Prop} {YP : World → Heap → Prop} {d : DefRec} {K : Params → PySem.W.Frag} {CX : World → CXT} {sp : World → Sp} {x : Str}
    (hn : l.most = some n) (hn2 : n ≤ sizeLine) (hdf : d.params.defaults = []) (hr : Room k callerA)
    (hY : ∀ (w : World) (h : Heap), YP w h → (K w.params).In h)
    (F : ∀ (w : World) (mg : Str → Option Value) (fa : Addr) (h : Heap), (K w.params).In h → h.Ns mainGlobals mg → mg d.name = some (.ref fa) →
      ∃ fd : FuncData, (∀ (s : Shared) (u : Value), BindsTo s fd ⟨[u], []⟩ [(x, u)]) ∧
        ∀ base : Heap, (K w.params).In base → base.Ns mainGlobals mg → FnOk l.prog w (K w.params) mg base (CX w) k fa fd [x] (sp w))
    (hsp : ∀ (w : World) (H : Hp) (a : Addr) (ns : List Int), ns.length ≤ n → Only H → SqL (K w.params) H a (ns.map V.int) → sp w [.ref a] H (fun v _ => v = .bl true) fun _ _ _ => False)
    (hCX : ∀ (w : World) (H : Hp) (s : Shared) (e : Value) (s' : Shared), CX w [] H s (fun _ _ _ => False) e s' → False) :
    PySem.W.WalkO q loose XP YP l.row.toRowW d [] (fun f vs => PySem.call f vs) := by
  refine Att.attach_call hn hdf fun w s₀ s₁ mg mb fa o pm cd doc a vs ns G Y ho hd hcd hmg hobj hints hlen hg => ?_
  have KX := hY w _ Y
  obtain ⟨fd, hb, hF⟩ := F w mg fa _ KX G.T.g hmg
  exact law_call KX G.T.g G.T.b G.T.builtins G.T.nolimit hg hobj hints (Nat.le_trans hlen hn2) hr hF hb (fun H hO hS => hsp w H a ns hlen hO hS) fun H e s' => hCX w H s₁ e s'
end L2
/- THE LAST THEOREM (shape; LID, My.* are yours):
   My.Adr: a structure of the addresses that your layer names (classes, functions); My.Txt K t: a structure (Prop) of the equations over K;
   My.txt_mk : {K} {implicit addresses ..} (e1 : nsIn K mainGlobals "law" = some (some (.ref f))) (e2 : K.lookup f = some ⟨oc, od, .func (fnOf "law" "law" params body scope dV kV doc pm an cdv ct), sl⟩) (e3 : codeIn K cdv "law" = true) .. : ∃ t, My.Txt K t
set_option maxRecDepth 100000 in
set_option maxHeartbeats 0 in
theorem PySem.Challenge.cw_LID_holds : PySem.Challenge.rw_LID.Holds := by
  w_on; o_law; k_head; (case hw => w_witness2)
  k_fill
  refine L2.walk_of (l := PySem.Challenge.rw_LID) (n := 63) (k := 40) (x := "script") (CX := fun w => ..) (sp := fun _ => My.sp_law) rfl (by decide) rfl ⟨rfl, by decide, by decide⟩ (fun w h Y => PySem.W.kIn_of Y) ?F ?S ?C
  case F =>
    intro w mg fa h KX G hmg
    have T : ∃ t, My.Txt (L2.KOf KX) t := by
      dsimp only [L2.KOf]                          -- K must stand as «<heap const> w.params» for k_is
      refine' My.txt_mk ?e1 ?e2 ?e3 ..
      (case e1 => PySem.W.k_is)                    -- in the order: a name -> its address -> its object -> its parts
      (case e2 => PySem.W.k_is)
      ..
    obtain ⟨t, T⟩ := T
    have e0 := hmg.symm.trans (PySem.W.mg_of KX G T.law)
    cases e0                                       -- fa is the law's own address
    exact ⟨_, fun s u => .of_eq rfl, fun base kb nb => My.law_fn T kb nb⟩     -- if «.of_eq rfl» comes too early: refine' ⟨_, ?b, fun base kb nb => My.law_fn T kb nb⟩; exact fun s u => .of_eq rfl
  case S => exact fun w H a ns hl hO hS => ..
  case C => exact ..
(the tactic k_is has no namespace: write k_is) -/
namespace L2
open PySem PySem.Spec PyProof.Rows
noncomputable def defArgs (s : Stmt) : Arguments := match s with
  | .FunctionDef _ a _ _ _ _ _ _ _ _ => a
  | _ => { posonlyargs := [], args := [], vararg := none, kwonlyargs := [], kw_defaults := [], kwarg := none, defaults := [] }
noncomputable def defBody (s : Stmt) : List Stmt := match s with
  | .FunctionDef _ _ b _ _ _ _ _ _ _ => b
  | _ => []
noncomputable def defScope (s : Stmt) : Scope := match s with
  | .FunctionDef _ _ _ _ _ _ sc _ _ _ => sc
  | _ => { kind := .function, names := [], isGenerator := false, isCoroutine := false }
noncomputable abbrev CX0 : CXT := fun _ _ _ _ _ _ => False
noncomputable abbrev E0 : XK := fun _ _ _ => False
theorem pass0 {X : Cx} : Passes CX0 X E0 := fun _ _ _ _ _ _ _ h => h.elim
structure Fun (K : PySem.W.Frag) (x qual : Str) (st : Stmt) (f : Addr) (fd : FuncData) : Prop where
  ex : ∃ (oc : Value) (od : Option Addr) (kV doc pm : Value) (an : Option Addr) (cdv ct : Value) (osl : Array (Option Value)),
    fd = PySem.W.fnOf x qual (defArgs st) (defBody st) (defScope st) .none kV doc pm an cdv ct ∧ K.lookup f = some ⟨oc, od, .func fd, osl⟩ ∧ PySem.W.codeIn K cdv qual = true
  kp : PySem.W.keepIn K (.ref f) = true
section
variable {P : Program} {w : World} {K : PySem.W.Frag} {mg : Str → Option Value} {base : Heap}
theorem Fun.ok {x qual : Str} {st : Stmt} {f : Addr} {fd : FuncData} {N ps : List Str} {k : Nat} {sp : Sp} (F : Fun K x qual st f fd) (S : FnScope N ps (defScope st)) (len : ∀ vs H Q E, sp vs H Q E → vs.length = ps.length)
    (hbody : ∀ (cdv : Value) (A : Around) (outer : List Env) (s : Shared) (H : Hp) (vs : List V) (Q : VK) (E : XK), Room k (A.deeper (envOfC qual (defScope st) s.heap.objs.size f cdv)) → sp vs H Q E →
      ∃ t, PSs (cxOf CX0 P w K mg base N qual (defScope st) f cdv A outer s H E).nox (defBody st) t ∧ t { nx := fun _ H' => Q .non H', rt := Q } (start N vs) H) : FnOk P w K mg base CX0 (k + 1) f fd ps sp := by
  obtain ⟨oc, od, kV, doc, pm, an, cdv, ct, osl, rfl, lk, hcd⟩ := F.ex
  refine fn_of lk hcd S len fun A outer s H vs Q E hr hsp => ?_
  obtain ⟨t, h, q⟩ := hbody cdv A outer s H vs Q E hr hsp
  exact ⟨t, h.nox, q⟩
theorem Fun.binds {x qual : Str} {st : Stmt} {f : Addr} {fd : FuncData} {ps : List Str} (F : Fun K x qual st f fd)
    (h : ∀ (kV doc pm : Value) (an : Option Addr) (cdv ct : Value) (us : List Value), us.length = ps.length → bindArgs (PySem.W.fnOf x qual (defArgs st) (defBody st) (defScope st) .none kV doc pm an cdv ct) ⟨us, []⟩ = pure (ps.zip us)) : Binds K fd ps [] := by
  obtain ⟨oc, od, kV, doc, pm, an, cdv, ct, osl, rfl, lk, hcd⟩ := F.ex
  exact .all (h kV doc pm an cdv ct)
theorem fun_mk {x qual : Str} {st : Stmt} {f : Addr} {oc : Value} {od an : Option Addr} {osl : Array (Option Value)} {kV doc pm cdv ct : Value} (l : K.lookup f = some ⟨oc, od, .func (PySem.W.fnOf x qual (defArgs st) (defBody st) (defScope st) .none kV doc pm an cdv ct), osl⟩)
    (c : PySem.W.codeIn K cdv qual = true) (k : PySem.W.keepIn K (.ref f) = true) : Fun K x qual st f (PySem.W.fnOf x qual (defArgs st) (defBody st) (defScope st) .none kV doc pm an cdv ct) := ⟨⟨oc, od, kV, doc, pm, an, cdv, ct, osl, rfl, l, c⟩, k⟩
end
theorem hu_of {A : Around} {k : Nat} (hr : Room k A) : A.units + 1 < cLine := Nat.lt_of_le_of_lt (Nat.add_le_add_left (by decide : 1 ≤ 64) _) hr.units
section
variable {X : Cx}
theorem call_lenD : CallR X (.builtin "len") (fun xs H Q => ∃ a kvs, xs = [V.ref a] ∧ H a = some (.dK kvs) ∧ Q (.int kvs.length) H) := by
  intro pins s σ H xs us Q I r h
  obtain ⟨a, kvs, rfl, ha, q⟩ := h
  obtain ⟨u, rfl, ru⟩ := vals1 r
  cases ru
  exact d_len I (.inl ha) fun t s' I' => ⟨.int kvs.length, H, I', ⟨t, rfl⟩, q⟩
end
theorem iteF {A B : Prop} (h : B) : if false = true then A else B := by
  rw [if_neg Bool.false_ne_true]
  exact h
theorem iteT {A B : Prop} (h : A) : if true = true then A else B := by
  rw [if_pos rfl]
  exact h
theorem ite2 {c A B : Prop} [Decidable c] (h1 : c → A) (h2 : ¬ c → B) : if c then A else B := by
  by_cases h : c
  · rw [if_pos h]
    exact h1 h
  · rw [if_neg h]
    exact h2 h
noncomputable def Same (H H' : Hp) : Prop := ∀ b o, H b = some o → H' b = some o
theorem Same.refl (H : Hp) : Same H H := fun _ _ h => h
theorem Same.trans {H H1 H2 : Hp} (a : Same H H1) (b : Same H1 H2) : Same H H2 := fun c o h => b c o (a c o h)
theorem Same.free {H H' : Hp} (e : Same H H') {l : Addr} (h : H' l = Option.none) : H l = Option.none := by
  cases q : H l with
  | none => rfl
  | some o =>
    rw [e l o q] at h
    cases h
theorem Same.seq {K : PySem.W.Frag} {H H' : Hp} {a : Addr} {xs : List V} (e : Same H H') (h : SqL K H a xs) : SqL K H' a xs := by
  rcases h with (h | ⟨o, h⟩) | h
  · exact .inl (.inl (e _ _ h))
  · exact .inl (.inr ⟨o, e _ _ h⟩)
  · exact .inr h
section
variable {κ : Type} [DecidableEq κ]
end
end L2
set_option Elab.async false
set_option linter.all false
set_option maxRecDepth 100000
set_option maxHeartbeats 4000000
namespace L2
open PySem PySem.Spec PyProof.Rows
section
variable {X : Cx} {pins : List (Addr × Obj)} {σ : List (Option V)} {H : Hp} {s : Shared}
theorem HOk.track {P : Program} {w : World} {h : Heap} {D : Addr} {o : HO} (ok : HOk P w H h) (hn : H D = none) (new : ObjOk P w (upd H D o) h D o) : HOk P w (upd H D o) h := fun b u e => by
  by_cases hb : b = D
  · subst hb; rw [upd_same] at e; cases e; exact new
  · rw [upd_ne hb] at e
    refine (ok b u e).stay (fun _ _ _ q => q) (fun c q => ?_) (fun c xs q => ?_)
    · rw [upd_ne (ne_of_none q hn)]; exact q
    · rw [upd_ne (ne_of_none q hn)]; exact q
theorem Inv.track {D : Addr} {o : HO} (I : Inv X pins σ H s) (hn : H D = none) (hD : X.s₀.heap.objs.size ≤ D) (hL : D ≠ X.env.locals) (hc : ∀ x c, X.env.cells.lookup x = some c → c ≠ D) (hp : ∀ p ∈ X.pn ++ pins, p.1 ≠ D)
    (new : ObjOk X.prog X.w (upd H D o) s.heap D o) : Inv X pins σ (upd H D o) s := by
  refine ⟨I.ok, I.os, I.bare, ⟨I.base.keep, I.base.slot, fun b ob e n hx => ?_, I.base.there, fun b xs e => ?_, fun b ob u e => ?_, fun b ps e => ?_⟩, I.loc, I.cell, ?_, fun x c e => ?_, fun p hp' => ?_, I.hok.track hn new, I.len⟩
  · rw [upd_ne (Nat.ne_of_lt (Nat.lt_of_lt_of_le (Heap.lt_size e) hD))]; exact I.base.free b ob e n hx
  · have q := I.base.tups b xs e; rw [upd_ne (ne_of_none q hn)]; exact q
  · have q := I.base.frzs b ob u e; rw [upd_ne (ne_of_none q hn)]; exact q
  · obtain ⟨m, q⟩ := I.base.tbls b ps e; exact ⟨m, by rw [upd_ne (ne_of_none q hn)]; exact q⟩
  · rw [upd_ne (Ne.symm hL)]; exact I.free
  · rw [upd_ne (hc x c e)]; exact I.freeC x c e
  · obtain ⟨e, n, a, b, d⟩ := I.pin p hp'
    exact ⟨e, by rw [upd_ne (hp p hp')]; exact n, a, b, d⟩
end
noncomputable def clOf (env : Env) : List (Str × NameKind) → List (Str × Addr) → List (Str × Addr)
  | [], acc => acc
  | (n, k) :: r, acc => clOf env r (if k == NameKind.free then (n, (env.cells.lookup n).getD 0) :: acc else acc)
theorem closure_go (env : Env) : ∀ (l : List (Str × NameKind)) (acc : List (Str × Addr)), (∀ n, (n, NameKind.free) ∈ l → ∃ c, env.cells.lookup n = some c) →
    (forIn l acc (fun (x : Str × NameKind) (r : List (Str × Addr)) => if (x.2 == NameKind.free) = true then (do let a ← cellOf env x.1; pure (ForInStep.yield ((x.1, a) :: r))) else pure (ForInStep.yield r)) : Sem (List (Str × Addr))) = pure (clOf env l acc)
  | [], acc, _ => rfl
  | (n, k) :: r, acc, h => by
    rw [List.forIn_cons]
    by_cases hk : (k == NameKind.free) = true
    · have e : k = .free := by simpa using hk
      subst e
      obtain ⟨c, hc⟩ := h n List.mem_cons_self
      have e1 : cellOf env n = pure c := by unfold cellOf; rw [hc]
      have e2 : ((NameKind.free == NameKind.free) = true) = True := by simp
      simp only [e2, if_true, e1, pure_bind]
      rw [closure_go env r _ fun m hm => h m (List.mem_cons_of_mem _ hm)]
      show _ = pure (clOf env r (if (NameKind.free == NameKind.free) = true then (n, (env.cells.lookup n).getD 0) :: acc else acc))
      simp only [e2, if_true, hc, Option.getD_some]
    · simp only [if_neg hk, pure_bind]
      rw [closure_go env r _ fun m hm => h m (List.mem_cons_of_mem _ hm)]
      show _ = pure (clOf env r (if (k == NameKind.free) = true then (n, (env.cells.lookup n).getD 0) :: acc else acc))
      rw [if_neg hk]
theorem closureFor_eq {scope : Scope} {env : Env} (h : ∀ n, (n, NameKind.free) ∈ scope.names → ∃ c, env.cells.lookup n = some c) : closureFor scope env = pure (clOf env scope.names []) := by
  unfold closureFor
  have e := closure_go env scope.names [] h
  first
    | exact e
    | (simp only [bind_pure]; exact e)
    | (rw [show (forIn scope.names ([] : List (Str × Addr)) _ : Sem (List (Str × Addr))) = _ from e]; rfl)
theorem clOf_mem (env : Env) : ∀ (l : List (Str × NameKind)) (acc : List (Str × Addr)) (x : Str) (c : Addr), (clOf env l acc).lookup x = some c → acc.lookup x = some c ∨ (x, NameKind.free) ∈ l ∧ c = (env.cells.lookup x).getD 0
  | [], acc, x, c, h => .inl h
  | (n, k) :: r, acc, x, c, h => by
    rcases clOf_mem env r _ x c h with e | ⟨e1, e2⟩
    · by_cases hk : (k == NameKind.free) = true
      · rw [if_pos hk] at e
        have ek : k = .free := by simpa using hk
        subst ek
        rw [List.lookup_cons] at e
        by_cases hx : (x == n) = true
        · have ex : x = n := by simpa using hx
          subst ex
          rw [hx] at e
          exact .inr ⟨List.mem_cons_self, (Option.some.inj e).symm⟩
        · have hx' : (x == n) = false := by simpa using hx
          rw [hx'] at e
          exact .inl e
      · rw [if_neg hk] at e
        exact .inl e
    · exact .inr ⟨List.mem_cons_of_mem _ e1, e2⟩
theorem clOf_has (env : Env) : ∀ (l : List (Str × NameKind)) (acc : List (Str × Addr)) (x : Str), ((x, NameKind.free) ∈ l ∨ ∃ c, acc.lookup x = some c) → ∃ c, (clOf env l acc).lookup x = some c
  | [], acc, x, h => by
    rcases h with h | h
    · simp at h
    · exact h
  | (n, k) :: r, acc, x, h => by
    refine clOf_has env r _ x ?_
    rcases h with h | ⟨c, h⟩
    · rcases List.mem_cons.mp h with e | e
      · injection e with e1 e2
        subst e1 e2
        right
        exact ⟨(env.cells.lookup x).getD 0, by rw [if_pos (by rfl), List.lookup_cons]; simp⟩
      · exact .inl e
    · right
      by_cases hk : (k == NameKind.free) = true
      · rw [if_pos hk, List.lookup_cons]
        by_cases hx : (x == n) = true
        · rw [hx]; exact ⟨_, rfl⟩
        · have hx' : (x == n) = false := by simpa using hx
          rw [hx']; exact ⟨c, h⟩
      · rw [if_neg hk]; exact ⟨c, h⟩
theorem lookup_relabel {scope : Scope} {env : Env} {x : Str} {k : NameKind} : ∀ {names : List (Str × NameKind)}, (names.map fun (n, k) => if (k == NameKind.free && env.scope.kind == .function && env.kindOf n == some .cell) then (n, NameKind.cell) else (n, k)).lookup x = some k →
    names.lookup x = some k ∨ (k = .cell ∧ names.lookup x = some .free)
  | [], h => by simp at h
  | (n, j) :: r, h => by
    have ih := @lookup_relabel scope env x k r
    rw [List.map_cons, List.lookup_cons] at h
    rw [List.lookup_cons]
    by_cases hc : (j == NameKind.free && env.scope.kind == .function && env.kindOf n == some .cell) = true
    · simp only [hc, if_true] at h
      cases hx : x == n with
      | true =>
        rw [hx] at h
        have ej : j = .free := by
          simp only [Bool.and_eq_true] at hc
          simpa using hc.1.1
        exact .inr ⟨(Option.some.inj h).symm, by rw [ej]⟩
      | false => rw [hx] at h; exact ih h
    · simp only [if_neg hc] at h
      cases hx : x == n with
      | true => rw [hx] at h; exact .inl h
      | false => rw [hx] at h; exact ih h
theorem relabel_free {scope : Scope} {env : Env} {x : Str} : ∀ {names : List (Str × NameKind)}, names.lookup x = some .free → ∃ k, (k = NameKind.cell ∨ k = .free) ∧
    (names.map fun (n, k) => if (k == NameKind.free && env.scope.kind == .function && env.kindOf n == some .cell) then (n, NameKind.cell) else (n, k)).lookup x = some k
  | [], h => by simp at h
  | (n, j) :: r, h => by
    have ih := @relabel_free scope env x r
    rw [List.lookup_cons] at h
    rw [List.map_cons, List.lookup_cons]
    by_cases hc : (j == NameKind.free && env.scope.kind == .function && env.kindOf n == some .cell) = true
    · simp only [hc, if_true]
      cases hx : x == n with
      | true => exact ⟨.cell, .inl rfl, rfl⟩
      | false => rw [hx] at h; exact ih h
    · simp only [if_neg hc]
      cases hx : x == n with
      | true => rw [hx] at h; exact ⟨.free, .inr rfl, h⟩
      | false => rw [hx] at h; exact ih h
noncomputable def capt (caps : List (Option Nat)) (σ : St) : St := caps.map fun o => o.bind fun i => (σ[i]?).getD none
noncomputable def capOk (XN : List Str) (env : Env) (scope : Scope) (N : List Str) (caps : List (Option Nat)) : Bool :=
  caps.length == N.length && (caps.zip N).all fun p => match p.1 with
    | none => scope.names.lookup p.2 == some .local
    | some i => XN[i]? == some p.2 && scope.names.lookup p.2 == some .free && (env.scope.names.lookup p.2 == some .cell || env.scope.names.lookup p.2 == some .free)
noncomputable def blk (X : Cx) (scope : Scope) (N : List Str) (s₀ : Shared) (H₀ : Hp) (C : Addr) (fp : List Addr) : Cx where
  prog := X.prog
  w := X.w
  K := X.K
  mg := X.mg
  base := X.base
  A := X.A
  N := N
  s₀ := s₀
  H₀ := H₀
  env := compEnvC scope (clOf X.env scope.names []) C X.env
  outer := X.stack
  stack := X.stack
  ex := fp
  fn := fun _ => false
  calm := X.calm
  pn := []
  xe := fun _ _ => False
structure BlkScope (scope : Scope) (N : List Str) : Prop where
  kind : scope.kind = .function
  nd : N.Nodup
  nocell : ∀ y ∈ scope.names, y.2 ≠ .cell
  names : ∀ y ∈ scope.names, scope.names.lookup y.1 = some y.2
section
variable {X : Cx} {pins : List (Addr × Obj)} {σ : List (Option V)} {H : Hp} {s : Shared}
theorem capOk_at {XN : List Str} {env : Env} {scope : Scope} {N : List Str} {caps : List (Option Nat)} (h : capOk XN env scope N caps = true) :
    caps.length = N.length ∧ ∀ (j i : Nat) (x : Str), caps[j]? = some (some i) → N[j]? = some x → XN[i]? = some x ∧ scope.names.lookup x = some .free ∧ (env.kindOf x = some .cell ∨ env.kindOf x = some .free) := by
  unfold capOk at h
  rw [Bool.and_eq_true] at h
  obtain ⟨h1, h2⟩ := h
  refine ⟨by simpa using h1, fun j i x e1 e2 => ?_⟩
  have hm : (some i, x) ∈ caps.zip N := by
    refine List.mem_of_getElem? (i := j) ?_
    rw [List.getElem?_zip_eq_some]
    exact ⟨e1, e2⟩
  have q := List.all_eq_true.mp h2 _ hm
  simp only [Bool.and_eq_true, Bool.or_eq_true, beq_iff_eq] at q
  exact ⟨q.1.1, q.1.2, q.2⟩
theorem Inv.block {scope : Scope} {N : List Str} {caps : List (Option Nat)} {C : Addr} {fp : List Addr} {s1 : Shared} {h1 : Heap} {tk : Nat} {m : Str → Option Value} (S : BlkScope scope N) (hcap : capOk X.N X.env scope N caps = true)
    (hfree : ∀ n, (n, NameKind.free) ∈ scope.names → ∃ c, X.env.cells.lookup n = some c)
    (I : Inv X pins σ H s) (hf : ∀ b ∈ fp, FpOk X pins H b) (hfl : ∀ b ∈ fp, b < s.heap.objs.size) (hC : s.heap.objs.size ≤ C) (hk : ∀ b o, s.heap.get? b = some o → h1.get? b = some o) (hn : h1.Ns C m) :
    Inv (blk X scope N s H C fp) [] (capt caps σ) H { s with heap := h1, toks := tk } := by
  obtain ⟨hlen, hat⟩ := capOk_at hcap
  have clsub : ∀ x c, (clOf X.env scope.names []).lookup x = some c → X.env.cells.lookup x = some c := fun x c e => by
    rcases clOf_mem X.env scope.names [] x c e with z | ⟨z1, z2⟩
    · simp at z
    · obtain ⟨c', hc'⟩ := hfree x z1
      rw [hc', z2, hc']; rfl
  have clt : ∀ x c, X.env.cells.lookup x = some c → c < s.heap.objs.size := fun x c e => by
    obtain ⟨v, o, ho, _⟩ := I.cell x c e
    exact Heap.lt_size ho
  have relk : ∀ x, ((compEnvC scope (clOf X.env scope.names []) C X.env).kindOf x = some .cell ∨ (compEnvC scope (clOf X.env scope.names []) C X.env).kindOf x = some .free) → (x, NameKind.free) ∈ scope.names := fun x hx => by
    have sub : ∀ k, (compEnvC scope (clOf X.env scope.names []) C X.env).kindOf x = some k → scope.names.lookup x = some k ∨ (k = .cell ∧ scope.names.lookup x = some .free) := fun k e => lookup_relabel (scope := scope) (env := X.env) e
    rcases hx with e | e
    · rcases sub _ e with z | ⟨_, z⟩
      · exact absurd rfl (S.nocell _ (PySem.mem_of_lookup z))
      · exact PySem.mem_of_lookup z
    · rcases sub _ e with z | ⟨z, _⟩
      · exact PySem.mem_of_lookup z
      · cases z
  refine ⟨⟨I.ok.mod, S.kind, I.ok.glob, I.ok.blt, hC, fun x y c e1 e2 => I.ok.inj x y c (clsub x c e1) (clsub y c e2), fun x hx => ?_, fun x c z _ => absurd (show false = true from z) Bool.false_ne_true, I.ok.hd, I.ok.frames, .inl rfl, fun b hb => ?_, I.bs, Nat.le_trans I.ok.bsz I.sz, fun b o e hb => ?_, fun b hb hb2 => ?_, I.stack, I.stkFree⟩,
    rfl, I.bare, Un.kept hk, ⟨m, hn, fun j x v e1 e2 e3 => ?_⟩, fun x c e => ?_, I.hok.fresh hC, fun x c e => I.freeC x c (clsub x c e), fun p hp => absurd (show p ∈ ([] : List (Addr × Obj)) from hp) (by simp), I.hok.kept hk, ?_⟩
  · exact clOf_has X.env scope.names [] x (.inl (relk x hx))
  · exact ⟨Nat.ne_of_lt (Nat.lt_of_lt_of_le (hfl b hb) hC), fun x c e => (hf b hb).2.2.2.2.1 x c (clsub x c e)⟩
  · rcases (hf b hb).2.2.2.1 with z | z
    · exact I.ok.noex b o e z
    · exact absurd (Nat.lt_of_lt_of_le (Heap.lt_size e) (Nat.le_trans I.ok.bsz z)) (Nat.lt_irrefl _)
  · rcases List.mem_cons.mp (I.stkSub b hb2) with z | z
    · exact (hf b hb).2.1 z
    · exact (hf b hb).2.2.1 z
  · have e2' : (capt caps σ)[j]? = some (some v) := e2
    unfold capt at e2'
    rw [List.getElem?_map] at e2'
    cases hc : caps[j]? with
    | none => rw [hc] at e2'; cases e2'
    | some o =>
      rw [hc] at e2'
      cases o with
      | none => cases e2'
      | some i =>
        have e4 : (σ[i]?).getD none = some v := Option.some.inj e2'
        have e5 : σ[i]? = some (some v) := by
          cases q : σ[i]? with
          | none => rw [q] at e4; cases e4
          | some y => rw [q] at e4; exact congrArg some e4
        obtain ⟨a1, a2, a3⟩ := hat j i x hc e1
        obtain ⟨mX, hnX, hl⟩ := I.loc
        obtain ⟨u, r, l⟩ := hl i x v a1 e5 (a3.elim (fun z => .inr (.inl z)) fun z => .inr (.inr z))
        refine ⟨u, r, .inr ?_⟩
        obtain ⟨c, hcx, cell⟩ : ∃ c, X.env.cells.lookup x = some c ∧ s.heap.IsCell c (some u) := by
          rcases l with ⟨k, _⟩ | ⟨_, z⟩
          · rw [k] at a3; rcases a3 with z | z <;> cases z
          · exact z
        obtain ⟨k, hk2, hk3⟩ := relabel_free (scope := scope) (env := X.env) a2
        obtain ⟨c', hc'⟩ := clOf_has X.env scope.names [] x (.inl (PySem.mem_of_lookup a2))
        have hcc : c' = c := Option.some.inj ((clsub x c' hc').symm.trans hcx)
        subst hcc
        refine ⟨?_, c', hc', ?_⟩
        · rcases hk2 with z | z
          · subst z; exact .inl hk3
          · subst z; exact .inr hk3
        · obtain ⟨o, ho, hd⟩ := cell
          exact ⟨o, hk _ _ ho, hd⟩
  · obtain ⟨v, o, ho, hd⟩ := I.cell x c (clsub x c e)
    exact ⟨v, o, hk _ _ ho, hd⟩
  · show (capt caps σ).length = N.length
    unfold capt; rw [List.length_map]; exact hlen
end
end L2
set_option Elab.async false
set_option linter.all false
set_option maxRecDepth 100000
set_option maxHeartbeats 4000000
namespace L2
open PySem PySem.Spec PyProof.Rows
theorem codeAny_compLoop_own {prog : Program} {w : World} {A : Around} {R : Result → Shared → Prop} {s : Shared} {elt target iter : Expr} {ifs : List Expr} {scope : Scope} {pos : Pos} {it acc : Value} {env : Env} (I : Nat → Shared → Prop)
    (turn : ∀ n s, I n s → wpAny (model prog w) A (pyNext it) (fun r s₁ => match r with
      | none => R (.ok .next) s₁
      | some v => wpAny (model prog w) A (letOwnedTupleGo target it v) (fun _ s₁' => wpAny (model prog w) A (assign target env v) (fun _ s₂ =>
          wpAny (model prog w) A (forIn ifs true fun c r => if r = true then do let ok ← isTrue c env (eval c env); pure (ForInStep.yield ok) else pure (ForInStep.yield r)) (fun ok s₃ =>
            if ok = true then wpAny (model prog w) A (eval elt env) (fun x s₄ =>
              wpAny (model prog w) A (call (.builtin "list.append") [acc, x]) (fun _ s₅ => ∃ m, m < n ∧ I m s₅) (fun _ _ => False) s₄) (fun _ _ => False) s₃
            else ∃ m, m < n ∧ I m s₃) (fun _ _ => False) s₂) (fun _ _ => False) s₁') (fun _ _ => False) s₁) (fun _ _ => False) s)
    (n : Nat) (h : I n s) :
    codeAny (model prog w) A (.compLoop (.ListComp elt [⟨target, iter, ifs, 0⟩] scope pos) 0 it acc env) R s := by
  refine codeAny_loop rfl I (fun n s hI => ?_) n h
  show wpAny _ A ((compTurn (.ListComp elt [⟨target, iter, ifs, 0⟩] scope pos) 0 it acc env).onRaise (fun x => do noteFrame x env; theTreesLotGoes x)) _ _ s
  refine wpAny_noted ?_
  rw [compTurn_list]
  refine wpAny_noRaise ?_
  refine wpAny_bind (wpAny_standAt (wpAny_bind (wpAny_mono (turn n s hI) (fun r s₁ h₁ => ?_) fun _ _ h' => h')))
  cases r with
  | none => exact wpAny_pure h₁
  | some v =>
    refine wpAny_bind (wpAny_mono h₁ (fun _ s₁' h₁' => ?_) fun _ _ h' => h')
    refine wpAny_bind (wpAny_mono h₁' (fun _ s₂ h₂ => wpAny_bind (wpAny_mono h₂ (fun ok s₃ h₃ => ?_) fun _ _ h' => h')) fun _ _ h' => h')
    cases ok with
    | false => exact wpAny_pure ⟨rfl, h₃⟩
    | true =>
      exact wpAny_bind (wpAny_bind (wpAny_mono h₃ (fun x s₄ h₄ => wpAny_bind (wpAny_mono h₄ (fun _ s₅ h₅ => wpAny_pure (wpAny_pure ⟨rfl, h₅⟩)) fun _ _ h' => h')) fun _ _ h' => h'))
noncomputable def PTs (X : Cx) (ifs : List Expr) (t : TT) : Prop :=
  ∀ (pins : List (Addr × Obj)) (s : Shared) (σ : St) (H : Hp) (Q : Bool → Hp → Prop), Inv X pins σ H s → t σ H Q →
    wpAny (model X.prog X.w) X.A (forIn ifs true fun c r => if r = true then do let ok ← isTrue c X.env (eval c X.env); pure (ForInStep.yield ok) else pure (ForInStep.yield r)) (TP X pins σ Q) X.xe s
noncomputable def tYes : TT := fun _ H Q => Q true H
theorem pts_nil {X : Cx} : PTs X [] tYes := fun _ _ _ H _ I h => wpAny_tests_nil ⟨H, I, h⟩
theorem pts_one {X : Cx} {c : Expr} {t : TT} (h : PT X c t) : PTs X [c] t := fun pins s σ H Q I hw => wpAny_tests_one (h pins s σ H Q I hw)
noncomputable def tLoop (J : It) (g : TG) (tt : TT) (te : TE) (τ0 : St) (H : Hp) (Qd : List V → Hp → Prop) : Prop :=
  ∃ W : Nat → Nat → List V → St → Hp → Prop, (∃ m, W 0 m [] τ0 H) ∧ ∀ i m xs τ H, W i m xs τ H →
    (J.stop i H ∧ Qd xs H) ∨ (J.go i H ∧ ∃ M : List V → St → Hp → Prop, (∀ ys τ' H', M ys τ' H' → ∃ m', m' < m ∧ W (i + 1) m' ys τ' H') ∧ ∀ x H', J.yld i H x H' → g x τ H' fun τ2 H2 => tt τ2 H2 fun b H3 =>
      if b = true then te τ2 H3 fun v H4 => xs.length < sizeLine ∧ M (xs ++ [v]) τ2 H4 else M xs τ2 H3)
section
variable {X : Cx} {pins : List (Addr × Obj)} {σ : List (Option V)} {s : Shared}
noncomputable abbrev lobj (its : List Value) (k : Nat) : Obj := { cls := .type "list", data := .seq its.toArray k }
theorem comp_run {elt tg iter : Expr} {ifs : List Expr} {scope : Scope} {N : List Str} {caps : List (Option Nat)} {pos : Pos} {g : TG} {tt : TT} {te : TE} {J : It} {fp : List Addr} {it : Addr} {tn : Nat → Heap → Prop} {H2 : Hp} {s2 : Shared} {Qd : List V → Hp → Prop}
    {E : Value → Shared → Prop} {RR : Value → Addr → Result → Shared → Prop}
    (S : BlkScope scope N) (hcap : capOk X.N X.env scope N caps = true) (hfree : ∀ n, (n, NameKind.free) ∈ scope.names → ∃ c, X.env.cells.lookup n = some c) (hc : X.calm = true)
    (hg : ∀ s₀ H₀ C fp, PG (blk X scope N s₀ H₀ C fp) tg g) (ht : ∀ s₀ H₀ C fp, PTs (blk X scope N s₀ H₀ C fp) ifs tt) (he : ∀ s₀ H₀ C fp, PE (blk X scope N s₀ H₀ C fp) elt te)
    (I2 : Inv X pins σ H2 s2) (T : Turn X.prog X.w X.K tg J fp it tn) (st2 : tn 0 s2.heap) (f2 : ∀ b ∈ fp, FpOk X pins H2 b) (h : tLoop J g tt te (capt caps σ) H2 Qd)
    (hRR : ∀ (D C : Addr) m xs H3 (s4 : Shared), Inv X pins σ (upd H3 D (.lst xs)) s4 → H3 D = none → s4.heap.Ns C m → FpOk X pins (upd H3 D (.lst xs)) C → Qd xs H3 → RR (.ref D) C (.ok .next) s4) :
    wpAny (model X.prog X.w) X.A (newList []) (fun acc s₃ => wpAny (model X.prog X.w) X.A (newFunctionEnv scope X.env.globals (clOf X.env scope.names []) [] X.env.qual none .none (some X.env)) (fun cenv s₄ =>
      codeAny (model X.prog X.w) X.A (.compStart (.ListComp elt [⟨tg, iter, ifs, 0⟩] scope pos) 0 (.ref it) acc { cenv with scope := relabel scope X.env }) (RR acc cenv.locals) s₄) E s₃) E s2 := by
  have hfl : ∀ b ∈ fp, b < s2.heap.objs.size := fun b hb => by
    obtain ⟨o, e, _⟩ := T.obj 0 s2.heap st2 b hb
    exact Heap.lt_size e
  refine wpAny_newObj_type (wpAny_newFunctionEnv S.nocell (by intro y hy; simp at hy) (fun h₁ hns hsb => ?_) S.kind)
  dsimp only at hns hsb ⊢
  generalize hHD : s2.heap.push { cls := .type "list", dict := none, data := .seq ([] : List Value).toArray } = HD at hns hsb ⊢
  have hC : HD.objs.size = s2.heap.objs.size + 1 := by rw [← hHD, Heap.size_push]
  have hDC : s2.heap.objs.size ≠ HD.objs.size := by rw [hC]; exact Nat.ne_of_lt (Nat.lt_succ_self _)
  have hCle : s2.heap.objs.size ≤ HD.objs.size := by rw [hC]; exact Nat.le_succ _
  have old : ∀ b o, s2.heap.get? b = some o → h₁.get? b = some o := fun b o e =>
    hsb.extBut b o (by rw [hC]; exact Nat.ne_of_lt (Nat.lt_succ_of_lt (Heap.lt_size e))) (Heap.get?_push_of_some _ (hHD ▸ Heap.get?_push_of_some _ e))
  have hacc : h₁.get? s2.heap.objs.size = some (lobj [] 0) := hsb.extBut _ _ hDC (Heap.get?_push_of_some _ (hHD ▸ Heap.get?_push_size _ rfl))
  obtain ⟨W, ⟨m0, w0⟩, turn⟩ := h
  have IY0 := Inv.block (caps := caps) (C := HD.objs.size) (fp := fp) (s1 := s2) (h1 := h₁) (tk := s2.toks + ([] : List (Str × Value)).length) S hcap hfree I2 f2 hfl hCle old hns
  have freshD : H2 s2.heap.objs.size = none := I2.hok.fresh (Nat.le_refl _)
  have pinOf : ∀ {τ : St} {H' : Hp} {s' : Shared} {its : List Value} {k : Nat}, Inv (blk X scope N s2 H2 HD.objs.size fp) [] τ H' s' → H' s2.heap.objs.size = none → s'.heap.get? s2.heap.objs.size = some (lobj its k) →
      Inv (blk X scope N s2 H2 HD.objs.size fp) [(s2.heap.objs.size, lobj its k)] τ H' s' := fun {τ H' s' its k} I hn e => I.pins_of fun p hp => by
    have ep : p = (s2.heap.objs.size, lobj its k) := by simpa using hp
    subst ep
    exact ⟨e, hn, hDC, fun z => by
      rcases List.mem_cons.mp (I2.stkSub _ z) with q | q
      · exact absurd (q ▸ I2.lt) (Nat.lt_irrefl _)
      · exact I2.nofs (Nat.le_refl _) q, fun v z => by cases z⟩
  have fY : ∀ {H' : Hp} {its : List Value} {k : Nat}, (∀ b ∈ fp, H' b = none) → ∀ b ∈ fp, FpOk (blk X scope N s2 H2 HD.objs.size fp) [(s2.heap.objs.size, lobj its k)] H' b := fun {H' its k} hn b hb => by
    have z := f2 b hb
    refine ⟨hn b hb, Nat.ne_of_lt (Nat.lt_of_lt_of_le (hfl b hb) hCle), fun q => ?_, .inl hb, fun x c e => IY0.ok.exf b hb |>.2 x c e, fun p hp => ?_⟩
    · rcases List.mem_cons.mp (I2.stkSub b q) with q | q
      · exact z.2.1 q
      · exact z.2.2.1 q
    · have ep : p = (s2.heap.objs.size, lobj its k) := by
        have : p ∈ [] ++ [(s2.heap.objs.size, lobj its k)] := hp
        simpa using this
      subst ep
      exact Nat.ne_of_gt (hfl b hb)
  have fin : ∀ {τ : St} {H3 : Hp} {s4 : Shared} {xs : List V} {its : List Value} {k : Nat}, Inv (blk X scope N s2 H2 HD.objs.size fp) [(s2.heap.objs.size, lobj its k)] τ H3 s4 → Vals xs its → xs.length ≤ sizeLine → Qd xs H3 →
      RR (.ref s2.heap.objs.size) HD.objs.size (.ok .next) s4 := fun {τ H3 s4 xs its k} I r hz q => by
    have hD := I.pin (s2.heap.objs.size, lobj its k) (by show _ ∈ [] ++ [_]; simp)
    have IX : Inv X pins σ H3 s4 := I2.call' (s' := s4) (ch := fp) I.os I.base I.hok I.bare fun b hb => ⟨(f2 b hb).2.2.2.1, (f2 b hb).2.1, (f2 b hb).2.2.2.2.1, (f2 b hb).2.2.2.2.2⟩
    have fD : FpOk X pins H3 s2.heap.objs.size := I2.fpOk (Nat.le_refl _) hD.2.1
    have fC : FpOk X pins H3 HD.objs.size := I2.fpOk hCle I.free
    have IT : Inv X pins σ (upd H3 s2.heap.objs.size (.lst xs)) s4 := IX.track hD.2.1 I2.sz fD.2.1 (fun x c e => fD.2.2.2.2.1 x c e) (fun p hp => fD.2.2.2.2.2 p hp) ⟨hz, its, k, r, hD.1⟩
    obtain ⟨m, hn, _⟩ := I.loc
    exact hRR _ _ m xs H3 s4 IT hD.2.1 hn ⟨by rw [upd_ne (Ne.symm hDC)]; exact fC.1, fC.2⟩ q
  have loop : ∀ s₃ : Shared, s₃ = { s2 with heap := h₁, toks := s2.toks + ([] : List (Str × Value)).length } →
      codeAny (model X.prog X.w) X.A (.compLoop (.ListComp elt [⟨tg, iter, ifs, 0⟩] scope pos) 0 (.ref it) (.ref s2.heap.objs.size) (compEnvC scope (clOf X.env scope.names []) HD.objs.size X.env)) (RR (.ref s2.heap.objs.size) HD.objs.size) s₃ := by
    rintro s₃ rfl
    refine codeAny_compLoop_own (fun n s' => ∃ i xs its k τ H', Inv (blk X scope N s2 H2 HD.objs.size fp) [(s2.heap.objs.size, lobj its k)] τ H' s' ∧ tn i s'.heap ∧ (∀ b ∈ fp, H' b = none) ∧ Vals xs its ∧ xs.length ≤ sizeLine ∧ W i n xs τ H') ?_ m0
      ⟨0, [], [], 0, _, _, pinOf IY0 freshD hacc, T.keep 0 _ _ st2 fun b _ o e => old b o e, fun b hb => (f2 b hb).1, .nil, Nat.zero_le _, w0⟩
    rintro n s3 ⟨i, xs, its, k, τ, H3, I3, st3, fr3, r3, z3, w3⟩
    rcases turn i n xs τ H3 w3 with ⟨stop, qn⟩ | ⟨go, M, hM, step⟩
    · refine wpAny_mono (T.done (blk X scope N s2 H2 HD.objs.size fp) rfl rfl rfl hc i _ s3 τ H3 (fun _ _ => False) I3 (fY fr3) st3 stop) (fun r s4 ⟨hr, I4⟩ => ?_) fun _ _ z => z
      subst hr
      exact fin I4 r3 z3 qn
    · refine wpAny_mono (T.item (blk X scope N s2 H2 HD.objs.size fp) rfl rfl rfl hc i _ s3 τ H3 (fun _ _ => False) I3 (fY fr3) st3 go) (fun r s4 ⟨u, hr, h4⟩ => ?_) fun _ _ z => z
      subst hr
      refine wpAny_mono h4 (fun _ s5 ⟨x, H5, I5, r5, y5, st5, fr5⟩ => ?_) fun _ _ z => z
      have I5' := I5.pinned (fY fr5) (T.obj _ _ st5)
      have keepT : ∀ {τ7 : St} {H7 : Hp} {s7 : Shared}, Inv (blk X scope N s2 H2 HD.objs.size fp) ([(s2.heap.objs.size, lobj its k)] ++ pinsAt fp s5.heap) τ7 H7 s7 → tn (i + 1) s7.heap ∧ ∀ b ∈ fp, H7 b = none := fun {τ7 H7 s7} I7 => by
        refine ⟨T.keep _ _ _ st5 fun b hb o e => (I7.pin (b, o) (List.mem_append_right _ (List.mem_append_right _ (mem_pinsAt hb e)))).1, fun b hb => ?_⟩
        obtain ⟨o, e, d⟩ := T.obj _ _ st5 b hb
        exact (I7.pin (b, o) (List.mem_append_right _ (List.mem_append_right _ (mem_pinsAt hb e)))).2.1
      refine wpAny_mono (hg _ _ _ _ _ s5 τ H5 x u _ I5' r5 (step x H5 y5)) (fun _ s6 ⟨τ6, H6, I6, q6⟩ => ?_) fun _ _ z => z
      refine wpAny_mono (ht _ _ _ _ _ s6 τ6 H6 _ I6 q6) (fun ok s7 ⟨H7, I7, q7⟩ => ?_) fun _ _ z => z
      cases ok with
      | false =>
        rw [if_neg Bool.false_ne_true] at q7 ⊢
        obtain ⟨m', hm, w7⟩ := hM _ _ _ q7
        obtain ⟨a1, a2⟩ := keepT I7
        exact ⟨m', hm, i + 1, xs, its, k, τ6, H7, I7.unpinned, a1, a2, r3, z3, w7⟩
      | true =>
        rw [if_pos rfl] at q7 ⊢
        refine wpAny_mono (he _ _ _ _ _ s7 τ6 H7 _ I7 q7) (fun v s8 ⟨y, H8, I8, r8, q8⟩ => ?_) fun _ _ z => z
        obtain ⟨hz, q8⟩ := q8
        obtain ⟨m', hm, w8⟩ := hM _ _ _ q8
        obtain ⟨a1, a2⟩ := keepT I8
        have hD := I8.pin (s2.heap.objs.size, lobj its k) (List.mem_append_right _ (List.mem_append_left _ (by simp)))
        have hlen := r3.length
        refine wpAny_list_append_plain (items := its.toArray) ⟨k, hD.1⟩ (fun h' hp hs => ?_) (by rw [List.size_toArray]; omega)
        obtain ⟨k', hp⟩ := hp
        have I9 : Inv (blk X scope N s2 H2 HD.objs.size fp) [] τ6 H8 { s8 with heap := h' } :=
          (I8.pins_of (pins' := []) (by simp)).turned (t' := s8.toks) (it := s2.heap.objs.size) (fun b o hb e => (hs.2 b hb).trans e) hD.2.1 hD.2.2.1 (.inr (Nat.le_refl _))
            (fun x c e z => by
              have q := IY0.cell x c e
              obtain ⟨v, o, ho, hd⟩ := I8.cell x c e
              have e1 : s8.heap.get? s2.heap.objs.size = some (lobj its k) := hD.1
              rw [z, e1] at ho
              cases ho
              cases hd) (by intro p hp; exact absurd (show p ∈ ([] : List (Addr × Obj)) ++ [] from hp) (by simp))
        have hp' : ({ s8 with heap := h' } : Shared).heap.get? s2.heap.objs.size = some (lobj (its ++ [v]) k') := by
          show h'.get? _ = _
          rw [hp]; simp
        have hkt : tn (i + 1) h' := T.keep _ _ _ a1 fun b hb o e => (hs.2 b (Nat.ne_of_lt (hfl b hb))).trans e
        refine ⟨m', hm, i + 1, xs ++ [y], its ++ [v], k', τ6, H8, pinOf I9 hD.2.1 hp', hkt, a2, r3.append (.cons r8 .nil), ?_, w8⟩
        rw [List.length_append]
        exact hz
  exact codeAny_compStart_list (loop _ rfl) (T.self X.A 0 _ _ _ (T.keep 0 _ _ st2 fun b _ o e => old b o e) (loop _ rfl))
noncomputable def freeOk (env : Env) (scope : Scope) : Bool := scope.names.all fun p => p.2 != .free || env.scope.names.lookup p.1 == some .cell || env.scope.names.lookup p.1 == some .free
theorem Inv.freeOk {H : Hp} {scope : Scope} (I : Inv X pins σ H s) (h : freeOk X.env scope = true) : ∀ n, (n, NameKind.free) ∈ scope.names → ∃ c, X.env.cells.lookup n = some c := fun n hn => by
  have q := List.all_eq_true.mp h _ hn
  simp only [Bool.or_eq_true, beq_iff_eq, bne_iff_ne] at q
  refine I.ok.has n ?_
  rcases q with (q | q) | q
  · exact absurd rfl q
  · exact .inl q
  · exact .inr q
noncomputable def tComp (caps : List (Option Nat)) (wi : TI) (g : TG) (tt : TT) (te : TE) : TE := fun σ H Q => wi σ H fun J H1 => tLoop J g tt te (capt caps σ) H1 fun xs H3 => ∀ p, H3 p = none → Q (.ref p) (upd H3 p (.lst xs))
theorem pe_comp {elt tg iter : Expr} {ifs : List Expr} {scope : Scope} {N : List Str} {caps : List (Option Nat)} {pos : Pos} {wi : TI} {g : TG} {tt : TT} {te : TE}
    (S : BlkScope scope N) (hcap : capOk X.N X.env scope N caps = true) (hfr : L2.freeOk X.env scope = true) (hc : X.calm = true) (hi : PI X tg iter wi)
    (hg : ∀ s₀ H₀ C fp, PG (blk X scope N s₀ H₀ C fp) tg g) (ht : ∀ s₀ H₀ C fp, PTs (blk X scope N s₀ H₀ C fp) ifs tt) (he : ∀ s₀ H₀ C fp, PE (blk X scope N s₀ H₀ C fp) elt te)
    (hs : ∀ x, foldedSetIterable iter X.env x = pure x := by intro _; rfl) : PE X (.ListComp elt [⟨tg, iter, ifs, 0⟩] scope pos) (tComp caps wi g tt te) := by
  intro pins s σ H Q I h
  rw [eval_ListComp]
  refine wpAny_comprehension_free (use := none) rfl hs (closureFor_eq (I.freeOk hfr)) S.kind (fun x hx hl => hl ▸ S.names x hx) ?_
  refine thn (hi pins s σ H _ I h) fun v s1 h1 => thn h1 fun itv s2 h2 => ?_
  obtain ⟨it, fp, tn, J, H2, rfl, I2, T, st2, f2, hl⟩ := h2
  refine comp_run (RR := fun acc C => compPost (model X.prog X.w) X.A X.xe none (EP X pins σ Q) acc C) S hcap (I.freeOk hfr) hc hg ht he I2 T st2 f2 hl ?_
  intro D C m xs H3 s4 IT hD hn fC q
  refine ⟨m, hn, fun h' sb => ⟨.ref D, _, ?_, rfl, q D hD⟩⟩
  exact IT.turned (t' := s4.toks) (it := C) (fun b o hb e => (sb.2 b hb).trans e) fC.1 fC.2.1 fC.2.2.2.1 fC.2.2.2.2.1 fC.2.2.2.2.2
theorem ps_setComp {elt tg iter : Expr} {ifs : List Expr} {scope : Scope} {N : List Str} {caps : List (Option Nat)} {pos pos' spos : Pos} {wi : TI} {g : TG} {tt : TT} {te : TE} {i : Nat} {x : Str}
    (hN : X.N.Nodup) (hix : X.N[i]? = some x) (hx : X.env.scope.names.lookup x = some .local)
    (S : BlkScope scope N) (hcap : capOk X.N X.env scope N caps = true) (hfr : L2.freeOk X.env scope = true) (hc : X.calm = true) (hi : PI X tg iter wi)
    (hg : ∀ s₀ H₀ C fp, PG (blk X scope N s₀ H₀ C fp) tg g) (ht : ∀ s₀ H₀ C fp, PTs (blk X scope N s₀ H₀ C fp) ifs tt) (he : ∀ s₀ H₀ C fp, PE (blk X scope N s₀ H₀ C fp) elt te)
    (hsw : swapsWith (.ListComp elt [⟨tg, iter, ifs, 0⟩] scope pos) (some (.Name x pos')) spos.line X.env = pure true := by rfl)
    (hs : ∀ x, foldedSetIterable iter X.env x = pure x := by intro _; rfl) : PS X (.Assign [.Name x pos'] (.ListComp elt [⟨tg, iter, ifs, 0⟩] scope pos) spos) (tAsg (tComp caps wi g tt te) (gName i)) := by
  intro pins s σ H D I h
  rw [exec_Assign_Name_used _ _ _ _ hsw]
  refine wpAny_bind (wpAny_standAt (wpAny_bind ?_))
  show wpAny _ X.A (do let _ ← comprehension (.ListComp elt [⟨tg, iter, ifs, 0⟩] scope pos) scope X.env _ (newList []) false (eval iter X.env) (some (assign (.Name x pos') X.env))) _ _ s
  refine wpAny_bind (wpAny_mono (wpAny_comprehension_free (use := some (assign (.Name x pos') X.env)) (Q := fun _ s' => SP X pins D .next s') rfl hs (closureFor_eq (I.freeOk hfr)) S.kind (fun x hx hl => hl ▸ S.names x hx)
    (thn (hi pins s σ H _ I h) fun v s1 h1 => thn h1 fun itv s2 h2 => ?_)) (fun _ s' hq => wpAny_pure (wpAny_pure hq)) fun _ _ e => e)
  obtain ⟨it, fp, tn, J, H2, rfl, I2, T, st2, f2, hl⟩ := h2
  refine comp_run (RR := fun acc C => compPost (model X.prog X.w) X.A X.xe (some (assign (.Name x pos') X.env)) (fun _ s' => SP X pins D .next s') acc C) S hcap (I.freeOk hfr) hc hg ht he I2 T st2 f2 hl ?_
  intro Dl C m xs H3 s4 IT hD hn fC q
  show wpAny _ X.A (assign (.Name x pos') X.env (.ref Dl)) _ _ _
  obtain ⟨oC, es, ep, hoC, hdC, rC⟩ := id hn
  have IP : Inv X (pins ++ [(C, oC)]) σ (upd H3 Dl (.lst xs)) s4 := IT.pins_of fun p hp => (List.mem_append.mp hp).elim (fun z => IT.pin p (List.mem_append_right _ z)) fun z => by
    have e : p = (C, oC) := by simpa using z
    subst e
    exact ⟨hoC, fC.1, fC.2.1, fC.2.2.1, fun v z => by rw [hdC] at z; cases z⟩
  refine wpAny_assign_Name (store_ok (v := .ref Dl) IP hN hix (.inl hx) rfl (fun s5 I5 => ?_) (.inr hx))
  have hC5 := I5.pin (C, oC) (List.mem_append_right _ (List.mem_append_right _ (by simp)))
  refine ⟨m, ⟨oC, es, ep, hC5.1, hdC, rC⟩, fun h' sb => ⟨_, _, ?_, q Dl hD⟩⟩
  exact I5.unpinned.turned (t' := s5.toks) (it := C) (fun b o hb e => (sb.2 b hb).trans e) fC.1 fC.2.1 fC.2.2.2.1 fC.2.2.2.2.1 fC.2.2.2.2.2
end
noncomputable def Its (x : Str) : It := ⟨fun i _ => i < x.cps.size, fun i H v H' => H' = H ∧ ∃ c, x.cps[i]? = some c ∧ v = .str ⟨#[c]⟩, fun i _ => i = x.cps.size⟩
theorem walks_str {prog : Program} {w : World} {A : Around} (hh : A.handled = none) (I : Addr) (x : Str) (t : Tok) : Walks prog w A I [I] [I] x.cps.size (SignAt x) (fun i h => h.IsStrIter I (strIterType x) x t i) := by
  unfold strIterType
  split
  · exact Walks.strAscii hh I x t
  · exact Walks.strWide hh I x t
theorem turn_str {P : Program} {w : World} {K : PySem.W.Frag} {tg : Expr} (it : Addr) (x : Str) (t : Tok) : Turn P w K tg (Its x) [it] it (fun i h => h.IsStrIter it (strIterType x) x t i) where
  mem := by simp
  obj := fun i h st b hb => by
    have e : b = it := by simpa using hb
    subst e
    obtain ⟨o, e, c, d⟩ := st
    exact ⟨o, e, fun v z => by rw [d] at z; cases z⟩
  keep := fun i h h' st k => let ⟨o, ho, r⟩ := st; ⟨o, k it (by simp) o ho, r⟩
  item := by
    intro X hP hw hK hc i pins s σ H E I hf st hg
    subst hP hw hK
    obtain ⟨f0, f1, f2, f3, f4, f5⟩ := hf it (by simp)
    have W := walks_str (prog := X.prog) (w := X.w) (I.ok.hd hc) it x t
    refine W.item i s _ _ hg st fun v h' tk hv st' kk => ?_
    obtain ⟨c, u, hcx, rfl⟩ := hv
    have I1 : Inv X pins σ H { s with heap := h', toks := tk } := I.turned (fun b o hb e => kk b o (by simpa using hb) e) f0 f1 f3 f4 f5
    obtain ⟨o, ho, hcl, hda⟩ := id st'
    refine ⟨_, rfl, go_of (s := { s with heap := h', toks := tk }) ho hcl hda (by unfold strIterType; split <;> decide) ⟨.str ⟨#[c]⟩, H, I1, ⟨u, rfl⟩, ⟨rfl, c, hcx, rfl⟩, st', fun b hb => (hf b hb).1⟩⟩
  done := by
    intro X hP hw hK hc i pins s σ H E I hf st hg
    subst hP hw hK
    obtain ⟨f0, f1, f2, f3, f4, f5⟩ := hf it (by simp)
    have W := walks_str (prog := X.prog) (w := X.w) (I.ok.hd hc) it x t
    have e : i = x.cps.size := hg
    subst e
    exact W.done s _ _ st fun h' tk kk => ⟨rfl, I.turned (t' := tk) (fun b o hb e => kk b o (by simpa using hb) e) f0 f1 f3 f4 f5⟩
  self := fun A i s Q E st h => by
    have st : s.heap.IsStrIter it (strIterType x) x t i := st
    unfold strIterType at st
    split at st
    · exact wpAny_pyIter_striter_ascii st h
    · exact wpAny_pyIter_striter_wide st h
end L2
set_option Elab.async false
set_option linter.all false
set_option maxRecDepth 100000
set_option maxHeartbeats 4000000
namespace L2
open PySem PySem.Spec PyProof.Rows
mutual
noncomputable def DatV (K : PySem.W.Frag) (H : Hp) : PyData → V → Prop
  | .none, v => v = .non
  | .bool b, v => v = .bl b
  | .int i, v => v = .int i
  | .str x, v => v = .str x
  | .list ds, v => ∃ a xs, v = .ref a ∧ SqL K H a xs ∧ DatVs K H ds xs
  | .tuple ds, v => ∃ a xs, v = .ref a ∧ SqT K H a xs ∧ DatVs K H ds xs
  | .dict _, _ => False
noncomputable def DatVs (K : PySem.W.Frag) (H : Hp) : List PyData → List V → Prop
  | [], xs => xs = []
  | d :: ds, xs => ∃ x r, xs = x :: r ∧ DatV K H d x ∧ DatVs K H ds r
end
theorem SqT.same {K : PySem.W.Frag} {H H' : Hp} {a : Addr} {xs : List V} (e : ∀ b o, H b = some o → H' b = some o) (h : SqT K H a xs) : SqT K H' a xs := by
  rcases h with (h | ⟨o, h⟩) | h
  · exact .inl (.inl (e _ _ h))
  · exact .inl (.inr ⟨o, e _ _ h⟩)
  · exact .inr h
section
variable {X : Cx} {pins : List (Addr × Obj)} {σ : St} {H : Hp} {s : Shared}
mutual
theorem Inv.reads (I : Inv X pins σ H s) : ∀ (d : PyData) (v : V) (u : Value), DatV X.K H d v → RelV v u → ∃ as, Reads s.heap u d as
  | .none, v, u, h, r => by
    simp only [DatV] at h
    subst h
    cases r
    exact ⟨_, .none⟩
  | .bool b, v, u, h, r => by
    simp only [DatV] at h
    subst h
    cases r
    exact ⟨_, .bool b⟩
  | .int i, v, u, h, r => by
    simp only [DatV] at h
    subst h
    obtain ⟨t, rfl⟩ := r
    exact ⟨_, .int i t⟩
  | .str x, v, u, h, r => by
    simp only [DatV] at h
    subst h
    obtain ⟨t, rfl⟩ := r
    exact ⟨_, .str x t⟩
  | .list ds, v, u, h, r => by
    simp only [DatV] at h
    obtain ⟨a, xs, rfl, h2, h3⟩ := h
    cases r
    obtain ⟨its, rv, ⟨o, n, e, hc, _, hd⟩, _⟩ := I.list h2
    obtain ⟨as, q⟩ := Inv.readsAll I ds xs its h3 rv
    exact ⟨_, .list e hc hd (by simpa using q)⟩
  | .tuple ds, v, u, h, r => by
    simp only [DatV] at h
    obtain ⟨a, xs, rfl, h2, h3⟩ := h
    cases r
    obtain ⟨its, rv, ⟨o, e, hc, n, hd⟩, _⟩ := I.tuple h2
    obtain ⟨as, q⟩ := Inv.readsAll I ds xs its h3 rv
    exact ⟨_, .tuple e hc hd (by simpa using q)⟩
  | .dict _, _, _, h, _ => by simp only [DatV] at h
theorem Inv.readsAll (I : Inv X pins σ H s) : ∀ (ds : List PyData) (xs : List V) (us : List Value), DatVs X.K H ds xs → Vals xs us → ∃ as, ReadsAll s.heap us ds as
  | [], xs, us, h, r => by
    simp only [DatVs] at h
    subst h
    cases r
    exact ⟨_, .nil⟩
  | d :: ds, xs, us, h, r => by
    simp only [DatVs] at h
    obtain ⟨x, rr, rfl, h2, h3⟩ := h
    cases r with
    | cons r1 r2 =>
      obtain ⟨as, q1⟩ := Inv.reads I d x _ h2 r1
      obtain ⟨bs, q2⟩ := Inv.readsAll I ds rr _ h3 r2
      exact ⟨_, .cons q1 q2⟩
end
noncomputable def rIsi (K : PySem.W.Frag) : List V → Hp → VK → Prop := fun xs H Q => ∃ x c t u b, xs = [x, c] ∧ RelV c u ∧ (∀ u', RelV c u' → u' = u) ∧ TyOf K H x t ∧ PySem.W.kitOne K t u = some b ∧ Q (.bl b) H
theorem call_isi : CallR X (.builtin "isinstance") (rIsi X.K) := by
  intro pins s σ H xs us Q I r h
  obtain ⟨x, c, t, u, b, rfl, rc, uc, ty, e, q⟩ := h
  obtain ⟨v, w', rfl, rx, rw'⟩ := vals2 r
  cases uc w' rw'
  exact isinst_ok I rx ty e fun tk => ⟨.bl b, H, I.tok tk, rfl, q⟩
theorem relTy {n : String} : RelV (.ty n) (.type n) ∧ ∀ u', RelV (.ty n) u' → u' = .type n := ⟨rfl, fun u' h => h⟩
theorem op_mul_str : OpR X (binaryOp .Mult) (fun x y H Q => ∃ i n, x = .str i ∧ y = .int n ∧ MulOk i n ∧ Q (.str (Txt.mul i n)) H) := by
  intro pins s σ H x y v u Q I rx ry h
  obtain ⟨i, n, rfl, rfl, hk, q⟩ := h
  obtain ⟨t, rfl⟩ := rx
  obtain ⟨t', rfl⟩ := ry
  exact SB.mul hk fun t' k => ⟨.str _, H, I.tok _, ⟨_, rfl⟩, q⟩
theorem sl_str : SlR X (fun x lo hi H Q => ∃ y, x = .str y ∧ y.length ≤ sizeLine ∧ Q (.str (Txt.slice y lo hi)) H) := by
  intro pins s σ H x v vl vu lo hi sl Q I rx hs pl pu h
  obtain ⟨y, rfl, hz, q⟩ := h
  obtain ⟨t, rfl⟩ := rx
  have fin : ∀ (l u : Option (Int × Tok)), vl = partValue l → vu = partValue u → lo = l.map (·.1) → hi = u.map (·.1) → wpAny (model X.prog X.w) X.A (getItem (.str y t) (.ref sl)) (EP X pins σ Q) X.xe s := fun l u e1 e2 e3 e4 => by
    obtain ⟨o, ho, hc, hd⟩ := hs
    refine wpAny_getItem_str_slice (l := l) (u := u) (st := none) ⟨o, ho, hc, by rw [hd, e1, e2]; rfl⟩ rfl ?_
    subst e3 e4
    exact post_val_or_str ⟨Nat.le_trans (Txt.slice_le y _ _) hz, fun t' k => ⟨.str _, H, I.tok _, ⟨_, rfl⟩, q⟩⟩
  refine ⟨"str", _, PySem.F.slot_str_getitem.lookup, typeIs_str _ _ _, ?_⟩
  cases pl with
  | none =>
    cases pu with
    | none => exact fin none none rfl rfl rfl rfl
    | int j tj => exact fin none (some (j, tj)) rfl rfl rfl rfl
  | int i ti =>
    cases pu with
    | none => exact fin (some (i, ti)) none rfl rfl rfl rfl
    | int j tj => exact fin (some (i, ti)) (some (j, tj)) rfl rfl rfl rfl
theorem strs_of : ∀ {ys : List Str} {its : List Value}, Vals (ys.map V.str) its → StrsAre its ys
  | [], _, .nil => .nil
  | y :: ys, _, .cons r t => by
    obtain ⟨tk, e⟩ := (show ∃ t, _ = Value.str y t from r)
    subst e
    exact .cons y tk (strs_of t)
end
end L2
set_option Elab.async false
set_option linter.all false
set_option maxRecDepth 100000
set_option maxHeartbeats 4000000
namespace L2
open PySem PySem.Spec PyProof.Rows
noncomputable def notStar : Expr → Bool
  | .Starred _ _ => false
  | _ => true
theorem star_cons {e : Expr} (es : List Expr) (env : Env) (h : notStar e = true) : starEach (e :: es) env = (false, eval e env) :: starEach es env := by
  cases e <;> first | rfl | cases h
theorem star_back {pos : Pos} {env : Env} : ∀ (es : List Expr), es.all notStar = true → (backTo pos (starEach es env)).any (·.1) = false
  | [], _ => rfl
  | e :: es, h => by
    rw [List.all_cons, Bool.and_eq_true] at h
    rw [star_cons es env h.1]
    show (false || (backTo pos (starEach es env)).any (·.1)) = false
    rw [star_back es h.2]; rfl
theorem star_few {pos : Pos} {env : Env} : ∀ (es : List Expr), es.all notStar = true → (backTo pos (starEach es env)).all (fun x => !x.1) = true
  | [], _ => rfl
  | e :: es, h => by
    rw [List.all_cons, Bool.and_eq_true] at h
    rw [star_cons es env h.1]
    show (true && (backTo pos (starEach es env)).all (fun x => !x.1)) = true
    rw [star_few es h.2]; rfl
section
variable {X : Cx} {e : Expr} {es : List Expr} {te : TE} {t : TA} {x : Str} {p pos : Pos} {id T : String} {r : List V → Hp → VK → Prop}
theorem pac (ha : PE X e te) (hr : PA X es t) (hs : notStar e = true := by rfl) : PA X (e :: es) (tCons te t) := pa_cons ha hr (star_cons es X.env hs)
theorem pcb (hc : CallR X (.builtin id) r) (hg : Gl X x) (hm : X.mg x = none) (hv : bootBuiltins x = some (.builtin id)) (ha : PA X (e :: es) t) (hn : x ≠ "__name__" := by decide +kernel) (hdb : (x == ("__debug__" : Str)) = false := by decide +kernel)
    (hs : (e :: es).all notStar = true := by rfl) : PE X (.Call (.Name x p) (e :: es) [] pos) (tCB r t) := by
  have h2 := hs
  rw [List.all_cons, Bool.and_eq_true] at h2
  exact pe_callB hc hg hm hv ha hn hdb (star_cons es X.env h2.1) (star_back es h2.2)
theorem pct (hc : CallR X (.type T) r) (hg : Gl X x) (hm : X.mg x = none) (hv : bootBuiltins x = some (.type T)) (ha : PA X (e :: es) t) (hn : x ≠ "__name__" := by decide +kernel) (hdb : (x == ("__debug__" : Str)) = false := by decide +kernel)
    (hs : (e :: es).all notStar = true := by rfl) : PE X (.Call (.Name x p) (e :: es) [] pos) (tCB r t) := by
  have h2 := hs
  rw [List.all_cons, Bool.and_eq_true] at h2
  exact pe_callTy hc hg hm hv ha hn hdb (star_cons es X.env h2.1) (star_back es h2.2)
end
structure Src (K : PySem.W.Frag) (mg : Str → Option Value) (x : Str) (ps : List Str) (st : Stmt) : Prop where
  ex : ∃ f fd, Fun K x x st f fd ∧ mg x = some (.ref f) ∧ Binds K fd ps []
structure Def (P : Program) (w : World) (K : PySem.W.Frag) (mg : Str → Option Value) (base : Heap) (k : Nat) (x : Str) (ps : List Str) (sp : Sp) : Prop where
  ex : ∃ f fd, FnOk P w K mg base CX0 k f fd ps sp ∧ mg x = some (.ref f) ∧ PySem.W.keepIn K (.ref f) = true ∧ Binds K fd ps []
section
variable {P : Program} {w : World} {K : PySem.W.Frag} {mg : Str → Option Value} {base : Heap}
theorem Src.def {x : Str} {st : Stmt} {N ps : List Str} {k : Nat} {sp : Sp} (F : Src K mg x ps st) (S : FnScope N ps (defScope st)) (len : ∀ vs H Q E, sp vs H Q E → vs.length = ps.length)
    (hbody : ∀ (f : Addr) (cdv : Value) (A : Around) (outer : List Env) (s : Shared) (H : Hp) (vs : List V) (Q : VK) (E : XK), Room k (A.deeper (envOfC x (defScope st) s.heap.objs.size f cdv)) → sp vs H Q E →
      ∃ t, PSs (cxOf CX0 P w K mg base N x (defScope st) f cdv A outer s H E).nox (defBody st) t ∧ t { nx := fun _ H' => Q .non H', rt := Q } (start N vs) H) : Def P w K mg base (k + 1) x ps sp := by
  obtain ⟨f, fd, F, hm, hb⟩ := F.ex
  exact ⟨f, fd, F.ok S len (hbody f), hm, F.kp, hb⟩
end
section
variable {X : Cx} {e : Expr} {es : List Expr} {t : TA} {x : Str} {p pos : Pos} {k : Nat} {ps : List Str} {sp : Sp}
theorem pe_own (D : Def X.prog X.w X.K X.mg X.base k x ps sp) (hr : Room k X.A) (hg : Gl X x) (hx : Passes CX0 X E0) (ha : PA X (e :: es) t) (hdb : (x == ("__debug__" : Str)) = false := by decide +kernel) (hs : (e :: es).all notStar = true := by rfl) :
    PE X (.Call (.Name x p) (e :: es) [] pos) (tCall sp [] E0 t) := by
  obtain ⟨f, fd, F, hm, hk, hb⟩ := D.ex
  have h2 := hs
  rw [List.all_cons, Bool.and_eq_true] at h2
  exact pe_call F hr hg hm hk hb .nil hx ha hdb (star_cons es X.env h2.1) (star_back es h2.2)
theorem pe_ty (T : String) (hg : Gl X x) (hm : X.mg x = none) (hv : bootBuiltins x = some (.type T)) (hn : x ≠ "__name__" := by decide +kernel) (hd : (x == ("__debug__" : Str)) = false := by decide +kernel) : PE X (.Name x pos) (tC (.ty T)) :=
  pe_bltn hg hm hv rfl hn hd
end
noncomputable def bsOk (scope : Scope) (N : List Str) : Bool :=
  (match scope.kind with | .function => true | _ => false) && decide N.Nodup && scope.names.all fun y => y.2 != .cell && scope.names.lookup y.1 == some y.2
theorem bs_mk {scope : Scope} {N : List Str} (h : bsOk scope N = true) : BlkScope scope N := by
  unfold bsOk at h
  rw [Bool.and_eq_true, Bool.and_eq_true] at h
  obtain ⟨⟨h1, h2⟩, h3⟩ := h
  have h3 := List.all_eq_true.mp h3
  refine ⟨?_, of_decide_eq_true h2, fun y hy => ?_, fun y hy => ?_⟩
  · cases e : scope.kind <;> rw [e] at h1 <;> first | rfl | cases h1
  · have := h3 y hy
    rw [Bool.and_eq_true] at this
    simpa using this.1
  · have := h3 y hy
    rw [Bool.and_eq_true] at this
    simpa using this.2
section
variable {X : Cx} {K : PySem.W.Frag}
variable {o e : Expr} {es : List Expr} {to : TE} {t : TA} {name : Str} {apos cpos : Pos} {T id : String} {r : V → List V → Hp → VK → Prop}
theorem pe_bm0K (pa : PlainAttrs T) (slot : Slot T name id) (hty : typeOf (.builtin id) = pure (.type "method_descriptor")) (hm : MtR X id r) (ho : PE X o to)
    (hbase : attributeBase o name X.env (eval o X.env) = eval o X.env := by rfl) (hline : (apos.endLine == cpos.line) = true := by rfl) (hK : X.K = K := by rfl) : PE X (.Call (.Attribute o name apos) [] [] cpos) (tBM0 K T r to) := by
  subst hK; exact pe_bm0 pa slot hty hm ho hbase hline
theorem pe_bmK (pa : PlainAttrs T) (slot : Slot T name id) (hty : typeOf (.builtin id) = pure (.type "method_descriptor")) (hm : MtR X id r) (ho : PE X o to) (ha : PA X (e :: es) t)
    (hbase : attributeBase o name X.env (eval o X.env) = eval o X.env := by rfl) (hs : (e :: es).all notStar = true := by rfl) (hfew : decide ((e :: es).length + 0 + 0 < 30) = true := by rfl)
    (hline : (apos.endLine == cpos.line) = true := by rfl) (hK : X.K = K := by rfl) : PE X (.Call (.Attribute o name apos) (e :: es) [] cpos) (tBM K T r to t) := by
  subst hK
  have h2 := hs
  rw [List.all_cons, Bool.and_eq_true] at h2
  refine pe_bm pa slot hty hm ho ha hbase ?_ hline (star_cons es X.env h2.1) (star_back es h2.2)
  rw [star_few _ hs]
  show (true && true && decide ((e :: es).length + 0 + 0 < 30)) = true
  rw [hfew]; rfl
end
end L2
set_option Elab.async false
set_option linter.all false
set_option maxRecDepth 100000
set_option maxHeartbeats 4000000
namespace L2
open PySem PySem.Spec PyProof.Rows
end L2
set_option Elab.async false
set_option linter.all false
set_option maxRecDepth 100000
set_option maxHeartbeats 400000
namespace PySem.W
open PySem PySem.Calls PyProof.Rows Builtin Builtin.ObjectAttr
section
variable {prog : Program} {w : World} {A : Around} {E : Value → Shared → Prop} {s : Shared} {K : Frag} {x C : Addr} {ox : Obj} {od : Option Obj} {name : Str} {expr : Bool} {Q : Value → Shared → Prop}
end
end PySem.W
set_option Elab.async false
set_option linter.all false
set_option maxRecDepth 100000
set_option maxHeartbeats 400000
namespace PySem.W
open PySem PySem.Calls PyProof.Rows Builtin Builtin.ObjectAttr
section
variable {prog : Program} {w : World} {A : Around} {E : Value → Shared → Prop} {s : Shared} {K : Frag} {x C : Addr} {ox : Obj} {od : Option Obj}
variable {nm q : Str} {N : Addr} {bs bm : List Value} {hdct : Bool} {sn : List Str} {sub : List Value} {ab : Bool} {col : Option Bool} {dd : Option Addr} {k0 k1 k2 k3 k5 : Option Value} {newId : String}
end
end PySem.W
set_option Elab.async false
set_option linter.all false
set_option maxRecDepth 100000
set_option maxHeartbeats 1000000
namespace L2
open PySem PySem.Spec PyProof.Rows
section
variable {P : Program} {w : World} {H : Hp} {h : Heap}
end
section
variable {X : Cx} {pins : List (Addr × Obj)} {σ : St} {H : Hp} {s : Shared}
end
section
variable {X : Cx} {o e value : Expr} {es : List Expr} {f d : Str} {pos pos' apos p : Pos} {ta tv : TE} {t : TA} {K : PySem.W.Frag}
end
end L2
set_option Elab.async false
set_option linter.all false
set_option maxRecDepth 100000
set_option maxHeartbeats 1000000
namespace PySem.W
open PySem PySem.Calls PyProof.Rows Builtin Builtin.ObjectAttr
section
variable {prog : Program} {w : World} {A : Around} {E : Value → Shared → Prop} {s : Shared} {K : Frag} {x C : Addr} {ox : Obj} {od : Option Obj}
end
end PySem.W
namespace L2
open PySem PySem.Spec PyProof.Rows
section
variable {X : Cx} {K : PySem.W.Frag}
variable {C f : Addr} {fd : FuncData} {ps : List Str} {k : Nat} {sp : Sp} {ds : List Value} {dvs : List V} {CX : CXT} {E : XK}
end
end L2
set_option Elab.async false
set_option linter.all false
set_option maxRecDepth 100000
set_option maxHeartbeats 1000000
namespace L2
open PySem PySem.Spec PyProof.Rows
section
variable {X : Cx} {K : PySem.W.Frag}
end
end L2
set_option Elab.async false
set_option linter.all false
set_option maxRecDepth 100000
set_option maxHeartbeats 4000000
namespace J
open PySem PySem.Spec PyProof.Rows L2
section
variable {P : Program} {w : World} {K : PySem.W.Frag} {mg : Str → Option Value} {base : Heap}
theorem by1 {p : List Value → Prop} (h : ∀ a, p [a]) (us : List Value) (e : us.length = 1) : p us := by
  cases us with
  | nil => cases e
  | cons a r =>
    have e : r = [] := List.eq_nil_of_length_eq_zero (Nat.succ.inj e)
    subst e; exact h a
theorem by2 {p : List Value → Prop} (h : ∀ a b, p [a, b]) (us : List Value) (e : us.length = 2) : p us := by
  cases us with
  | nil => cases e
  | cons a r => exact by1 (p := fun r => p (a :: r)) (h a) r (Nat.succ.inj e)
theorem by3 {p : List Value → Prop} (h : ∀ a b c, p [a, b, c]) (us : List Value) (e : us.length = 3) : p us := by
  cases us with
  | nil => cases e
  | cons a r => exact by2 (p := fun r => p (a :: r)) (h a) r (Nat.succ.inj e)
theorem by4 {p : List Value → Prop} (h : ∀ a b c d, p [a, b, c, d]) (us : List Value) (e : us.length = 4) : p us := by
  cases us with
  | nil => cases e
  | cons a r => exact by3 (p := fun r => p (a :: r)) (h a) r (Nat.succ.inj e)
theorem src_mk {x : Str} {st : Stmt} {f : Addr} {oc : Value} {od an : Option Addr} {osl : Array (Option Value)} {kV doc pm cdv ct : Value} {h : Heap} {ps : List Str} (X : K.In h) (G : h.Ns mainGlobals mg)
    (a : PySem.W.nsIn K mainGlobals x = some (some (.ref f))) (l : K.lookup f = some ⟨oc, od, .func (PySem.W.fnOf x x (defArgs st) (defBody st) (defScope st) .none kV doc pm an cdv ct), osl⟩)
    (c : PySem.W.codeIn K cdv x = true) (k : PySem.W.keepIn K (.ref f) = true)
    (b : ∀ (kV doc pm : Value) (an : Option Addr) (cdv ct : Value) (us : List Value), us.length = ps.length → bindArgs (PySem.W.fnOf x x (defArgs st) (defBody st) (defScope st) .none kV doc pm an cdv ct) ⟨us, []⟩ = pure (ps.zip us)) : Src K mg x ps st :=
  ⟨f, _, fun_mk (st := st) l c k, PySem.W.mg_of X G a, (fun_mk (st := st) l c k).binds b⟩
end
end J
set_option Elab.async false
set_option linter.all false
set_option maxRecDepth 100000
set_option maxHeartbeats 4000000
namespace M
open PySem L2
inductive D where
  | non | bl (b : Bool) | int (i : Int) | str (x : Str) | tup (ds : List D) | lst (ds : List D) | dct (ks : List Key) (ds : List D) | loc (n : Nat) | ty (n : String) | scr (ns : List Int) | stc (xs : List Str) | fd | fn (a : Addr)
inductive MO where
  | lst (ds : List D) | dct (ks : List Key) (ds : List D) | feed (n : Nat) | ins (C : Addr) (ks : List Str) (ds : List D) | ddt (F : Addr → List Addr → Heap → Prop) (ks : List D)
noncomputable def fd3 (l s d : Int) : List (Key × V) := [(.inr "left", .int l), (.inr "seed", .int s), (.inr "drawn", .int d)]
noncomputable abbrev Sto := List (Option MO)
noncomputable def MO.d : MO → D
  | .lst ds => .lst ds
  | .dct ks ds => .dct ks ds
  | .feed _ => .fd
  | .ins _ _ _ => .fd
  | .ddt _ _ => .fd
inductive R where
  | dat (d : D) | new (o : MO)
noncomputable def R.d : R → D
  | .dat d => d
  | .new o => o.d
theorem al {H : Hp} {p : Addr} {o : HO} (hp : H p = none) : Same H (upd H p o) := fun b o' e => by rw [upd_ne (ne_of_none e hp)]; exact e
structure Wd where
  B : Hp
  r : Nat → Option Addr
structure Wd.le (w w' : Wd) : Prop where
  b : Same w.B w'.B
  r : ∀ n a, w.r n = some a → w'.r n = some a
theorem Wd.le.refl {w : Wd} : w.le w := ⟨Same.refl _, fun _ _ h => h⟩
theorem Wd.le.trans {w w1 w2 : Wd} (h : w.le w1) (g : w1.le w2) : w.le w2 := ⟨h.b.trans g.b, fun n a e => g.r n a (h.r n a e)⟩
mutual
noncomputable def Rep (K : PySem.W.Frag) (w : Wd) : D → V → Prop
  | .non, v => v = .non
  | .bl b, v => v = .bl b
  | .int i, v => v = .int i
  | .str x, v => v = .str x
  | .ty n, v => v = .ty n
  | .fd, v => ∃ a, v = .ref a
  | .fn a, v => v = .ref a
  | .loc n, v => ∃ a, w.r n = some a ∧ v = .ref a
  | .tup ds, v => ∃ a xs, v = .ref a ∧ w.B a = some (.tup xs) ∧ Reps K w ds xs
  | .stc ss, v => ∃ a, v = .ref a ∧ SqT K w.B a (ss.map V.str)
  | .lst ds, v => ∃ a xs, v = .ref a ∧ w.B a = some (.lst xs) ∧ Reps K w ds xs
  | .scr ns, v => ∃ a, v = .ref a ∧ SqL K w.B a (ns.map V.int)
  | .dct ks ds, v => ∃ a kvs, v = .ref a ∧ w.B a = some (.dK kvs) ∧ kvs.map (·.1) = ks ∧ Reps K w ds (kvs.map (·.2))
noncomputable def Reps (K : PySem.W.Frag) (w : Wd) : List D → List V → Prop
  | [], xs => xs = []
  | d :: ds, xs => ∃ x r, xs = x :: r ∧ Rep K w d x ∧ Reps K w ds r
end
mutual
theorem Rep.le {K : PySem.W.Frag} {w w' : Wd} (e : w.le w') : ∀ (d : D) (v : V), Rep K w d v → Rep K w' d v
  | .non, _, h => by simpa [Rep] using h
  | .bl b, _, h => by simpa [Rep] using h
  | .int i, _, h => by simpa [Rep] using h
  | .str x, _, h => by simpa [Rep] using h
  | .ty x, _, h => by simpa [Rep] using h
  | .fd, _, h => by simpa [Rep] using h
  | .fn _, _, h => by simpa [Rep] using h
  | .loc n, v, h => by
    simp only [Rep] at h ⊢
    obtain ⟨a, h1, h2⟩ := h
    exact ⟨a, e.r _ _ h1, h2⟩
  | .lst ds, v, h => by
    simp only [Rep] at h ⊢
    obtain ⟨a, xs, h1, h2, h3⟩ := h
    exact ⟨a, xs, h1, e.b _ _ h2, Reps.le e ds xs h3⟩
  | .scr ns, v, h => by
    simp only [Rep] at h ⊢
    obtain ⟨a, h1, h2⟩ := h
    exact ⟨a, h1, e.b.seq h2⟩
  | .tup ds, v, h => by
    simp only [Rep] at h ⊢
    obtain ⟨a, xs, h1, h2, h3⟩ := h
    exact ⟨a, xs, h1, e.b _ _ h2, Reps.le e ds xs h3⟩
  | .stc ns, v, h => by
    simp only [Rep] at h ⊢
    obtain ⟨a, h1, h2⟩ := h
    exact ⟨a, h1, SqT.same e.b h2⟩
  | .dct ks ds, v, h => by
    simp only [Rep] at h ⊢
    obtain ⟨a, xs, h1, h2, h3, h4⟩ := h
    exact ⟨a, xs, h1, e.b _ _ h2, h3, Reps.le e ds _ h4⟩
theorem Reps.le {K : PySem.W.Frag} {w w' : Wd} (e : w.le w') : ∀ (ds : List D) (xs : List V), Reps K w ds xs → Reps K w' ds xs
  | [], _, h => by simpa [Reps] using h
  | d :: ds, xs, h => by
    simp only [Reps] at h ⊢
    obtain ⟨x, r, h1, h2, h3⟩ := h
    exact ⟨x, r, h1, Rep.le e d x h2, Reps.le e ds r h3⟩
end
section
variable {K : PySem.W.Frag} {w w' : Wd}
theorem Reps.nil : Reps K w [] [] := by simp [Reps]
theorem Reps.cons {d : D} {v : V} {ds : List D} {vs : List V} (h : Rep K w d v) (t : Reps K w ds vs) : Reps K w (d :: ds) (v :: vs) := by
  simp only [Reps]; exact ⟨v, vs, rfl, h, t⟩
theorem Reps.length : ∀ {ds : List D} {vs : List V}, Reps K w ds vs → vs.length = ds.length
  | [], _, h => by simp only [Reps] at h; subst h; rfl
  | d :: ds, vs, h => by
    simp only [Reps] at h
    obtain ⟨x, r, rfl, _, h⟩ := h
    simp [Reps.length h]
theorem Reps.get : ∀ {ds : List D} {vs : List V} {i : Nat} {d : D}, Reps K w ds vs → ds[i]? = some d → ∃ v, vs[i]? = some v ∧ Rep K w d v
  | [], _, _, _, _, e => by simp at e
  | d :: ds, vs, 0, d', h, e => by
    simp only [Reps] at h
    obtain ⟨x, r, rfl, h1, h⟩ := h
    simp at e; subst e
    exact ⟨x, rfl, h1⟩
  | d :: ds, vs, i + 1, d', h, e => by
    simp only [Reps] at h
    obtain ⟨x, r, rfl, h1, h⟩ := h
    obtain ⟨v, e1, e2⟩ := Reps.get (i := i) h (by simpa using e)
    exact ⟨v, by simpa using e1, e2⟩
theorem Reps.append : ∀ {ds es : List D} {vs us : List V}, Reps K w ds vs → Reps K w es us → Reps K w (ds ++ es) (vs ++ us)
  | [], _, _, _, h, g => by simp only [Reps] at h; subst h; exact g
  | d :: ds, es, vs, us, h, g => by
    simp only [Reps] at h
    obtain ⟨x, r, rfl, h1, h⟩ := h
    exact Reps.cons h1 (Reps.append h g)
theorem Reps.snoc {ds : List D} {vs : List V} {d : D} {v : V} (h : Reps K w ds vs) (g : Rep K w d v) : Reps K w (ds ++ [d]) (vs ++ [v]) := h.append (.cons g .nil)
theorem Reps.take : ∀ (n : Nat) {ds : List D} {vs : List V}, Reps K w ds vs → Reps K w (ds.take n) (vs.take n)
  | 0, _, _, _ => by simp [Reps]
  | n + 1, [], _, h => by simp only [Reps] at h; subst h; simp [Reps]
  | n + 1, d :: ds, vs, h => by
    simp only [Reps] at h
    obtain ⟨x, r, rfl, h1, h⟩ := h
    exact Reps.cons h1 (Reps.take n h)
theorem Reps.drop : ∀ (n : Nat) {ds : List D} {vs : List V}, Reps K w ds vs → Reps K w (ds.drop n) (vs.drop n)
  | 0, _, _, h => h
  | n + 1, [], _, h => by simp only [Reps] at h; subst h; simp [Reps]
  | n + 1, d :: ds, vs, h => by
    simp only [Reps] at h
    obtain ⟨x, r, rfl, h1, h⟩ := h
    exact Reps.drop n h
end
noncomputable def RepO (K : PySem.W.Frag) (w : Wd) : MO → HO → Prop
  | .lst ds, u => ∃ xs, u = .lst xs ∧ Reps K w ds xs
  | .dct ks ds, u => ∃ kvs, u = .dK kvs ∧ kvs.map (·.1) = ks ∧ Reps K w ds (kvs.map (·.2))
  | .feed n, u => ∃ l s : Int, u = .dK (fd3 l s n) ∧ 0 ≤ l ∧ 0 ≤ s ∧ s < 1000003
  | .ins C ks ds, u => ∃ dx fs, u = .ins C dx fs ∧ fs.map (·.1) = ks ∧ Reps K w ds (fs.map (·.2))
  | .ddt F ks, u => ∃ (a : Addr) (bs : List Addr), u = .ext (F a bs) ∧ Reps K w ks (bs.map V.ref)
theorem RepO.le {K : PySem.W.Frag} {w w' : Wd} (e : w.le w') : ∀ {o : MO} {u : HO}, RepO K w o u → RepO K w' o u
  | .lst ds, u, ⟨xs, h1, h2⟩ => ⟨xs, h1, h2.le e⟩
  | .dct ks ds, u, ⟨xs, h1, h2, h3⟩ => ⟨xs, h1, h2, h3.le e⟩
  | .feed n, u, h => h
  | .ins C ks ds, u, ⟨dx, fs, h1, h2, h3⟩ => ⟨dx, fs, h1, h2, h3.le e⟩
  | .ddt F ks, u, ⟨a, bs, h1, h2⟩ => ⟨a, bs, h1, h2.le e⟩
structure Ok (K : PySem.W.Frag) (w : Wd) (H : Hp) (S : Sto) : Prop where
  base : Same w.B H
  live : ∀ n o, S[n]? = some (some o) → ∃ a u, w.r n = some a ∧ w.B a = none ∧ H a = some u ∧ RepO K w o u
  inj : ∀ n m o o', S[n]? = some (some o) → S[m]? = some (some o') → w.r n = w.r m → n = m
  top : ∀ n, S.length ≤ n → w.r n = none
noncomputable def RepR (K : PySem.W.Frag) (w : Wd) (H : Hp) (S : Sto) : R → V → Prop
  | .dat d, v => Rep K w d v
  | .new o, v => ∃ a u, v = .ref a ∧ w.B a = none ∧ H a = some u ∧ RepO K w o u ∧ ∀ n o', S[n]? = some (some o') → w.r n ≠ some a
noncomputable def EnvR (K : PySem.W.Frag) (w : Wd) (δ : List (Option D)) (σ : St) : Prop := δ.length = σ.length ∧ ∀ (i : Nat) (d : D), δ[i]? = some (some d) → ∃ v, σ[i]? = some (some v) ∧ Rep K w d v
theorem EnvR.le {K : PySem.W.Frag} {w w' : Wd} {δ : List (Option D)} {σ : St} (h : EnvR K w δ σ) (e : w.le w') : EnvR K w' δ σ := ⟨h.1, fun i d q => by
  obtain ⟨v, h1, h2⟩ := h.2 i d q
  exact ⟨v, h1, h2.le e⟩⟩
theorem EnvR.set {K : PySem.W.Frag} {w : Wd} {δ : List (Option D)} {σ : St} {d : D} {v : V} (h : EnvR K w δ σ) (g : Rep K w d v) (i : Nat) : EnvR K w (δ.set i (some d)) (σ.set i (some v)) := by
  refine ⟨by simp [h.1], fun j e q => ?_⟩
  by_cases hij : i = j
  · subst hij
    rw [List.getElem?_set] at q ⊢
    rw [if_pos rfl] at q ⊢
    by_cases hl : i < δ.length
    · rw [if_pos hl] at q
      rw [if_pos (by rw [← h.1]; exact hl)]
      have : d = e := by simpa using q
      subst this
      exact ⟨v, rfl, g⟩
    · rw [if_neg hl] at q; cases q
  · rw [List.getElem?_set_ne hij] at q ⊢
    exact h.2 j e q
section
variable {K : PySem.W.Frag} {w w' : Wd} {H H' : Hp} {S S' : Sto}
theorem freeze {r : R} {v : V} (k : Ok K w H S) (h : RepR K w H S r v) : ∃ w', w.le w' ∧ Ok K w' H S ∧ Rep K w' r.d v := by
  cases r with
  | dat d => exact ⟨w, .refl, k, h⟩
  | new o =>
    obtain ⟨a, u, rfl, hb, ha, ho, hn⟩ := h
    have le : w.le ⟨upd w.B a u, w.r⟩ := ⟨al hb, fun _ _ e => e⟩
    refine ⟨⟨upd w.B a u, w.r⟩, le, ⟨fun b o' e => ?_, fun n o' e => ?_, k.inj, k.top⟩, ?_⟩
    · by_cases hba : b = a
      · subst hba
        have e : upd w.B b u b = some o' := e
        rw [upd_same] at e; rw [ha]; exact e
      · have e : upd w.B a u b = some o' := e
        rw [upd_ne hba] at e; exact k.base b o' e
    · obtain ⟨a', u', h1, h2, h3, h4⟩ := k.live n o' e
      have : a' ≠ a := by intro z; subst z; exact hn n o' e h1
      exact ⟨a', u', h1, by show upd w.B a u a' = none; rw [upd_ne this]; exact h2, h3, h4.le le⟩
    · cases o with
      | lst ds =>
        obtain ⟨xs, rfl, h⟩ := ho
        show Rep K _ (.lst ds) _
        simp only [Rep]
        exact ⟨a, xs, rfl, upd_same, h.le le⟩
      | dct ks ds =>
        obtain ⟨kvs, rfl, h1, h⟩ := ho
        show Rep K _ (.dct ks ds) _
        simp only [Rep]
        exact ⟨a, kvs, rfl, upd_same, h1, h.le le⟩
      | feed n =>
        show Rep K _ .fd _
        simp only [Rep]
        exact ⟨a, rfl⟩
      | ins C ks ds =>
        show Rep K _ .fd _
        simp only [Rep]
        exact ⟨a, rfl⟩
      | ddt F ks =>
        show Rep K _ .fd _
        simp only [Rep]
        exact ⟨a, rfl⟩
theorem store {o : MO} {v : V} (k : Ok K w H S) (h : RepR K w H S (.new o) v) : ∃ w', w.le w' ∧ Ok K w' H (S ++ [some o]) ∧ Rep K w' (.loc S.length) v := by
  obtain ⟨a, u, rfl, hb, ha, ho, hn⟩ := h
  let r' : Nat → Option Addr := fun n => if n = S.length then some a else w.r n
  have le : w.le ⟨w.B, r'⟩ := ⟨Same.refl _, fun n b e => by
    have : n ≠ S.length := by
      intro z; subst z
      rw [k.top _ (Nat.le_refl _)] at e; cases e
    show (if n = S.length then some a else w.r n) = some b
    rw [if_neg this]; exact e⟩
  have at_ : ∀ n o', (S ++ [some o])[n]? = some (some o') → (n = S.length ∧ o' = o) ∨ (n < S.length ∧ S[n]? = some (some o')) := fun n o' e => by
    by_cases hl : n < S.length
    · rw [List.getElem?_append_left hl] at e
      exact .inr ⟨hl, e⟩
    · rw [List.getElem?_append_right (by omega)] at e
      have : n - S.length = 0 := by
        cases q : n - S.length with
        | zero => rfl
        | succ j => rw [q] at e; simp at e
      rw [this] at e
      have e : o = o' := by simpa using e
      exact .inl ⟨by omega, e.symm⟩
  refine ⟨⟨w.B, r'⟩, le, ⟨k.base, fun n o' e => ?_, fun n m o1 o2 e1 e2 e => ?_, fun n hn => ?_⟩, ?_⟩
  · rcases at_ n o' e with ⟨rfl, rfl⟩ | ⟨hl, e⟩
    · exact ⟨a, u, by show (if _ then _ else _) = _; rw [if_pos rfl], hb, ha, ho.le le⟩
    · obtain ⟨a', u', h1, h2, h3, h4⟩ := k.live n o' e
      exact ⟨a', u', le.r _ _ h1, h2, h3, h4.le le⟩
  · rcases at_ n o1 e1 with ⟨rfl, rfl⟩ | ⟨hl, q1⟩
    · rcases at_ m o2 e2 with ⟨rfl, rfl⟩ | ⟨hl2, q2⟩
      · rfl
      · exfalso
        have e : (if S.length = S.length then some a else w.r S.length) = (if m = S.length then some a else w.r m) := e
        rw [if_pos rfl, if_neg (by omega)] at e
        exact hn m o2 q2 e.symm
    · rcases at_ m o2 e2 with ⟨rfl, rfl⟩ | ⟨hl2, q2⟩
      · exfalso
        have e : (if n = S.length then some a else w.r n) = (if S.length = S.length then some a else w.r S.length) := e
        rw [if_pos rfl, if_neg (by omega)] at e
        exact hn n o1 q1 e
      · have e : (if n = S.length then some a else w.r n) = (if m = S.length then some a else w.r m) := e
        rw [if_neg (by omega), if_neg (by omega)] at e
        exact k.inj n m o1 o2 q1 q2 e
  · rw [List.length_append] at hn
    have : n ≠ S.length := by simp at hn; omega
    show (if n = S.length then some a else w.r n) = none
    rw [if_neg this]
    exact k.top n (by simp at hn; omega)
  · simp only [Rep]
    exact ⟨a, by show (if _ then _ else _) = _; rw [if_pos rfl], rfl⟩
theorem Ok.alloc {p : Addr} {o : HO} (k : Ok K w H S) (hp : H p = none) : Ok K w (upd H p o) S :=
  ⟨k.base.trans (al hp), fun n o' e => by
    obtain ⟨a, u, h1, h2, h3, h4⟩ := k.live n o' e
    exact ⟨a, u, h1, h2, al hp _ _ h3, h4⟩, k.inj, k.top⟩
theorem Ok.free {p : Addr} (k : Ok K w H S) (hp : H p = none) : w.B p = none := k.base.free hp
theorem Ok.fresh {p : Addr} {o : HO} {m : MO} (k : Ok K w H S) (hp : H p = none) (h : RepO K w m o) : RepR K w (upd H p o) S (.new m) (.ref p) :=
  ⟨p, o, rfl, k.free hp, upd_same, h, fun n o' e z => by
    obtain ⟨a, u, h1, h2, h3, h4⟩ := k.live n o' e
    rw [z] at h1; cases h1
    rw [hp] at h3; cases h3⟩
theorem Ok.newTup {p : Addr} {ds : List D} {xs : List V} (k : Ok K w H S) (hp : H p = none) (h : Reps K w ds xs) : ∃ w', w.le w' ∧ Ok K w' (upd H p (.tup xs)) S ∧ Rep K w' (.tup ds) (.ref p) := by
  have hb := k.free hp
  have le : w.le ⟨upd w.B p (.tup xs), w.r⟩ := ⟨al hb, fun _ _ e => e⟩
  refine ⟨⟨upd w.B p (.tup xs), w.r⟩, le, ⟨fun b o e => ?_, fun n o e => ?_, k.inj, k.top⟩, ?_⟩
  · by_cases hbp : b = p
    · subst hbp
      have e : upd w.B b (.tup xs) b = some o := e
      rw [upd_same] at e ⊢; exact e
    · have e : upd w.B p (.tup xs) b = some o := e
      rw [upd_ne hbp] at e ⊢; exact k.base b o e
  · obtain ⟨a, u, h1, h2, h3, h4⟩ := k.live n o e
    have hne : a ≠ p := ne_of_none h3 hp
    exact ⟨a, u, h1, by show upd w.B p _ a = none; rw [upd_ne hne]; exact h2, by rw [upd_ne hne]; exact h3, h4.le le⟩
  · simp only [Rep]
    exact ⟨p, xs, rfl, upd_same, h.le le⟩
theorem Ok.put {n : Nat} {a : Addr} {o o' : MO} {u' : HO} (k : Ok K w H S) (e : S[n]? = some (some o)) (ha : w.r n = some a) (h : RepO K w o' u') : Ok K w (upd H a u') (S.set n (some o')) := by
  have hn : n < S.length := by
    rcases Nat.lt_or_ge n S.length with h | h
    · exact h
    · rw [List.getElem?_eq_none h] at e; cases e
  have at_ : ∀ m q, (S.set n (some o'))[m]? = some (some q) → (m = n ∧ q = o') ∨ (m ≠ n ∧ S[m]? = some (some q)) := fun m q z => by
    by_cases hm : n = m
    · subst hm
      rw [List.getElem?_set, if_pos rfl, if_pos hn] at z
      have z : o' = q := by simpa using z
      exact .inl ⟨rfl, z.symm⟩
    · rw [List.getElem?_set_ne hm] at z
      exact .inr ⟨fun y => hm y.symm, z⟩
  obtain ⟨a0, u0, h1, h2, h3, _⟩ := k.live n o e
  rw [ha] at h1; cases h1
  refine ⟨fun b q z => ?_, fun m q z => ?_, fun m l q q' z z' y => ?_, fun m hm => k.top m (by simpa using hm)⟩
  · rw [upd_ne (by intro y; subst y; rw [h2] at z; cases z)]
    exact k.base b q z
  · rcases at_ m q z with ⟨rfl, rfl⟩ | ⟨hm, z⟩
    · exact ⟨a, u', ha, h2, upd_same, h⟩
    · obtain ⟨b, u, g1, g2, g3, g4⟩ := k.live m q z
      have : b ≠ a := by
        intro y; subst y
        exact hm (k.inj m n q o z e (g1.trans ha.symm))
      exact ⟨b, u, g1, g2, by rw [upd_ne this]; exact g3, g4⟩
  · have old : ∀ m q, (S.set n (some o'))[m]? = some (some q) → ∃ q0, S[m]? = some (some q0) := fun m q z => by
      rcases at_ m q z with ⟨rfl, rfl⟩ | ⟨hm, z⟩
      · exact ⟨o, e⟩
      · exact ⟨q, z⟩
    obtain ⟨q0, z0⟩ := old m q z
    obtain ⟨q1, z1⟩ := old l q' z'
    exact k.inj m l q0 q1 z0 z1 y
end
noncomputable def see (S : Sto) : D → D
  | .loc n => match S[n]? with
    | some (some o) => o.d
    | _ => .loc n
  | d => d
section
variable {K : PySem.W.Frag} {w : Wd} {H : Hp} {S : Sto} {v : V}
theorem see_lst {d : D} {ds : List D} (k : Ok K w H S) (h : Rep K w d v) (e : see S d = .lst ds) : ∃ a xs, v = .ref a ∧ H a = some (.lst xs) ∧ Reps K w ds xs := by
  cases d with
  | loc n =>
    simp only [Rep] at h
    obtain ⟨a, h1, rfl⟩ := h
    simp only [see] at e
    split at e
    next o q =>
      obtain ⟨a', u, g1, g2, g3, g4⟩ := k.live n o q
      rw [h1] at g1; cases g1
      cases o with
      | lst es =>
        have : es = ds := by simpa [MO.d] using e
        subst this
        obtain ⟨xs, rfl, g⟩ := g4
        exact ⟨a, xs, rfl, g3, g⟩
      | dct ks es => simp [MO.d] at e
      | feed n => simp [MO.d] at e
      | ins C ks ds => simp [MO.d] at e
      | ddt F ks => simp [MO.d] at e
    next => cases e
  | lst es =>
    have : es = ds := by simpa [see] using e
    subst this
    simp only [Rep] at h
    obtain ⟨a, xs, h1, h2, h3⟩ := h
    exact ⟨a, xs, h1, k.base _ _ h2, h3⟩
  | _ => simp [see] at e
theorem see_tup {d : D} {ds : List D} (k : Ok K w H S) (h : Rep K w d v) (e : see S d = .tup ds) : ∃ a xs, v = .ref a ∧ H a = some (.tup xs) ∧ Reps K w ds xs := by
  cases d with
  | loc n =>
    simp only [see] at e
    split at e
    next o q => cases o <;> simp [MO.d] at e
    next => cases e
  | tup es =>
    have : es = ds := by simpa [see] using e
    subst this
    simp only [Rep] at h
    obtain ⟨a, xs, h1, h2, h3⟩ := h
    exact ⟨a, xs, h1, k.base _ _ h2, h3⟩
  | _ => simp [see] at e
theorem see_dct {d : D} {ks : List Key} {ds : List D} (k : Ok K w H S) (h : Rep K w d v) (e : see S d = .dct ks ds) : ∃ a kvs, v = .ref a ∧ H a = some (.dK kvs) ∧ kvs.map (·.1) = ks ∧ Reps K w ds (kvs.map (·.2)) := by
  cases d with
  | loc n =>
    simp only [Rep] at h
    obtain ⟨a, h1, rfl⟩ := h
    simp only [see] at e
    split at e
    next o q =>
      obtain ⟨a', u, g1, g2, g3, g4⟩ := k.live n o q
      rw [h1] at g1; cases g1
      cases o with
      | lst es => simp [MO.d] at e
      | feed n => simp [MO.d] at e
      | ins C ks ds => simp [MO.d] at e
      | ddt F ks => simp [MO.d] at e
      | dct ks' es =>
        have : ks' = ks ∧ es = ds := by simpa [MO.d] using e
        obtain ⟨rfl, rfl⟩ := this
        obtain ⟨kvs, rfl, g⟩ := g4
        exact ⟨a, kvs, rfl, g3, g⟩
    next => cases e
  | dct ks' es =>
    have : ks' = ks ∧ es = ds := by simpa [see] using e
    obtain ⟨rfl, rfl⟩ := this
    simp only [Rep] at h
    obtain ⟨a, xs, h1, h2, h3⟩ := h
    exact ⟨a, xs, h1, k.base _ _ h2, h3⟩
  | _ => simp [see] at e
end
end M
set_option Elab.async false
set_option linter.all false
set_option maxRecDepth 100000
set_option maxHeartbeats 4000000
namespace M
open PySem L2
noncomputable abbrev AEnv := List (Option D)
noncomputable abbrev AK := R → Sto → Prop
noncomputable abbrev AE := AEnv → Sto → AK → Prop
noncomputable abbrev AT := AEnv → Sto → (Bool → Sto → Prop) → Prop
noncomputable abbrev AA := AEnv → Sto → (List D → Sto → Prop) → Prop
noncomputable abbrev AO := AEnv → Sto → (Option Int → Sto → Prop) → Prop
structure AEnds where
  nx : AEnv → Sto → Prop
  rt : AK
  bk : AEnv → Sto → Prop := fun _ _ => False
  ct : AEnv → Sto → Prop := fun _ _ => False
noncomputable abbrev AS := AEnds → AEnv → Sto → Prop
noncomputable abbrev AG := D → AEnv → Sto → (AEnv → Sto → Prop) → Prop
noncomputable abbrev AGs := List D → AEnv → Sto → (AEnv → Sto → Prop) → Prop
noncomputable abbrev AI := AEnv → Sto → (List D → (Sto → Prop) → Sto → Prop) → Prop
noncomputable abbrev A2 := D → D → Sto → AK → Prop
noncomputable abbrev A1 := D → Sto → AK → Prop
noncomputable abbrev AN := List D → Sto → AK → Prop
section
variable (K : PySem.W.Frag) (w : Wd)
noncomputable def BackV (Qa : AK) (Q : VK) : Prop := ∀ r S' v w' H', w.le w' → Ok K w' H' S' → RepR K w' H' S' r v → Qa r S' → Q v H'
noncomputable def BackB (Qa : Bool → Sto → Prop) (Q : Bool → Hp → Prop) : Prop := ∀ b S' w' H', w.le w' → Ok K w' H' S' → Qa b S' → Q b H'
noncomputable def BackL (Qa : List D → Sto → Prop) (Q : List V → Hp → Prop) : Prop := ∀ ds S' vs w' H', w.le w' → Ok K w' H' S' → Reps K w' ds vs → Qa ds S' → Q vs H'
noncomputable def BackO (Qa : Option Int → Sto → Prop) (Q : Option Int → Hp → Prop) : Prop := ∀ i S' w' H', w.le w' → Ok K w' H' S' → Qa i S' → Q i H'
noncomputable def BackE (Qa : AEnv → Sto → Prop) (Q : St → Hp → Prop) : Prop := ∀ δ S' σ w' H', w.le w' → Ok K w' H' S' → EnvR K w' δ σ → Qa δ S' → Q σ H'
structure BackS (Da : AEnds) (D : Ends) : Prop where
  nx : BackE K w Da.nx D.nx
  rt : BackV K w Da.rt D.rt
  bk : BackE K w Da.bk D.bk
  ct : BackE K w Da.ct D.ct
structure ItR (J : It) (ds : List D) (P : Sto → Prop) : Prop where
  go : ∀ i H S w' d, w.le w' → Ok K w' H S → P S → ds[i]? = some d → J.go i H
  yld : ∀ i H S w' d x H', w.le w' → Ok K w' H S → P S → ds[i]? = some d → J.yld i H x H' → H' = H ∧ Rep K w' d x
  stop : ∀ i H S w', w.le w' → Ok K w' H S → P S → i = ds.length → J.stop i H
noncomputable def BackI (Qa : List D → (Sto → Prop) → Sto → Prop) (R : It → Hp → Prop) : Prop := ∀ ds P S' J w' H', w.le w' → Ok K w' H' S' → ItR K w' J ds P → Qa ds P S' → R J H'
end
section
variable {K : PySem.W.Frag} {w w' : Wd}
theorem BackV.le {Qa : AK} {Q : VK} (h : BackV K w Qa Q) (e : w.le w') : BackV K w' Qa Q := fun r S v w2 H l => h r S v w2 H (e.trans l)
theorem BackB.le {Qa} {Q} (h : BackB K w Qa Q) (e : w.le w') : BackB K w' Qa Q := fun r S w2 H l => h r S w2 H (e.trans l)
theorem BackE.le {Qa} {Q} (h : BackE K w Qa Q) (e : w.le w') : BackE K w' Qa Q := fun r S v w2 H l => h r S v w2 H (e.trans l)
theorem BackS.le {Da : AEnds} {D : Ends} (h : BackS K w Da D) (e : w.le w') : BackS K w' Da D := ⟨h.nx.le e, h.rt.le e, h.bk.le e, h.ct.le e⟩
end
section
variable (K : PySem.W.Frag)
noncomputable def conE (a : AE) : TE := fun σ H Q => ∃ w δ S Qa, Ok K w H S ∧ EnvR K w δ σ ∧ a δ S Qa ∧ BackV K w Qa Q
noncomputable def conT (a : AT) : TT := fun σ H Q => ∃ w δ S Qa, Ok K w H S ∧ EnvR K w δ σ ∧ a δ S Qa ∧ BackB K w Qa Q
noncomputable def conA (a : AA) : TA := fun σ H Q => ∃ w δ S Qa, Ok K w H S ∧ EnvR K w δ σ ∧ a δ S Qa ∧ BackL K w Qa Q
noncomputable def conO (a : AO) : TO := fun σ H Q => ∃ w δ S Qa, Ok K w H S ∧ EnvR K w δ σ ∧ a δ S Qa ∧ BackO K w Qa Q
noncomputable def conS (a : AS) : TS := fun D σ H => ∃ w δ S Da, Ok K w H S ∧ EnvR K w δ σ ∧ a Da δ S ∧ BackS K w Da D
noncomputable def conG (a : AG) : TG := fun x σ H Q => ∃ w d δ S Qa, Ok K w H S ∧ EnvR K w δ σ ∧ Rep K w d x ∧ a d δ S Qa ∧ BackE K w Qa Q
noncomputable def conGs (a : AGs) : TGs := fun xs σ H Q => ∃ w ds δ S Qa, Ok K w H S ∧ EnvR K w δ σ ∧ Reps K w ds xs ∧ a ds δ S Qa ∧ BackE K w Qa Q
noncomputable def conI (a : AI) : TI := fun σ H R => ∃ w δ S Qa, Ok K w H S ∧ EnvR K w δ σ ∧ a δ S Qa ∧ BackI K w Qa R
noncomputable def con2 (a : A2) : R2 := fun x y H Q => ∃ w d e S Qa, Ok K w H S ∧ Rep K w d x ∧ Rep K w e y ∧ a d e S Qa ∧ BackV K w Qa Q
noncomputable def conN (a : AN) : List V → Hp → VK → Prop := fun xs H Q => ∃ w ds S Qa, Ok K w H S ∧ Reps K w ds xs ∧ a ds S Qa ∧ BackV K w Qa Q
noncomputable def conM (a : D → List D → Sto → AK → Prop) : V → List V → Hp → VK → Prop := fun x xs H Q => ∃ w d ds S Qa, Ok K w H S ∧ Rep K w d x ∧ Reps K w ds xs ∧ a d ds S Qa ∧ BackV K w Qa Q
noncomputable def conSp (a : AN) : Sp := fun vs H Q _ => conN K a vs H Q
end
structure GE (X : Cx) (e : Expr) (a : AE) : Prop where
  p : PE X e (conE X.K a)
structure GT (X : Cx) (e : Expr) (a : AT) : Prop where
  p : PT X e (conT X.K a)
structure GW (X : Cx) (e : Expr) (a : AT) : Prop where
  p : PW X e (conT X.K a)
structure GA (X : Cx) (e : List Expr) (a : AA) : Prop where
  p : PA X e (conA X.K a)
structure GO (X : Cx) (e : Option Expr) (a : AO) : Prop where
  p : PO X e (conO X.K a)
structure GS (X : Cx) (s : Stmt) (a : AS) : Prop where
  p : PS X s (conS X.K a)
structure GSs (X : Cx) (s : List Stmt) (a : AS) : Prop where
  p : PSs X s (conS X.K a)
structure GG (X : Cx) (e : Expr) (a : AG) : Prop where
  p : PG X e (conG X.K a)
structure GGs (X : Cx) (e : List Expr) (a : AGs) : Prop where
  p : PGs X e (conGs X.K a)
structure GI (X : Cx) (tg e : Expr) (a : AI) : Prop where
  p : PI X tg e (conI X.K a)
structure GTs (X : Cx) (e : List Expr) (a : AT) : Prop where
  p : PTs X e (conT X.K a)
structure Op2 (X : Cx) (f : Value → Value → Sem Value) (a : A2) : Prop where
  p : OpR X f (con2 X.K a)
structure OpC (X : Cx) (f : Value) (a : AN) : Prop where
  p : CallR X f (conN X.K a)
structure OpI (X : Cx) (a : A2) : Prop where
  p : IxR X (con2 X.K a)
section
variable {X : Cx}
theorem mE {e : Expr} {t u : TE} (h : PE X e t) (m : ∀ σ H Q, u σ H Q → t σ H Q) : PE X e u := fun pins s σ H Q I q => h pins s σ H Q I (m σ H Q q)
theorem mT {e : Expr} {t u : TT} (h : PT X e t) (m : ∀ σ H Q, u σ H Q → t σ H Q) : PT X e u := fun pins s σ H Q I q => h pins s σ H Q I (m σ H Q q)
theorem mW {e : Expr} {t u : TT} (h : PW X e t) (m : ∀ σ H Q, u σ H Q → t σ H Q) : PW X e u := fun wh pins s σ H Q I q => h wh pins s σ H Q I (m σ H Q q)
theorem mA {e : List Expr} {t u : TA} (h : PA X e t) (m : ∀ σ H Q, u σ H Q → t σ H Q) : PA X e u := fun pos pins s σ H Q I q => h pos pins s σ H Q I (m σ H Q q)
theorem mO {e : Option Expr} {t u : TO} (h : PO X e t) (m : ∀ σ H Q, u σ H Q → t σ H Q) : PO X e u := fun pins s σ H Q I q => h pins s σ H Q I (m σ H Q q)
theorem mS {e : Stmt} {t u : TS} (h : PS X e t) (m : ∀ D σ H, u D σ H → t D σ H) : PS X e u := fun pins s σ H D I q => h pins s σ H D I (m D σ H q)
theorem mSs {e : List Stmt} {t u : TS} (h : PSs X e t) (m : ∀ D σ H, u D σ H → t D σ H) : PSs X e u := fun pins s σ H D I q => h pins s σ H D I (m D σ H q)
theorem mG {e : Expr} {t u : TG} (h : PG X e t) (m : ∀ x σ H Q, u x σ H Q → t x σ H Q) : PG X e u := fun pins s σ H x v Q I r q => h pins s σ H x v Q I r (m x σ H Q q)
theorem mGs {e : List Expr} {t u : TGs} (h : PGs X e t) (m : ∀ x σ H Q, u x σ H Q → t x σ H Q) : PGs X e u := fun pins s σ H x v Q I r q => h pins s σ H x v Q I r (m x σ H Q q)
theorem mI {g e : Expr} {t u : TI} (h : PI X g e t) (m : ∀ σ H R, u σ H R → t σ H R) : PI X g e u := fun pins s σ H R I q => h pins s σ H R I (m σ H R q)
theorem mTs {e : List Expr} {t u : TT} (h : PTs X e t) (m : ∀ σ H Q, u σ H Q → t σ H Q) : PTs X e u := fun pins s σ H Q I q => h pins s σ H Q I (m σ H Q q)
theorem m2 {f : Value → Value → Sem Value} {t u : R2} (h : OpR X f t) (m : ∀ x y H Q, u x y H Q → t x y H Q) : OpR X f u := fun pins s σ H x y v u Q I r r' q => h pins s σ H x y v u Q I r r' (m x y H Q q)
theorem mC {f : Value} {t u : List V → Hp → VK → Prop} (h : CallR X f t) (m : ∀ x H Q, u x H Q → t x H Q) : CallR X f u := fun pins s σ H x v Q I r q => h pins s σ H x v Q I r (m x H Q q)
end
noncomputable def aVar (i : Nat) : AE := fun δ S Q => ∃ d, δ[i]? = some (some d) ∧ Q (.dat d) S
noncomputable def aC (d : D) : AE := fun _ S Q => Q (.dat d) S
noncomputable def aOp (r : A2) (a b : AE) : AE := fun δ S Q => a δ S fun x S1 => b δ S1 fun y S2 => r x.d y.d S2 Q
noncomputable def aUn (r : A1) (a : AE) : AE := fun δ S Q => a δ S fun x S1 => r x.d S1 Q
noncomputable def aNil : AA := fun _ S Q => Q [] S
noncomputable def aCons (a : AE) (b : AA) : AA := fun δ S Q => a δ S fun x S1 => b δ S1 fun xs S2 => Q (x.d :: xs) S2
noncomputable def aTup (a : AA) : AE := fun δ S Q => a δ S fun ds S1 => ds.length ≤ sizeLine ∧ Q (.dat (.tup ds)) S1
noncomputable def aLst (a : AA) : AE := fun δ S Q => a δ S fun ds S1 => ds.length ≤ sizeLine ∧ Q (.new (.lst ds)) S1
noncomputable def aAlloc (a : AE) : AE := fun δ S Q => a δ S fun r S1 => match r with
  | .new o => Q (.dat (.loc S1.length)) (S1 ++ [some o])
  | .dat d => Q (.dat d) S1
noncomputable def aCall (sp : AN) (a : AA) : AE := fun δ S Q => a δ S fun ds S1 => sp ds S1 Q
noncomputable def aB (a : AE) : AT := fun δ S Q => a δ S fun r S1 => ∃ b, r.d = .bl b ∧ Q b S1
noncomputable def aTruD : D → Option Bool
  | .non => some false
  | .bl b => some b
  | .int i => some (i != 0)
  | .str y => if y.length ≤ sizeLine then some ((y.length : Int) != 0) else none
  | .tup ds => some (!ds.isEmpty)
  | .lst ds => some (!ds.isEmpty)
  | .dct ks _ => some (!ks.isEmpty)
  | _ => none
noncomputable def aTru (a : AE) : AT := fun δ S Q => a δ S fun r S1 => ∃ b, aTruD (see S1 r.d) = some b ∧ Q b S1
noncomputable def aAndV (a b : AE) : AE := fun δ S Q => a δ S fun x S1 => ∃ c, x.d = .bl c ∧ if c = true then b δ S1 Q else Q (.dat (.bl false)) S1
noncomputable def aOrV (a b : AE) : AE := fun δ S Q => a δ S fun x S1 => ∃ c, x.d = .bl c ∧ if c = true then Q (.dat (.bl true)) S1 else b δ S1 Q
noncomputable def aNotV (a : AE) : AE := fun δ S Q => a δ S fun x S1 => ∃ c, x.d = .bl c ∧ Q (.dat (.bl (!c))) S1
noncomputable def aAnd (a b : AT) : AT := fun δ S Q => a δ S fun c S1 => if c = true then b δ S1 Q else Q false S1
noncomputable def aOr (a b : AT) : AT := fun δ S Q => a δ S fun c S1 => if c = true then Q true S1 else b δ S1 Q
noncomputable def aNot (a : AT) : AT := fun δ S Q => a δ S fun c S1 => Q (!c) S1
noncomputable def aIf (t : AT) (a b : AE) : AE := fun δ S Q => t δ S fun c S1 => if c = true then a δ S1 Q else b δ S1 Q
noncomputable def aChain (r r' : A2) (a b c : AE) : AE := fun δ S Q => a δ S fun x S1 => b δ S1 fun y S2 => r x.d y.d S2 fun z S3 => ∃ k, z.d = .bl k ∧ if k = true then c δ S3 fun z' S4 => r' y.d z'.d S4 Q else Q (.dat (.bl false)) S3
noncomputable def aNoPart : AO := fun _ S Q => Q none S
noncomputable def aPart (a : AE) : AO := fun δ S Q => a δ S fun r S1 => ∃ i, r.d = .int i ∧ Q (some i) S1
noncomputable def aSl (r : D → Option Int → Option Int → Sto → AK → Prop) (a : AE) (l u : AO) : AE := fun δ S Q => a δ S fun x S1 => l δ S1 fun i S2 => u δ S2 fun j S3 => r x.d i j S3 Q
noncomputable def aNext : AS := fun D δ S => D.nx δ S
noncomputable def aSeq (a b : AS) : AS := fun D δ S => a { D with nx := b D } δ S
noncomputable def aRet (a : AE) : AS := fun D δ S => a δ S D.rt
noncomputable def aRetN : AS := fun D _ S => D.rt (.dat .non) S
noncomputable def aDrop (a : AE) : AS := fun D δ S => a δ S fun _ S1 => D.nx δ S1
noncomputable def aIfS (c : AT) (a b : AS) : AS := fun D δ S => c δ S fun k S1 => if k = true then a D δ S1 else b D δ S1
noncomputable def agName (i : Nat) : AG := fun d δ S Q => Q (δ.set i (some d)) S
noncomputable def agNil : AGs := fun ds δ S Q => ds = [] ∧ Q δ S
noncomputable def agCons (a : AG) (b : AGs) : AGs := fun ds δ S Q => ∃ d r, ds = d :: r ∧ a d δ S fun δ1 S1 => b r δ1 S1 Q
noncomputable def agTup (n : Nat) (a : AGs) : AG := fun d δ S Q => ∃ ds, d = .tup ds ∧ ds.length = n ∧ a ds δ S Q
noncomputable def aAsg (a : AE) (g : AG) : AS := fun D δ S => a δ S fun r S1 => g r.d δ S1 D.nx
noncomputable def loopD (P : Sto → Prop) (g : AG) (b : AS) : List D → AEnds → AEnv → Sto → Prop
  | [], D, δ, S => P S ∧ D.nx δ S
  | x :: xs, D, δ, S => P S ∧ g x δ S fun δ2 S2 => b { D with nx := loopD P g b xs D, ct := loopD P g b xs D, bk := D.nx } δ2 S2
noncomputable def aFor (i : AI) (g : AG) (b : AS) : AS := fun D δ S => i δ S fun ds P S1 => loopD P g b ds D δ S1
noncomputable def aWhile (c : AT) (b : AS) : AS := fun D δ S => ∃ W : Nat → AEnv → Sto → Prop, (∃ m, W m δ S) ∧ ∀ m δ S, W m δ S →
  c δ S fun k S1 => if k = true then ∃ N : AEnv → Sto → Prop, (∀ δ' S', N δ' S' → ∃ m', m' < m ∧ W m' δ' S') ∧ b { D with nx := N, ct := N, bk := D.nx } δ S1 else D.nx δ S1
noncomputable def aYes : AT := fun _ S Q => Q true S
noncomputable def compD (P : Sto → Prop) (g : AG) (t : AT) (e : AE) : List D → List D → AEnv → Sto → (List D → Sto → Prop) → Prop
  | [], acc, _, S, Q => P S ∧ Q acc S
  | x :: xs, acc, δ, S, Q => P S ∧ g x δ S fun δ2 S2 => t δ2 S2 fun b S3 => if b = true then e δ2 S3 fun r S4 => acc.length < sizeLine ∧ compD P g t e xs (acc ++ [r.d]) δ2 S4 Q else compD P g t e xs acc δ2 S3 Q
noncomputable def captA (caps : List (Option Nat)) (δ : AEnv) : AEnv := caps.map fun o => o.bind fun i => (δ[i]?).getD none
noncomputable def aComp (caps : List (Option Nat)) (i : AI) (g : AG) (t : AT) (e : AE) : AE := fun δ S Q => i δ S fun ds P S1 => compD P g t e ds [] (captA caps δ) S1 fun ds' S2 => Q (.new (.lst ds')) S2
noncomputable def iRngD (lo : Int) (n : Nat) : List D := (List.range n).map fun k : Nat => .int (lo + (k : Int))
noncomputable def iRng (a : AA) : AI := fun δ S Q => a δ S fun ds S1 => ∃ j : Int, ds = [.int j] ∧ (-(2 ^ 62) ≤ j ∧ j < 2 ^ 62) ∧ Q (iRngD 0 j.toNat) (fun _ => True) S1
noncomputable def signs (x : Str) : List D := x.cps.toList.map fun c => .str ⟨#[c]⟩
end M
set_option Elab.async false
set_option linter.all false
set_option maxRecDepth 100000
set_option maxHeartbeats 4000000
namespace M
open PySem L2
section
variable {K : PySem.W.Frag}
theorem BackV.go {w : Wd} {Qa : AK} {Q : VK} (h : ∀ r S' v w' H', w.le w' → Ok K w' H' S' → Rep K w' r.d v → Qa r S' → Q v H') : BackV K w Qa Q := fun r S' v w' H' le ok rep q => by
  obtain ⟨w2, le2, ok2, rep2⟩ := freeze ok rep
  exact h r S' v w2 H' (le.trans le2) ok2 rep2 q
theorem BackV.dat {w w' : Wd} {Qa : AK} {Q : VK} {d : D} {v : V} {S : Sto} {H : Hp} (h : BackV K w Qa Q) (le : w.le w') (ok : Ok K w' H S) (rep : Rep K w' d v) (q : Qa (.dat d) S) : Q v H := h (.dat d) S v w' H le ok rep q
theorem s_var {i : Nat} : ∀ σ H Q, conE K (aVar i) σ H Q → tVar i σ H Q := by
  rintro σ H Q ⟨w, δ, S, Qa, ok, env, ⟨d, e, q⟩, bk⟩
  obtain ⟨v, e1, e2⟩ := env.2 i d e
  exact ⟨v, e1, bk.dat .refl ok e2 q⟩
theorem s_c {d : D} {v : V} (h : ∀ w, Rep K w d v) : ∀ σ H Q, conE K (aC d) σ H Q → tC v σ H Q := by
  rintro σ H Q ⟨w, δ, S, Qa, ok, env, q, bk⟩
  exact bk.dat .refl ok (h w) q
theorem s_op {r : A2} {a b : AE} : ∀ σ H Q, conE K (aOp r a b) σ H Q → tOp (con2 K r) (conE K a) (conE K b) σ H Q := by
  rintro σ H Q ⟨w, δ, S, Qa, ok, env, q, bk⟩
  refine ⟨w, δ, S, _, ok, env, q, .go fun r1 S1 v1 w1 H1 le1 ok1 rep1 q1 => ?_⟩
  refine ⟨w1, δ, S1, _, ok1, env.le le1, q1, .go fun r2 S2 v2 w2 H2 le2 ok2 rep2 q2 => ?_⟩
  exact ⟨w2, r1.d, r2.d, S2, Qa, ok2, rep1.le le2, rep2, q2, bk.le (le1.trans le2)⟩
theorem s_nil : ∀ σ H Q, conA K aNil σ H Q → tNil σ H Q := by
  rintro σ H Q ⟨w, δ, S, Qa, ok, env, q, bk⟩
  exact bk [] S [] w H .refl ok .nil q
theorem s_cons {a : AE} {b : AA} : ∀ σ H Q, conA K (aCons a b) σ H Q → tCons (conE K a) (conA K b) σ H Q := by
  rintro σ H Q ⟨w, δ, S, Qa, ok, env, q, bk⟩
  refine ⟨w, δ, S, _, ok, env, q, .go fun r1 S1 v1 w1 H1 le1 ok1 rep1 q1 => ?_⟩
  refine ⟨w1, δ, S1, _, ok1, env.le le1, q1, fun ds S2 vs w2 H2 le2 ok2 rep2 q2 => ?_⟩
  exact bk _ S2 _ w2 H2 (le1.trans le2) ok2 (.cons (rep1.le le2) rep2) q2
theorem s_tup {a : AA} : ∀ σ H Q, conE K (aTup a) σ H Q → tTup (conA K a) σ H Q := by
  rintro σ H Q ⟨w, δ, S, Qa, ok, env, q, bk⟩
  refine ⟨w, δ, S, _, ok, env, q, fun ds S1 vs w1 H1 le1 ok1 rep1 ⟨hl, q1⟩ => ⟨by rw [rep1.length]; exact hl, fun p hp => ?_⟩⟩
  obtain ⟨w2, le2, ok2, rep2⟩ := ok1.newTup hp rep1
  exact bk.dat (le1.trans le2) ok2 rep2 q1
theorem s_lst {a : AA} : ∀ σ H Q, conE K (aLst a) σ H Q → tLst (conA K a) σ H Q := by
  rintro σ H Q ⟨w, δ, S, Qa, ok, env, q, bk⟩
  refine ⟨w, δ, S, _, ok, env, q, fun ds S1 vs w1 H1 le1 ok1 rep1 ⟨hl, q1⟩ => ⟨by rw [rep1.length]; exact hl, fun p hp => ?_⟩⟩
  exact bk (.new (.lst ds)) S1 _ w1 _ le1 (ok1.alloc hp) (ok1.fresh hp ⟨vs, rfl, rep1⟩) q1
theorem s_alloc {a : AE} : ∀ σ H Q, conE K (aAlloc a) σ H Q → conE K a σ H Q := by
  rintro σ H Q ⟨w, δ, S, Qa, ok, env, q, bk⟩
  refine ⟨w, δ, S, _, ok, env, q, fun r S1 v w1 H1 le1 ok1 rep1 q1 => ?_⟩
  cases r with
  | dat d => exact bk.dat le1 ok1 rep1 q1
  | new o =>
    obtain ⟨w2, le2, ok2, rep2⟩ := store ok1 rep1
    exact bk.dat (le1.trans le2) ok2 rep2 q1
theorem s_call {sp : AN} {a : AA} {E : XK} : ∀ σ H Q, conE K (aCall sp a) σ H Q → tCall (conSp K sp) [] E (conA K a) σ H Q := by
  rintro σ H Q ⟨w, δ, S, Qa, ok, env, q, bk⟩
  refine ⟨w, δ, S, _, ok, env, q, fun ds S1 vs w1 H1 le1 ok1 rep1 q1 => ?_⟩
  exact ⟨w1, ds, S1, Qa, ok1, by rw [List.append_nil]; exact rep1, q1, bk.le le1⟩
theorem s_cb {r : AN} {a : AA} : ∀ σ H Q, conE K (aCall r a) σ H Q → tCB (conN K r) (conA K a) σ H Q := by
  rintro σ H Q ⟨w, δ, S, Qa, ok, env, q, bk⟩
  refine ⟨w, δ, S, _, ok, env, q, fun ds S1 vs w1 H1 le1 ok1 rep1 q1 => ?_⟩
  exact ⟨w1, ds, S1, Qa, ok1, rep1, q1, bk.le le1⟩
theorem rep_bl {w : Wd} {b : Bool} {v : V} {d : D} (h : Rep K w d v) (e : d = .bl b) : v = .bl b := by subst e; simpa [Rep] using h
theorem rep_int {w : Wd} {b : Int} {v : V} {d : D} (h : Rep K w d v) (e : d = .int b) : v = .int b := by subst e; simpa [Rep] using h
theorem rep_str {w : Wd} {b : Str} {v : V} {d : D} (h : Rep K w d v) (e : d = .str b) : v = .str b := by subst e; simpa [Rep] using h
theorem rep_ty {w : Wd} {n : String} {v : V} {d : D} (h : Rep K w d v) (e : d = .ty n) : v = .ty n := by subst e; simpa [Rep] using h
theorem Rep.bl {w : Wd} {b : Bool} : Rep K w (.bl b) (.bl b) := by simp [Rep]
theorem Rep.int {w : Wd} {b : Int} : Rep K w (.int b) (.int b) := by simp [Rep]
theorem Rep.str {w : Wd} {b : Str} : Rep K w (.str b) (.str b) := by simp [Rep]
theorem Rep.non {w : Wd} : Rep K w .non .non := by simp [Rep]
theorem Rep.ty {w : Wd} {n : String} : Rep K w (.ty n) (.ty n) := by simp [Rep]
theorem s_b {a : AE} : ∀ σ H Q, conT K (aB a) σ H Q → tB (conE K a) σ H Q := by
  rintro σ H Q ⟨w, δ, S, Qa, ok, env, q, bk⟩
  refine ⟨w, δ, S, _, ok, env, q, .go fun r1 S1 v1 w1 H1 le1 ok1 rep1 ⟨b, e, q1⟩ => ⟨b, rep_bl rep1 e, bk b S1 w1 H1 le1 ok1 q1⟩⟩
theorem tru_see {w : Wd} {H : Hp} {S : Sto} {d : D} {v : V} {b : Bool} (ok : Ok K w H S) (h : Rep K w d v) (e : aTruD (see S d) = some b) : TruV K v H b := by
  cases q : see S d with
  | lst ds =>
    rw [q] at e
    obtain ⟨a, xs, rfl, h1, h2⟩ := see_lst ok h q
    refine Or.inl ⟨xs, SqL.of h1, ?_⟩
    have : b = !ds.isEmpty := by simpa [aTruD] using e.symm
    rw [this]
    have := h2.length
    cases ds <;> cases xs <;> simp at this ⊢
  | tup ds =>
    rw [q] at e
    obtain ⟨a, xs, rfl, h1, h2⟩ := see_tup ok h q
    refine Or.inr (Or.inl ⟨xs, SqT.of h1, ?_⟩)
    have : b = !ds.isEmpty := by simpa [aTruD] using e.symm
    rw [this]
    have := h2.length
    cases ds <;> cases xs <;> simp at this ⊢
  | dct ks ds =>
    rw [q] at e
    obtain ⟨a, kvs, rfl, h1, h2, h3⟩ := see_dct ok h q
    refine Or.inr (Or.inr ⟨kvs, h1, ?_⟩)
    have : b = !ks.isEmpty := by simpa [aTruD] using e.symm
    rw [this, ← h2]
    cases kvs <;> simp
  | _ =>
    rw [q] at e
    cases d <;> simp [see] at q <;> first
      | (subst q; simp only [Rep] at h; subst h; simp [aTruD] at e; simp [TruV, e]; done)
      | (simp [aTruD] at e; done)
      | skip
    all_goals first
      | (simp only [Rep] at h; subst h; subst q; simp only [aTruD, Option.some.injEq] at e; subst e; rfl)
      | (simp only [Rep] at h; subst h; simp only [aTruD, Option.some.injEq] at e; subst e; rfl)
      | (split at q <;> first | (rename_i o _; cases o <;> simp [MO.d] at q) | (cases q; simp [aTruD] at e) | cases q)
      | (simp only [Rep] at h; subst h; subst q; simp only [aTruD] at e; split at e; next hl => exact ⟨hl, by simpa using e.symm⟩; next => cases e)
      | skip
end
end M
set_option Elab.async false
set_option linter.all false
set_option maxRecDepth 100000
set_option maxHeartbeats 4000000
namespace M
open PySem L2
section
variable {K : PySem.W.Frag}
theorem s_tru {a : AE} : ∀ σ H Q, conT K (aTru a) σ H Q → (conE K a) σ H (fun x H' => ∃ k, TruV K x H' k ∧ Q k H') := by
  rintro σ H Q ⟨w, δ, S, Qa, ok, env, q, bk⟩
  exact ⟨w, δ, S, _, ok, env, q, .go fun r1 S1 v1 w1 H1 le1 ok1 rep1 ⟨b, e, q1⟩ => ⟨b, tru_see ok1 rep1 e, bk b S1 w1 H1 le1 ok1 q1⟩⟩
theorem s_andV {a b : AE} : ∀ σ H Q, conE K (aAndV a b) σ H Q → tAndV (conE K a) (conE K b) σ H Q := by
  rintro σ H Q ⟨w, δ, S, Qa, ok, env, q, bk⟩
  refine ⟨w, δ, S, _, ok, env, q, .go fun r1 S1 v1 w1 H1 le1 ok1 rep1 ⟨c, e, q1⟩ => ⟨c, rep_bl rep1 e, ?_⟩⟩
  cases c with
  | true => exact iteT ⟨w1, δ, S1, Qa, ok1, env.le le1, by simpa using q1, bk.le le1⟩
  | false => exact iteF (bk.dat le1 ok1 .bl (by simpa using q1))
theorem s_and {a b : AT} : ∀ σ H Q, conT K (aAnd a b) σ H Q → tAnd (conT K a) (conT K b) σ H Q := by
  rintro σ H Q ⟨w, δ, S, Qa, ok, env, q, bk⟩
  refine ⟨w, δ, S, _, ok, env, q, fun c S1 w1 H1 le1 ok1 q1 => ?_⟩
  cases c with
  | true => exact iteT ⟨w1, δ, S1, Qa, ok1, env.le le1, by simpa using q1, bk.le le1⟩
  | false => exact iteF (bk _ S1 w1 H1 le1 ok1 (by simpa using q1))
theorem s_or {a b : AT} : ∀ σ H Q, conT K (aOr a b) σ H Q → tOr (conT K a) (conT K b) σ H Q := by
  rintro σ H Q ⟨w, δ, S, Qa, ok, env, q, bk⟩
  refine ⟨w, δ, S, _, ok, env, q, fun c S1 w1 H1 le1 ok1 q1 => ?_⟩
  cases c with
  | false => exact iteF ⟨w1, δ, S1, Qa, ok1, env.le le1, by simpa using q1, bk.le le1⟩
  | true => exact iteT (bk _ S1 w1 H1 le1 ok1 (by simpa using q1))
theorem s_not {a : AT} : ∀ σ H Q, conT K (aNot a) σ H Q → tNot (conT K a) σ H Q := by
  rintro σ H Q ⟨w, δ, S, Qa, ok, env, q, bk⟩
  exact ⟨w, δ, S, _, ok, env, q, fun c S1 w1 H1 le1 ok1 q1 => bk _ S1 w1 H1 le1 ok1 q1⟩
theorem s_noPart : ∀ σ H Q, conO K aNoPart σ H Q → tNoPart σ H Q := by
  rintro σ H Q ⟨w, δ, S, Qa, ok, env, q, bk⟩
  exact bk none S w H .refl ok q
theorem s_part {a : AE} : ∀ σ H Q, conO K (aPart a) σ H Q → tPart (conE K a) σ H Q := by
  rintro σ H Q ⟨w, δ, S, Qa, ok, env, q, bk⟩
  exact ⟨w, δ, S, _, ok, env, q, .go fun r1 S1 v1 w1 H1 le1 ok1 rep1 ⟨i, e, q1⟩ => ⟨i, rep_int rep1 e, bk _ S1 w1 H1 le1 ok1 q1⟩⟩
noncomputable def conSl (K : PySem.W.Frag) (a : D → Option Int → Option Int → Sto → AK → Prop) : V → Option Int → Option Int → Hp → VK → Prop := fun x i j H Q => ∃ w d S Qa, Ok K w H S ∧ Rep K w d x ∧ a d i j S Qa ∧ BackV K w Qa Q
theorem s_sl {r : D → Option Int → Option Int → Sto → AK → Prop} {a : AE} {l u : AO} : ∀ σ H Q, conE K (aSl r a l u) σ H Q → tSl (conSl K r) (conE K a) (conO K l) (conO K u) σ H Q := by
  rintro σ H Q ⟨w, δ, S, Qa, ok, env, q, bk⟩
  refine ⟨w, δ, S, _, ok, env, q, .go fun r1 S1 v1 w1 H1 le1 ok1 rep1 q1 => ?_⟩
  refine ⟨w1, δ, S1, _, ok1, env.le le1, q1, fun i S2 w2 H2 le2 ok2 q2 => ?_⟩
  refine ⟨w2, δ, S2, _, ok2, env.le (le1.trans le2), q2, fun j S3 w3 H3 le3 ok3 q3 => ?_⟩
  exact ⟨w3, r1.d, S3, Qa, ok3, rep1.le (le2.trans le3), q3, bk.le (le1.trans (le2.trans le3))⟩
theorem s_next : ∀ D σ H, conS K aNext D σ H → tNext D σ H := by
  rintro D σ H ⟨w, δ, S, Da, ok, env, q, bk⟩
  exact bk.nx δ S σ w H .refl ok env q
theorem s_seq {a b : AS} : ∀ D σ H, conS K (aSeq a b) D σ H → tSeq (conS K a) (conS K b) D σ H := by
  rintro D σ H ⟨w, δ, S, Da, ok, env, q, bk⟩
  refine ⟨w, δ, S, _, ok, env, q, ⟨fun δ1 S1 σ1 w1 H1 le1 ok1 env1 q1 => ?_, bk.rt, bk.bk, bk.ct⟩⟩
  exact ⟨w1, δ1, S1, Da, ok1, env1, q1, bk.le le1⟩
theorem s_ret {a : AE} : ∀ D σ H, conS K (aRet a) D σ H → tRet (conE K a) D σ H := by
  rintro D σ H ⟨w, δ, S, Da, ok, env, q, bk⟩
  exact ⟨w, δ, S, _, ok, env, q, bk.rt⟩
theorem s_drop {a : AE} : ∀ D σ H, conS K (aDrop a) D σ H → tDrop (conE K a) D σ H := by
  rintro D σ H ⟨w, δ, S, Da, ok, env, q, bk⟩
  exact ⟨w, δ, S, _, ok, env, q, .go fun r1 S1 v1 w1 H1 le1 ok1 rep1 q1 => bk.nx δ S1 σ w1 H1 le1 ok1 (env.le le1) q1⟩
theorem s_ifS {c : AT} {a b : AS} : ∀ D σ H, conS K (aIfS c a b) D σ H → tIfS (conT K c) (conS K a) (conS K b) D σ H := by
  rintro D σ H ⟨w, δ, S, Da, ok, env, q, bk⟩
  refine ⟨w, δ, S, _, ok, env, q, fun k S1 w1 H1 le1 ok1 q1 => ?_⟩
  cases k with
  | true => exact iteT ⟨w1, δ, S1, Da, ok1, env.le le1, by simpa using q1, bk.le le1⟩
  | false => exact iteF ⟨w1, δ, S1, Da, ok1, env.le le1, by simpa using q1, bk.le le1⟩
theorem s_gName {i : Nat} : ∀ x σ H Q, conG K (agName i) x σ H Q → gName i x σ H Q := by
  rintro x σ H Q ⟨w, d, δ, S, Qa, ok, env, rep, q, bk⟩
  exact bk _ S _ w H .refl ok (env.set rep i) q
theorem s_gNil : ∀ x σ H Q, conGs K agNil x σ H Q → gNil x σ H Q := by
  rintro x σ H Q ⟨w, ds, δ, S, Qa, ok, env, rep, ⟨rfl, q⟩, bk⟩
  exact ⟨by simpa [Reps] using rep, bk _ S _ w H .refl ok env q⟩
theorem s_gCons {a : AG} {b : AGs} : ∀ x σ H Q, conGs K (agCons a b) x σ H Q → gCons (conG K a) (conGs K b) x σ H Q := by
  rintro x σ H Q ⟨w, ds, δ, S, Qa, ok, env, rep, ⟨d, r, rfl, q⟩, bk⟩
  simp only [Reps] at rep
  obtain ⟨v, vs, rfl, h1, h2⟩ := rep
  refine ⟨v, vs, rfl, w, d, δ, S, _, ok, env, h1, q, fun δ1 S1 σ1 w1 H1 le1 ok1 env1 q1 => ?_⟩
  exact ⟨w1, r, δ1, S1, Qa, ok1, env1, h2.le le1, q1, bk.le le1⟩
theorem s_gTup {n : Nat} {a : AGs} : ∀ x σ H Q, conG K (agTup n a) x σ H Q → gTup K n (conGs K a) x σ H Q := by
  rintro x σ H Q ⟨w, d, δ, S, Qa, ok, env, rep, ⟨ds, rfl, hl, q⟩, bk⟩
  simp only [Rep] at rep
  obtain ⟨p, xs, rfl, h1, h2⟩ := rep
  exact ⟨p, xs, rfl, SqT.of (ok.base _ _ h1), by rw [h2.length]; exact hl, w, ds, δ, S, Qa, ok, env, h2, q, bk⟩
theorem s_asg {a : AE} {g : AG} : ∀ D σ H, conS K (aAsg a g) D σ H → tAsg (conE K a) (conG K g) D σ H := by
  rintro D σ H ⟨w, δ, S, Da, ok, env, q, bk⟩
  refine ⟨w, δ, S, _, ok, env, q, .go fun r1 S1 v1 w1 H1 le1 ok1 rep1 q1 => ?_⟩
  exact ⟨w1, r1.d, δ, S1, _, ok1, env.le le1, rep1, q1, bk.nx.le le1⟩
theorem s_for {i : AI} {g : AG} {b : AS} : ∀ D σ H, conS K (aFor i g b) D σ H → tFor (conI K i) (conG K g) (conS K b) D σ H := by
  rintro D σ H ⟨w, δ, S, Da, ok, env, q, bk⟩
  refine ⟨w, δ, S, _, ok, env, q, fun ds P S1 J w1 H1 le1 ok1 it q1 => ?_⟩
  refine ⟨fun i m σ H => m = ds.length - i ∧ i ≤ ds.length ∧ ∃ w2 δ2 S2, w1.le w2 ∧ Ok K w2 H S2 ∧ EnvR K w2 δ2 σ ∧ loopD P g b (ds.drop i) Da δ2 S2, ⟨ds.length, by simp, Nat.zero_le _, w1, δ, S1, .refl, ok1, env.le le1, by simpa using q1⟩, ?_⟩
  rintro i m σ2 H2 ⟨rfl, hi, w2, δ2, S2, le2, ok2, env2, lp⟩
  by_cases hlt : i < ds.length
  · rw [List.drop_eq_getElem_cons hlt] at lp
    obtain ⟨hP, lp⟩ := lp
    have hd : ds[i]? = some ds[i] := List.getElem?_eq_getElem hlt
    refine .inr ⟨it.go i H2 S2 w2 _ le2 ok2 hP hd, fun σ' H' => ∃ w3 δ3 S3, w1.le w3 ∧ Ok K w3 H' S3 ∧ EnvR K w3 δ3 σ' ∧ loopD P g b (ds.drop (i + 1)) Da δ3 S3, fun σ' H' h => ⟨_, by omega, rfl, hlt, h⟩, fun x H' y => ?_⟩
    obtain ⟨rfl, rx⟩ := it.yld i H2 S2 w2 _ x H' le2 ok2 hP hd y
    refine ⟨w2, ds[i], δ2, S2, _, ok2, env2, rx, lp, fun δ3 S3 σ3 w3 H3 le3 ok3 env3 q3 => ?_⟩
    have lew := le1.trans (le2.trans le3)
    refine ⟨w3, δ3, S3, _, ok3, env3, q3, ⟨?_, bk.rt.le lew, bk.nx.le lew, ?_⟩⟩
    · exact fun δ4 S4 σ4 w4 H4 le4 ok4 env4 q4 => ⟨w4, δ4, S4, le2.trans (le3.trans le4), ok4, env4, q4⟩
    · exact fun δ4 S4 σ4 w4 H4 le4 ok4 env4 q4 => ⟨w4, δ4, S4, le2.trans (le3.trans le4), ok4, env4, q4⟩
  · have e : i = ds.length := by omega
    subst e
    rw [List.drop_length] at lp
    exact .inl ⟨it.stop _ H2 S2 w2 le2 ok2 lp.1 rfl, bk.nx δ2 S2 σ2 w2 H2 (le1.trans le2) ok2 env2 lp.2⟩
theorem s_while {c : AT} {b : AS} : ∀ D σ H, conS K (aWhile c b) D σ H → tWhile (conT K c) (conS K b) D σ H := by
  rintro D σ H ⟨w, δ, S, Da, ok, env, ⟨W, ⟨m0, w0⟩, turn⟩, bk⟩
  refine ⟨fun m σ H => ∃ w1 δ1 S1, w.le w1 ∧ Ok K w1 H S1 ∧ EnvR K w1 δ1 σ ∧ W m δ1 S1, ⟨m0, w, δ, S, .refl, ok, env, w0⟩, ?_⟩
  rintro m σ1 H1 ⟨w1, δ1, S1, le1, ok1, env1, h1⟩
  refine ⟨w1, δ1, S1, _, ok1, env1, turn m δ1 S1 h1, fun k S2 w2 H2 le2 ok2 q2 => ?_⟩
  cases k with
  | false => exact iteF (bk.nx δ1 S2 σ1 w2 H2 (le1.trans le2) ok2 (env1.le le2) (by simpa using q2))
  | true =>
    rw [if_pos rfl] at q2
    obtain ⟨N, hN, q2⟩ := q2
    have lew := le1.trans le2
    refine iteT ⟨fun σ' H' => ∃ w3 δ3 S3, w.le w3 ∧ Ok K w3 H' S3 ∧ EnvR K w3 δ3 σ' ∧ N δ3 S3, ?_, w2, δ1, S2, _, ok2, env1.le le2, q2, ⟨?_, bk.rt.le lew, bk.nx.le lew, ?_⟩⟩
    · rintro σ' H' ⟨w3, δ3, S3, le3, ok3, env3, n3⟩
      obtain ⟨m', hm, h3⟩ := hN δ3 S3 n3
      exact ⟨m', hm, w3, δ3, S3, le3, ok3, env3, h3⟩
    · exact fun δ4 S4 σ4 w4 H4 le4 ok4 env4 q4 => ⟨w4, δ4, S4, lew.trans le4, ok4, env4, q4⟩
    · exact fun δ4 S4 σ4 w4 H4 le4 ok4 env4 q4 => ⟨w4, δ4, S4, lew.trans le4, ok4, env4, q4⟩
theorem s_yes : ∀ σ H Q, conT K aYes σ H Q → tYes σ H Q := by
  rintro σ H Q ⟨w, δ, S, Qa, ok, env, q, bk⟩
  exact bk true S w H .refl ok q
theorem env_capt {w : Wd} {δ : AEnv} {σ : St} (h : EnvR K w δ σ) (caps : List (Option Nat)) : EnvR K w (captA caps δ) (capt caps σ) := by
  refine ⟨by simp [captA, capt], fun i d e => ?_⟩
  simp only [captA, List.getElem?_map] at e
  cases q : caps[i]? with
  | none => rw [q] at e; cases e
  | some o =>
    rw [q] at e
    cases o with
    | none => simp at e
    | some j =>
      cases z : δ[j]? with
      | none => rw [Option.map_some] at e; simp [z] at e
      | some d' =>
        simp [z] at e
        subst e
        obtain ⟨v, h1, h2⟩ := h.2 j d z
        exact ⟨v, by simp [capt, List.getElem?_map, q, h1], h2⟩
theorem s_comp {caps : List (Option Nat)} {i : AI} {g : AG} {t : AT} {e : AE} : ∀ σ H Q, conE K (aComp caps i g t e) σ H Q → tComp caps (conI K i) (conG K g) (conT K t) (conE K e) σ H Q := by
  rintro σ H Q ⟨w, δ, S, Qa, ok, env, q, bk⟩
  refine ⟨w, δ, S, _, ok, env, q, fun ds P S1 J w1 H1 le1 ok1 it q1 => ?_⟩
  refine ⟨fun i m xs τ H => m = ds.length - i ∧ i ≤ ds.length ∧ ∃ w2 δ2 S2 acc, w1.le w2 ∧ Ok K w2 H S2 ∧ EnvR K w2 δ2 τ ∧ Reps K w2 acc xs ∧ compD P g t e (ds.drop i) acc δ2 S2 (fun ds' S2 => Qa (.new (.lst ds')) S2),
    ⟨ds.length, by simp, Nat.zero_le _, w1, captA caps δ, S1, [], .refl, ok1, env_capt (env.le le1) caps, .nil, by simpa using q1⟩, ?_⟩
  rintro i m xs τ2 H2 ⟨rfl, hi, w2, δ2, S2, acc, le2, ok2, env2, reps, lp⟩
  by_cases hlt : i < ds.length
  · rw [List.drop_eq_getElem_cons hlt] at lp
    obtain ⟨hP, lp⟩ := lp
    have hd : ds[i]? = some ds[i] := List.getElem?_eq_getElem hlt
    refine .inr ⟨it.go i H2 S2 w2 _ le2 ok2 hP hd, fun ys τ' H' => ∃ w3 δ3 S3 acc, w1.le w3 ∧ Ok K w3 H' S3 ∧ EnvR K w3 δ3 τ' ∧ Reps K w3 acc ys ∧ compD P g t e (ds.drop (i + 1)) acc δ3 S3 (fun ds' S2 => Qa (.new (.lst ds')) S2), fun ys σ' H' h => ⟨_, by omega, rfl, hlt, h⟩, fun x H' y => ?_⟩
    obtain ⟨rfl, rx⟩ := it.yld i H2 S2 w2 _ x H' le2 ok2 hP hd y
    refine ⟨w2, ds[i], δ2, S2, _, ok2, env2, rx, lp, fun δ3 S3 σ3 w3 H3 le3 ok3 env3 q3 => ?_⟩
    refine ⟨w3, δ3, S3, _, ok3, env3, q3, fun k S4 w4 H4 le4 ok4 q4 => ?_⟩
    cases k with
    | false =>
      exact iteF ⟨w4, δ3, S4, acc, le2.trans (le3.trans le4), ok4, env3.le le4, reps.le (le3.trans le4), by simpa using q4⟩
    | true =>
      rw [if_pos rfl] at q4
      refine iteT ⟨w4, δ3, S4, _, ok4, env3.le le4, q4, .go fun r5 S5 v5 w5 H5 le5 ok5 rep5 ⟨hz, q5⟩ => ?_⟩
      exact ⟨by rw [reps.length]; exact hz, w5, δ3, S5, acc ++ [r5.d], le2.trans (le3.trans (le4.trans le5)), ok5, env3.le (le4.trans le5), (reps.le (le3.trans (le4.trans le5))).snoc rep5, q5⟩
  · have e : i = ds.length := by omega
    subst e
    rw [List.drop_length] at lp
    refine .inl ⟨it.stop _ H2 S2 w2 le2 ok2 lp.1 rfl, fun p hp => ?_⟩
    exact bk (.new (.lst acc)) S2 _ w2 _ (le1.trans le2) (ok2.alloc hp) (ok2.fresh hp ⟨xs, rfl, reps⟩) lp.2
theorem itr_lst {w : Wd} {p : Addr} {xs : List V} {ds : List D} (h1 : w.B p = some (.lst xs)) (h : Reps K w ds xs) : ItR K w (Itl K p) ds (fun _ => True) where
  go := fun i H S w' d le ok hP e => by
    obtain ⟨v, e1, _⟩ := h.get e
    exact ⟨xs, v, SqL.of ((le.b.trans ok.base) _ _ h1), e1⟩
  yld := fun i H S w' d x H' le ok hP e y => by
    obtain ⟨v, e1, e2⟩ := h.get e
    obtain ⟨y1, y2⟩ := y
    have := y2 xs (SqL.of ((le.b.trans ok.base) _ _ h1))
    rw [e1] at this; cases this
    exact ⟨y1, e2.le le⟩
  stop := fun i H S w' le ok hP e => ⟨xs, SqL.of ((le.b.trans ok.base) _ _ h1), by rw [h.length]; omega⟩
theorem itr_loc {w : Wd} {p : Addr} {n : Nat} {ds : List D} (hp : w.r n = some p) : ItR K w (Itl K p) ds (fun S => S[n]? = some (some (.lst ds))) where
  go := fun i H S w' d le ok hP e => by
    obtain ⟨b, u, k1, k2, k3, ys, rfl, k5⟩ := ok.live n _ hP
    rw [le.r n p hp] at k1; cases k1
    obtain ⟨v, e1, _⟩ := k5.get e
    exact ⟨ys, v, SqL.of k3, e1⟩
  yld := fun i H S w' d x H' le ok hP e y => by
    obtain ⟨b, u, k1, k2, k3, ys, rfl, k5⟩ := ok.live n _ hP
    rw [le.r n p hp] at k1; cases k1
    obtain ⟨v, e1, e2⟩ := k5.get e
    obtain ⟨y1, y2⟩ := y
    have := y2 ys (SqL.of k3)
    rw [e1] at this; cases this
    exact ⟨y1, e2⟩
  stop := fun i H S w' le ok hP e => by
    obtain ⟨b, u, k1, k2, k3, ys, rfl, k5⟩ := ok.live n _ hP
    rw [le.r n p hp] at k1; cases k1
    exact ⟨ys, SqL.of k3, by rw [k5.length]; omega⟩
theorem itr_tup {w : Wd} {p : Addr} {xs : List V} {ds : List D} (h1 : w.B p = some (.tup xs)) (h2 : Reps K w ds xs) : ItR K w (Itt K p) ds (fun _ => True) where
  go := fun i H S w' d le ok hP e => by
    obtain ⟨v, e1, _⟩ := h2.get e
    exact ⟨xs, v, SqT.of ((le.b.trans ok.base) _ _ h1), e1⟩
  yld := fun i H S w' d x H' le ok hP e y => by
    obtain ⟨v, e1, e2⟩ := h2.get e
    obtain ⟨y1, y2⟩ := y
    have := y2 xs (SqT.of ((le.b.trans ok.base) _ _ h1))
    rw [e1] at this; cases this
    exact ⟨y1, e2.le le⟩
  stop := fun i H S w' le ok hP e => ⟨xs, SqT.of ((le.b.trans ok.base) _ _ h1), by rw [h2.length]; omega⟩
theorem itr_str {w : Wd} {x : Str} : ItR K w (Its x) (signs x) (fun _ => True) where
  go := fun i H S w' d le ok hP e => by
    have : i < (signs x).length := by
      rcases Nat.lt_or_ge i (signs x).length with h | h
      · exact h
      · rw [List.getElem?_eq_none h] at e; cases e
    show i < x.cps.size
    simpa [signs] using this
  yld := fun i H S w' d y H' le ok hP e z => by
    obtain ⟨z1, c, z2, rfl⟩ := z
    refine ⟨z1, ?_⟩
    rw [signs, List.getElem?_map] at e
    have z2' : x.cps.toList[i]? = some c := by simpa using z2
    rw [z2'] at e
    have : D.str ⟨#[c]⟩ = d := by simpa using e
    subst this
    exact .str
  stop := fun i H S w' le ok hP e => by
    show _ = _
    rw [e]; simp [signs]
noncomputable def iAnyD (S1 : Sto) (Q : List D → (Sto → Prop) → Sto → Prop) : D → Prop
  | .lst ds => Q ds (fun _ => True) S1
  | .tup ds => Q ds (fun _ => True) S1
  | .str x => Q (signs x) (fun _ => True) S1
  | .loc n => ∃ ds, S1[n]? = some (some (.lst ds)) ∧ Q ds (fun S => S[n]? = some (some (.lst ds))) S1
  | _ => False
noncomputable def iAny (t : AE) : AI := fun δ S Q => t δ S fun r S1 => iAnyD S1 Q r.d
theorem s_iAny {t : AE} : ∀ σ H R, conI K (iAny t) σ H R → (conE K t) σ H fun x H1 => (∃ a, x = .ref a ∧ (∃ xs, SqL K H1 a xs) ∧ R (Itl K a) H1) ∨ (∃ a, x = .ref a ∧ (∃ xs, SqT K H1 a xs) ∧ R (Itt K a) H1) ∨ ∃ y, x = .str y ∧ R (Its y) H1 := by
  rintro σ H R ⟨w, δ, S, Qa, ok, env, q, bk⟩
  refine ⟨w, δ, S, _, ok, env, q, .go fun r1 S1 v1 w1 H1 le1 ok1 rep1 q1 => ?_⟩
  generalize r1.d = d at rep1 q1
  cases d with
  | lst ds =>
    simp only [Rep] at rep1
    obtain ⟨p, xs, rfl, h1, h2⟩ := rep1
    exact .inl ⟨p, rfl, ⟨xs, SqL.of (ok1.base _ _ h1)⟩, bk ds _ S1 _ w1 H1 le1 ok1 (itr_lst h1 h2) q1⟩
  | tup ds =>
    simp only [Rep] at rep1
    obtain ⟨p, xs, rfl, h1, h2⟩ := rep1
    exact .inr (.inl ⟨p, rfl, ⟨xs, SqT.of (ok1.base _ _ h1)⟩, bk ds _ S1 _ w1 H1 le1 ok1 (itr_tup h1 h2) q1⟩)
  | str x => exact .inr (.inr ⟨x, rep_str rep1 rfl, bk _ _ S1 _ w1 H1 le1 ok1 itr_str q1⟩)
  | loc n =>
    simp only [Rep] at rep1
    obtain ⟨p, hp, rfl⟩ := rep1
    obtain ⟨ds, e, q1⟩ := q1
    obtain ⟨p', u, g1, g2, g3, xs, rfl, g5⟩ := ok1.live n _ e
    rw [hp] at g1; cases g1
    exact .inl ⟨p, rfl, ⟨xs, SqL.of g3⟩, bk ds _ S1 _ w1 H1 le1 ok1 (itr_loc hp) q1⟩
  | _ => exact q1.elim
theorem rng_at {lo : Int} {n i : Nat} {d : D} (e : (iRngD lo n)[i]? = some d) : i < n ∧ d = .int (lo + (i : Int)) := by
  unfold iRngD at e
  rw [List.getElem?_map] at e
  by_cases h : i < n
  · rw [List.getElem?_range h] at e
    exact ⟨h, by simpa using e.symm⟩
  · rw [List.getElem?_eq_none (by simpa using h)] at e; cases e
theorem s_iRng {a : AA} : ∀ σ H R, conI K (iRng a) σ H R → iRng1 (conA K a) σ H R := by
  rintro σ H R ⟨w, δ, S, Qa, ok, env, q, bk⟩
  refine ⟨w, δ, S, _, ok, env, q, fun ds S1 vs w1 H1 le1 ok1 rep1 ⟨j, hd, ⟨h1, h2⟩, q1⟩ => ⟨j, ?_, h1, h2, ?_⟩⟩
  · subst hd
    simp only [Reps, Rep] at rep1
    obtain ⟨x, r, rfl, rfl, rfl⟩ := rep1
    rfl
  · refine bk _ _ S1 _ w1 H1 le1 ok1 ⟨fun i H S w' d le ok hP e => ?_, fun i H S w' d x H' le ok hP e y => ?_, fun i H S w' le ok hP e => ?_⟩ q1
    · exact (rng_at e).1
    · obtain ⟨y1, y2⟩ := y
      obtain ⟨e1, rfl⟩ := rng_at e
      subst y2
      exact ⟨y1, .int⟩
    · show _ ≤ _
      rw [e]; simp [iRngD]
end
end M
set_option Elab.async false
set_option linter.all false
set_option maxRecDepth 100000
set_option maxHeartbeats 4000000
namespace M
open PySem PySem.Spec PyProof.Rows L2
section
variable {X : Cx} {pos : Pos} {e a b c : Expr} {es : List Expr}
theorem pv (i : Nat) {x : Str} (hN : X.N[i]? = some x := by rfl) (hv : Vis X.env.scope x := by first | exact Or.inl rfl | exact Or.inr (Or.inl rfl) | exact Or.inr (Or.inr rfl)) (hd : (x == ("__debug__" : Str)) = false := by decide)
    (hcd : (x == ("__classdict__" : Str)) = false := by decide) : GE X (.Name x pos) (aVar i) := ⟨mE (L2.pe_var hN hv hd hcd) s_var⟩
theorem pe_int {i j} : GE X (.Constant (.int i) j pos) (aC (.int i)) := ⟨mE L2.pe_int (s_c fun _ => .int)⟩
theorem pe_bl {i j} : GE X (.Constant (.bool i) j pos) (aC (.bl i)) := ⟨mE L2.pe_bl (s_c fun _ => .bl)⟩
theorem pe_str {i j} : GE X (.Constant (.str i) j pos) (aC (.str i)) := ⟨mE L2.pe_str (s_c fun _ => .str)⟩
theorem pe_ty (T : String) {x : Str} (hg : Gl X x) (hm : X.mg x = none) (hv : bootBuiltins x = some (.type T)) (hn : x ≠ "__name__" := by decide +kernel) (hd : (x == ("__debug__" : Str)) = false := by decide +kernel) : GE X (.Name x pos) (aC (.ty T)) :=
  ⟨mE (L2.pe_ty T hg hm hv hn hd) (s_c fun _ => .ty)⟩
theorem pe_glob {x : Str} {d : D} {v : V} {u : Value} (hg : Gl X x) (hm : X.mg x = some u) (r : RelV v u) (h : ∀ w, Rep X.K w d v) (hd : (x == ("__debug__" : Str)) = false := by decide) : GE X (.Name x pos) (aC d) :=
  ⟨mE (L2.pe_glob hg hm r hd) (s_c h)⟩
theorem pe_op {op : Operator} {r : A2} {ta tb : AE} (ho : Op2 X (binaryOp op) r) (ha : GE X a ta) (hb : GE X b tb) : GE X (.BinOp a op b pos) (aOp r ta tb) := ⟨mE (L2.pe_op ho.p ha.p hb.p) s_op⟩
theorem pe_cmpR {op : CmpOp} {r : A2} {ta tb : AE} (ho : Op2 X (compareOp op) r) (ha : GE X a ta) (hb : GE X b tb) (hm : behindInMarks op b = false) : GE X (.Compare a [op] [b] pos) (aOp r ta tb) := ⟨mE (L2.pe_cmpR ho.p ha.p hb.p hm) s_op⟩
theorem pe_ix {r : A2} {ta tb : AE} (ho : OpI X r) (ha : GE X a ta) (hb : GE X b tb) (hs : PlainIx b) : GE X (.Subscript a b pos) (aOp r ta tb) := ⟨mE (L2.pe_ix ho.p ha.p hb.p hs) s_op⟩
theorem pa_nil : GA X [] aNil := ⟨mA L2.pa_nil s_nil⟩
theorem pac {ta : AE} {t : AA} (ha : GE X e ta) (hr : GA X es t) (hs : notStar e = true := by rfl) : GA X (e :: es) (aCons ta t) := ⟨mA (L2.pac ha.p hr.p hs) s_cons⟩
theorem pe_tup {k : Nat} {t : AA} (h : GA X es t) : GE X (.Tuple es k pos) (aTup t) := ⟨mE (L2.pe_tup h.p) s_tup⟩
theorem pe_lst {t : AA} (h : GA X es t) : GE X (.List es pos) (aLst t) := ⟨mE (L2.pe_lst h.p) s_lst⟩
theorem alo {t : AE} (h : GE X e t) : GE X e (aAlloc t) := ⟨mE h.p s_alloc⟩
theorem pe_one {op} {t : AE} (h : GE X a t) : GE X (.BoolOp op [a] pos) t := ⟨L2.pe_one h.p⟩
theorem pe_and {rest : List Expr} {ta tb : AE} (ha : GE X a ta) (hb : GE X (.BoolOp .And (b :: rest) pos) tb) : GE X (.BoolOp .And (a :: b :: rest) pos) (aAndV ta tb) := ⟨mE (L2.pe_and ha.p hb.p) s_andV⟩
theorem po_none : GO X none aNoPart := ⟨mO L2.po_none s_noPart⟩
theorem po_some {t : AE} (h : GE X e t) : GO X (some e) (aPart t) := ⟨mO (L2.po_some h.p) s_part⟩
structure OpS (X : Cx) (r : D → Option Int → Option Int → Sto → AK → Prop) : Prop where
  p : SlR X (conSl X.K r)
theorem pe_slice {lo hi : Option Expr} {p2 : Pos} {r : D → Option Int → Option Int → Sto → AK → Prop} {te : AE} {tl th : AO} (hr : OpS X r) (he : GE X e te) (hl : GO X lo tl) (hu : GO X hi th) : GE X (.Subscript e (.Slice lo hi none p2) pos) (aSl r te tl th) :=
  ⟨mE (L2.pe_slice hr.p he.p hl.p hu.p) s_sl⟩
theorem pcb {id : String} {r : AN} {t : AA} {x : Str} {p : Pos} (hc : OpC X (.builtin id) r) (hg : Gl X x) (hm : X.mg x = none) (hv : bootBuiltins x = some (.builtin id)) (ha : GA X (e :: es) t) (hn : x ≠ "__name__" := by decide +kernel) (hdb : (x == ("__debug__" : Str)) = false := by decide +kernel)
    (hs : (e :: es).all notStar = true := by rfl) : GE X (.Call (.Name x p) (e :: es) [] pos) (aCall r t) := ⟨mE (L2.pcb hc.p hg hm hv ha.p hn hdb hs) s_cb⟩
theorem pct {T : String} {r : AN} {t : AA} {x : Str} {p : Pos} (hc : OpC X (.type T) r) (hg : Gl X x) (hm : X.mg x = none) (hv : bootBuiltins x = some (.type T)) (ha : GA X (e :: es) t) (hn : x ≠ "__name__" := by decide +kernel) (hdb : (x == ("__debug__" : Str)) = false := by decide +kernel)
    (hs : (e :: es).all notStar = true := by rfl) : GE X (.Call (.Name x p) (e :: es) [] pos) (aCall r t) := ⟨mE (L2.pct hc.p hg hm hv ha.p hn hdb hs) s_cb⟩
theorem pe_own {k : Nat} {ps : List Str} {sp : AN} {t : AA} {x : Str} {p : Pos} (D : Def X.prog X.w X.K X.mg X.base k x ps (conSp X.K sp)) (hr : Room k X.A) (hg : Gl X x) (ha : GA X (e :: es) t) (hdb : (x == ("__debug__" : Str)) = false := by decide +kernel) (hs : (e :: es).all notStar = true := by rfl) :
    GE X (.Call (.Name x p) (e :: es) [] pos) (aCall sp t) := ⟨mE (L2.pe_own D hr hg pass0 ha.p hdb hs) s_call⟩
theorem pt_val {t : AE} (h : GE X e t) (he : ∀ whole, isTrue e X.env whole = (do let v ← whole; standAt e.pos; holding [v] (truthy v)) := by intro _; rfl) : GT X e (aTru t) := ⟨mT (L2.pt_truth h.p he) s_tru⟩
theorem pt_cmpR {op : CmpOp} {r : A2} {ta tb : AE} (ho : Op2 X (compareOp op) r) (ha : GE X a ta) (hb : GE X b tb) (hm : behindInMarks op b = false) : GT X (.Compare a [op] [b] pos) (aB (aOp r ta tb)) :=
  ⟨mT (L2.pt_cmpR ho.p ha.p hb.p hm) fun σ H Q h => by
    obtain ⟨w, δ, S, Qa, ok, env, q, bk⟩ := s_b σ H Q h
    exact s_op σ H _ ⟨w, δ, S, Qa, ok, env, q, bk⟩⟩
theorem pw_pt {t : AT} (h : GW X e t) : GT X e t := ⟨h.p.pt⟩
theorem pw_and1 {t : AT} (h : GT X a t) : GW X (.BoolOp .And [a] pos) t := ⟨L2.pw_and1 h.p⟩
theorem pw_or1 {t : AT} (h : GT X a t) : GW X (.BoolOp .Or [a] pos) t := ⟨L2.pw_or1 h.p⟩
theorem pw_and {rest : List Expr} {t u : AT} (ha : GT X a t) (hb : GW X (.BoolOp .And (b :: rest) pos) u) : GW X (.BoolOp .And (a :: b :: rest) pos) (aAnd t u) := ⟨mW (L2.pw_and ha.p hb.p) s_and⟩
theorem pw_or {rest : List Expr} {t u : AT} (ha : GT X a t) (hb : GW X (.BoolOp .Or (b :: rest) pos) u) : GW X (.BoolOp .Or (a :: b :: rest) pos) (aOr t u) := ⟨mW (L2.pw_or ha.p hb.p) s_or⟩
theorem pt_not {t : AT} (h : GT X a t) : GT X (.UnaryOp .Not a pos) (aNot t) := ⟨mT (L2.pt_not h.p) s_not⟩
theorem pts_nil : GTs X [] aYes := ⟨mTs L2.pts_nil s_yes⟩
theorem pts_one {t : AT} (h : GT X c t) : GTs X [c] t := ⟨L2.pts_one h.p⟩
theorem pi_range1 {tg : Expr} {t : AA} {p : Pos} (hg : Gl X "range") (hm : X.mg "range" = none) (ha : GA X [a] t) (hs : starEach [a] X.env = [(false, eval a X.env)] := by rfl) : GI X tg (.Call (.Name "range" p) [a] [] pos) (iRng t) := ⟨mI (L2.pi_range1 hg hm ha.p hs) s_iRng⟩
theorem pi_any0 {tg l : Expr} {tl : TE} (hl : PE X l tl) : PI X tg l (fun σ H R => tl σ H fun x H1 => (∃ a, x = .ref a ∧ (∃ xs, SqL X.K H1 a xs) ∧ R (Itl X.K a) H1) ∨ (∃ a, x = .ref a ∧ (∃ xs, SqT X.K H1 a xs) ∧ R (Itt X.K a) H1) ∨ ∃ y, x = .str y ∧ R (Its y) H1) := by
  intro pins s σ H R I h
  refine thn (hl pins s σ H _ I h) fun v s1 ⟨x, H1, I1, r1, q1⟩ => ?_
  rcases q1 with ⟨a, rfl, ⟨xs, hq⟩, q⟩ | ⟨a, rfl, ⟨xs, hq⟩, q⟩ | ⟨y, rfl, q⟩
  · cases r1
    obtain ⟨its, rv, p, hz⟩ := I1.list hq
    refine wpAny_pyIter_list p.isList ?_
    refine ⟨s1.heap.objs.size, [s1.heap.objs.size], _, _, H1, rfl, I1.kept (t' := s1.toks) fun b o e => Heap.get?_push_of_some _ e, turn_list a _, ⟨_, Heap.get?_push_size _ rfl, rfl, rfl⟩, fun b hb => ?_, q⟩
    have e : b = s1.heap.objs.size := by simpa using hb
    subst e
    exact I1.fpOk (Nat.le_refl _) (I1.hok.fresh (Nat.le_refl _))
  · cases r1
    obtain ⟨its, rv, p, hz⟩ := I1.tuple hq
    refine wpAny_pyIter_tuple (show s1.heap.IsTuple a its.toArray from p) ?_
    refine ⟨s1.heap.objs.size, [s1.heap.objs.size], _, _, H1, rfl, I1.kept (t' := s1.toks) fun b o e => Heap.get?_push_of_some _ e, turn_tuple a _, ⟨_, Heap.get?_push_size _ rfl, rfl, rfl⟩, fun b hb => ?_, q⟩
    have e : b = s1.heap.objs.size := by simpa using hb
    subst e
    exact I1.fpOk (Nat.le_refl _) (I1.hok.fresh (Nat.le_refl _))
  · obtain ⟨t, rfl⟩ := r1
    refine wpAny_pyIter_strU ?_
    refine ⟨s1.heap.objs.size, [s1.heap.objs.size], _, _, H1, rfl, I1.kept (t' := s1.toks) fun b o e => Heap.get?_push_of_some _ e, turn_str _ y t, ⟨_, Heap.get?_push_size _ rfl, rfl, rfl⟩, fun b hb => ?_, q⟩
    have e : b = s1.heap.objs.size := by simpa using hb
    subst e
    exact I1.fpOk (Nat.le_refl _) (I1.hok.fresh (Nat.le_refl _))
theorem pi_any {tg l : Expr} {tl : AE} (hl : GE X l tl) : GI X tg l (iAny tl) := ⟨mI (pi_any0 hl.p) s_iAny⟩
theorem pe_comp {elt tg iter : Expr} {ifs : List Expr} {scope : Scope} {N : List Str} {caps : List (Option Nat)} {wi : AI} {g : AG} {tt : AT} {te : AE}
    (S : BlkScope scope N) (hcap : capOk X.N X.env scope N caps = true) (hfr : L2.freeOk X.env scope = true) (hc : X.calm = true) (hi : GI X tg iter wi)
    (hg : ∀ s₀ H₀ C fp, GG (blk X scope N s₀ H₀ C fp) tg g) (ht : ∀ s₀ H₀ C fp, GTs (blk X scope N s₀ H₀ C fp) ifs tt) (he : ∀ s₀ H₀ C fp, GE (blk X scope N s₀ H₀ C fp) elt te)
    (hs : ∀ x, foldedSetIterable iter X.env x = pure x := by intro _; rfl) : GE X (.ListComp elt [⟨tg, iter, ifs, 0⟩] scope pos) (aComp caps wi g tt te) :=
  ⟨mE (L2.pe_comp S hcap hfr hc hi.p (fun s₀ H₀ C fp => (hg s₀ H₀ C fp).p) (fun s₀ H₀ C fp => (ht s₀ H₀ C fp).p) (fun s₀ H₀ C fp => (he s₀ H₀ C fp).p) hs) s_comp⟩
theorem pss_nil : GSs X [] aNext := ⟨mSs L2.pss_nil s_next⟩
theorem pss_one {st : Stmt} {t : AS} (h : GS X st t) : GSs X [st] t := ⟨L2.pss_one h.p⟩
theorem pss_cons {st : Stmt} {rest : List Stmt} {t u : AS} (h : GS X st t) (g : GSs X rest u) : GSs X (st :: rest) (aSeq t u) := ⟨mSs (L2.pss_cons h.p g.p) s_seq⟩
theorem ps_expr {t : AE} (h : GE X e t) (hs : swapsWith e none pos.line X.env = pure false := by rfl) : GS X (.Expr e pos) (aDrop t) := ⟨mS (L2.ps_expr h.p hs) s_drop⟩
theorem ps_ret {t : AE} (h : GE X e t) : GS X (.Return (some e) pos) (aRet t) := ⟨mS (L2.ps_ret h.p) s_ret⟩
theorem ps_if {p q : List Stmt} {tc : AT} {t u : AS} (hc : GT X c tc) (ha : GSs X p t) (hb : GSs X q u) : GS X (.If c p q pos) (aIfS tc t u) := ⟨mS (L2.ps_if hc.p ha.p hb.p) s_ifS⟩
theorem pg_name {i : Nat} {x : Str} (hN : X.N.Nodup) (hi : X.N[i]? = some x) (hx : Loc X.env.scope x) (hf : X.fn x = true ∨ X.env.scope.names.lookup x = some .local := by first | exact .inl rfl | exact .inr rfl | assumption) : GG X (.Name x pos) (agName i) := ⟨mG (L2.pg_name hN hi hx hf) s_gName⟩
theorem pgs_nil : GGs X [] agNil := ⟨mGs L2.pgs_nil s_gNil⟩
theorem pgs_cons {t : AG} {u : AGs} (h1 : GG X e t) (h2 : GGs X es u) (hs : (assignEach (e :: es) X.env).map (·.2) = assign e X.env :: (assignEach es X.env).map (·.2) := by rfl) : GGs X (e :: es) (agCons t u) := ⟨mGs (L2.pgs_cons h1.p h2.p hs) s_gCons⟩
theorem pg_tup {k : Nat} {t : AGs} {n : Nat} (hc : X.calm = true) (h : GGs X es t) (hn : (assignEach es X.env).length = n := by rfl) (hst : (assignEach es X.env).findIdx? (·.1) = none := by rfl) : GG X (.Tuple es k pos) (agTup n t) := ⟨mG (L2.pg_tup hc h.p hn hst) s_gTup⟩
theorem ps_asg {tg : Expr} {t : AE} {g : AG} (he : GE X e t) (hg : GG X tg g) (hs : swapsWithSole [tg] e pos.line X.env = pure false := by rfl) (hw : swappedStores [tg] e X.env = pure none := by rfl)
    (h1 : (assignEach [tg] X.env).map (·.2) = [assign tg X.env] := by rfl) : GS X (.Assign [tg] e pos) (aAsg t g) := ⟨mS (L2.ps_asg he.p hg.p hs hw h1) s_asg⟩
theorem ps_set {i : Nat} {x : Str} {t : AE} {pos' : Pos} (hN : X.N.Nodup) (hi : X.N[i]? = some x) (hx : Loc X.env.scope x) (he : GE X e t) (hs : swapsWith e (some (.Name x pos')) pos.line X.env = pure false := by rfl) (hf : X.fn x = true ∨ X.env.scope.names.lookup x = some .local := by first | exact .inl rfl | exact .inr rfl | assumption) :
    GS X (.Assign [.Name x pos'] e pos) (aAsg t (agName i)) := ⟨mS (L2.ps_set hN hi hx he.p hs hf) fun D σ H h => by
    obtain ⟨w, δ, S, Qa, ok, env, q, bk⟩ := s_asg D σ H h
    exact ⟨w, δ, S, Qa, ok, env, q, fun r S' v w' H' le ok' rep q' => s_gName _ _ _ _ (bk r S' v w' H' le ok' rep q')⟩⟩
theorem ps_setComp {elt tg iter : Expr} {ifs : List Expr} {scope : Scope} {N : List Str} {caps : List (Option Nat)} {pos' spos : Pos} {wi : AI} {g : AG} {tt : AT} {te : AE} {i : Nat} {x : Str}
    (hN : X.N.Nodup) (hix : X.N[i]? = some x) (hx : X.env.scope.names.lookup x = some .local)
    (S : BlkScope scope N) (hcap : capOk X.N X.env scope N caps = true) (hfr : L2.freeOk X.env scope = true) (hc : X.calm = true) (hi : GI X tg iter wi)
    (hg : ∀ s₀ H₀ C fp, GG (blk X scope N s₀ H₀ C fp) tg g) (ht : ∀ s₀ H₀ C fp, GTs (blk X scope N s₀ H₀ C fp) ifs tt) (he : ∀ s₀ H₀ C fp, GE (blk X scope N s₀ H₀ C fp) elt te)
    (hsw : swapsWith (.ListComp elt [⟨tg, iter, ifs, 0⟩] scope pos) (some (.Name x pos')) spos.line X.env = pure true := by rfl)
    (hs : ∀ x, foldedSetIterable iter X.env x = pure x := by intro _; rfl) : GS X (.Assign [.Name x pos'] (.ListComp elt [⟨tg, iter, ifs, 0⟩] scope pos) spos) (aAsg (aComp caps wi g tt te) (agName i)) :=
  ⟨mS (L2.ps_setComp hN hix hx S hcap hfr hc hi.p (fun s₀ H₀ C fp => (hg s₀ H₀ C fp).p) (fun s₀ H₀ C fp => (ht s₀ H₀ C fp).p) (fun s₀ H₀ C fp => (he s₀ H₀ C fp).p) hsw hs) fun D σ H h => by
    obtain ⟨w, δ, S, Qa, ok, env, q, bk⟩ := s_asg D σ H h
    exact s_comp _ _ _ ⟨w, δ, S, Qa, ok, env, q, fun r S' v w' H' le ok' rep q' => s_gName _ _ _ _ (bk r S' v w' H' le ok' rep q')⟩⟩
theorem ps_for {tg iter : Expr} {body : List Stmt} {wi : AI} {g : AG} {tb : AS} (hp : PassesOwn (model X.prog X.w) X.A X.env X.xe) (hc : X.calm = true) (hi : GI X tg iter wi) (hg : GG X tg g) (hb : GSs X body tb)
    (hs : ∀ x, foldedSetIterable iter X.env x = pure x := by intro _; rfl) : GS X (.For tg iter body [] pos) (aFor wi g tb) := ⟨mS (L2.ps_for hp hc hi.p hg.p hb.p hs) s_for⟩
theorem ps_while {body : List Stmt} {tc : AT} {tb : AS} (hp : PassesOwn (model X.prog X.w) X.A X.env X.xe) (hc : GT X c tc) (hb : GSs X body tb) : GS X (.While c body [] pos) (aWhile tc tb) := ⟨mS (L2.ps_while hp hc.p hb.p) s_while⟩
end
end M
set_option Elab.async false
set_option linter.all false
set_option maxRecDepth 100000
set_option maxHeartbeats 4000000
namespace M
open PySem PySem.Spec PyProof.Rows L2
section
variable {X : Cx}
theorem or2 {f : Value → Value → Sem Value} {r r' : R2} (h : OpR X f r) (h' : OpR X f r') : OpR X f (fun x y H Q => r x y H Q ∨ r' x y H Q) := by
  intro pins s σ H x y v u Q I rx ry q
  rcases q with q | q
  · exact h pins s σ H x y v u Q I rx ry q
  · exact h' pins s σ H x y v u Q I rx ry q
theorem orC {f : Value} {r r' : List V → Hp → VK → Prop} (h : CallR X f r) (h' : CallR X f r') : CallR X f (fun x H Q => r x H Q ∨ r' x H Q) := by
  intro pins s σ H x v Q I rx q
  rcases q with q | q
  · exact h pins s σ H x v Q I rx q
  · exact h' pins s σ H x v Q I rx q
variable {K : PySem.W.Frag} {w : Wd} {H : Hp} {S : Sto} {v u : V} {d e : D}
theorem see_int {i : Int} (h : Rep K w d v) (z : see S d = .int i) : v = .int i := by
  cases d <;> simp only [see] at z
  case loc n => split at z <;> first | (rename_i o _; cases o <;> simp [MO.d] at z) | cases z
  all_goals first | cases z | skip
  simpa [Rep] using h
theorem see_str {i : Str} (h : Rep K w d v) (z : see S d = .str i) : v = .str i := by
  cases d <;> simp only [see] at z
  case loc n => split at z <;> first | (rename_i o _; cases o <;> simp [MO.d] at z) | cases z
  all_goals first | cases z | skip
  simpa [Rep] using h
theorem see_bl {i : Bool} (h : Rep K w d v) (z : see S d = .bl i) : v = .bl i := by
  cases d <;> simp only [see] at z
  case loc n => split at z <;> first | (rename_i o _; cases o <;> simp [MO.d] at z) | cases z
  all_goals first | cases z | skip
  simpa [Rep] using h
theorem see_non (h : Rep K w d v) (z : see S d = .non) : v = .non := by
  cases d <;> simp only [see] at z
  case loc n => split at z <;> first | (rename_i o _; cases o <;> simp [MO.d] at z) | cases z
  all_goals first | cases z | skip
  simpa [Rep] using h
theorem see_scr {ns : List Int} (k : Ok K w H S) (h : Rep K w d v) (z : see S d = .scr ns) : ∃ a, v = .ref a ∧ SqL K H a (ns.map V.int) := by
  cases d <;> simp only [see] at z
  case loc n => split at z <;> first | (rename_i o _; cases o <;> simp [MO.d] at z) | cases z
  all_goals first | cases z | skip
  simp only [Rep] at h
  obtain ⟨a, h1, h2⟩ := h
  exact ⟨a, h1, k.base.seq h2⟩
noncomputable def aI (C : Int → Int → Prop) (g : Int → Int → D) : A2 := fun x y S Q => ∃ i j, x = .int i ∧ y = .int j ∧ C i j ∧ Q (.dat (g i j)) S
theorem c_I {C : Int → Int → Prop} {g : Int → Int → D} {g' : Int → Int → V} (h : ∀ w i j, Rep K w (g i j) (g' i j)) : ∀ x y H Q, con2 K (aI C g) x y H Q → rI C g' x y H Q := by
  rintro x y H Q ⟨w, d, e, S, Qa, ok, r1, r2, ⟨i, j, e1, e2, hc, q⟩, bk⟩
  exact ⟨i, j, rep_int r1 e1, rep_int r2 e2, hc, bk.dat .refl ok (h w i j) q⟩
theorem rI_of0 {g : Int → Int → V} : ∀ x y H Q, rI (fun _ _ => True) g x y H Q → rI0 g x y H Q := by
  rintro x y H Q ⟨i, j, h1, h2, _, q⟩
  exact ⟨i, j, h1, h2, q⟩
theorem o_sub : Op2 X (binaryOp .Sub) (aI (fun _ _ => True) fun i j => .int (i - j)) := ⟨m2 L2.op_sub fun x y H Q h => rI_of0 x y H Q (c_I (g' := fun i j => .int (i - j)) (fun _ _ _ => .int) x y H Q h)⟩
theorem o_fdiv : Op2 X (binaryOp .FloorDiv) (aI CDiv fun i j => .int (i / j)) := ⟨m2 L2.op_fdiv (c_I fun _ _ _ => .int)⟩
theorem o_mod : Op2 X (binaryOp .Mod) (aI (fun _ j => 0 < j) fun i j => .int (i % j)) := ⟨m2 L2.op_mod (c_I fun _ _ _ => .int)⟩
theorem o_pow : Op2 X (binaryOp .Pow) (aI CPow fun i j => .int (i ^ j.toNat)) := ⟨m2 L2.op_pow (c_I fun _ _ _ => .int)⟩
theorem o_ge : Op2 X (compareOp .GtE) (aI (fun _ _ => True) fun i j => .bl (decide (j ≤ i))) := ⟨m2 L2.op_ge fun x y H Q h => rI_of0 x y H Q (c_I (g' := fun i j => .bl (decide (j ≤ i))) (fun _ _ _ => .bl) x y H Q h)⟩
noncomputable def aLt : A2 := fun x y S Q => match x, y with
  | .int i, .int j => Q (.dat (.bl (decide (i < j)))) S
  | .str i, .str j => Q (.dat (.bl (decide (i.cps.toList < j.cps.toList)))) S
  | _, _ => False
noncomputable def aLe : A2 := fun x y S Q => match x, y with
  | .int i, .int j => Q (.dat (.bl (decide (i ≤ j)))) S
  | .str i, .str j => Q (.dat (.bl (!decide (j.cps.toList < i.cps.toList)))) S
  | _, _ => False
theorem o_lt : Op2 X (compareOp .Lt) aLt := ⟨m2 (or2 L2.op_lt L2.op_lt_str) fun x y H Q h => by
  obtain ⟨w, d, e, S, Qa, ok, r1, r2, q, bk⟩ := h
  cases d <;> cases e <;> first | exact q.elim | skip
  · exact .inl ⟨_, _, rep_int r1 rfl, rep_int r2 rfl, bk.dat .refl ok .bl q⟩
  · exact .inr ⟨_, _, rep_str r1 rfl, rep_str r2 rfl, bk.dat .refl ok .bl q⟩⟩
noncomputable def aAdd : A2 := fun x y S Q => match see S x, see S y with
  | .int i, .int j => Q (.dat (.int (i + j))) S
  | .str i, .str j => i.length + j.length ≤ sizeLine ∧ Q (.dat (.str (i ++ j))) S
  | .lst xs, .lst ys => xs.length + ys.length ≤ sizeLine ∧ Q (.new (.lst (xs ++ ys))) S
  | .tup xs, .tup ys => xs ≠ [] ∧ xs.length + ys.length ≤ sizeLine ∧ Q (.dat (.tup (xs ++ ys))) S
  | _, _ => False
theorem o_add : Op2 X (binaryOp .Add) aAdd := ⟨m2 (or2 L2.op_add (or2 L2.op_add_str (or2 L2.op_cat L2.op_catT))) fun x y H Q h => by
  obtain ⟨w, d, e, S, Qa, ok, r1, r2, q, bk⟩ := h
  unfold aAdd at q
  cases z1 : see S d <;> cases z2 : see S e <;> rw [z1, z2] at q <;> first | exact q.elim | skip
  · exact .inl ⟨_, _, see_int r1 z1, see_int r2 z2, bk.dat .refl ok .int q⟩
  · exact .inr (.inl ⟨_, _, see_str r1 z1, see_str r2 z2, q.1, bk.dat .refl ok .str q.2⟩)
  · obtain ⟨a, xs, rfl, h1, g1⟩ := see_tup ok r1 z1
    obtain ⟨b, ys, rfl, h2, g2⟩ := see_tup ok r2 z2
    obtain ⟨hne, hl, q⟩ := q
    refine .inr (.inr (.inr ⟨a, b, xs, ys, rfl, rfl, SqT.of h1, SqT.of h2, ?_, by rw [g1.length, g2.length]; exact hl, fun hy => ?_, fun hy p hp => ?_⟩))
    · intro z; subst z
      have := g1.length
      simp at this
      exact hne (List.eq_nil_of_length_eq_zero this.symm)
    · subst hy
      have : _ = [] := List.eq_nil_of_length_eq_zero g2.length.symm
      rw [this, List.append_nil] at q
      cases d <;> simp only [see] at z1
      case tup => cases z1; exact bk.dat .refl ok r1 q
      case loc n => split at z1 <;> first | (rename_i o _; cases o <;> simp [MO.d] at z1) | cases z1
      all_goals cases z1
    · obtain ⟨w2, le2, ok2, rep2⟩ := ok.newTup hp (g1.append g2)
      exact bk.dat le2 ok2 rep2 q
  · obtain ⟨a, xs, rfl, h1, g1⟩ := see_lst ok r1 z1
    obtain ⟨b, ys, rfl, h2, g2⟩ := see_lst ok r2 z2
    refine .inr (.inr (.inl ⟨a, b, xs, ys, rfl, rfl, h1, h2, by rw [g1.length, g2.length]; exact q.1, fun p hp => ?_⟩))
    exact bk (.new (.lst _)) S _ w _ .refl (ok.alloc hp) (ok.fresh hp ⟨_, rfl, g1.append g2⟩) q.2⟩
end
end M
set_option Elab.async false
set_option linter.all false
set_option maxRecDepth 100000
set_option maxHeartbeats 4000000
namespace M
open PySem PySem.Spec PyProof.Rows PySem.SeqAt L2
mutual
noncomputable def pur : D → Bool
  | .non | .bl _ | .int _ | .str _ => true
  | .tup ds | .lst ds => purs ds
  | _ => false
noncomputable def purs : List D → Bool
  | [] => true
  | d :: ds => pur d && purs ds
end
mutual
noncomputable def py : D → PyData
  | .non => .none
  | .bl b => .bool b
  | .int i => .int i
  | .str x => .str x
  | .tup ds => .tuple (pys ds)
  | .lst ds => .list (pys ds)
  | _ => .none
noncomputable def pys : List D → List PyData
  | [] => []
  | d :: ds => py d :: pys ds
end
section
variable {K : PySem.W.Frag} {w : Wd} {H : Hp} {S : Sto}
mutual
theorem dat_of (e : Same w.B H) : ∀ (d : D) (v : V), pur d = true → Rep K w d v → DatV K H (py d) v
  | .non, v, _, h => by simpa [Rep, py, DatV] using h
  | .bl _, v, _, h => by simpa [Rep, py, DatV] using h
  | .int _, v, _, h => by simpa [Rep, py, DatV] using h
  | .str _, v, _, h => by simpa [Rep, py, DatV] using h
  | .tup ds, v, hp, h => by
    simp only [Rep, py, DatV] at h ⊢
    obtain ⟨a, xs, h1, h2, h3⟩ := h
    exact ⟨a, xs, h1, SqT.of (e _ _ h2), dats_of e ds xs (by simpa [pur] using hp) h3⟩
  | .lst ds, v, hp, h => by
    simp only [Rep, py, DatV] at h ⊢
    obtain ⟨a, xs, h1, h2, h3⟩ := h
    exact ⟨a, xs, h1, SqL.of (e _ _ h2), dats_of e ds xs (by simpa [pur] using hp) h3⟩
  | .dct _ _, _, hp, _ => by simp [pur] at hp
  | .loc _, _, hp, _ => by simp [pur] at hp
  | .ty _, _, hp, _ => by simp [pur] at hp
  | .scr _, _, hp, _ => by simp [pur] at hp
  | .stc _, _, hp, _ => by simp [pur] at hp
  | .fd, _, hp, _ => by simp [pur] at hp
  | .fn _, _, hp, _ => by simp [pur] at hp
theorem dats_of (e : Same w.B H) : ∀ (ds : List D) (vs : List V), purs ds = true → Reps K w ds vs → DatVs K H (pys ds) vs
  | [], vs, _, h => by simpa [Reps, pys, DatVs] using h
  | d :: ds, vs, hp, h => by
    simp only [purs, Bool.and_eq_true] at hp
    simp only [Reps, pys, DatVs] at h ⊢
    obtain ⟨x, r, h1, h2, h3⟩ := h
    exact ⟨x, r, h1, dat_of e d x hp.1 h2, dats_of e ds r hp.2 h3⟩
end
theorem see_dat (k : Ok K w H S) {d : D} {v : V} (h : Rep K w d v) (hp : pur (see S d) = true) : DatV K H (py (see S d)) v := by
  cases d with
  | loc n =>
    cases z : see S (.loc n) with
    | lst ds =>
      rw [z] at hp
      obtain ⟨a, xs, rfl, h1, h2⟩ := see_lst k h z
      simp only [py, DatV]
      exact ⟨a, xs, rfl, SqL.of h1, dats_of k.base ds xs (by simpa [pur] using hp) h2⟩
    | _ =>
      rw [z] at hp
      simp only [see] at z
      split at z <;> first | (rename_i o _; cases o <;> simp [MO.d] at z) | (cases z; simp [pur] at hp) | cases z
      all_goals simp [pur] at hp
  | _ => exact dat_of k.base _ v (by simpa [see] using hp) h
end
noncomputable def fit (d : D) : Bool := pur d && shaped (py d)
noncomputable def aEq : A2 := fun x y S Q => match see S x, see S y with
  | .str a, .str b => Q (.dat (.bl (decide (a = b)))) S
  | .int a, .int b => Q (.dat (.bl (decide (a = b)))) S
  | .bl a, .bl b => Q (.dat (.bl (decide (a = b)))) S
  | x', y' => fit x' = true ∧ fit y' = true ∧ Q (.dat (.bl (PyData.eqv (py x') (py y')))) S
noncomputable def aNe : A2 := fun x y S Q => match see S x, see S y with
  | .str a, .str b => Q (.dat (.bl (!decide (a = b)))) S
  | .int a, .int b => Q (.dat (.bl (!decide (a = b)))) S
  | .bl a, .bl b => Q (.dat (.bl (!decide (a = b)))) S
  | x', y' => fit x' = true ∧ fit y' = true ∧ Q (.dat (.bl (!PyData.eqv (py x') (py y')))) S
section
variable {X : Cx}
noncomputable def rEqD (K : PySem.W.Frag) : R2 := fun x y H Q => ∃ a b, DatV K H a x ∧ DatV K H b y ∧ shaped a = true ∧ shaped b = true ∧ Q (.bl (PyData.eqv a b)) H
noncomputable def rNeD (K : PySem.W.Frag) : R2 := fun x y H Q => ∃ a b, DatV K H a x ∧ DatV K H b y ∧ shaped a = true ∧ shaped b = true ∧ Q (.bl (!PyData.eqv a b)) H
theorem op_eqD {k : Nat} (hr : Room k X.A) : OpR X (compareOp .Eq) (rEqD X.K) := by
  intro pins s σ H x y v u Q I rx ry h
  obtain ⟨a, b, h1, h2, h3, h4, q⟩ := h
  obtain ⟨as, ra⟩ := I.reads a x v h1 rx
  obtain ⟨bs, rb⟩ := I.reads b y u h2 ry
  exact eq_dataH ra rb h3 h4 hr.units ⟨.bl _, H, I, rfl, q⟩
theorem op_neD {k : Nat} (hr : Room k X.A) : OpR X (compareOp .NotEq) (rNeD X.K) := by
  intro pins s σ H x y v u Q I rx ry h
  obtain ⟨a, b, h1, h2, h3, h4, q⟩ := h
  obtain ⟨as, ra⟩ := I.reads a x v h1 rx
  obtain ⟨bs, rb⟩ := I.reads b y u h2 ry
  exact ne_dataH ra rb h3 h4 hr.units ⟨.bl _, H, I, rfl, q⟩
theorem fit_dat {K : PySem.W.Frag} {w : Wd} {H : Hp} {S : Sto} {d : D} {v : V} (k : Ok K w H S) (h : Rep K w d v) (hf : fit (see S d) = true) : DatV K H (py (see S d)) v ∧ shaped (py (see S d)) = true := by
  unfold fit at hf
  rw [Bool.and_eq_true] at hf
  exact ⟨see_dat k h hf.1, hf.2⟩
theorem o_eq {k : Nat} (hr : Room k X.A) : Op2 X (compareOp .Eq) aEq := ⟨m2 (or2 L2.op_eq (op_eqD hr)) fun x y H Q h => by
  obtain ⟨w, d, e, S, Qa, ok, r1, r2, q, bk⟩ := h
  unfold aEq at q
  split at q
  next a b z1 z2 =>
    refine .inl ⟨by rw [see_str r1 z1, see_str r2 z2]; rfl, ?_⟩
    rw [see_str r1 z1, see_str r2 z2]
    exact bk.dat .refl ok (by rw [show decide (V.str a = V.str b) = decide (a = b) by simp]; exact .bl) q
  next a b z1 z2 =>
    refine .inl ⟨by rw [see_int r1 z1, see_int r2 z2]; rfl, ?_⟩
    rw [see_int r1 z1, see_int r2 z2]
    exact bk.dat .refl ok (by rw [show decide (V.int a = V.int b) = decide (a = b) by simp]; exact .bl) q
  next a b z1 z2 =>
    refine .inl ⟨by rw [see_bl r1 z1, see_bl r2 z2]; rfl, ?_⟩
    rw [see_bl r1 z1, see_bl r2 z2]
    exact bk.dat .refl ok (by rw [show decide (V.bl a = V.bl b) = decide (a = b) by simp]; exact .bl) q
  next =>
    obtain ⟨f1, f2, q⟩ := q
    obtain ⟨g1, s1⟩ := fit_dat ok r1 f1
    obtain ⟨g2, s2⟩ := fit_dat ok r2 f2
    exact .inr ⟨_, _, g1, g2, s1, s2, bk.dat .refl ok .bl q⟩⟩
theorem o_ne {k : Nat} (hr : Room k X.A) : Op2 X (compareOp .NotEq) aNe := ⟨m2 (or2 L2.op_ne (op_neD hr)) fun x y H Q h => by
  obtain ⟨w, d, e, S, Qa, ok, r1, r2, q, bk⟩ := h
  unfold aNe at q
  split at q
  next a b z1 z2 =>
    refine .inl ⟨by rw [see_str r1 z1, see_str r2 z2]; rfl, ?_⟩
    rw [see_str r1 z1, see_str r2 z2]
    exact bk.dat .refl ok (by rw [show decide (V.str a = V.str b) = decide (a = b) by simp]; exact .bl) q
  next a b z1 z2 =>
    refine .inl ⟨by rw [see_int r1 z1, see_int r2 z2]; rfl, ?_⟩
    rw [see_int r1 z1, see_int r2 z2]
    exact bk.dat .refl ok (by rw [show decide (V.int a = V.int b) = decide (a = b) by simp]; exact .bl) q
  next a b z1 z2 =>
    refine .inl ⟨by rw [see_bl r1 z1, see_bl r2 z2]; rfl, ?_⟩
    rw [see_bl r1 z1, see_bl r2 z2]
    exact bk.dat .refl ok (by rw [show decide (V.bl a = V.bl b) = decide (a = b) by simp]; exact .bl) q
  next =>
    obtain ⟨f1, f2, q⟩ := q
    obtain ⟨g1, s1⟩ := fit_dat ok r1 f1
    obtain ⟨g2, s2⟩ := fit_dat ok r2 f2
    exact .inr ⟨_, _, g1, g2, s1, s2, bk.dat .refl ok .bl q⟩⟩
noncomputable def inD (d : D) (ds : List D) : Bool := ds.any fun y => PyData.eqv (py y) (py d)
noncomputable def aIn (neg : Bool) : A2 := fun x y S Q => match see S y with
  | .tup ds => fit (see S x) = true ∧ fit (.tup ds) = true ∧ Q (.dat (.bl (neg != inD (see S x) ds))) S
  | .lst ds => fit (see S x) = true ∧ fit (.lst ds) = true ∧ Q (.dat (.bl (neg != inD (see S x) ds))) S
  | .stc ss => fit (see S x) = true ∧ fit (.tup (ss.map D.str)) = true ∧ Q (.dat (.bl (neg != inD (see S x) (ss.map D.str)))) S
  | _ => False
noncomputable def rInD (K : PySem.W.Frag) (neg : Bool) : R2 := fun x y H Q => ∃ d ds, DatV K H d x ∧ (DatV K H (.tuple ds) y ∨ DatV K H (.list ds) y) ∧ shaped d = true ∧ PyData.canLayAll0 ds = true ∧ Q (.bl (neg != ds.any fun y => PyData.eqv y d)) H
theorem op_inD {k : Nat} (hr : Room k X.A) : OpR X (compareOp .In) (rInD X.K false) := by
  intro pins s σ H x y v u Q I rx ry h
  obtain ⟨d, ds, h1, h2, h3, h4, q⟩ := h
  obtain ⟨as, ra⟩ := I.reads d x v h1 rx
  have hu := hr.un
  rcases h2 with h2 | h2
  · obtain ⟨bs, rb⟩ := I.reads _ y u h2 ry
    exact PySem.SeqAt.in_tuple_reads rb ra h4 (canLay_of_shaped h3) (room_in_shaped h3 (by omega)) ⟨.bl _, H, I, by simp [L2.RelV], q⟩
  · obtain ⟨bs, rb⟩ := I.reads _ y u h2 ry
    exact PySem.SeqAt.in_list_reads rb ra h4 (canLay_of_shaped h3) (room_in_shaped h3 (by omega)) ⟨.bl _, H, I, by simp [L2.RelV], q⟩
theorem op_notInD {k : Nat} (hr : Room k X.A) : OpR X (compareOp .NotIn) (rInD X.K true) := by
  intro pins s σ H x y v u Q I rx ry h
  obtain ⟨d, ds, h1, h2, h3, h4, q⟩ := h
  obtain ⟨as, ra⟩ := I.reads d x v h1 rx
  have hu := hr.un
  rcases h2 with h2 | h2
  · obtain ⟨bs, rb⟩ := I.reads _ y u h2 ry
    exact PySem.SeqAt.notIn_tuple_reads rb ra h4 (canLay_of_shaped h3) (room_in_shaped h3 (by omega)) ⟨.bl _, H, I, by simp [L2.RelV], q⟩
  · obtain ⟨bs, rb⟩ := I.reads _ y u h2 ry
    exact PySem.SeqAt.notIn_list_reads rb ra h4 (canLay_of_shaped h3) (room_in_shaped h3 (by omega)) ⟨.bl _, H, I, by simp [L2.RelV], q⟩
theorem pys_map (ds : List D) : pys ds = ds.map py := by
  induction ds with
  | nil => rfl
  | cons d ds ih => simp [pys, ih]
theorem any_pys (ds : List D) (p : PyData → Bool) : (pys ds).any p = ds.any fun y => p (py y) := by
  rw [pys_map, List.any_map]; rfl
theorem stc_dat {K : PySem.W.Frag} {H : Hp} : ∀ (ss : List Str), DatVs K H (pys (ss.map D.str)) (ss.map V.str)
  | [] => by simp [pys, DatVs]
  | s :: ss => by
    simp only [List.map_cons, pys, DatVs, py, DatV]
    exact ⟨_, _, rfl, rfl, stc_dat ss⟩
theorem see_stc {K : PySem.W.Frag} {w : Wd} {H : Hp} {S : Sto} {d : D} {v : V} {ss : List Str} (k : Ok K w H S) (h : Rep K w d v) (z : see S d = .stc ss) : ∃ a, v = .ref a ∧ SqT K H a (ss.map V.str) := by
  cases d <;> simp only [see] at z
  case loc n => split at z <;> first | (rename_i o _; cases o <;> simp [MO.d] at z) | cases z
  all_goals first | cases z | skip
  simp only [Rep] at h
  obtain ⟨a, h1, h2⟩ := h
  exact ⟨a, h1, SqT.same k.base h2⟩
theorem fit_lay {ds : List D} (h : fit (.tup ds) = true) : PyData.canLayAll0 (pys ds) = true := by
  unfold fit at h
  rw [Bool.and_eq_true] at h
  have := canLay_of_shaped h.2
  simpa [py, PyData.canLay0] using this
theorem fit_layL {ds : List D} (h : fit (.lst ds) = true) : PyData.canLayAll0 (pys ds) = true := by
  unfold fit at h
  rw [Bool.and_eq_true] at h
  have := canLay_of_shaped h.2
  simpa [py, PyData.canLay0] using this
theorem c_in {K : PySem.W.Frag} {neg : Bool} : ∀ x y H Q, con2 K (aIn neg) x y H Q → rInD K neg x y H Q := by
  rintro x y H Q ⟨w, d, e, S, Qa, ok, r1, r2, q, bk⟩
  unfold aIn at q
  split at q
  next ds z =>
    obtain ⟨f1, f2, q⟩ := q
    obtain ⟨g1, s1⟩ := fit_dat ok r1 f1
    obtain ⟨g2, s2⟩ := fit_dat ok r2 (by rw [z]; exact f2)
    rw [z] at g2
    refine ⟨_, pys ds, g1, .inl (by simpa only [py] using g2), s1, fit_lay f2, ?_⟩
    rw [any_pys]
    exact bk.dat .refl ok .bl q
  next ds z =>
    obtain ⟨f1, f2, q⟩ := q
    obtain ⟨g1, s1⟩ := fit_dat ok r1 f1
    obtain ⟨g2, s2⟩ := fit_dat ok r2 (by rw [z]; exact f2)
    rw [z] at g2
    refine ⟨_, pys ds, g1, .inr (by simpa only [py] using g2), s1, fit_layL f2, ?_⟩
    rw [any_pys]
    exact bk.dat .refl ok .bl q
  next ss z =>
    obtain ⟨f1, f2, q⟩ := q
    obtain ⟨g1, s1⟩ := fit_dat ok r1 f1
    obtain ⟨a, rfl, g2⟩ := see_stc ok r2 z
    refine ⟨_, pys (ss.map D.str), g1, .inl ?_, s1, fit_lay f2, ?_⟩
    · simp only [DatV]
      exact ⟨a, _, rfl, g2, stc_dat ss⟩
    · rw [any_pys]
      exact bk.dat .refl ok .bl q
  next => exact q.elim
theorem o_in {k : Nat} (hr : Room k X.A) : Op2 X (compareOp .In) (aIn false) := ⟨m2 (op_inD hr) c_in⟩
theorem o_notIn {k : Nat} (hr : Room k X.A) : Op2 X (compareOp .NotIn) (aIn true) := ⟨m2 (op_notInD hr) c_in⟩
end
end M
set_option Elab.async false
set_option linter.all false
set_option maxRecDepth 100000
set_option maxHeartbeats 4000000
namespace M
open PySem PySem.Spec PyProof.Rows PySem.SeqAt L2
section
variable {X : Cx} {K : PySem.W.Frag} {w : Wd} {H : Hp} {S : Sto} {d : D} {v : V}
theorem reps_atI {ds : List D} {xs : List V} {i : Int} {e : D} (h : Reps K w ds xs) (q : atI ds i = some e) : ∃ u, atI xs i = some u ∧ Rep K w e u := by
  unfold atI at q ⊢
  rw [h.length]
  cases z : ixN ds.length i with
  | none => rw [z] at q; cases q
  | some j =>
    rw [z] at q
    exact h.get q
noncomputable def aIx : A2 := fun x y S Q => match see S x, y with
  | .lst ds, .int i => ∃ e, atI ds i = some e ∧ Q (.dat e) S
  | .tup ds, .int i => ∃ e, atI ds i = some e ∧ Q (.dat e) S
  | .str z, .int i => z.length ≤ sizeLine ∧ ∃ c, atI z.cps.toList i = some c ∧ Q (.dat (.str ⟨#[c]⟩)) S
  | .scr ns, .int i => ∃ n, atI ns i = some n ∧ Q (.dat (.int n)) S
  | _, _ => False
theorem atI_map {α β : Type} {f : α → β} {xs : List α} {i : Int} {a : α} (h : atI xs i = some a) : atI (xs.map f) i = some (f a) := by
  unfold atI at h ⊢
  rw [List.length_map]
  cases z : ixN xs.length i with
  | none => rw [z] at h; cases h
  | some j =>
    rw [z] at h
    have h : xs[j]? = some a := h
    show (xs.map f)[j]? = some (f a)
    rw [List.getElem?_map, h]; rfl
theorem o_ix : OpI X aIx := ⟨fun value slice pins s σ H x y v u Q I rx ry h hs => by
  refine L2.ix_seq value slice pins s σ H x y v u Q I rx ry ?_ hs
  obtain ⟨w, d, e, S, Qa, ok, r1, r2, q, bk⟩ := h
  unfold aIx at q
  split at q
  next ds i z =>
    obtain ⟨a, xs, rfl, h1, h2⟩ := see_lst ok r1 z
    obtain ⟨e', he, q⟩ := q
    obtain ⟨u', g1, g2⟩ := reps_atI h2 he
    exact .inl ⟨a, xs, i, u', rfl, rep_int r2 rfl, SqL.of h1, g1, bk.dat .refl ok g2 q⟩
  next ds i z =>
    obtain ⟨a, xs, rfl, h1, h2⟩ := see_tup ok r1 z
    obtain ⟨e', he, q⟩ := q
    obtain ⟨u', g1, g2⟩ := reps_atI h2 he
    exact .inr (.inl ⟨a, xs, i, u', rfl, rep_int r2 rfl, SqT.of h1, g1, bk.dat .refl ok g2 q⟩)
  next y i z =>
    obtain ⟨hl, c, hc, q⟩ := q
    exact .inr (.inr ⟨y, i, c, see_str r1 z, rep_int r2 rfl, hl, hc, bk.dat .refl ok .str q⟩)
  next ns i z =>
    obtain ⟨a, rfl, h1⟩ := see_scr ok r1 z
    obtain ⟨n, hn, q⟩ := q
    exact .inl ⟨a, _, i, .int n, rfl, rep_int r2 rfl, h1, atI_map hn, bk.dat .refl ok .int q⟩
  next => exact q.elim⟩
noncomputable def cutD {α : Type} (xs : List α) (lo hi : Option Int) : List α := (xs.drop (HT.sIx xs.length 0 lo)).take (HT.sIx xs.length xs.length hi - HT.sIx xs.length 0 lo)
theorem reps_cut {ds : List D} {xs : List V} (h : Reps K w ds xs) (lo hi : Option Int) : Reps K w (cutD ds lo hi) (cutV xs lo hi) := by
  unfold cutD cutV
  rw [h.length]
  exact (h.drop _).take _
end
section
variable {prog : Program} {w : World} {A : Around} {E : Value → Shared → Prop} {s : Shared}
theorem getItem_tuple_whole {t sl : Addr} {items : Array Value} {vl vu : Value} {lo hi : Option Int} {Q : Value → Shared → Prop} (ht : IsTup s.heap t items) (hs : s.heap.IsSliceOf sl vl vu .none) (pl : IsPart vl lo) (pu : IsPart vu hi)
    (hw : HT.sIx items.size 0 lo = 0 ∧ HT.sIx items.size items.size hi = items.size) (h : Q (.ref t) s) : wpAny (model prog w) A (getItem (.ref t) (.ref sl)) Q E s := by
  obtain ⟨os, hos, hcs, hds⟩ := id hs
  have hTs : s.TypeIs (.ref sl) "slice" := ⟨os, hos, hcs⟩
  unfold getItem
  try with_reducible refine wpAny_holding ?_
  first | refine wpAny_bind (wpAny_pure ?_) | skip
  refine wpAny_bind (wpAny_sequenceKey ht.typeIs (by decide) ?_)
  refine wpAny_bind (wpAny_callSpecial?_slot (name := Str.ofString "__getitem__") ht.typeIs PyProof.Rows.slot_tuple_getitem
    (wpAny_call_entry PyProof.Rows.slot_tuple_getitem ht.typeIs PyProof.Rows.entry_tuple_getitem ?_ (PyProof.Rows.args_tuple_getitem _ _)))
  show wpAny _ _ (Builtin.Tuple.tupleItemsOf (.ref t) >>= _) _ _ s
  refine wpAny_bind (PyProof.Rows.tupleItemsOf_ ht ?_)
  refine wpAny_bind (wpAny_typeOf hTs ?_)
  rw [if_pos (by decide)]
  refine wpAny_bind (HT.sliceApplied_gen hs pl pu ?_)
  have hyes : (((HT.sIx items.size 0 lo : Nat) : Int) == 0 && (1 : Int) == 1 && (HT.sIx items.size items.size hi - HT.sIx items.size 0 lo) == items.size) = true := by
    rw [hw.1, hw.2]; simp
  show wpAny _ _ (if (((HT.sIx items.size 0 lo : Nat) : Int) == 0 && (1 : Int) == 1 && (HT.sIx items.size items.size hi - HT.sIx items.size 0 lo) == items.size) = true then _ else _) _ _ s
  rw [if_pos hyes]
  refine wpAny_bind (m := Builtin.Tuple.tupleIsExact (.ref t)) ?_
  unfold Builtin.Tuple.tupleIsExact
  refine wpAny_bind (wpAny_typeOf ht.typeIs (wpAny_pure ?_))
  rw [if_pos (by decide)]
  exact wpAny_bind (wpAny_rule (wpAny_pure ⟨_, rfl, wpAny_pure h⟩))
end
section
variable {X : Cx} {K : PySem.W.Frag} {w : Wd} {H : Hp} {S : Sto} {d : D} {v : V}
noncomputable def aSlc : D → Option Int → Option Int → Sto → AK → Prop := fun x lo hi S Q => match see S x with
  | .lst ds => Q (.new (.lst (cutD ds lo hi))) S
  | .tup ds => Q (.dat (.tup (cutD ds lo hi))) S
  | .str z => z.length ≤ sizeLine ∧ Q (.dat (.str (Txt.slice z lo hi))) S
  | .scr ns => Q (.new (.lst ((cutD ns lo hi).map D.int))) S
  | _ => False
noncomputable def rSlW (K : PySem.W.Frag) : V → Option Int → Option Int → Hp → VK → Prop := fun x lo hi H Q => ∃ a xs, x = .ref a ∧ SqT K H a xs ∧ (HT.sIx xs.length 0 lo = 0 ∧ HT.sIx xs.length xs.length hi = xs.length) ∧ Q (.ref a) H
theorem sl_whole : SlR X (rSlW X.K) := by
  intro pins s σ H x v vl vu lo hi sl Q I rx hs pl pu h
  obtain ⟨a, xs, rfl, hx, hw, q⟩ := h
  cases rx
  obtain ⟨its, r, ht, hz⟩ := I.tuple hx
  have hlen : its.toArray.size = xs.length := by rw [List.size_toArray]; exact r.length.symm
  refine ⟨"tuple", _, PyProof.Rows.slot_tuple_getitem.lookup, ht.typeIs, ?_⟩
  exact getItem_tuple_whole ht hs pl pu (by rw [hlen]; exact hw) ⟨.ref a, H, I, rfl, q⟩
theorem cut_whole {α : Type} {xs : List α} {lo hi : Option Int} (h : HT.sIx xs.length 0 lo = 0 ∧ HT.sIx xs.length xs.length hi = xs.length) : cutD xs lo hi = xs := by
  unfold cutD
  rw [h.1, h.2]; simp
theorem cut_map {α β : Type} (f : α → β) (xs : List α) (lo hi : Option Int) : cutD (xs.map f) lo hi = (cutD xs lo hi).map f := by
  unfold cutD
  rw [List.length_map, List.map_take, List.map_drop]
theorem reps_ints {w : Wd} : ∀ (ns : List Int), Reps K w (ns.map D.int) (ns.map V.int)
  | [] => .nil
  | n :: ns => .cons .int (reps_ints ns)
theorem o_slc : OpS X aSlc := ⟨by
  intro pins s σ H x v vl vu lo hi sl Q I rx hs pl pu h
  refine (L2.sl_list.or (L2.sl_tup.or (sl_whole.or L2.sl_str))) pins s σ H x v vl vu lo hi sl Q I rx hs pl pu ?_
  obtain ⟨w, d, S, Qa, ok, r1, q, bk⟩ := h
  unfold aSlc at q
  split at q
  next ds z =>
    obtain ⟨a, xs, rfl, h1, h2⟩ := see_lst ok r1 z
    exact .inl ⟨a, xs, rfl, SqL.of h1, fun p hp => bk (.new (.lst _)) S _ w _ .refl (ok.alloc hp) (ok.fresh hp ⟨_, rfl, reps_cut h2 lo hi⟩) q⟩
  next ds z =>
    obtain ⟨a, xs, rfl, h1, h2⟩ := see_tup ok r1 z
    by_cases hw : HT.sIx xs.length 0 lo = 0 ∧ HT.sIx xs.length xs.length hi = xs.length
    · refine .inr (.inr (.inl ⟨a, xs, rfl, SqT.of h1, hw, ?_⟩))
      rw [h2.length] at hw
      rw [cut_whole hw] at q
      cases d <;> simp only [see] at z
      case tup => cases z; exact bk.dat .refl ok r1 q
      case loc n => split at z <;> first | (rename_i o _; cases o <;> simp [MO.d] at z) | cases z
      all_goals cases z
    · refine .inr (.inl ⟨a, xs, rfl, SqT.of h1, hw, fun p hp => ?_⟩)
      obtain ⟨w2, le2, ok2, rep2⟩ := ok.newTup hp (reps_cut h2 lo hi)
      exact bk.dat le2 ok2 rep2 q
  next y z => exact .inr (.inr (.inr ⟨y, see_str r1 z, q.1, bk.dat .refl ok .str q.2⟩))
  next ns z =>
    obtain ⟨a, rfl, h1⟩ := see_scr ok r1 z
    refine .inl ⟨a, _, rfl, h1, fun p hp => bk (.new (.lst _)) S _ w _ .refl (ok.alloc hp) (ok.fresh hp ⟨_, rfl, ?_⟩) q⟩
    have := reps_cut (reps_ints (K := X.K) (w := w) ns) lo hi
    rw [cut_map] at this
    exact this
  next => exact q.elim⟩
noncomputable def aMul : A2 := fun x y S Q => match see S x, y with
  | .int i, .int j => CMul i j ∧ Q (.dat (.int (i * j))) S
  | .lst ds, .int k => (-(2 ^ 63) ≤ k ∧ k < 2 ^ 63) ∧ ds.length * k.toNat ≤ sizeLine ∧ Q (.new (.lst (List.replicate k.toNat ds).flatten)) S
  | .str z, .int n => MulOk z n ∧ Q (.dat (.str (Txt.mul z n))) S
  | _, _ => False
theorem reps_rep {ds : List D} {xs : List V} (h : Reps K w ds xs) : ∀ k : Nat, Reps K w (List.replicate k ds).flatten (List.replicate k xs).flatten
  | 0 => .nil
  | k + 1 => by
    rw [List.replicate_succ, List.replicate_succ, List.flatten_cons, List.flatten_cons]
    exact h.append (reps_rep h k)
theorem o_mul : Op2 X (binaryOp .Mult) aMul := ⟨m2 (or2 L2.op_mul (or2 L2.op_rep L2.op_mul_str)) fun x y H Q h => by
  obtain ⟨w, d, e, S, Qa, ok, r1, r2, q, bk⟩ := h
  unfold aMul at q
  split at q
  next i j z => exact .inl ⟨i, j, see_int r1 z, rep_int r2 rfl, q.1, bk.dat .refl ok .int q.2⟩
  next ds k z =>
    obtain ⟨a, xs, rfl, h1, h2⟩ := see_lst ok r1 z
    obtain ⟨⟨g1, g2⟩, hl, q⟩ := q
    refine .inr (.inl ⟨a, k, xs, rfl, rep_int r2 rfl, h1, g1, g2, by rw [h2.length]; exact hl, fun p hp => ?_⟩)
    exact bk (.new (.lst _)) S _ w _ .refl (ok.alloc hp) (ok.fresh hp ⟨_, rfl, reps_rep h2 k.toNat⟩) q
  next y n z => exact .inr (.inr ⟨y, n, see_str r1 z, rep_int r2 rfl, q.1, bk.dat .refl ok .str q.2⟩)
  next => exact q.elim⟩
end
end M
set_option Elab.async false
set_option linter.all false
set_option maxRecDepth 100000
set_option maxHeartbeats 4000000
namespace M
open PySem PySem.Spec PyProof.Rows PySem.SeqAt L2
mutual
noncomputable def bel (n : Nat) : D → Bool
  | .loc m => decide (m < n)
  | .tup ds | .lst ds | .dct _ ds => bels n ds
  | _ => true
noncomputable def bels (n : Nat) : List D → Bool
  | [] => true
  | d :: ds => bel n d && bels n ds
end
noncomputable def belO (n : Nat) : MO → Bool
  | .lst ds => bels n ds
  | .dct _ ds => bels n ds
  | .feed _ => true
  | .ins _ _ ds => bels n ds
  | .ddt _ ks => bels n ks
mutual
theorem bel_pur (n : Nat) : ∀ d : D, pur d = true → bel n d = true
  | .non, _ => by simp [bel]
  | .bl _, _ => by simp [bel]
  | .int _, _ => by simp [bel]
  | .str _, _ => by simp [bel]
  | .tup ds, h => by simp only [bel]; exact bels_pur n ds (by simpa [pur] using h)
  | .lst ds, h => by simp only [bel]; exact bels_pur n ds (by simpa [pur] using h)
  | .dct _ _, h => by simp [pur] at h
  | .loc _, h => by simp [pur] at h
  | .ty _, h => by simp [pur] at h
  | .scr _, h => by simp [pur] at h
  | .stc _, h => by simp [pur] at h
  | .fd, h => by simp [pur] at h
  | .fn _, h => by simp [pur] at h
theorem bels_pur (n : Nat) : ∀ ds : List D, purs ds = true → bels n ds = true
  | [], _ => by simp [bels]
  | d :: ds, h => by
    simp only [purs, Bool.and_eq_true] at h
    simp only [bels, Bool.and_eq_true]
    exact ⟨bel_pur n d h.1, bels_pur n ds h.2⟩
end
noncomputable def restr (n : Nat) (w : Wd) : Wd := ⟨w.B, fun k => if k < n then w.r k else none⟩
section
variable {K : PySem.W.Frag} {w w1 : Wd} {H H1 : Hp} {S S0 S1 : Sto}
mutual
theorem rep_restr (n : Nat) : ∀ (d : D) (v : V), bel n d = true → Rep K w d v → Rep K (restr n w) d v
  | .non, _, _, h => by simpa [Rep] using h
  | .bl _, _, _, h => by simpa [Rep] using h
  | .int _, _, _, h => by simpa [Rep] using h
  | .str _, _, _, h => by simpa [Rep] using h
  | .ty _, _, _, h => by simpa [Rep] using h
  | .fd, _, _, h => by simpa [Rep] using h
  | .fn _, _, _, h => by simpa [Rep] using h
  | .scr _, _, _, h => by simpa [Rep, restr] using h
  | .stc _, _, _, h => by simpa [Rep, restr] using h
  | .loc m, v, hb, h => by
    simp only [bel, decide_eq_true_eq] at hb
    simp only [Rep] at h ⊢
    obtain ⟨a, h1, h2⟩ := h
    exact ⟨a, by show (if m < n then w.r m else none) = _; rw [if_pos hb]; exact h1, h2⟩
  | .tup ds, v, hb, h => by
    simp only [Rep] at h ⊢
    obtain ⟨a, xs, h1, h2, h3⟩ := h
    exact ⟨a, xs, h1, h2, reps_restr n ds xs (by simpa [bel] using hb) h3⟩
  | .lst ds, v, hb, h => by
    simp only [Rep] at h ⊢
    obtain ⟨a, xs, h1, h2, h3⟩ := h
    exact ⟨a, xs, h1, h2, reps_restr n ds xs (by simpa [bel] using hb) h3⟩
  | .dct ks ds, v, hb, h => by
    simp only [Rep] at h ⊢
    obtain ⟨a, xs, h1, h2, h3, h4⟩ := h
    exact ⟨a, xs, h1, h2, h3, reps_restr n ds _ (by simpa [bel] using hb) h4⟩
theorem reps_restr (n : Nat) : ∀ (ds : List D) (vs : List V), bels n ds = true → Reps K w ds vs → Reps K (restr n w) ds vs
  | [], _, _, h => by simpa [Reps] using h
  | d :: ds, vs, hb, h => by
    simp only [bels, Bool.and_eq_true] at hb
    simp only [Reps] at h ⊢
    obtain ⟨x, r, h1, h2, h3⟩ := h
    exact ⟨x, r, h1, rep_restr n d x hb.1 h2, reps_restr n ds r hb.2 h3⟩
end
mutual
theorem rep_bel (n : Nat) (ht : ∀ k, n ≤ k → w.r k = none) : ∀ (d : D) (v : V), Rep K w d v → bel n d = true
  | .non, _, _ => by simp [bel]
  | .bl _, _, _ => by simp [bel]
  | .int _, _, _ => by simp [bel]
  | .str _, _, _ => by simp [bel]
  | .ty _, _, _ => by simp [bel]
  | .fd, _, _ => by simp [bel]
  | .fn _, _, _ => by simp [bel]
  | .scr _, _, _ => by simp [bel]
  | .stc _, _, _ => by simp [bel]
  | .loc m, v, h => by
    simp only [Rep] at h
    obtain ⟨a, h1, h2⟩ := h
    simp only [bel, decide_eq_true_eq]
    rcases Nat.lt_or_ge m n with q | q
    · exact q
    · rw [ht m q] at h1; cases h1
  | .tup ds, v, h => by
    simp only [Rep] at h
    obtain ⟨a, xs, h1, h2, h3⟩ := h
    simp only [bel]; exact reps_bel n ht ds xs h3
  | .lst ds, v, h => by
    simp only [Rep] at h
    obtain ⟨a, xs, h1, h2, h3⟩ := h
    simp only [bel]; exact reps_bel n ht ds xs h3
  | .dct ks ds, v, h => by
    simp only [Rep] at h
    obtain ⟨a, xs, h1, h2, h3, h4⟩ := h
    simp only [bel]; exact reps_bel n ht ds _ h4
theorem reps_bel (n : Nat) (ht : ∀ k, n ≤ k → w.r k = none) : ∀ (ds : List D) (vs : List V), Reps K w ds vs → bels n ds = true
  | [], _, _ => by simp [bels]
  | d :: ds, vs, h => by
    simp only [Reps] at h
    obtain ⟨x, r, h1, h2, h3⟩ := h
    simp only [bels, Bool.and_eq_true]
    exact ⟨rep_bel n ht d x h2, reps_bel n ht ds r h3⟩
end
theorem repO_restr (n : Nat) : ∀ {o : MO} {u : HO}, belO n o = true → RepO K w o u → RepO K (restr n w) o u
  | .lst ds, u, hb, ⟨xs, h1, h2⟩ => ⟨xs, h1, reps_restr n ds xs hb h2⟩
  | .dct ks ds, u, hb, ⟨xs, h1, h2, h3⟩ => ⟨xs, h1, h2, reps_restr n ds _ hb h3⟩
  | .feed _, u, _, h => h
  | .ins C ks ds, u, hb, ⟨dx, fs, h1, h2, h3⟩ => ⟨dx, fs, h1, h2, reps_restr n ds _ hb h3⟩
  | .ddt F ks, u, hb, ⟨a, bs, h1, h2⟩ => ⟨a, bs, h1, reps_restr n ks _ hb h2⟩
theorem repO_bel (n : Nat) (ht : ∀ k, n ≤ k → w.r k = none) : ∀ {o : MO} {u : HO}, RepO K w o u → belO n o = true
  | .lst ds, u, ⟨xs, h1, h2⟩ => reps_bel n ht ds xs h2
  | .dct ks ds, u, ⟨xs, h1, h2, h3⟩ => reps_bel n ht ds _ h3
  | .feed _, u, h => rfl
  | .ins C ks ds, u, ⟨dx, fs, h1, h2, h3⟩ => reps_bel n ht ds _ h3
  | .ddt F ks, u, ⟨a, bs, h1, h2⟩ => reps_bel n ht ks _ h2
noncomputable def out (n : Nat) (S1 : Sto) : R → Option R
  | .dat (.loc m) => if m < n then some (.dat (.loc m)) else match S1[m]? with
    | some (some o) => if belO n o = true then some (.new o) else none
    | _ => none
  | .dat d => if bel n d = true then some (.dat d) else none
  | .new o => if belO n o = true then some (.new o) else none
noncomputable def chg (S0 S1 : Sto) : Prop := ∀ k o, k < S0.length → S1[k]? = some (some o) → S0[k]? = some (some o) ∨ belO S0.length o = true
noncomputable def ret (S0 S1 : Sto) (r : R) (Q : AK) : Prop := ∃ r', out S0.length S1 r = some r' ∧ chg S0 S1 ∧ Q r' (S1.take S0.length)
theorem ret_ok {r : R} {v : V} {Qa : AK} {Q : VK} (ok : Ok K w H S0) (le : w.le w1) (ok1 : Ok K w1 H1 S1) (rep : RepR K w1 H1 S1 r v) (h : ret S0 S1 r Qa) (bk : BackV K w Qa Q) : Q v H1 := by
  obtain ⟨r', ho, hc, q⟩ := h
  generalize hn : S0.length = n at *
  have lt : ∀ k a, w.r k = some a → k < n := fun k a e => by
    rcases Nat.lt_or_ge k n with z | z
    · exact z
    · rw [ok.top k (by omega)] at e; cases e
  have at_ : ∀ k o, (S1.take n)[k]? = some (some o) → k < n ∧ S1[k]? = some (some o) := fun k o e => by
    rw [List.getElem?_take] at e
    by_cases z : k < n
    · rw [if_pos z] at e; exact ⟨z, e⟩
    · rw [if_neg z] at e; cases e
  have le2 : w.le (restr n w1) := ⟨le.b, fun k a e => by show (if k < n then w1.r k else none) = _; rw [if_pos (lt k a e)]; exact le.r k a e⟩
  have bl : ∀ k o, k < n → S1[k]? = some (some o) → belO n o = true := fun k o hk e => by
    rcases hc k o (by omega) e with z | z
    · obtain ⟨a, u, _, _, _, h4⟩ := ok.live k o z
      exact repO_bel n (fun k hk => ok.top k (by omega)) h4
    · rw [hn] at z; exact z
  have ok2 : Ok K (restr n w1) H1 (S1.take n) := ⟨ok1.base, fun k o e => by
      obtain ⟨hk, e⟩ := at_ k o e
      obtain ⟨a, u, h1, h2, h3, h4⟩ := ok1.live k o e
      exact ⟨a, u, by show (if k < n then w1.r k else none) = _; rw [if_pos hk]; exact h1, h2, h3, repO_restr n (bl k o hk e) h4⟩,
    fun k m o o' e e' z => by
      obtain ⟨hk, e⟩ := at_ k o e
      obtain ⟨hm, e'⟩ := at_ m o' e'
      have z : (if k < n then w1.r k else none) = (if m < n then w1.r m else none) := z
      rw [if_pos hk, if_pos hm] at z
      exact ok1.inj k m o o' e e' z,
    fun k hk => by
      show (if k < n then w1.r k else none) = none
      by_cases z : k < n
      · rw [if_pos z]
        rw [List.length_take] at hk
        exact ok1.top k (by omega)
      · rw [if_neg z]⟩
  refine bk r' (S1.take n) v (restr n w1) H1 le2 ok2 ?_ q
  have fresh : ∀ m o a, n ≤ m → S1[m]? = some (some o) → w1.r m = some a → ∀ k o', (S1.take n)[k]? = some (some o') → (restr n w1).r k ≠ some a := fun m o a hm e ha k o' e' z => by
    obtain ⟨hk, e'⟩ := at_ k o' e'
    have z : (if k < n then w1.r k else none) = some a := z
    rw [if_pos hk] at z
    have := ok1.inj k m o' o e' e (z.trans ha.symm)
    omega
  cases r with
  | new o =>
    simp only [out] at ho
    split at ho
    next hb =>
      cases ho
      obtain ⟨a, u, rfl, h1, h2, h3, h4⟩ := rep
      refine ⟨a, u, rfl, h1, h2, repO_restr n hb h3, fun k o' e z => ?_⟩
      obtain ⟨hk, e⟩ := at_ k o' e
      have z : (if k < n then w1.r k else none) = some a := z
      rw [if_pos hk] at z
      exact h4 k o' e z
    next => cases ho
  | dat d =>
    have gen : (if bel n d = true then some (R.dat d) else none) = some r' → RepR K (restr n w1) H1 (S1.take n) r' v := fun ho => by
      split at ho
      next hb => cases ho; exact rep_restr n d v hb rep
      next => cases ho
    cases d with
    | loc m =>
      simp only [out] at ho
      split at ho
      next hm => exact gen (by simp [bel, hm, ho])
      next hm =>
        have hm : n ≤ m := by omega
        split at ho
        next o e =>
          split at ho
          next hb =>
            cases ho
            have rep : Rep K w1 (.loc m) v := rep
            simp only [Rep] at rep
            obtain ⟨a, ha, rfl⟩ := rep
            obtain ⟨a', u, h1, h2, h3, h4⟩ := ok1.live m o e
            rw [ha] at h1; cases h1
            exact ⟨a, u, rfl, h2, h3, repO_restr n hb h4, fresh m o a hm e ha⟩
          next => cases ho
        next => cases ho
    | _ => exact gen (by simpa only [out] using ho)
end
noncomputable def startA (N : List Str) (ds : List D) : AEnv := ds.map some ++ List.replicate (N.length - ds.length) none
theorem env_start {K : PySem.W.Frag} {w : Wd} {N : List Str} {ds : List D} {vs : List V} (h : Reps K w ds vs) : EnvR K w (startA N ds) (L2.start N vs) := by
  have hl := h.length
  refine ⟨by simp [startA, L2.start, hl], fun i d e => ?_⟩
  unfold startA at e
  by_cases hi : i < ds.length
  · rw [List.getElem?_append_left (by simpa using hi), List.getElem?_map] at e
    cases z : ds[i]? with
    | none => rw [z] at e; cases e
    | some d' =>
      rw [z] at e
      have e : d' = d := by simpa using e
      subst e
      obtain ⟨v, h1, h2⟩ := h.get z
      refine ⟨v, ?_, h2⟩
      unfold L2.start
      rw [List.getElem?_append_left (by rw [List.length_map, hl]; exact hi), List.getElem?_map, h1]; rfl
  · rw [List.getElem?_append_right (by simpa using hi), List.getElem?_replicate] at e
    split at e <;> cases e
section
variable {P : Program} {w : World} {K : PySem.W.Frag} {mg : Str → Option Value} {base : Heap}
theorem defA {x : Str} {st : Stmt} {N ps : List Str} {k : Nat} {sp : AN} (F : Src K mg x ps st) (S : FnScope N ps (defScope st)) (len : ∀ ds S Q, sp ds S Q → ds.length = ps.length)
    (hbody : ∀ (f : Addr) (cdv : Value) (A : Around) (outer : List Env) (s : Shared) (H : Hp) (E : XK), Room k (A.deeper (envOfC x (defScope st) s.heap.objs.size f cdv)) →
      ∃ a, GSs (cxOf CX0 P w K mg base N x (defScope st) f cdv A outer s H E).nox (defBody st) a ∧ ∀ ds S Q, sp ds S Q → a { nx := fun _ S' => ret S S' (.dat .non) Q, rt := fun r S' => ret S S' r Q } (startA N ds) S) : Def P w K mg base (k + 1) x ps (conSp K sp) :=
  F.def S (fun vs H Q E h => by
    obtain ⟨w, ds, S, Qa, ok, rep, q, bk⟩ := h
    rw [rep.length]; exact len ds S Qa q) fun f cdv A outer s H vs Q E hr h => by
    obtain ⟨a, ha, hd⟩ := hbody f cdv A outer s H E hr
    obtain ⟨w, ds, S, Qa, ok, rep, q, bk⟩ := h
    refine ⟨_, ha.p, w, startA N ds, S, _, ok, env_start rep, hd ds S Qa q, ⟨fun δ S' σ w' H' le ok' env q' => ?_, fun r S' v w' H' le ok' rep' q' => ?_, fun _ _ _ _ _ _ _ _ z => z.elim, fun _ _ _ _ _ _ _ _ z => z.elim⟩⟩
    · exact ret_ok (r := .dat .non) (v := .non) ok le ok' (show Rep K w' .non .non from .non) q' bk
    · exact ret_ok ok le ok' rep' q' bk
end
end M
set_option Elab.async false
set_option linter.all false
set_option maxRecDepth 100000
set_option maxHeartbeats 4000000
namespace M
open PySem PySem.Spec PyProof.Rows PySem.SeqAt L2
section
variable {X : Cx} {K : PySem.W.Frag} {w : Wd} {H : Hp} {S : Sto} {d : D} {v : V}
theorem reps1 {vs : List V} (h : Reps K w [d] vs) : ∃ v, vs = [v] ∧ Rep K w d v := by
  simp only [Reps] at h
  obtain ⟨x, r, rfl, h1, rfl⟩ := h
  exact ⟨x, rfl, h1⟩
theorem reps2 {e : D} {vs : List V} (h : Reps K w [d, e] vs) : ∃ v u, vs = [v, u] ∧ Rep K w d v ∧ Rep K w e u := by
  simp only [Reps] at h
  obtain ⟨x, r, rfl, h1, y, r', rfl, h2, rfl⟩ := h
  exact ⟨x, y, rfl, h1, h2⟩
noncomputable def lenD : D → Option Nat
  | .lst ds => some ds.length
  | .tup ds => some ds.length
  | .scr ns => some ns.length
  | .dct ks _ => some ks.length
  | .str z => if z.length ≤ sizeLine then some z.length else none
  | _ => none
noncomputable def aLen : AN := fun ds S Q => ∃ d n, ds = [d] ∧ lenD (see S d) = some n ∧ Q (.dat (.int n)) S
theorem o_len : OpC X (.builtin "len") aLen := ⟨mC (orC L2.call_len L2.call_lenD) fun xs H Q h => by
  obtain ⟨w, ds, S, Qa, ok, rep, ⟨d, n, rfl, e, q⟩, bk⟩ := h
  obtain ⟨v, rfl, r1⟩ := reps1 rep
  cases z : see S d with
  | lst ds =>
    rw [z] at e
    have e : ds.length = n := by simpa [lenD] using e
    obtain ⟨a, xs, rfl, h1, h2⟩ := see_lst ok r1 z
    exact .inl ⟨_, n, rfl, .inl ⟨xs, SqL.of h1, by rw [h2.length, e]⟩, bk.dat .refl ok .int q⟩
  | tup ds =>
    rw [z] at e
    have e : ds.length = n := by simpa [lenD] using e
    obtain ⟨a, xs, rfl, h1, h2⟩ := see_tup ok r1 z
    exact .inl ⟨_, n, rfl, .inr ⟨xs, SqT.of h1, by rw [h2.length, e]⟩, bk.dat .refl ok .int q⟩
  | scr ns =>
    rw [z] at e
    have e : ns.length = n := by simpa [lenD] using e
    obtain ⟨a, rfl, h1⟩ := see_scr ok r1 z
    exact .inl ⟨_, n, rfl, .inl ⟨_, h1, by rw [List.length_map, e]⟩, bk.dat .refl ok .int q⟩
  | str y =>
    rw [z] at e
    simp only [lenD] at e
    split at e
    next hl =>
      cases e
      exact .inl ⟨_, _, rfl, (by rw [see_str r1 z]; exact ⟨hl, rfl⟩), bk.dat .refl ok .int q⟩
    next => cases e
  | dct ks ds =>
    rw [z] at e
    have e : ks.length = n := by simpa [lenD] using e
    obtain ⟨a, kvs, rfl, h1, h2, _⟩ := see_dct ok r1 z
    refine .inr ⟨a, kvs, rfl, h1, ?_⟩
    rw [← List.length_map (f := (·.1)), h2, e]
    exact bk.dat .refl ok .int q
  | _ => rw [z] at e; simp [lenD] at e⟩
noncomputable def tyD : D → Option String
  | .non => some "NoneType"
  | .bl _ => some "bool"
  | .int _ => some "int"
  | .str _ => some "str"
  | .tup _ => some "tuple"
  | .lst _ => some "list"
  | _ => none
noncomputable def isiD (d : D) (T : String) : Option Bool := (tyD d).bind fun t => if T == "str" || T == "int" || T == "bool" || T == "tuple" || T == "list" then some (t == T || (t == "bool" && T == "int")) else none
noncomputable def aIsi : AN := fun ds S Q => ∃ d T b, ds = [d, .ty T] ∧ isiD (see S d) T = some b ∧ Q (.dat (.bl b)) S
theorem ty_see (ok : Ok K w H S) (h : Rep K w d v) {t : String} (e : tyD (see S d) = some t) : TyOf K H v (.type t) := by
  cases z : see S d with
  | lst ds =>
    rw [z] at e; cases e
    obtain ⟨a, xs, rfl, h1, h2⟩ := see_lst ok h z
    exact .lst h1
  | tup ds =>
    rw [z] at e; cases e
    obtain ⟨a, xs, rfl, h1, h2⟩ := see_tup ok h z
    exact .tup h1
  | non => rw [z] at e; cases e; rw [see_non h z]; exact .non
  | bl b => rw [z] at e; cases e; rw [see_bl h z]; exact .bl b
  | int b => rw [z] at e; cases e; rw [see_int h z]; exact .int b
  | str b => rw [z] at e; cases e; rw [see_str h z]; exact .str b
  | _ => rw [z] at e; simp [tyD] at e
theorem kit_of {t T : String} {b : Bool} (ht : t = "NoneType" ∨ t = "bool" ∨ t = "int" ∨ t = "str" ∨ t = "tuple" ∨ t = "list")
    (e : (if T == "str" || T == "int" || T == "bool" || T == "tuple" || T == "list" then some (t == T || (t == "bool" && T == "int")) else none) = some b) : PySem.W.kitOne K (.type t) (.type T) = some b := by
  split at e
  next hT =>
    simp only [Bool.or_eq_true, beq_iff_eq] at hT
    cases e
    rcases hT with (((rfl | rfl) | rfl) | rfl) | rfl <;> rcases ht with rfl | rfl | rfl | rfl | rfl | rfl <;> rfl
  next => cases e
theorem tyD_in {t : String} (e : tyD d = some t) : t = "NoneType" ∨ t = "bool" ∨ t = "int" ∨ t = "str" ∨ t = "tuple" ∨ t = "list" := by
  cases d <;> simp [tyD] at e <;> subst e <;> simp
theorem o_isi : OpC X (.builtin "isinstance") aIsi := ⟨mC L2.call_isi fun xs H Q h => by
  obtain ⟨w, ds, S, Qa, ok, rep, ⟨d, T, b, rfl, e, q⟩, bk⟩ := h
  obtain ⟨v, u, rfl, r1, r2⟩ := reps2 rep
  unfold isiD at e
  cases z : tyD (see S d) with
  | none => rw [z] at e; cases e
  | some t =>
    rw [z] at e
    refine ⟨v, .ty T, _, _, b, (by rw [rep_ty r2 rfl]), relTy.1, relTy.2, ty_see ok r1 z, kit_of (tyD_in z) e, bk.dat .refl ok .bl q⟩⟩
noncomputable def aListOf : AN := fun ds S Q => ∃ d, ds = [d] ∧ match see S d with
  | .lst es => Q (.new (.lst es)) S
  | .tup es => Q (.new (.lst es)) S
  | .scr ns => Q (.new (.lst (ns.map D.int))) S
  | _ => False
theorem o_listOf : OpC X (.type "list") aListOf := ⟨mC L2.call_list_of fun xs H Q h => by
  obtain ⟨w, ds, S, Qa, ok, rep, ⟨d, rfl, q⟩, bk⟩ := h
  obtain ⟨v, rfl, r1⟩ := reps1 rep
  split at q
  next es z =>
    obtain ⟨a, xs, rfl, h1, h2⟩ := see_lst ok r1 z
    exact ⟨a, xs, rfl, .inl (SqL.of h1), fun p hp => bk (.new (.lst _)) S _ w _ .refl (ok.alloc hp) (ok.fresh hp ⟨_, rfl, h2⟩) q⟩
  next es z =>
    obtain ⟨a, xs, rfl, h1, h2⟩ := see_tup ok r1 z
    exact ⟨a, xs, rfl, .inr (SqT.of h1), fun p hp => bk (.new (.lst _)) S _ w _ .refl (ok.alloc hp) (ok.fresh hp ⟨_, rfl, h2⟩) q⟩
  next ns z =>
    obtain ⟨a, rfl, h1⟩ := see_scr ok r1 z
    exact ⟨a, _, rfl, .inl h1, fun p hp => bk (.new (.lst _)) S _ w _ .refl (ok.alloc hp) (ok.fresh hp ⟨_, rfl, reps_ints ns⟩) q⟩
  next => exact q.elim⟩
noncomputable def aTupleOf : AN := fun ds S Q => ∃ d, ds = [d] ∧ match see S d with
  | .lst es => Q (.dat (.tup es)) S
  | .tup es => Q (.dat (.tup es)) S
  | _ => False
theorem o_tupleOf : OpC X (.type "tuple") aTupleOf := ⟨mC L2.call_tuple_of fun xs H Q h => by
  obtain ⟨w, ds, S, Qa, ok, rep, ⟨d, rfl, q⟩, bk⟩ := h
  obtain ⟨v, rfl, r1⟩ := reps1 rep
  split at q
  next es z =>
    obtain ⟨a, xs, rfl, h1, h2⟩ := see_lst ok r1 z
    refine ⟨a, xs, rfl, .inl ⟨SqL.of h1, fun p hp => ?_⟩⟩
    obtain ⟨w2, le2, ok2, rep2⟩ := ok.newTup hp h2
    exact bk.dat le2 ok2 rep2 q
  next es z =>
    obtain ⟨a, xs, rfl, h1, h2⟩ := see_tup ok r1 z
    refine ⟨a, xs, rfl, .inr ⟨SqT.of h1, ?_⟩⟩
    cases d <;> simp only [see] at z
    case tup => cases z; exact bk.dat .refl ok r1 q
    case loc n => split at z <;> first | (rename_i o _; cases o <;> simp [MO.d] at z) | cases z
    all_goals cases z
  next => exact q.elim⟩
end
end M
set_option Elab.async false
set_option linter.all false
set_option maxRecDepth 100000
set_option maxHeartbeats 4000000
namespace M
open PySem PySem.Spec PyProof.Rows PySem.SeqAt L2
noncomputable abbrev AM := D → List D → Sto → AK → Prop
structure OpM (X : Cx) (id : String) (r : AM) : Prop where
  p : MtR X id (conM X.K r)
noncomputable def isTy (T : String) : D → Prop
  | .lst _ => T = "list"
  | .str _ => T = "str"
  | .scr _ => T = "list"
  | .dct _ _ => T = "dict"
  | _ => False
noncomputable def aBM (T : String) (r : AM) (a : AE) (b : AA) : AE := fun δ S Q => a δ S fun x S1 => isTy T (see S1 x.d) ∧ b δ S1 fun ds S2 => r x.d ds S2 Q
noncomputable def aBM0 (T : String) (r : AM) (a : AE) : AE := fun δ S Q => a δ S fun x S1 => isTy T (see S1 x.d) ∧ r x.d [] S1 Q
section
variable {X : Cx} {K : PySem.W.Frag} {w : Wd} {H : Hp} {S : Sto} {d : D} {v : V}
theorem ty_is {T : String} (ok : Ok K w H S) (h : Rep K w d v) (t : isTy T (see S d)) : tyV K T v H := by
  cases z : see S d with
  | lst ds =>
    rw [z] at t; cases t
    obtain ⟨a, xs, rfl, h1, h2⟩ := see_lst ok h z
    exact .inl ⟨rfl, xs, SqL.of h1⟩
  | str y => rw [z] at t; cases t; rw [see_str h z]; exact rfl
  | scr ns =>
    rw [z] at t; cases t
    obtain ⟨a, rfl, h1⟩ := see_scr ok h z
    exact .inl ⟨rfl, _, h1⟩
  | dct ks ds =>
    rw [z] at t; cases t
    obtain ⟨a, kvs, rfl, h1, _⟩ := see_dct ok h z
    exact .inr (.inr (.inl ⟨rfl, .inl ⟨kvs, h1⟩⟩))
  | _ => rw [z] at t; exact t.elim
theorem s_bm {T : String} {r : AM} {a : AE} {b : AA} : ∀ σ H Q, conE K (aBM T r a b) σ H Q → tBM K T (conM K r) (conE K a) (conA K b) σ H Q := by
  rintro σ H Q ⟨w, δ, S, Qa, ok, env, q, bk⟩
  refine ⟨w, δ, S, _, ok, env, q, .go fun r1 S1 v1 w1 H1 le1 ok1 rep1 ⟨ty, q1⟩ => ⟨ty_is ok1 rep1 ty, ?_⟩⟩
  refine ⟨w1, δ, S1, _, ok1, env.le le1, q1, fun ds S2 vs w2 H2 le2 ok2 rep2 q2 => ?_⟩
  exact ⟨w2, r1.d, ds, S2, Qa, ok2, rep1.le le2, rep2, q2, bk.le (le1.trans le2)⟩
theorem s_bm0 {T : String} {r : AM} {a : AE} : ∀ σ H Q, conE K (aBM0 T r a) σ H Q → tBM0 K T (conM K r) (conE K a) σ H Q := by
  rintro σ H Q ⟨w, δ, S, Qa, ok, env, q, bk⟩
  refine ⟨w, δ, S, _, ok, env, q, .go fun r1 S1 v1 w1 H1 le1 ok1 rep1 ⟨ty, q1⟩ => ⟨ty_is ok1 rep1 ty, ?_⟩⟩
  exact ⟨w1, r1.d, [], S1, Qa, ok1, rep1, .nil, q1, bk.le le1⟩
theorem pe_bm {o e : Expr} {es : List Expr} {to : AE} {t : AA} {name : Str} {apos cpos : Pos} {T id : String} {r : AM} (pa : PlainAttrs T) (slot : Slot T name id) (hty : typeOf (.builtin id) = pure (.type "method_descriptor")) (hm : OpM X id r) (ho : GE X o to) (ha : GA X (e :: es) t)
    (hbase : attributeBase o name X.env (eval o X.env) = eval o X.env := by rfl) (hs : (e :: es).all notStar = true := by rfl) (hfew : decide ((e :: es).length + 0 + 0 < 30) = true := by rfl)
    (hline : (apos.endLine == cpos.line) = true := by rfl) : GE X (.Call (.Attribute o name apos) (e :: es) [] cpos) (aBM T r to t) := ⟨mE (L2.pe_bmK pa slot hty hm.p ho.p ha.p hbase hs hfew hline) s_bm⟩
theorem pe_bm0 {o : Expr} {to : AE} {name : Str} {apos cpos : Pos} {T id : String} {r : AM} (pa : PlainAttrs T) (slot : Slot T name id) (hty : typeOf (.builtin id) = pure (.type "method_descriptor")) (hm : OpM X id r) (ho : GE X o to)
    (hbase : attributeBase o name X.env (eval o X.env) = eval o X.env := by rfl) (hline : (apos.endLine == cpos.line) = true := by rfl) : GE X (.Call (.Attribute o name apos) [] [] cpos) (aBM0 T r to) := ⟨mE (L2.pe_bm0K pa slot hty hm.p ho.p hbase hline) s_bm0⟩
theorem mM {id : String} {t u : V → List V → Hp → VK → Prop} (h : MtR X id t) (m : ∀ x xs H Q, u x xs H Q → t x xs H Q) : MtR X id u := fun pins s σ H x xs v us Q I rx rs q => h pins s σ H x xs v us Q I rx rs (m x xs H Q q)
theorem loc_at {n : Nat} {ds : List D} (ok : Ok K w H S) (h : Rep K w (.loc n) v) (e : S[n]? = some (some (.lst ds))) : ∃ a xs, v = .ref a ∧ w.r n = some a ∧ H a = some (.lst xs) ∧ Reps K w ds xs := by
  simp only [Rep] at h
  obtain ⟨a, h1, rfl⟩ := h
  obtain ⟨a', u, g1, g2, g3, xs, rfl, g5⟩ := ok.live n _ e
  rw [h1] at g1; cases g1
  exact ⟨a, xs, rfl, h1, g3, g5⟩
theorem repO_lst {ds : List D} {xs : List V} (h : Reps K w ds xs) : RepO K w (.lst ds) (.lst xs) := ⟨xs, rfl, h⟩
noncomputable def aAppend : AM := fun x ds S Q => ∃ n es e, x = .loc n ∧ ds = [e] ∧ S[n]? = some (some (.lst es)) ∧ es.length < sizeLine ∧ Q (.dat .non) (S.set n (some (.lst (es ++ [e]))))
theorem m_append : OpM X "list.append" aAppend := ⟨mM (X := X) (t := rAppend) L2.mt_append fun x xs H Q h => by
  obtain ⟨w, d, ds, S, Qa, ok, r1, r2, ⟨n, es, e, rfl, rfl, hS, hl, q⟩, bk⟩ := h
  obtain ⟨a, ys, rfl, ha, hH, hr⟩ := loc_at ok r1 hS
  obtain ⟨v, rfl, r3⟩ := reps1 r2
  exact ⟨a, ys, v, rfl, rfl, hH, by rw [hr.length]; exact hl, bk.dat .refl (ok.put hS ha (repO_lst (hr.snoc r3))) .non q⟩⟩
theorem Reps.dropLast {ds : List D} {xs : List V} (h : Reps K w ds xs) : Reps K w ds.dropLast xs.dropLast := by
  rw [List.dropLast_eq_take, List.dropLast_eq_take, h.length]
  exact h.take _
noncomputable def aPop : AM := fun x ds S Q => ∃ n es e, x = .loc n ∧ ds = [] ∧ S[n]? = some (some (.lst es)) ∧ es[es.length - 1]? = some e ∧ Q (.dat e) (S.set n (some (.lst es.dropLast)))
theorem m_pop : OpM X "list.pop" aPop := ⟨mM (X := X) (t := rPop) L2.mt_pop fun x xs H Q h => by
  obtain ⟨w, d, ds, S, Qa, ok, r1, r2, ⟨n, es, e, rfl, rfl, hS, he, q⟩, bk⟩ := h
  obtain ⟨a, ys, rfl, ha, hH, hr⟩ := loc_at ok r1 hS
  have z : xs = [] := by simpa [Reps] using r2
  subst z
  obtain ⟨v, h1, h2⟩ := hr.get he
  exact ⟨a, ys, v, rfl, rfl, hH, by rw [hr.length]; exact h1, bk.dat .refl (ok.put hS ha (repO_lst hr.dropLast)) h2 q⟩⟩
end
end M
set_option Elab.async false
set_option linter.all false
set_option maxRecDepth 100000
set_option maxHeartbeats 4000000
namespace M
open PySem L2
theorem loop_by {P : Sto → Prop} {g : AG} {b : AS} {D : AEnds} (I : List M.D → AEnv → Sto → Prop) (hn : ∀ δ S, I [] δ S → P S ∧ D.nx δ S)
    (hc : ∀ x xs δ S N, I (x :: xs) δ S → (∀ δ' S', I xs δ' S' → N δ' S') → P S ∧ g x δ S fun δ2 S2 => b { D with nx := N, ct := N, bk := D.nx } δ2 S2) : ∀ ds δ S, I ds δ S → loopD P g b ds D δ S
  | [], δ, S, h => hn δ S h
  | x :: xs, δ, S, h => hc x xs δ S _ h fun δ' S' h' => loop_by I hn hc xs δ' S' h'
theorem comp_by {P : Sto → Prop} {g : AG} {t : AT} {e : AE} {Q : List M.D → Sto → Prop} (I : List M.D → List M.D → AEnv → Sto → Prop) (hn : ∀ acc δ S, I [] acc δ S → P S ∧ Q acc S)
    (hc : ∀ x xs acc δ S (N : List M.D → AEnv → Sto → Prop), I (x :: xs) acc δ S → (∀ acc' δ' S', I xs acc' δ' S' → N acc' δ' S') → P S ∧ g x δ S fun δ2 S2 => t δ2 S2 fun b S3 => if b = true then e δ2 S3 fun r S4 => acc.length < sizeLine ∧ N (acc ++ [r.d]) δ2 S4 else N acc δ2 S3) :
    ∀ ds acc δ S, I ds acc δ S → compD P g t e ds acc δ S Q
  | [], acc, δ, S, h => hn acc δ S h
  | x :: xs, acc, δ, S, h => hc x xs acc δ S (fun acc' δ' S' => compD P g t e xs acc' δ' S' Q) h fun acc' δ' S' h' => comp_by I hn hc xs acc' δ' S' h'
theorem see_pur {S : Sto} {d : D} (h : pur d = true) : see S d = d := by
  cases d <;> first | rfl | simp [pur] at h
theorem see_int' {S : Sto} {i : Int} : see S (.int i) = .int i := rfl
theorem see_str' {S : Sto} {i : Str} : see S (.str i) = .str i := rfl
theorem see_bl' {S : Sto} {i : Bool} : see S (.bl i) = .bl i := rfl
theorem see_non' {S : Sto} : see S .non = .non := rfl
theorem see_tup' {S : Sto} {i : List D} : see S (.tup i) = .tup i := rfl
theorem see_lst' {S : Sto} {i : List D} : see S (.lst i) = .lst i := rfl
theorem see_stc' {S : Sto} {i : List Str} : see S (.stc i) = .stc i := rfl
theorem see_scr' {S : Sto} {i : List Int} : see S (.scr i) = .scr i := rfl
theorem rd_dat {d : D} : (R.dat d).d = d := rfl
theorem rd_new {o : MO} : (R.new o).d = o.d := rfl
theorem mod_lst {ds : List D} : (MO.lst ds).d = .lst ds := rfl
theorem le_int' {i j : Int} {S : Sto} {Q : AK} : aLe (.int i) (.int j) S Q = Q (.dat (.bl (decide (i ≤ j)))) S := rfl
theorem lt_int' {i j : Int} {S : Sto} {Q : AK} : aLt (.int i) (.int j) S Q = Q (.dat (.bl (decide (i < j)))) S := rfl
theorem le_str' {i j : Str} {S : Sto} {Q : AK} : aLe (.str i) (.str j) S Q = Q (.dat (.bl (!decide (j.cps.toList < i.cps.toList)))) S := rfl
theorem aI_int {C : Int → Int → Prop} {g : Int → Int → D} {i j : Int} {S : Sto} {Q : AK} : aI C g (.int i) (.int j) S Q = (C i j ∧ Q (.dat (g i j)) S) := by
  refine propext ⟨fun ⟨a, b, e1, e2, h⟩ => ?_, fun h => ⟨i, j, rfl, rfl, h⟩⟩
  cases e1; cases e2; exact h
theorem add_int' {i j : Int} {S : Sto} {Q : AK} : aAdd (.int i) (.int j) S Q = Q (.dat (.int (i + j))) S := rfl
theorem add_lst' {i j : List D} {S : Sto} {Q : AK} : aAdd (.lst i) (.lst j) S Q = (i.length + j.length ≤ sizeLine ∧ Q (.new (.lst (i ++ j))) S) := rfl
theorem eq_int' {i j : Int} {S : Sto} {Q : AK} : aEq (.int i) (.int j) S Q = Q (.dat (.bl (decide (i = j)))) S := rfl
theorem eq_str' {i j : Str} {S : Sto} {Q : AK} : aEq (.str i) (.str j) S Q = Q (.dat (.bl (decide (i = j)))) S := rfl
theorem tru_bl {b : Bool} : aTruD (.bl b) = some b := rfl
theorem tru_lst {ds : List D} : aTruD (.lst ds) = some (!ds.isEmpty) := rfl
theorem tru_tup {ds : List D} : aTruD (.tup ds) = some (!ds.isEmpty) := rfl
theorem out_dat {n : Nat} {S : Sto} {d : D} (h : pur d = true) : out n S (.dat d) = some (.dat d) := by
  have b := bel_pur n d h
  cases d <;> first | (simp [pur] at h; done) | (simp only [out]; rw [if_pos b])
theorem chg_same {S : Sto} : chg S S := fun _ _ _ e => .inl e
theorem ret_pur {S : Sto} {d : D} {Q : AK} (h : pur d = true) (q : Q (.dat d) S) : ret S S (.dat d) Q := ⟨_, out_dat h, chg_same, by rw [List.take_length]; exact q⟩
theorem ret_bl {S : Sto} {b : Bool} {Q : AK} : ret S S (.dat (.bl b)) Q = Q (.dat (.bl b)) S := by
  refine propext ⟨fun ⟨r, h1, _, h2⟩ => ?_, ret_pur rfl⟩
  simp [out, bel] at h1
  subst h1
  rw [List.take_length] at h2; exact h2
theorem ret_int {S : Sto} {b : Int} {Q : AK} : ret S S (.dat (.int b)) Q = Q (.dat (.int b)) S := by
  refine propext ⟨fun ⟨r, h1, _, h2⟩ => ?_, ret_pur rfl⟩
  simp [out, bel] at h1
  subst h1
  rw [List.take_length] at h2; exact h2
theorem ret_new {S : Sto} {ds : List D} {Q : AK} (h : purs ds = true) (q : Q (.new (.lst ds)) S) : ret S S (.new (.lst ds)) Q :=
  ⟨_, by simp only [out]; rw [if_pos (show belO _ (.lst ds) = true from bels_pur _ ds h)], chg_same, by rw [List.take_length]; exact q⟩
theorem ret_loc {S : Sto} {ds : List D} {Q : AK} {S' : Sto} {n : Nat} (hn : S.length ≤ n) (h : purs ds = true) (e : S'[n]? = some (some (.lst ds))) (hs : S'.take S.length = S) (q : Q (.new (.lst ds)) S) : ret S S' (.dat (.loc n)) Q := by
  refine ⟨.new (.lst ds), ?_, fun k o hk e => .inl ?_, by rw [hs]; exact q⟩
  · simp only [out]
    rw [if_neg (by omega), e]
    show (if belO S.length (.lst ds) = true then some (R.new (.lst ds)) else none) = _
    rw [if_pos (show belO _ (.lst ds) = true from bels_pur _ ds h)]
  · rw [← hs, List.getElem?_take, if_pos hk]; exact e
noncomputable def okS (x : Str) : Bool := x.cps.toList.all (fun c => decide (c < 128)) && decide (x.length ≤ 100)
noncomputable def thB : Nat → D → Bool
  | _, .non => true
  | _, .bl _ => true
  | _, .int _ => true
  | _, .str x => okS x
  | n + 1, .tup ds => decide (ds.length ≤ 100) && ds.all (thB n)
  | n + 1, .lst ds => decide (ds.length ≤ 100) && ds.all (thB n)
  | _, _ => false
theorem okS_ok {x : Str} (h : okS x = true) : PyData.strOk x = true := by
  unfold okS at h
  rw [Bool.and_eq_true] at h
  unfold PyData.strOk
  rw [← Array.all_toList]
  refine List.all_eq_true.mpr fun c hc => ?_
  have := of_decide_eq_true (List.all_eq_true.mp h.1 c hc)
  exact decide_eq_true (by omega)
theorem th_all : ∀ (n : Nat) (d : D), thB n d = true → pur d = true ∧ (py d).canLay0 = true ∧ (py d).depth ≤ n := by
  intro n
  induction n with
  | zero =>
    intro d h
    cases d <;> first | (simp [thB] at h; done) | skip
    · simp [pur, py, PyData.canLay0, PyData.depth]
    · simp [pur, py, PyData.canLay0, PyData.depth]
    · simp [pur, py, PyData.canLay0, PyData.depth]
    · simp only [thB] at h
      simp [pur, py, PyData.canLay0, PyData.depth, okS_ok h]
  | succ n ih =>
    have all : ∀ ds : List D, (ds.all (thB n)) = true → purs ds = true ∧ PyData.canLayAll0 (pys ds) = true ∧ PyData.depthAll (pys ds) ≤ n := by
      intro ds
      induction ds with
      | nil => intro _; simp [purs, pys, PyData.canLayAll0, PyData.depthAll]
      | cons d ds ih2 =>
        intro h
        rw [List.all_cons, Bool.and_eq_true] at h
        obtain ⟨a1, a2, a3⟩ := ih d h.1
        obtain ⟨b1, b2, b3⟩ := ih2 h.2
        refine ⟨by simp [purs, a1, b1], by simp [pys, PyData.canLayAll0, a2, b2], ?_⟩
        simp only [pys, PyData.depthAll]
        omega
    intro d h
    cases d <;> first | (simp [thB] at h; done) | skip
    · simp [pur, py, PyData.canLay0, PyData.depth]
    · simp [pur, py, PyData.canLay0, PyData.depth]
    · simp [pur, py, PyData.canLay0, PyData.depth]
    · simp only [thB] at h
      simp [pur, py, PyData.canLay0, PyData.depth, okS_ok h]
    · simp only [thB, Bool.and_eq_true] at h
      obtain ⟨a1, a2, a3⟩ := all _ h.2
      exact ⟨by simpa [pur] using a1, by simpa [py, PyData.canLay0] using a2, by simp only [py, PyData.depth]; omega⟩
    · simp only [thB, Bool.and_eq_true] at h
      obtain ⟨a1, a2, a3⟩ := all _ h.2
      exact ⟨by simpa [pur] using a1, by simpa [py, PyData.canLay0] using a2, by simp only [py, PyData.depth]; omega⟩
theorem th_pur {n : Nat} {d : D} (h : thB n d = true) : pur d = true := (th_all n d h).1
theorem th_fit {n : Nat} {d : D} (h : thB n d = true) (hn : n ≤ 64) : fit d = true := by
  obtain ⟨a, b, c⟩ := th_all n d h
  unfold fit PySem.SeqAt.shaped
  rw [a, b, decide_eq_true (by omega)]; rfl
noncomputable def isS (x : D) (s : Str) : Bool := match x with
  | .str a => decide (a = s)
  | _ => false
noncomputable def inS (x : D) (ss : List Str) : Bool := ss.any fun s => isS x s
theorem eqv_str {x : D} {s : Str} (h : pur x = true) : PyData.eqv (.str s) (py x) = isS x s := by
  cases x <;> first | (simp [pur] at h; done) | simp only [py, PyData.eqv, isS]
  rename_i a
  by_cases e : s = a
  · subst e; simp
  · rw [decide_eq_false (fun z => e z.symm)]
    exact beq_eq_false_iff_ne.mpr e
theorem inD_strs {x : D} (h : pur x = true) : ∀ ss : List Str, inD x (ss.map D.str) = inS x ss
  | [] => rfl
  | s :: ss => by
    have := inD_strs h ss
    unfold inD inS at this ⊢
    rw [List.map_cons, List.any_cons, List.any_cons, this]
    rw [show PyData.eqv (py (.str s)) (py x) = isS x s from eqv_str h]
theorem in_texts {n : Nat} {x : D} {ss : List Str} {neg : Bool} {S : Sto} {Q : AK} (h : thB n x = true) (hn : n ≤ 64) (hs : ss.all okS = true) (q : Q (.dat (.bl (neg != inS x ss))) S) (hl : ss.length ≤ 100 := by decide) : aIn neg x (.tup (ss.map D.str)) S Q := by
  have hp := th_pur h
  unfold aIn
  rw [see_pur hp, see_tup']
  refine ⟨th_fit h hn, th_fit (n := 1) ?_ (by decide), ?_⟩
  · simp only [thB, List.all_map, List.length_map, decide_eq_true hl, Bool.true_and]
    exact hs
  · rw [inD_strs hp]; exact q
theorem in_textsL {n : Nat} {x : D} {ss : List Str} {neg : Bool} {S : Sto} {Q : AK} (h : thB n x = true) (hn : n ≤ 64) (hs : ss.all okS = true) (q : Q (.dat (.bl (neg != inS x ss))) S) (hl : ss.length ≤ 100 := by decide) : aIn neg x (.lst (ss.map D.str)) S Q := by
  have hp := th_pur h
  unfold aIn
  rw [see_pur hp, see_lst']
  refine ⟨th_fit h hn, th_fit (n := 1) ?_ (by decide), ?_⟩
  · simp only [thB, List.all_map, List.length_map, decide_eq_true hl, Bool.true_and]
    exact hs
  · rw [inD_strs hp]; exact q
end M
set_option Elab.async false
set_option linter.all false
set_option maxRecDepth 100000
set_option maxHeartbeats 4000000
namespace M
open PySem PySem.Spec PyProof.Rows PySem.SeqAt L2
section
variable {X : Cx}
end
end M
set_option Elab.async false
set_option linter.all false
set_option maxRecDepth 100000
set_option maxHeartbeats 4000000
namespace M
open PySem PySem.Spec PyProof.Rows L2
theorem vals_strs : ∀ {vs : List Value} {ss : List Str}, StrsAre vs ss → Vals (ss.map V.str) vs
  | _, _, .nil => .nil
  | _, _, .cons y t h => .cons ⟨t, rfl⟩ (vals_strs h)
section
variable {X : Cx}
noncomputable def rSortS (K : PySem.W.Frag) : List V → Hp → VK → Prop := fun xs H Q => ∃ (a : Addr) (ss : List Str), xs = [.ref a] ∧ SqL K H a (ss.map V.str) ∧ ss.length < 64 ∧ ∀ (p : Addr) (ss' : List Str), H p = none → ss'.Perm ss → sortedS ss' = true → Q (.ref p) (upd H p (.lst (ss'.map V.str)))
theorem call_sortS : CallR X (.builtin "sorted") (rSortS X.K) := by
  intro pins s σ H xs us Q I r h
  obtain ⟨a, ss, rfl, ha, hl, q⟩ := h
  obtain ⟨u, rfl, ru⟩ := vals1 r
  cases ru
  obtain ⟨its, r1, ⟨o, n, e, hc, hd, hda⟩, _⟩ := I.list ha
  have hlen : its.length = ss.length := by have := r1.length; rw [List.length_map] at this; exact this.symm
  refine sorted_strs ⟨o, e, hc, n, hda⟩ (strs_of r1) (by omega) fun out ss' a1 a2 a3 => ?_
  obtain ⟨ep, he⟩ := sortedAll_at s.heap its out
  have hz : (ss'.map V.str).length ≤ sizeLine := by rw [List.length_map, a2.length_eq, sizeLine_eq]; omega
  refine ⟨.ref (s.heap.objs.size + 1), _, I.laid (t' := s.toks) (o := .lst (ss'.map V.str)) (fun b ob q => sortedAll_old q) (Nat.le_succ _) ⟨hz, out.toList, ep, vals_strs a1, he⟩, rfl, q _ ss' (I.hok.fresh (Nat.le_succ _)) a2 a3⟩
noncomputable def rSortI (K : PySem.W.Frag) : List V → Hp → VK → Prop := fun xs H Q => ∃ (a : Addr) (ns : List Int), xs = [.ref a] ∧ SqL K H a (ns.map V.int) ∧ ns.length < 64 ∧ ∀ (p : Addr) (ns' : List Int), H p = none → ns'.Perm ns → ns'.Pairwise (· ≤ ·) → Q (.ref p) (upd H p (.lst (ns'.map V.int)))
theorem call_sortI : CallR X (.builtin "sorted") (rSortI X.K) := by
  intro pins s σ H xs us Q I r h
  obtain ⟨a, ns, rfl, ha, hl, q⟩ := h
  obtain ⟨u, rfl, ru⟩ := vals1 r
  cases ru
  obtain ⟨its, r1, ⟨o, n, e, hc, hd, hda⟩, _⟩ := I.list ha
  have hlen : its.length = ns.length := by have := r1.length; rw [List.length_map] at this; exact this.symm
  refine sorted_ints ⟨o, e, hc, n, hda⟩ (intsAre_of r1) (by omega) fun out ns' a1 a2 a3 => ?_
  obtain ⟨ep, he⟩ := sortedAll_at s.heap its out
  have hz : (ns'.map V.int).length ≤ sizeLine := by rw [List.length_map, a2.length_eq, sizeLine_eq]; omega
  refine ⟨.ref (s.heap.objs.size + 1), _, I.laid (t' := s.toks) (o := .lst (ns'.map V.int)) (fun b ob q => sortedAll_old q) (Nat.le_succ _) ⟨hz, out.toList, ep, vals_ints a1, he⟩, rfl, q _ ns' (I.hok.fresh (Nat.le_succ _)) a2 a3⟩
noncomputable def aSorted : AN := fun ds S Q => ∃ d, ds = [d] ∧
  ((∃ ss : List Str, see S d = .lst (ss.map D.str) ∧ ss.length < 64 ∧ ∀ ss' : List Str, ss'.Perm ss → sortedS ss' = true → Q (.new (.lst (ss'.map D.str))) S) ∨
   (∃ ns : List Int, see S d = .lst (ns.map D.int) ∧ ns.length < 64 ∧ ∀ ns' : List Int, ns'.Perm ns → ns'.Pairwise (· ≤ ·) → Q (.new (.lst (ns'.map D.int))) S))
theorem reps_strs' {K : PySem.W.Frag} {w : Wd} : ∀ {ss : List Str} {xs : List V}, Reps K w (ss.map D.str) xs → xs = ss.map V.str
  | [], xs, h => by simpa [Reps] using h
  | s :: ss, xs, h => by
    simp only [List.map_cons, Reps] at h
    obtain ⟨x, r, rfl, h1, h2⟩ := h
    rw [rep_str h1 rfl, reps_strs' h2]; rfl
theorem reps_ints' {K : PySem.W.Frag} {w : Wd} : ∀ {ns : List Int} {xs : List V}, Reps K w (ns.map D.int) xs → xs = ns.map V.int
  | [], xs, h => by simpa [Reps] using h
  | s :: ss, xs, h => by
    simp only [List.map_cons, Reps] at h
    obtain ⟨x, r, rfl, h1, h2⟩ := h
    rw [rep_int h1 rfl, reps_ints' h2]; rfl
theorem reps_of_strs {K : PySem.W.Frag} {w : Wd} : ∀ ss : List Str, Reps K w (ss.map D.str) (ss.map V.str)
  | [] => by simp [Reps]
  | s :: ss => by
    simp only [List.map_cons, Reps]
    exact ⟨_, _, rfl, by simp [Rep], reps_of_strs ss⟩
theorem o_sorted : OpC X (.builtin "sorted") aSorted := ⟨mC (orC call_sortS call_sortI) fun xs H Q h => by
  obtain ⟨w, ds, S, Qa, ok, rep, ⟨d, rfl, q⟩, bk⟩ := h
  obtain ⟨v, rfl, r1⟩ := reps1 rep
  rcases q with ⟨ss, z, hl, q⟩ | ⟨ns, z, hl, q⟩
  · obtain ⟨a, xs, rfl, h1, h2⟩ := see_lst ok r1 z
    have := reps_strs' h2
    subst this
    exact .inl ⟨a, ss, rfl, SqL.of h1, hl, fun p ss' hp h3 h4 => bk (.new (.lst _)) S _ w _ .refl (ok.alloc hp) (ok.fresh hp ⟨_, rfl, reps_of_strs ss'⟩) (q ss' h3 h4)⟩
  · obtain ⟨a, xs, rfl, h1, h2⟩ := see_lst ok r1 z
    have := reps_ints' h2
    subst this
    exact .inr ⟨a, ns, rfl, SqL.of h1, hl, fun p ns' hp h3 h4 => bk (.new (.lst _)) S _ w _ .refl (ok.alloc hp) (ok.fresh hp ⟨_, rfl, reps_ints ns'⟩) (q ns' h3 h4)⟩⟩
end
end M
set_option Elab.async false
set_option linter.all false
set_option maxRecDepth 100000
set_option maxHeartbeats 4000000
namespace M1
open PySem PySem.Spec PyProof.Rows
namespace F
end F
section
variable {prog : Program} {w : World} {A : Around} {E : Value → Shared → Prop} {s : Shared}
end
section
variable {prog : Program} {w : World} {A : Around} {s : Shared} {R : Result → Shared → Prop} {I l : Addr} {items : Array Value}
variable {wr : List Addr} {G : Array GenState → Array GenState → Prop} {n : Nat} {P : Nat → Value → Prop} {St : Nat → Shared → Prop}
end
section
variable {prog : Program} {w : World} {A : Around} {E : Value → Shared → Prop} {s : Shared} {I l : Addr} {items : Array Value}
end
end M1
set_option Elab.async false
set_option linter.all false
set_option maxRecDepth 100000
set_option maxHeartbeats 4000000
namespace L2
open PySem PySem.Spec PyProof.Rows
section
variable {X : Cx} {e : Expr} {ta : TE} {p p2 pos pos2 : Pos}
end
end L2
namespace M
open PySem PySem.Spec PyProof.Rows L2
section
variable {K : PySem.W.Frag}
end
section
variable {X : Cx} {e o value : Expr} {es : List Expr} {p p2 pos pos2 apos tpos : Pos}
end
section
variable {P : Program} {w : World} {K : PySem.W.Frag} {mg : Str → Option Value} {base : Heap} {C : Addr}
theorem okB {x qual : Str} {st : Stmt} {f : Addr} {fd : FuncData} {N ps : List Str} {k : Nat} {sp : AN} (F : Fun K x qual st f fd) (S : FnScope N ps (defScope st)) (len : ∀ ds S Q, sp ds S Q → ds.length = ps.length)
    (hbody : ∀ (f : Addr) (cdv : Value) (A : Around) (outer : List Env) (s : Shared) (H : Hp) (E : XK), Room k (A.deeper (PyProof.Rows.envOfC qual (defScope st) s.heap.objs.size f cdv)) →
      ∃ a, GSs (cxOf CX0 P w K mg base N qual (defScope st) f cdv A outer s H E).nox (defBody st) a ∧ ∀ ds S Q, sp ds S Q → a { nx := fun _ S' => M.ret S S' (.dat .non) Q, rt := fun r S' => M.ret S S' r Q } (startA N ds) S) : FnOk P w K mg base CX0 (k + 1) f fd ps (conSp K sp) :=
  F.ok S (fun vs H Q E h => by
    obtain ⟨w, ds, S, Qa, ok, rep, q, bk⟩ := h
    rw [rep.length]; exact len ds S Qa q) fun cdv A outer s H vs Q E hr h => by
    obtain ⟨a, ha, hd⟩ := hbody f cdv A outer s H E hr
    obtain ⟨w, ds, S, Qa, ok, rep, q, bk⟩ := h
    refine ⟨_, ha.p, w, startA N ds, S, _, ok, env_start rep, hd ds S Qa q, ⟨fun δ S' σ w' H' le ok' env q' => ?_, fun r S' v w' H' le ok' rep' q' => ?_, fun _ _ _ _ _ _ _ _ z => z.elim, fun _ _ _ _ _ _ _ _ z => z.elim⟩⟩
    · exact ret_ok (r := .dat .non) (v := .non) ok le ok' (show Rep K w' .non .non from .non) q' bk
    · exact ret_ok ok le ok' rep' q' bk
end
section
variable {X : Cx} {e o : Expr} {es : List Expr} {p pos apos : Pos} {C : Addr} {k : Nat} {m : Str} {ps : List Str} {sp : AN}
end
end M
set_option Elab.async false
set_option linter.all false
set_option maxRecDepth 100000
set_option maxHeartbeats 4000000
namespace L2
open PySem PySem.Spec PyProof.Rows
open Builtin Builtin.Str
section
variable {prog : Program} {w : World} {A : Around} {E : Value → Shared → Prop} {s : Shared} {x : Str} {t : Tok} {Q : Value → Shared → Prop}
end
section
variable {X : Cx}
end
end L2
namespace M
open PySem PySem.Spec PyProof.Rows L2
section
variable {X : Cx}
end
end M
set_option Elab.async false
set_option linter.all false
set_option maxRecDepth 100000
set_option maxHeartbeats 4000000
namespace Srt
open PySem PySem.W PyProof.Rows
structure Ord (α : Type) where
  lt : α → α → Bool
  irr : ∀ a, lt a a = false
  tr : ∀ a b c, lt a b = true → lt b c = true → lt a c = true
  nt : ∀ a b c, lt a c = true → lt a b = true ∨ lt b c = true
noncomputable def run {β : Type} (f : Nat → Nat → Bool) : KasT β → β
  | .ret a => a
  | .ask i j k => run f (k (f i j))
section
variable {α : Type} (O : Ord α)
noncomputable def le (a b : α) : Prop := O.lt b a = false
variable {O}
end
section
variable {α : Type} {O : Ord α} {k : Nat → α} {p : Array Nat}
noncomputable def val (k : Nat → α) (p : Array Nat) (i : Nat) : α := k (p.getD i 0)
variable (O k)
noncomputable abbrev ask (i j : Nat) : Bool := O.lt (k i) (k j)
variable {O k}
theorem getD_of {x : Nat} : p.getD x 0 = (p[x]?).getD 0 := by
  by_cases h : x < p.size
  · simp [Array.getD, h]
  · simp [Array.getD, h, Array.getElem?_eq_none (Nat.le_of_not_lt h)]
theorem rev_perm {i j : Nat} : (kas_rev p i j).Perm p := mirror_perm _ _ _ _
end
end Srt
set_option Elab.async false
set_option linter.all false
set_option maxRecDepth 100000
set_option maxHeartbeats 4000000
namespace M5
open PySem PySem.Spec PyProof.Rows
theorem layNew_kept (t : SetTable) (es : Array (Int × Value)) (h : Int) (x : Value) : (layNew t es h x).2.1.led = t.led ∧ ((layNew t es h x).2.1.plain = true → t.plain = true) := by
  unfold layNew
  split
  · unfold SetTable.orStandIn
    dsimp only
    split
    · exact ⟨rfl, fun z => z⟩
    · exact ⟨rfl, fun z => by cases z⟩
  · exact ⟨rfl, fun z => by cases z⟩
theorem relaid_kept {t t' : SetTable} {hs : Array Int} {n : Nat} {o : Array Nat} (h : t.relaid hs n = some (t', o)) : t'.led = t.led ∧ t'.plain = t.plain := by
  unfold SetTable.relaid SetTable.laid at h
  cases hl : SetTable.layClean (SetTable.sizeAbove n - 1) hs with
  | none => rw [hl] at h; cases h
  | some ow =>
    rw [hl] at h
    have h : some _ = some _ := h
    injection h with h
    injection h with h1 h2
    subst h1
    exact ⟨rfl, rfl⟩
theorem relayAll_kept (t : SetTable) (es : Array (Int × Value)) (n : Nat) : (relayAll t es n).2.1.led = t.led ∧ ((relayAll t es n).2.1.plain = true → t.plain = true) := by
  unfold relayAll
  split
  · rename_i t' order he
    dsimp only
    split
    · exact ⟨(relaid_kept he).1, fun z => by rw [← (relaid_kept he).2]; exact z⟩
    · exact ⟨rfl, fun z => by cases z⟩
  · exact ⟨rfl, fun z => by cases z⟩
section
variable {prog : Program} {w : World} {A : Around} {E : Value → Shared → Prop} {s : Shared}
theorem upd_set {h : Heap} {a : Addr} {o : Obj} {es : Array (Int × Value)} {ep : Nat} {t : SetTable} (es' : Array (Int × Value)) (t' : SetTable) (ho : h.get? a = some o) (hd : o.data = .set es ep t) :
    (h.update a (Obj.putSet es' t')).get? a = some { o with data := .set es' (ep + 1) t' } := by
  have e := Heap.get?_update_self (Obj.putSet es' t') ho
  rw [putSet_of es' t' hd] at e
  exact e rfl
end
section
variable {prog : Program} {w : World} {A : Around} {R : Result → Shared → Prop} {I : Addr} {fp wr : List Addr} {G : Array GenState → Array GenState → Prop} {n : Nat} {P : Nat → Value → Prop} {St : Nat → Shared → Prop}
end
namespace F
theorem sub_tuple_set : isSubtype (.type "tuple") (.type "set") = pure false := by rw [isSubtype_type]; kernel_rfl
theorem sub_tuple_frozenset : isSubtype (.type "tuple") (.type "frozenset") = pure false := by rw [isSubtype_type]; kernel_rfl
end F
noncomputable def freshSet (led : Bool) : Obj := { cls := .type "set", dict := none, data := .set #[] 0 (.fresh 0 0 led) }
section
variable {prog : Program} {w : World} {A : Around} {E : Value → Shared → Prop} {s : Shared}
theorem set_new (a : Value) {Q₁ : Value → Shared → Prop} (h : Q₁ (.ref s.heap.objs.size) { s with heap := s.heap.push (freshSet (!w.params.followText "set-order")) }) :
    codeAny (model prog w) A (.call (.builtin "set.__new__") ⟨[.type "set", a], []⟩) (wants Q₁ E) s := by
  refine codeAny_of_tree ?_
  show wpAny _ A.in1 (do checkBuiltinCall "set.__new__" ⟨[.type "set", a], []⟩; again (.builtin "set.__new__" ⟨[.type "set", a], []⟩)) _ _ s
  refine wpAny_bind (wpAny_of_eq (PySem.F.newCall_set_1 a) (wpAny_pure ⟨plainId_quiet PySem.F.plain_set_new _, codeAny_builtin PySem.F.entry_set_new ?_⟩))
  rw [Around.under_plainId PySem.F.plain_set_new _]
  unfold Builtin.«set.__new__» Builtin.Frozenset.newClass
  have hsub := sub_set_self
  obtain ⟨hp, g, d, tk, os⟩ := s
  dsimp only
  wp_walk
  refine wpAny_askSetting (wpAny_pure ?_)
  dsimp only
  simp only [newObj]
  refine wpAny_bind (wpAny_alloc (wpAny_pure ?_))
  exact wpAny_pure h
end
end M5
set_option Elab.async false
set_option linter.all false
set_option maxRecDepth 100000
set_option maxHeartbeats 4000000
namespace M5
open PySem PySem.Spec PyProof.Rows
namespace F
theorem owner_si : Manifest.owners.lookup (String.ofList ['r', 'o', 't', 'a', 'r', 'e', 't', 'i', '_', 't', 'e', 's'].reverse) = some Manifest.sig_set_iterator := by kernel_rfl
theorem owner_s : Manifest.owners.lookup (String.ofList ['t', 'e', 's'].reverse) = some Manifest.sig_set := by kernel_rfl
theorem slot_next : Slot "set_iterator" "__next__" "set_iterator.__next__" :=
  .of (owner := "set_iterator") (n := "__next__") (by rw [typeLookup_type, builtinLookup_eq_fast]; kernel_rfl) (by decide +kernel) (by decide +kernel) (by decide +kernel)
    (by first | exact .inl (by decide +kernel) | exact .inr (by decide +kernel)) (by rw [isSubtype_type]; kernel_rfl)
theorem entry_next : entryFor table "set_iterator.__next__" = some Builtin.«set_iterator.__next__» := entryFor_of_tree (by kernel_rfl)
theorem args_next (a : Value) : argsOk "set_iterator.__next__" ⟨[a], []⟩ := by
  unfold argsOk; rw [signature?_of (id := "set_iterator.__next__") (n := ['_', '_', 't', 'x', 'e', 'n', '_', '_']) (o := ['r', 'o', 't', 'a', 'r', 'e', 't', 'i', '_', 't', 'e', 's']) (by kernel_rfl) owner_si]; kernel_rfl
theorem slot_iter : Slot "set_iterator" "__iter__" "set_iterator.__iter__" :=
  .of (owner := "set_iterator") (n := "__iter__") (by rw [typeLookup_type, builtinLookup_eq_fast]; kernel_rfl) (by decide +kernel) (by decide +kernel) (by decide +kernel)
    (by first | exact .inl (by decide +kernel) | exact .inr (by decide +kernel)) (by rw [isSubtype_type]; kernel_rfl)
theorem args_iter (a : Value) : argsOk "set_iterator.__iter__" ⟨[a], []⟩ := by
  unfold argsOk; rw [signature?_of (id := "set_iterator.__iter__") (n := ['_', '_', 'r', 'e', 't', 'i', '_', '_']) (o := ['r', 'o', 't', 'a', 'r', 'e', 't', 'i', '_', 't', 'e', 's']) (by kernel_rfl) owner_si]; kernel_rfl
theorem entry_iter : entryFor table "set_iterator.__iter__" = some Builtin.«dict_keyiterator.__iter__» :=
  entryFor_alias (id' := "dict_keyiterator.__iter__") (by kernel_rfl) (by first | rfl | decide +kernel | (unfold String.splitOn; simp +decide [String.splitOnAux])) (by decide +kernel) (by kernel_rfl)
theorem slot_siter : Slot "set" "__iter__" "set.__iter__" :=
  .of (owner := "set") (n := "__iter__") (by rw [typeLookup_type, builtinLookup_eq_fast]; kernel_rfl) (by decide +kernel) (by decide +kernel) (by decide +kernel)
    (by first | exact .inl (by decide +kernel) | exact .inr (by decide +kernel)) (by rw [isSubtype_type]; kernel_rfl)
theorem args_siter (a : Value) : argsOk "set.__iter__" ⟨[a], []⟩ := by
  unfold argsOk; rw [signature?_of (id := "set.__iter__") (n := ['_', '_', 'r', 'e', 't', 'i', '_', '_']) (o := ['t', 'e', 's']) (by kernel_rfl) owner_s]; kernel_rfl
theorem entry_siter : entryFor table "set.__iter__" = some Builtin.«frozenset.__iter__» :=
  entryFor_alias (id' := "frozenset.__iter__") (by kernel_rfl) (by first | rfl | decide +kernel | (unfold String.splitOn; simp +decide [String.splitOnAux])) (by decide +kernel) (by kernel_rfl)
end F
noncomputable def itO (first : Value) (i : Nat) (a : Addr) (n ep : Nat) : Obj := { cls := .type "set_iterator", data := .fields #[first, rawInt i, .ref a, rawInt n, rawInt ep] }
noncomputable def IsIt (h : Heap) (I : Addr) (first : Value) (i : Nat) (a : Addr) (n ep : Nat) : Prop := ∃ o, h.get? I = some o ∧ o.cls = .type "set_iterator" ∧ o.data = .fields #[first, rawInt i, .ref a, rawInt n, rawInt ep]
noncomputable def SAt (h : Heap) (a : Addr) (es : Array (Int × Value)) (ep : Nat) (t : SetTable) : Prop := ∃ o, h.get? a = some o ∧ o.cls = .type "set" ∧ o.data = .set es ep t
theorem IsIt.at {h h' : Heap} {I a : Addr} {f : Value} {i n ep : Nat} (x : IsIt h I f i a n ep) (e : ∀ o, h.get? I = some o → h'.get? I = some o) : IsIt h' I f i a n ep := let ⟨o, ho, r⟩ := x; ⟨o, e _ ho, r⟩
theorem SAt.at {h h' : Heap} {a : Addr} {es : Array (Int × Value)} {ep : Nat} {t : SetTable} (x : SAt h a es ep t) (e : ∀ o, h.get? a = some o → h'.get? a = some o) : SAt h' a es ep t := let ⟨o, ho, r⟩ := x; ⟨o, e _ ho, r⟩
section
variable {prog : Program} {w : World} {A : Around} {E : Value → Shared → Prop} {s : Shared}
theorem IsIt.typeIs {I a : Addr} {f : Value} {i n ep : Nat} (x : IsIt s.heap I f i a n ep) : s.TypeIs (.ref I) "set_iterator" := let ⟨o, ho, hc, _⟩ := x; ⟨o, ho, hc⟩
theorem SAt.typeIs {a : Addr} {es : Array (Int × Value)} {ep : Nat} {t : SetTable} (x : SAt s.heap a es ep t) : s.TypeIs (.ref a) "set" := let ⟨o, ho, hc, _⟩ := x; ⟨o, ho, hc⟩
theorem any_choose {src : Source} {n : Nat} {Q : Nat → Shared → Prop} (hn : n ≠ 0) (h : ∀ i d, i < n → Q i { s with drawn := d }) : wpAny (model prog w) A (choose src n) Q E s := by
  intro Γ p hΓ
  show Sem.wp _ _ (.choose src n .pure) _ _ _ _
  rw [Sem.wp_choose]
  exact ⟨hn, h _ _ (Nat.mod_lt _ (Nat.pos_of_ne_zero hn))⟩
theorem erase_perm {α : Type} : ∀ {l : List α} {i : Nat} (h : i < l.length), (l[i] :: l.eraseIdx i).Perm l
  | x :: r, 0, h => .refl _
  | x :: r, i + 1, h => by
    have h' : i < r.length := Nat.lt_of_succ_lt_succ h
    show (r[i] :: x :: r.eraseIdx i).Perm (x :: r)
    exact (List.Perm.swap ..).trans ((erase_perm (Nat.lt_of_succ_lt_succ h)).cons x)
theorem any_draw {α : Type} : ∀ (n : Nat) (xs : List α) {s : Shared} {Q : List α → Shared → Prop}, xs.length = n → (∀ ys d, ys.Perm xs → Q ys { s with drawn := d }) → wpAny (model prog w) A (drawOrder n xs) Q E s
  | 0, xs, s, Q, hl, h => by
    obtain rfl : xs = [] := List.eq_nil_of_length_eq_zero hl
    unfold drawOrder
    exact wpAny_pure (h [] s.drawn .nil)
  | n + 1, [], s, Q, hl, h => by cases hl
  | n + 1, x :: r, s, Q, hl, h => by
    unfold drawOrder
    refine wpAny_bind (any_choose (by simp) fun i d hi => ?_)
    rw [List.getElem?_eq_getElem hi]
    dsimp only
    refine wpAny_bind (any_draw n _ ?_ fun ys d2 hp => ?_)
    · rw [List.length_eraseIdx, if_pos hi, hl]; rfl
    · refine wpAny_pure (h _ d2 ((hp.cons _).trans ?_))
      exact erase_perm hi
theorem pick_go {α : Type} (next : Nat → Nat) : ∀ (n k : Nat) (left : List α) (out : Array α), left.length = n → (pickOrder.go next n k left out).toList.Perm (out.toList ++ left)
  | 0, k, left, out, h => by
    obtain rfl : left = [] := List.eq_nil_of_length_eq_zero h
    unfold pickOrder.go
    simp
  | n + 1, k, left, out, h => by
    unfold pickOrder.go
    have hi : next k % left.length < left.length := Nat.mod_lt _ (by omega)
    rw [List.getElem?_eq_getElem hi]
    dsimp only
    refine (pick_go next n (k + 1) _ _ ?_).trans ?_
    · rw [List.length_eraseIdx, if_pos hi, h]; rfl
    · rw [Array.toList_push, List.append_assoc]
      exact (erase_perm hi).append_left _
theorem pick_perm {α : Type} (next : Nat → Nat) (xs : Array α) : (pickOrder next xs).toList.Perm xs.toList := by
  unfold pickOrder
  have := pick_go next xs.size 0 xs.toList #[] Array.length_toList
  simpa using this
end
end M5
set_option Elab.async false
set_option linter.all false
set_option maxRecDepth 100000
set_option maxHeartbeats 4000000
namespace M5
open PySem PySem.Spec PyProof.Rows
section
variable {prog : Program} {w : World} {A : Around} {E : Value → Shared → Prop} {s : Shared}
theorem next_item {I a : Addr} {sl i n ep nx : Nat} {es : Array (Int × Value)} {t : SetTable} {x : Value} {Q : Option Value → Shared → Prop} (hit : IsIt s.heap I (rawInt sl) i a n ep) (hS : SAt s.heap a es ep t) (hf : t.fits es.size = true) (hn : es.size = n)
    (hs : ∀ {A' : Around} {Q' : Option (Value × Nat) → Shared → Prop} {E' : Value → Shared → Prop}, Q' (some (x, nx)) s → wpAny (model prog w) A' (setNext a sl i ep) Q' E' s)
    (hQ : ∀ h', IsIt h' I (rawInt nx) (i + 1) a n ep → Heap.SameBut I s.heap h' → Q (some x) { s with heap := h' }) : wpAny (model prog w) A (pyNext (.ref I)) Q E s := by
  obtain ⟨o, ho, hc, hd⟩ := id hit
  obtain ⟨os, hos, hcs, hds⟩ := id hS
  unfold pyNext
  refine wpAny_bind (wpAny_attempt (wpAny_callSpecial?_slot (name := Str.ofString "__next__") hit.typeIs F.slot_next
    (wpAny_call_entry F.slot_next hit.typeIs F.entry_next ?_ (F.args_next _))))
  unfold Builtin.«set_iterator.__next__»
  refine wpAny_bind (wpAny_of_eq (a := (Value.ref I, [])) rfl ?_)
  refine wpAny_bind (wpAny_fieldsOf ho hd ?_)
  dsimp only [rawInt]
  refine wpAny_bind (wpAny_setEntries_of hos hds hf ?_)
  rw [if_neg (by rw [hn]; simp)]
  refine wpAny_bind (hs ?_)
  dsimp only
  refine wpAny_bind (wpAny_setField ho hd (by simp) ?_)
  have ho2 := Heap.get?_update_self (Obj.mapFields (·.setIfInBounds 0 (rawInt nx))) ho (Obj.isFreed_of_fields (Obj.data_mapFields hd _))
  have hd2 := Obj.data_mapFields hd (·.setIfInBounds 0 (rawInt nx))
  refine wpAny_bind (wpAny_setField ho2 hd2 (by simp) ?_)
  refine wpAny_pure ⟨x, rfl, wpAny_pure (hQ _ ?_ ((Heap.SameBut.update ..).trans (Heap.SameBut.update ..)))⟩
  exact ⟨_, Heap.get?_update_self _ ho2 (Obj.isFreed_of_fields (Obj.data_mapFields hd2 _)), (Obj.cls_mapFields ..).trans ((Obj.cls_mapFields ..).trans hc), by
    rw [Obj.data_mapFields hd2]; simp [rawInt]⟩
theorem next_end {I a : Addr} {sl i n ep : Nat} {es : Array (Int × Value)} {t : SetTable} {Q : Option Value → Shared → Prop} (hh : A.handled = none) (hit : IsIt s.heap I (rawInt sl) i a n ep) (hS : SAt s.heap a es ep t) (hf : t.fits es.size = true) (hn : es.size = n)
    (hs : ∀ {A' : Around} {Q' : Option (Value × Nat) → Shared → Prop} {E' : Value → Shared → Prop}, Q' none s → wpAny (model prog w) A' (setNext a sl i ep) Q' E' s)
    (hQ : ∀ h', Heap.ExtBut I s.heap h' → Q none { s with heap := h' }) : wpAny (model prog w) A (pyNext (.ref I)) Q E s := by
  obtain ⟨o, ho, hc, hd⟩ := id hit
  obtain ⟨os, hos, hcs, hds⟩ := id hS
  unfold pyNext
  refine wpAny_bind (wpAny_attempt (wpAny_callSpecial?_slot (name := Str.ofString "__next__") hit.typeIs F.slot_next
    (wpAny_call_entry F.slot_next hit.typeIs F.entry_next ?_ (F.args_next _))))
  unfold Builtin.«set_iterator.__next__»
  refine wpAny_bind (wpAny_of_eq (a := (Value.ref I, [])) rfl ?_)
  refine wpAny_bind (wpAny_fieldsOf ho hd ?_)
  dsimp only [rawInt]
  refine wpAny_bind (wpAny_setEntries_of hos hds hf ?_)
  rw [if_neg (by rw [hn]; simp)]
  refine wpAny_bind (hs ?_)
  dsimp only
  refine wpAny_bind (wpAny_setField ho hd (by simp) ?_)
  refine wpAny_bind ?_
  simp only [newExc, newTuple]
  refine wpAny_bind (wpAny_newObj_type ?_ (by size_fits))
  refine wpAny_bind (m := firstArgMember _ _) (wpAny_of_eq (a := Value.none) (by first | rfl | (simp only [firstArgMember]; rfl)) ?_)
  refine wpAny_newObj_type ?_ (by size_fits)
  simp only [raiseNew]
  refine wpAny_bind (wpAny_handled ?_)
  first | rw [show A.in1.handled = none from hh] | rw [hh]
  refine wpAny_bind (wpAny_pure (wpAny_throw ?_))
  refine wpAny_bind (wpAny_isInstance (T := "StopIteration") (b := true) ⟨_, Heap.get?_push_size _ rfl, rfl⟩ isSubtype_stop ?_)
  refine wpAny_pure (hQ _ (Heap.ExtBut.push (Heap.ExtBut.push ?_ _) _))
  exact fun b ob hb e => (Heap.get?_update_other _ _ (Ne.symm hb)).trans e
theorem next_itemD {I T a : Addr} {i n ep pl : Nat} {tk : Tok} {es : Array (Int × Value)} {t : SetTable} {ps : Array Value} {hx : Int} {x : Value} {Q : Option Value → Shared → Prop} (hit : IsIt s.heap I (.ref T) i a n ep) (hS : SAt s.heap a es ep t) (hf : t.fits es.size = true) (hn : es.size = n)
    (hT : s.heap.IsTuple T ps) (hp : ps[i]? = some (.int pl tk)) (he : es[pl]? = some (hx, x))
    (hQ : ∀ h', IsIt h' I (.ref T) (i + 1) a n ep → Heap.SameBut I s.heap h' → Q (some x) { s with heap := h' }) : wpAny (model prog w) A (pyNext (.ref I)) Q E s := by
  obtain ⟨o, ho, hc, hd⟩ := id hit
  obtain ⟨os, hos, hcs, hds⟩ := id hS
  obtain ⟨ot, hot, hct, nt, hdt⟩ := id hT
  unfold pyNext
  refine wpAny_bind (wpAny_attempt (wpAny_callSpecial?_slot (name := Str.ofString "__next__") hit.typeIs F.slot_next
    (wpAny_call_entry F.slot_next hit.typeIs F.entry_next ?_ (F.args_next _))))
  unfold Builtin.«set_iterator.__next__»
  refine wpAny_bind (wpAny_of_eq (a := (Value.ref I, [])) rfl ?_)
  refine wpAny_bind (wpAny_fieldsOf ho hd ?_)
  dsimp only [rawInt]
  refine wpAny_bind (wpAny_setEntries_of hos hds hf ?_)
  rw [if_neg (by rw [hn]; simp)]
  refine wpAny_bind (wpAny_seqItems hot hdt ?_)
  dsimp only
  rw [Int.toNat_natCast, hp]
  dsimp only
  refine wpAny_bind ?_
  unfold setNextDrawn
  refine wpAny_bind (wpAny_setState_of hos hds hf ?_)
  dsimp only
  rw [if_neg (by simp), Int.toNat_natCast, he]
  dsimp only
  refine wpAny_pure ?_
  refine wpAny_bind (wpAny_setField ho hd (by simp) ?_)
  refine wpAny_pure ⟨x, rfl, wpAny_pure (hQ _ ?_ (Heap.SameBut.update ..))⟩
  exact ⟨_, Heap.get?_update_self _ ho (Obj.isFreed_of_fields (Obj.data_mapFields hd _)), (Obj.cls_mapFields ..).trans hc, by
    rw [Obj.data_mapFields hd]; simp [rawInt]⟩
theorem next_endD {I T a : Addr} {i n ep : Nat} {es : Array (Int × Value)} {t : SetTable} {ps : Array Value} {Q : Option Value → Shared → Prop} (hh : A.handled = none) (hit : IsIt s.heap I (.ref T) i a n ep) (hS : SAt s.heap a es ep t) (hf : t.fits es.size = true) (hn : es.size = n)
    (hT : s.heap.IsTuple T ps) (hp : ps[i]? = none)
    (hQ : ∀ h', Heap.ExtBut I s.heap h' → Q none { s with heap := h' }) : wpAny (model prog w) A (pyNext (.ref I)) Q E s := by
  obtain ⟨o, ho, hc, hd⟩ := id hit
  obtain ⟨os, hos, hcs, hds⟩ := id hS
  obtain ⟨ot, hot, hct, nt, hdt⟩ := id hT
  unfold pyNext
  refine wpAny_bind (wpAny_attempt (wpAny_callSpecial?_slot (name := Str.ofString "__next__") hit.typeIs F.slot_next
    (wpAny_call_entry F.slot_next hit.typeIs F.entry_next ?_ (F.args_next _))))
  unfold Builtin.«set_iterator.__next__»
  refine wpAny_bind (wpAny_of_eq (a := (Value.ref I, [])) rfl ?_)
  refine wpAny_bind (wpAny_fieldsOf ho hd ?_)
  dsimp only [rawInt]
  refine wpAny_bind (wpAny_setEntries_of hos hds hf ?_)
  rw [if_neg (by rw [hn]; simp)]
  refine wpAny_bind (wpAny_seqItems hot hdt ?_)
  dsimp only
  rw [Int.toNat_natCast, hp]
  dsimp only
  refine wpAny_bind (wpAny_setField ho hd (by simp) ?_)
  have ho2 := Heap.get?_update_self (Obj.mapFields (·.setIfInBounds 0 (rawInt 0))) ho (Obj.isFreed_of_fields (Obj.data_mapFields hd _))
  refine wpAny_bind (wpAny_setField ho2 (Obj.data_mapFields hd _) (by simp) ?_)
  refine wpAny_bind ?_
  simp only [newExc, newTuple]
  refine wpAny_bind (wpAny_newObj_type ?_ (by size_fits))
  refine wpAny_bind (m := firstArgMember _ _) (wpAny_of_eq (a := Value.none) (by first | rfl | (simp only [firstArgMember]; rfl)) ?_)
  refine wpAny_newObj_type ?_ (by size_fits)
  simp only [raiseNew]
  refine wpAny_bind (wpAny_handled ?_)
  first | rw [show A.in1.handled = none from hh] | rw [hh]
  refine wpAny_bind (wpAny_pure (wpAny_throw ?_))
  refine wpAny_bind (wpAny_isInstance (T := "StopIteration") (b := true) ⟨_, Heap.get?_push_size _ rfl, rfl⟩ isSubtype_stop ?_)
  refine wpAny_pure (hQ _ (Heap.ExtBut.push (Heap.ExtBut.push ?_ _) _))
  exact fun b ob hb e => (Heap.get?_update_other _ _ (Ne.symm hb)).trans ((Heap.get?_update_other _ _ (Ne.symm hb)).trans e)
end
end M5
set_option Elab.async false
set_option linter.all false
set_option maxRecDepth 100000
set_option maxHeartbeats 4000000
namespace M5
open PySem PySem.Spec PyProof.Rows
section
variable {prog : Program} {w : World} {A : Around} {E : Value → Shared → Prop} {s : Shared}
theorem iter_it {I a : Addr} {f : Value} {i n ep : Nat} {Q : Value → Shared → Prop} (hit : IsIt s.heap I f i a n ep) (h : Q (.ref I) s) : wpAny (model prog w) A (pyIter (.ref I)) Q E s := by
  refine wpAny_pyIter_slot hit.typeIs F.slot_iter (wpAny_call_entry F.slot_iter hit.typeIs F.entry_iter ?_ (F.args_iter _))
  show wpAny _ _ (ret (.ref I)) _ _ s
  exact wpAny_pure ⟨_, rfl, "set_iterator", _, hit.typeIs, F.slot_next.lookup, h⟩
theorem walksN {I a : Addr} {ep : Nat} {es : Array (Int × Value)} {t : SetTable} {ord : List Value} {sl : Nat → Nat} (hh : A.handled = none) (hne : a ≠ I) (hf : t.fits es.size = true) (hlen : ord.length = es.size)
    (hs : ∀ i x, ord[i]? = some x → ∀ {A' : Around} {s' : Shared} {Q' : Option (Value × Nat) → Shared → Prop} {E' : Value → Shared → Prop}, SAt s'.heap a es ep t → Q' (some (x, sl (i + 1))) s' → wpAny (model prog w) A' (setNext a (sl i) i ep) Q' E' s')
    (he : ∀ {A' : Around} {s' : Shared} {Q' : Option (Value × Nat) → Shared → Prop} {E' : Value → Shared → Prop}, SAt s'.heap a es ep t → Q' none s' → wpAny (model prog w) A' (setNext a (sl ord.length) ord.length ep) Q' E' s') :
    Walks prog w A I [I, a] [I] ord.length (fun i v => ord[i]? = some v) (fun i h => IsIt h I (rawInt (sl i)) i a es.size ep ∧ SAt h a es ep t) where
  sub := fun b hb => by simp at hb; simp [hb]
  frame := fun _ _ _ x hk => ⟨x.1.at fun o e => hk I (by simp) o e, x.2.at fun o e => hk a (by simp) o e⟩
  item := fun i s Q E hi x hQ => by
    have hx : ord[i]? = some ord[i] := List.getElem?_eq_getElem hi
    refine next_item x.1 x.2 hf rfl (hs i _ hx x.2) fun h' hit' hs' => ?_
    exact hQ _ h' s.toks hx ⟨hit', x.2.at fun o e => (hs'.2 a hne).trans e⟩ fun b o hb eo => hs'.extBut b o (fun z => hb (by simp [z])) eo
  done := fun s Q E x hQ => next_end hh x.1 x.2 hf rfl (he x.2) fun h' he' => hQ h' s.toks fun b o hb eo => he' b o (fun z => hb (by simp [z])) eo
  self := fun _ _ _ _ x hQ => iter_it x.1 hQ
theorem walksD {I T a : Addr} {ep : Nat} {es : Array (Int × Value)} {t : SetTable} {ps : List Nat} {ord : List Value} (hh : A.handled = none) (hne : a ≠ I) (hT : T ≠ I) (hf : t.fits es.size = true)
    (ho : ord.length = ps.length) (hs : ∀ i (h : i < ps.length) (h2 : i < ord.length), ∃ k, es[ps[i]]? = some (k, ord[i])) :
    Walks prog w A I [I, a, T] [I] ord.length (fun i v => ord[i]? = some v) (fun i h => IsIt h I (.ref T) i a es.size ep ∧ SAt h a es ep t ∧ h.IsTuple T (ps.map fun (i : Nat) => rawInt i).toArray) where
  sub := fun b hb => by simp at hb; simp [hb]
  frame := fun _ _ _ x hk => ⟨x.1.at fun o e => hk I (by simp) o e, x.2.1.at fun o e => hk a (by simp) o e, x.2.2.at fun o e => hk T (by simp) o e⟩
  item := fun i s Q E hi x hQ => by
    have hx : ord[i]? = some ord[i] := List.getElem?_eq_getElem hi
    have hi2 : i < ps.length := by omega
    obtain ⟨k, hk⟩ := hs i hi2 hi
    refine next_itemD (pl := ps[i]) (tk := 0) x.1 x.2.1 hf rfl x.2.2 (by simp [hi2, rawInt]) hk fun h' hit' hs' => ?_
    exact hQ _ h' s.toks hx ⟨hit', x.2.1.at fun o e => (hs'.2 a hne).trans e, x.2.2.at fun o e => (hs'.2 T hT).trans e⟩ fun b o hb eo => hs'.extBut b o (fun z => hb (by simp [z])) eo
  done := fun s Q E x hQ => next_endD hh x.1 x.2.1 hf rfl x.2.2 (by simp [ho]) fun h' he' => hQ h' s.toks fun b o hb eo => he' b o (fun z => hb (by simp [z])) eo
  self := fun _ _ _ _ x hQ => iter_it x.1 hQ
theorem by_text {Q : Bool → Shared → Prop} (h : Q (w.params.followText "set-order") s) : wpAny (model prog w) A setsByText Q E s := by
  unfold setsByText
  exact wpAny_bind (wpAny_askSetting (wpAny_pure h))
theorem nextA {a : Addr} {ep i : Nat} {es : Array (Int × Value)} {t : SetTable} {Q : Option (Value × Nat) → Shared → Prop} (hb : w.params.followText "set-order" = true) (hS : SAt s.heap a es ep t) (hf : t.fits es.size = true)
    (h : Q (((pickOrder (w.params.setOrder a ep) es)[i]?).map fun e => (e.2, 0)) s) : wpAny (model prog w) A (setNext a 0 i ep) Q E s := by
  obtain ⟨o, ho, hc, hd⟩ := hS
  unfold setNext
  refine wpAny_bind (wpAny_setState_of ho hd hf ?_)
  dsimp only
  refine wpAny_bind (by_text ?_)
  rw [if_pos hb]
  rw [if_neg (by simp)]
  refine wpAny_bind ?_
  unfold setWalk
  refine wpAny_bind (wpAny_setState_of ho hd hf ?_)
  dsimp only
  refine wpAny_bind (by_text ?_)
  rw [if_pos hb]
  refine wpAny_bind (wpAny_askSetting (wpAny_pure ?_))
  exact wpAny_pure h
theorem pull {α : Type} (es : Array α) (ps : List Nat) (h : ps.Perm (List.range es.size)) : ∃ l : List α, l.length = ps.length ∧ l.Perm es.toList ∧ ∀ i (h : i < ps.length) (h2 : i < l.length), es[ps[i]]? = some l[i] := by
  have all : ∀ p ∈ ps, p < es.size := fun p hp => List.mem_range.mp (h.mem_iff.mp hp)
  have key : ∀ qs : List Nat, (∀ p ∈ qs, p < es.size) → ∃ l : List α, l.length = qs.length ∧ l = qs.filterMap (fun i => es[i]?) ∧ ∀ i (h : i < qs.length) (h2 : i < l.length), es[qs[i]]? = some l[i] := by
    intro qs
    induction qs with
    | nil => exact fun _ => ⟨[], rfl, rfl, fun i h => by simp at h⟩
    | cons q r ih =>
      intro a1
      obtain ⟨l, e1, e2, e3⟩ := ih fun p hp => a1 p (List.mem_cons_of_mem _ hp)
      have hq := a1 q List.mem_cons_self
      refine ⟨es[q] :: l, by simp [e1], by rw [List.filterMap_cons, Array.getElem?_eq_getElem hq, e2], fun i h h2 => ?_⟩
      cases i with
      | zero => simp [hq]
      | succ i => exact e3 i (by simpa using h) (by simpa using h2)
  obtain ⟨l, e1, e2, e3⟩ := key ps all
  refine ⟨l, e1, ?_, e3⟩
  rw [e2, ← filterMap_getElem?_range es]
  exact h.filterMap _
end
end M5
set_option Elab.async false
set_option linter.all false
set_option maxRecDepth 100000
set_option maxHeartbeats 4000000
namespace M5
open PySem PySem.Spec PyProof.Rows
section
variable {prog : Program} {w : World} {A : Around} {E : Value → Shared → Prop} {s : Shared}
end
end M5
set_option Elab.async false
set_option linter.all false
set_option maxRecDepth 100000
set_option maxHeartbeats 4000000
namespace M5
open PySem PySem.Spec PyProof.Rows
namespace F
end F
section
variable {prog : Program} {w : World} {A : Around} {E : Value → Shared → Prop} {s : Shared}
end
end M5
set_option Elab.async false
set_option linter.all false
set_option maxRecDepth 100000
set_option maxHeartbeats 4000000
namespace L2
open PySem PySem.Spec PyProof.Rows
theorem Inv.drw {X : Cx} {pins : List (Addr × Obj)} {σ : List (Option V)} {H : Hp} {s : Shared} (I : Inv X pins σ H s) (d : Drawn) : Inv X pins σ H { s with drawn := d } :=
  ⟨I.ok, I.os, I.bare, I.base, I.loc, I.cell, I.free, I.freeC, I.pin, I.hok, I.len⟩
section
variable {X : Cx} {e : Expr} {ta : TE} {p p2 pos pos2 : Pos}
end
end L2
set_option Elab.async false
set_option linter.all false
set_option maxRecDepth 100000
set_option maxHeartbeats 4000000
namespace M
open PySem PySem.Spec PyProof.Rows L2
section
variable {K : PySem.W.Frag}
noncomputable def dGet (ks : List Key) (ds : List D) (k : Key) : Option D := ((ks.zip ds).find? fun p => decide (p.1 = k)).map (·.2)
noncomputable def dPut (ks : List Key) (ds : List D) (k : Key) (d : D) : MO := if (ks.any fun j => decide (j = k)) = true then .dct ks ((ks.zip ds).map fun p => if p.1 = k then d else p.2) else .dct (ks ++ [k]) (ds ++ [d])
theorem get_rep {w : Wd} {k : Key} {d : D} : ∀ {kvs : List (Key × V)} {ds : List D}, Reps K w ds (kvs.map (·.2)) → dGet (kvs.map (·.1)) ds k = some d → ∃ v, valV kvs k = some v ∧ Rep K w d v
  | [], ds, h, e => by simp [dGet] at e
  | (j, u) :: r, ds, h, e => by
    cases ds with
    | nil => simp [dGet] at e
    | cons x ds =>
      simp only [List.map_cons, Reps] at h
      obtain ⟨x', r', e', h1, h2⟩ := h
      injection e' with e1 e2
      subst e1; subst e2
      unfold dGet at e
      unfold valV
      by_cases hj : j = k
      · rw [List.map_cons, List.zip_cons_cons, List.find?_cons_of_pos (by simpa using hj)] at e
        rw [List.find?_cons_of_pos (by simpa using hj)]
        cases e
        exact ⟨u, rfl, h1⟩
      · rw [List.map_cons, List.zip_cons_cons, List.find?_cons_of_neg (by simpa using hj)] at e
        rw [List.find?_cons_of_neg (by simpa using hj)]
        exact get_rep (kvs := r) h2 e
theorem repl_rep {w : Wd} {k : Key} {d : D} {v : V} (g : Rep K w d v) : ∀ {kvs : List (Key × V)} {ds : List D}, Reps K w ds (kvs.map (·.2)) →
    Reps K w (((kvs.map (·.1)).zip ds).map fun p => if p.1 = k then d else p.2) ((kvs.map fun kv => if kv.1 = k then (kv.1, v) else kv).map (·.2))
  | [], ds, h => by
    cases ds with
    | nil => exact .nil
    | cons x ds => simp only [List.map_nil, Reps] at h; obtain ⟨_, _, z, _⟩ := h; cases z
  | (j, u) :: r, ds, h => by
    cases ds with
    | nil => simp only [List.map_cons, Reps] at h; cases h
    | cons x ds =>
      simp only [List.map_cons, Reps] at h
      obtain ⟨x', r', e', h1, h2⟩ := h
      injection e' with e1 e2
      subst e1; subst e2
      simp only [List.map_cons, List.zip_cons_cons]
      refine .cons ?_ (repl_rep g h2)
      by_cases hj : j = k
      · rw [if_pos hj, if_pos hj]; exact g
      · rw [if_neg hj, if_neg hj]; exact h1
theorem put_repO {w : Wd} {k : Key} {d : D} {v : V} {kvs : List (Key × V)} {ds : List D} (g : Rep K w d v) (h : Reps K w ds (kvs.map (·.2))) : RepO K w (dPut (kvs.map (·.1)) ds k d) (.dK (putK kvs k v)) := by
  unfold dPut putK
  have e : ((kvs.map (·.1)).any fun j => decide (j = k)) = (kvs.any fun kv => decide (kv.1 = k)) := by
    rw [List.any_map]; rfl
  rw [e]
  by_cases hc : (kvs.any fun kv => decide (kv.1 = k)) = true
  · rw [if_pos hc, if_pos hc]
    refine ⟨_, rfl, ?_, repl_rep g h⟩
    rw [List.map_map]
    refine List.map_congr_left fun kv _ => ?_
    show (if kv.1 = k then (kv.1, v) else kv).1 = kv.1
    split <;> rfl
  · rw [if_neg hc, if_neg hc]
    refine ⟨_, rfl, by simp, ?_⟩
    rw [List.map_append]
    exact h.snoc g
theorem dct_at {w : Wd} {H : Hp} {S : Sto} {p : Nat} {v : V} {ks : List Key} {ds : List D} (ok : Ok K w H S) (h : Rep K w (.loc p) v) (e : S[p]? = some (some (.dct ks ds))) :
    ∃ a kvs, v = .ref a ∧ w.r p = some a ∧ H a = some (.dK kvs) ∧ kvs.map (·.1) = ks ∧ Reps K w ds (kvs.map (·.2)) := by
  simp only [Rep] at h
  obtain ⟨a, h1, rfl⟩ := h
  obtain ⟨a', u, g1, g2, g3, kvs, rfl, g5, g6⟩ := ok.live p _ e
  rw [h1] at g1; cases g1
  exact ⟨a, kvs, rfl, h1, g3, g5, g6⟩
end
section
variable {X : Cx} {e o i value : Expr} {p p2 pos pos2 pos' pc pu : Pos}
end
end M
set_option Elab.async false
set_option linter.all false
set_option maxRecDepth 100000
set_option maxHeartbeats 4000000
namespace M
open PySem PySem.Spec PyProof.Rows L2
section
variable {K : PySem.W.Frag}
theorem frz1 {w : Wd} {H : Hp} {S : Sto} {m : Nat} {ds : List D} (k : Ok K w H S) (e : S[m]? = some (some (.lst ds))) : ∃ w', w.le w' ∧ Ok K w' H (S.set m none) ∧ ∀ v, Rep K w (.loc m) v → Rep K w' (.lst ds) v := by
  obtain ⟨a, u, h1, h2, h3, xs, rfl, h4⟩ := k.live m _ e
  have le : w.le ⟨upd w.B a (.lst xs), w.r⟩ := ⟨al h2, fun _ _ e => e⟩
  have at_ : ∀ n o, (S.set m none)[n]? = some (some o) → n ≠ m ∧ S[n]? = some (some o) := fun n o z => by
    by_cases hm : m = n
    · subst hm
      rw [List.getElem?_set] at z
      simp at z
    · rw [List.getElem?_set_ne hm] at z
      exact ⟨fun y => hm y.symm, z⟩
  refine ⟨⟨upd w.B a (.lst xs), w.r⟩, le, ⟨fun b o z => ?_, fun n o z => ?_, fun n j o o' z1 z2 z => ?_, fun n hn => k.top n (by rw [List.length_set] at hn; exact hn)⟩, fun v hv => ?_⟩
  · by_cases hb : b = a
    · subst hb
      have z : upd w.B b (.lst xs) b = some o := z
      rw [upd_same] at z
      rw [h3]; exact z
    · have z : upd w.B a (.lst xs) b = some o := z
      rw [upd_ne hb] at z
      exact k.base b o z
  · obtain ⟨hn, z⟩ := at_ n o z
    obtain ⟨a', u', g1, g2, g3, g4⟩ := k.live n o z
    have hne : a' ≠ a := fun y => hn (k.inj n m _ _ z e (by rw [g1, h1, y]))
    exact ⟨a', u', g1, by show upd w.B a _ a' = none; rw [upd_ne hne]; exact g2, g3, g4.le le⟩
  · exact k.inj n j o o' (at_ n o z1).2 (at_ j o' z2).2 z
  · simp only [Rep] at hv ⊢
    obtain ⟨a', g1, rfl⟩ := hv
    rw [h1] at g1; cases g1
    exact ⟨a, xs, rfl, upd_same, h4.le le⟩
noncomputable def sb (m : Nat) (e : D) : D → D
  | .loc n => if n = m then e else .loc n
  | d => d
theorem sb_rep {w w' : Wd} {m : Nat} {ds : List D} (le : w.le w') (f : ∀ v, Rep K w (.loc m) v → Rep K w' (.lst ds) v) : ∀ {es : List D} {xs : List V}, Reps K w es xs → Reps K w' (es.map (sb m (.lst ds))) xs
  | [], xs, h => by simp only [Reps] at h; subst h; exact .nil
  | d :: es, xs, h => by
    simp only [Reps] at h
    obtain ⟨x, r, rfl, h1, h2⟩ := h
    refine .cons ?_ (sb_rep le f h2)
    cases d with
    | loc n =>
      show Rep K w' (if n = m then _ else _) x
      by_cases hn : n = m
      · rw [if_pos hn]; subst hn; exact f x h1
      · rw [if_neg hn]; exact h1.le le
    | _ => exact h1.le le
end
section
variable {X : Cx} {e : Expr} {pos : Pos}
end
end M
set_option Elab.async false
set_option linter.all false
set_option maxRecDepth 100000
set_option maxHeartbeats 4000000
namespace M6
open PySem PySem.Spec PyProof.Rows
mutual
noncomputable def okK : PyData → Bool
  | .int _ => true
  | .str x => (PyData.str x).canLay0
  | .tuple xs => okKs xs
  | _ => false
noncomputable def okKs : List PyData → Bool
  | [] => true
  | x :: xs => okK x && okKs xs
end
mutual
noncomputable def hashK (w : World) : PyData → Int
  | .int i => hashInt i
  | .str x => hashStr w x
  | .tuple xs => reduceHash (Builtin.Tuple.tupleHashOf (hashKs w xs))
  | _ => 0
noncomputable def hashKs (w : World) : List PyData → List Int
  | [] => []
  | x :: xs => hashK w x :: hashKs w xs
end
mutual
noncomputable def drK : PyData → Nat
  | .int _ => 1
  | .str _ => 1
  | .tuple xs => drKs xs + 1
  | _ => 0
noncomputable def drKs : List PyData → Nat
  | [] => 0
  | x :: xs => drK x + drKs xs
end
theorem hashKs_append (w : World) : ∀ a b, hashKs w (a ++ b) = hashKs w a ++ hashKs w b
  | [], b => rfl
  | x :: a, b => by simp only [List.cons_append, hashKs, hashKs_append w a b]
theorem drKs_append : ∀ a b, drKs (a ++ b) = drKs a + drKs b
  | [], b => by simp [drKs]
  | x :: a, b => by simp only [List.cons_append, drKs, drKs_append a b]; omega
theorem okKs_mem : ∀ {xs : List PyData}, okKs xs = true → ∀ x ∈ xs, okK x = true
  | [], _, x, hx => by simp at hx
  | y :: xs, h, x, hx => by
    simp only [okKs, Bool.and_eq_true] at h
    rcases List.mem_cons.mp hx with rfl | hx
    · exact h.1
    · exact okKs_mem h.2 x hx
theorem depth_mem : ∀ {xs : List PyData} {x : PyData}, x ∈ xs → x.depth ≤ PyData.depthAll xs
  | y :: xs, x, hx => by
    simp only [PyData.depthAll]
    rcases List.mem_cons.mp hx with rfl | hx
    · omega
    · have := depth_mem hx; omega
theorem depth_tuple (xs : List PyData) : (PyData.tuple xs).depth = PyData.depthAll xs + 1 := by
  simp only [PyData.depth]
section
variable {prog : Program} {w : World}
theorem typeIs_of {s : Shared} {a : Addr} {o : Obj} (ho : s.heap.get? a = some o) (hc : o.cls = Value.type "tuple") : s.TypeIs (.ref a) "tuple" := ⟨o, ho, hc⟩
theorem pyHash_data : ∀ (n : Nat) (d : PyData) {v : Value} {as : List Addr} {A : Around} {E : Value → Shared → Prop} {s : Shared} {Q : Int → Shared → Prop}, d.depth ≤ n → okK d = true → Reads s.heap v d as → A.units + n < cLine →
    Q (hashK w d) { s with toks := s.toks + drK d } → wpAny (model prog w) A (pyHash v) Q E s := by
  intro n
  induction n with
  | zero =>
    intro d v as A E s Q hd hk hr hu h
    cases hr with
    | int i t => exact wpAny_pyHash_int h
    | str x t => exact wpAny_pyHash_str h
    | tuple ho hc hd' hall => rw [depth_tuple] at hd; omega
    | none => simp [okK] at hk
    | bool b => simp [okK] at hk
    | list _ _ _ _ => simp [okK] at hk
    | dict _ _ _ _ _ => simp [okK] at hk
  | succ n ih =>
    intro d v as A E s Q hd hk hr hu h
    cases hr with
    | int i t => exact wpAny_pyHash_int h
    | str x t => exact wpAny_pyHash_str h
    | none => simp [okK] at hk
    | bool b => simp [okK] at hk
    | list _ _ _ _ => simp [okK] at hk
    | dict _ _ _ _ _ => simp [okK] at hk
    | @tuple a o vs m xs as ho hc hdat hall =>
      have hT := typeIs_of ho hc
      have hk : okKs xs = true := hk
      rw [depth_tuple] at hd
      show wpAny (model prog w) A (pyHashByItsType (.ref a)) Q E s
      refine W.pyHash_slot (T := "tuple") hT F.slot_tuple_hash F.entry_tuple_hash (F.args_tuple_hash_1 (.ref a)) (by decide) (.inr (by omega)) ?_
      show wpAny (model prog w) A.in1 (do
        let __do_lift ← Builtin.Tuple.tupleItemsOf (.ref a)
        let __s ← forIn __do_lift (#[] : Array Int) fun x __s => do
              let __do_lift ← pyHash x
              pure (ForInStep.yield (__s.push __do_lift))
        retInt (Builtin.Tuple.tupleHashOf __s.toList)) _ E s
      refine wpAny_bind (wpAny_tupleItemsOf ho hdat (wpAny_bind ?_))
      rw [← Array.forIn_toList]
      refine wpAny_forIn_list _ (fun rest b s' => ∃ don left as', xs = don ++ left ∧ ReadsAll s.heap rest left as' ∧ b.toList = hashKs w don ∧ s' = { s with toks := s.toks + drKs don }) _ ?_ ?_ vs.toList #[] ⟨[], xs, _, rfl, hall, rfl, rfl⟩
      · rintro x rest b s' ⟨don, left, as', rfl, hl, hb, rfl⟩
        cases hl with
        | @cons _ _ d' ds as1 bs hx hrest =>
          have hm : d' ∈ don ++ d' :: ds := by simp
          refine wpAny_bind (ih d' (as := as1) (s := { s with toks := s.toks + drKs don }) (by have := depth_mem hm; omega) (okKs_mem hk d' hm) hx (by show A.units + 1 + n < cLine; omega) ?_)
          refine wpAny_pure ⟨don ++ [d'], ds, bs, by simp, hrest, ?_, ?_⟩
          · rw [Array.toList_push, hb, hashKs_append]; rfl
          · rw [drKs_append]; simp only [drKs, Nat.add_zero, Nat.add_assoc]
      · rintro b s' ⟨don, left, as', rfl, hl, hb, rfl⟩
        cases hl
        rw [List.append_nil] at h
        rw [hb]
        refine wpAny_mono (wpAny_ret_mkInt (Q := fun v s' => ∃ n t, v = Value.int n t ∧ Q (reduceHash n) s') ⟨_, _, rfl, ?_⟩) (fun fin s' => ?_) (fun _ _ z => z)
        · have h : Q (reduceHash (Builtin.Tuple.tupleHashOf (hashKs w don))) { s with toks := s.toks + (drKs don + 1) } := h
          exact h
        · rintro ⟨v, rfl, n, t, rfl, q⟩
          exact ⟨n, t, rfl, q⟩
theorem quiet_data : ∀ (n : Nat) (d : PyData) {v : Value} {as : List Addr} {A : Around} {E : Value → Shared → Prop} {s : Shared} {Q : Bool → Shared → Prop}, d.depth ≤ n → okK d = true → Reads s.heap v d as → Q true s → wpAny (model prog w) A (eqIsQuiet n v) Q E s := by
  intro n
  induction n with
  | zero =>
    intro d v as A E s Q hd hk hr h
    cases hr with
    | int i t => rw [eqIsQuiet_byValue 0 rfl]; exact wpAny_pure h
    | str x t => rw [eqIsQuiet_byValue 0 rfl]; exact wpAny_pure h
    | tuple ho hc hd' hall => rw [depth_tuple] at hd; omega
    | none => simp [okK] at hk
    | bool b => simp [okK] at hk
    | list _ _ _ _ => simp [okK] at hk
    | dict _ _ _ _ _ => simp [okK] at hk
  | succ n ih =>
    intro d v as A E s Q hd hk hr h
    cases hr with
    | int i t => rw [eqIsQuiet_byValue _ rfl]; exact wpAny_pure h
    | str x t => rw [eqIsQuiet_byValue _ rfl]; exact wpAny_pure h
    | none => simp [okK] at hk
    | bool b => simp [okK] at hk
    | list _ _ _ _ => simp [okK] at hk
    | dict _ _ _ _ _ => simp [okK] at hk
    | @tuple a o vs m xs as ho hc hdat hall =>
      have hT := typeIs_of ho hc
      have hk : okKs xs = true := hk
      rw [depth_tuple] at hd
      rw [eqIsQuiet.eq_def]
      refine wpAny_bind (wpAny_specialOf hT F.slot_tuple_eq.lookup ?_)
      refine wpAny_bind (wpAny_isInstance hT isSubtype_tuple_tuple ?_)
      rw [if_neg (by decide)]
      refine wpAny_bind (wpAny_seqItems ho hdat (wpAny_bind ?_))
      show wpAny (model prog w) A (forIn vs _ _) _ E s
      rw [← Array.forIn_toList]
      refine wpAny_forIn_list _ (fun rest r s' => r.1 = none ∧ s' = s ∧ ∃ left as', ReadsAll s.heap rest left as' ∧ ∀ x ∈ left, x ∈ xs) _ ?_ ?_ vs.toList (none, ()) ⟨rfl, rfl, xs, _, hall, fun _ hx => hx⟩
      · rintro y rest ⟨r1, r2⟩ s' ⟨hr, rfl, left, as', hl, hsub⟩
        cases hl with
        | @cons _ _ d' ds as1 bs hx hrest =>
          have hm : d' ∈ xs := hsub d' (by simp)
          refine wpAny_bind (ih d' (as := as1) (by have := depth_mem hm; omega) (okKs_mem hk d' hm) hx ?_)
          exact wpAny_pure ⟨rfl, rfl, ds, bs, hrest, fun x hx => hsub x (List.mem_cons_of_mem _ hx)⟩
      · rintro ⟨r1, r2⟩ s' ⟨hr, rfl, _⟩
        have hr : r1 = none := hr
        subst hr
        exact wpAny_pure h
end
noncomputable instance : DecidableEq PyData := fun _ _ => Classical.propDecidable _
mutual
theorem eqv_dec : ∀ x y : PyData, okK x = true → okK y = true → PyData.eqv x y = decide (x = y)
  | .int i, .int j, _, _ => by
    simp only [PyData.eqv]
    by_cases h : i = j
    · subst h; simp
    · have : ¬ PyData.int i = .int j := fun e => h (by injection e)
      rw [decide_eq_false this]; simpa using h
  | .str i, .str j, _, _ => by
    simp only [PyData.eqv]
    by_cases h : i = j
    · subst h; simp
    · have : ¬ PyData.str i = .str j := fun e => h (by injection e)
      rw [decide_eq_false this]; simpa using h
  | .tuple xs, .tuple ys, hx, hy => by
    simp only [PyData.eqv]
    rw [eqvs_dec xs ys hx hy]
    by_cases h : xs = ys
    · subst h; simp
    · have : ¬ PyData.tuple xs = .tuple ys := fun e => h (by injection e)
      rw [decide_eq_false this, decide_eq_false h]
  | .int i, .str j, _, _ => by rw [decide_eq_false (fun e => nomatch e)]; rfl
  | .int i, .tuple j, _, _ => by rw [decide_eq_false (fun e => nomatch e)]; rfl
  | .str i, .int j, _, _ => by rw [decide_eq_false (fun e => nomatch e)]; rfl
  | .str i, .tuple j, _, _ => by rw [decide_eq_false (fun e => nomatch e)]; rfl
  | .tuple i, .int j, _, _ => by rw [decide_eq_false (fun e => nomatch e)]; rfl
  | .tuple i, .str j, _, _ => by rw [decide_eq_false (fun e => nomatch e)]; rfl
  | .none, _, h, _ => by simp [okK] at h
  | .bool _, _, h, _ => by simp [okK] at h
  | .list _, _, h, _ => by simp [okK] at h
  | .dict _, _, h, _ => by simp [okK] at h
  | _, .none, _, h => by simp [okK] at h
  | _, .bool _, _, h => by simp [okK] at h
  | _, .list _, _, h => by simp [okK] at h
  | _, .dict _, _, h => by simp [okK] at h
theorem eqvs_dec : ∀ x y : List PyData, okKs x = true → okKs y = true → PyData.eqvAll x y = decide (x = y)
  | [], [], _, _ => by simp [PyData.eqvAll]
  | [], y :: ys, _, _ => by simp [PyData.eqvAll]
  | x :: xs, [], _, _ => by simp [PyData.eqvAll]
  | x :: xs, y :: ys, hx, hy => by
    simp only [okKs, Bool.and_eq_true] at hx hy
    simp only [PyData.eqvAll]
    rw [eqv_dec x y hx.1 hy.1, eqvs_dec xs ys hx.2 hy.2]
    by_cases h : x = y <;> by_cases g : xs = ys <;> simp [h, g]
end
mutual
theorem lay_ok : ∀ x : PyData, okK x = true → x.canLay0 = true
  | .int i, _ => rfl
  | .str i, h => h
  | .tuple xs, h => by simp only [PyData.canLay0]; exact lays_ok xs h
  | .none, h => by simp [okK] at h
  | .bool _, h => by simp [okK] at h
  | .list _, h => by simp [okK] at h
  | .dict _, h => by simp [okK] at h
theorem lays_ok : ∀ x : List PyData, okKs x = true → PyData.canLayAll0 x = true
  | [], _ => rfl
  | x :: xs, h => by
    simp only [okKs, Bool.and_eq_true] at h
    simp only [PyData.canLayAll0, lay_ok x h.1, lays_ok xs h.2, Bool.and_self]
end
noncomputable def isKey (h : Heap) (d : PyData) (a : Addr) : Prop := okK d = true ∧ d.depth ≤ 6 ∧ ∃ as, Reads h (.ref a) d as
mutual
theorem reads_but {h h' : Heap} {b : Addr} {ob : Obj} {es : Array DictEntry} {ep : Nat} (hb : h.get? b = some ob) (hd : ob.data = Data.dict es ep) (sm : Heap.SameBut b h h') : ∀ (d : PyData) {v : Value} {as : List Addr}, okK d = true → Reads h v d as → Reads h' v d as
  | .int i, v, as, hk, hr => by cases hr; exact .int ..
  | .str i, v, as, hk, hr => by cases hr; exact .str ..
  | .tuple xs, v, as, hk, hr => by
    cases hr with
    | @tuple a o vs m _ _ ho hc hdat hall =>
      have hne : a ≠ b := fun e => by
        subst e
        rw [hb] at ho; cases ho
        rw [hd] at hdat; cases hdat
      exact .tuple (by rw [sm.2 a hne]; exact ho) hc hdat (readss_but hb hd sm xs hk hall)
  | .none, _, _, h, _ => by simp [okK] at h
  | .bool _, _, _, h, _ => by simp [okK] at h
  | .list _, _, _, h, _ => by simp [okK] at h
  | .dict _, _, _, h, _ => by simp [okK] at h
theorem readss_but {h h' : Heap} {b : Addr} {ob : Obj} {es : Array DictEntry} {ep : Nat} (hb : h.get? b = some ob) (hd : ob.data = Data.dict es ep) (sm : Heap.SameBut b h h') : ∀ (ds : List PyData) {vs : List Value} {as : List Addr}, okKs ds = true → ReadsAll h vs ds as → ReadsAll h' vs ds as
  | [], vs, as, hk, hr => by cases hr; exact .nil
  | d :: ds, vs, as, hk, hr => by
    simp only [okKs, Bool.and_eq_true] at hk
    cases hr with
    | cons hx hr => exact .cons (reads_but hb hd sm d hk.1 hx) (readss_but hb hd sm ds hk.2 hr)
end
noncomputable def dataKind (prog : Program) (w : World) : HeapKind prog w PyData where
  is := isKey
  hash := hashK w
  draws := drK
  room := fun A => A.units + 10 < cLine
  inj := fun ⟨_, _, as, hx⟩ ⟨_, _, bs, hy⟩ => (Reads.unique hx _ _ hy).1
  keeps := fun ⟨h1, h2, as, hr⟩ hb hd sm => ⟨h1, h2, as, reads_but hb hd sm _ h1 hr⟩
  pyHash := fun hu ⟨h1, h2, as, hr⟩ h => pyHash_data 6 _ h2 h1 hr (by omega) h
  eqBool := fun {A E s x y a b Q} hu ⟨h1, h2, as, hr⟩ ⟨g1, g2, bs, gr⟩ h => SeqAt.eqBoolOverData prog w A E s _ _ _ _ _ _ Q hr gr (lay_ok _ h1) (lay_ok _ g1) (by omega) (by
    rw [eqv_dec _ _ h1 g1]
    exact h)
  quiet := fun ⟨h1, h2, as, hr⟩ h => quiet_data 8 _ (by omega) h1 hr h
end M6
set_option Elab.async false
set_option linter.all false
set_option maxRecDepth 100000
set_option maxHeartbeats 4000000
namespace M6
open PySem PySem.Spec PyProof.Rows
noncomputable def RawD (h : Heap) (d : Addr) (es : Array DictEntry) (ep : Nat) : Prop := ∃ o, h.get? d = some o ∧ o.ExactDict ∧ o.data = Data.dict es ep
theorem RawD.at {h h' : Heap} {d : Addr} {es : Array DictEntry} {ep : Nat} (x : RawD h d es ep) (e : ∀ o, h.get? d = some o → h'.get? d = some o) : RawD h' d es ep := let ⟨o, ho, r⟩ := x; ⟨o, e o ho, r⟩
section
variable {prog : Program} {w : World} {A : Around} {E : Value → Shared → Prop} {s : Shared}
theorem RawD.typeIs {d : Addr} {es : Array DictEntry} {ep : Nat} (x : RawD s.heap d es ep) : s.TypeIs (.ref d) "dict" := let ⟨o, ho, hc, _⟩ := x; ⟨o, ho, hc.1⟩
theorem nextK {it d : Addr} {i ep : Nat} {es : Array DictEntry} {e : DictEntry} {Q : Option Value → Shared → Prop} (hit : s.heap.IsKeyIter it d i es.size ep) (hD : RawD s.heap d es ep) (hx : es[i]? = some e)
    (hQ : ∀ h', h'.IsKeyIter it d (i + 1) es.size ep → Heap.SameBut it s.heap h' → Q (some e.key) { s with heap := h' }) : wpAny (model prog w) A (pyNext (.ref it)) Q E s := by
  obtain ⟨o, ho, hc, hd⟩ := id hit
  obtain ⟨od, hod, hcd, hdd⟩ := id hD
  have hT := Heap.IsKeyIter.typeIs hit
  unfold pyNext
  refine wpAny_bind (wpAny_attempt (wpAny_callSpecial?_slot (name := Str.ofString "__next__") hT F.slot_dict_keyiterator_next
    (wpAny_call_entry F.slot_dict_keyiterator_next hT F.entry_dict_keyiterator_next ?_ (F.args_dict_keyiterator_next_1 _))))
  unfold Builtin.«dict_keyiterator.__next__»
  refine wpAny_bind (wpAny_pure ?_)
  refine wpAny_bind ?_
  refine wpAny_bind ?_
  refine wpAny_bind (wpAny_typeNameOfWhole_keyiter hT (wpAny_pure ?_))
  have hown : Builtin.Dict_items.ownsTuple "dict_keyiterator" = false := by decide +kernel
  refine wpAny_bind (wpAny_fieldsOf ho hd ?_)
  simp only [hown, Bool.false_eq_true, if_false, List.drop_zero]
  show wpAny (model prog w) A.in1 (if (Value.ref d == Value.none) = true then _ else _) _ _ s
  rw [if_neg (by exact Bool.false_ne_true)]
  refine wpAny_bind (wpAny_pure ?_)
  refine wpAny_bind (wpAny_dictEntries hod hdd ?_)
  rw [if_neg (by simp)]
  refine wpAny_bind (wpAny_pure ?_)
  refine wpAny_bind (wpAny_dictEpoch hod hdd ?_)
  rw [if_neg (by simp)]
  refine wpAny_pure ?_
  dsimp only
  rw [if_neg (by omega), show ((i : Int)).toNat = i from Int.toNat_natCast i, hx]
  dsimp only
  refine wpAny_bind (?_)
  refine wpAny_bind (wpAny_typeNameOfWhole_keyiter hT (wpAny_pure ?_))
  simp only [hown, Bool.false_eq_true, if_false]
  refine wpAny_bind (wpAny_isOneOf_keyiter hT ?_)
  refine wpAny_bind (wpAny_setField ho hd (by simp) ?_)
  have e1 : ∀ b : Bool, b = false → (if b = true then (i : Int) - 1 else (i : Int) + 1) = ((i + 1 : Nat) : Int) := fun b hb => by subst hb; simp
  rw [e1 _ (by decide +kernel)]
  refine wpAny_bind (wpAny_holding ?_)
  have ho2 := Heap.get?_update_self (Obj.mapFields (·.setIfInBounds (0 + 1) (rawInt ((i + 1 : Nat) : Int)))) ho (Obj.isFreed_of_fields (Obj.data_mapFields hd _))
  have hc2 := (Obj.cls_mapFields o (·.setIfInBounds (0 + 1) (rawInt ((i + 1 : Nat) : Int)))).trans hc
  refine wpAny_bind (wpAny_isOneOf_keyiter ⟨_, ho2, hc2⟩ ?_)
  rw [if_pos (by decide +kernel)]
  refine wpAny_pure (wpAny_pure ⟨e.key, rfl, wpAny_pure (hQ _ ?_ (Heap.SameBut.update ..))⟩)
  exact ⟨_, ho2, hc2, by rw [Obj.data_mapFields hd]; simp [rawInt]⟩
theorem endK {it d : Addr} {ep : Nat} {es : Array DictEntry} {Q : Option Value → Shared → Prop} (hh : A.handled = none) (hit : s.heap.IsKeyIter it d es.size es.size ep) (hD : RawD s.heap d es ep)
    (hQ : ∀ h', Heap.ExtBut it s.heap h' → Q none { s with heap := h' }) : wpAny (model prog w) A (pyNext (.ref it)) Q E s := by
  obtain ⟨o, ho, hc, hd⟩ := id hit
  obtain ⟨od, hod, hcd, hdd⟩ := id hD
  have hT := Heap.IsKeyIter.typeIs hit
  unfold pyNext
  refine wpAny_bind (wpAny_attempt (wpAny_callSpecial?_slot (name := Str.ofString "__next__") hT F.slot_dict_keyiterator_next
    (wpAny_call_entry F.slot_dict_keyiterator_next hT F.entry_dict_keyiterator_next ?_ (F.args_dict_keyiterator_next_1 _))))
  unfold Builtin.«dict_keyiterator.__next__»
  refine wpAny_bind (wpAny_pure ?_)
  refine wpAny_bind ?_
  refine wpAny_bind ?_
  refine wpAny_bind (wpAny_typeNameOfWhole_keyiter hT (wpAny_pure ?_))
  have hown : Builtin.Dict_items.ownsTuple "dict_keyiterator" = false := by decide +kernel
  refine wpAny_bind (wpAny_fieldsOf ho hd ?_)
  simp only [hown, Bool.false_eq_true, if_false, List.drop_zero]
  show wpAny (model prog w) A.in1 (if (Value.ref d == Value.none) = true then _ else _) _ _ s
  rw [if_neg (by exact Bool.false_ne_true)]
  refine wpAny_bind (wpAny_pure ?_)
  refine wpAny_bind (wpAny_dictEntries hod hdd ?_)
  rw [if_neg (by simp)]
  refine wpAny_bind (wpAny_pure ?_)
  refine wpAny_bind (wpAny_dictEpoch hod hdd ?_)
  rw [if_neg (by simp)]
  refine wpAny_pure ?_
  dsimp only
  rw [if_neg (by omega), show ((es.size : Int)).toNat = es.size from Int.toNat_natCast _, Array.getElem?_eq_none (Nat.le_refl _)]
  dsimp only
  refine wpAny_bind ?_
  refine wpAny_bind (wpAny_typeNameOfWhole_keyiter hT (wpAny_pure ?_))
  simp only [hown, Bool.false_eq_true, if_false]
  refine wpAny_bind (wpAny_setField ho hd (by simp) ?_)
  refine wpAny_bind ?_
  simp only [newExc, newTuple]
  refine wpAny_bind (wpAny_newObj_type ?_ (by size_fits))
  refine wpAny_bind (m := firstArgMember _ _) (wpAny_of_eq (a := Value.none) (by first | rfl | (simp only [firstArgMember]; rfl)) ?_)
  refine wpAny_newObj_type ?_ (by size_fits)
  simp only [raiseNew]
  refine wpAny_bind (wpAny_handled ?_)
  first | rw [show A.in1.handled = none from hh] | rw [hh]
  refine wpAny_bind (wpAny_pure (wpAny_throw ?_))
  refine wpAny_bind (wpAny_isInstance (T := "StopIteration") (b := true) ⟨_, Heap.get?_push_size _ rfl, rfl⟩ isSubtype_stop ?_)
  refine wpAny_pure (hQ _ (Heap.ExtBut.push (Heap.ExtBut.push ?_ _) _))
  exact fun b ob hb e => (Heap.get?_update_other _ _ (Ne.symm hb)).trans e
theorem iterK {d : Addr} {ep : Nat} {es : Array DictEntry} {Q : Value → Shared → Prop} (hd : (d == sysModules) = false) (hD : RawD s.heap d es ep)
    (hQ : Q (.ref s.heap.objs.size) { s with heap := s.heap.push { cls := .type "dict_keyiterator", data := .fields #[.ref d, .int 0 0, .int es.size 0, .int ep 0] } }) : wpAny (model prog w) A (pyIter (.ref d)) Q E s := by
  obtain ⟨od, hod, hcd, hdd⟩ := id hD
  have hT := hD.typeIs
  refine wpAny_pyIter_slot hT F.slot_dict_iter (wpAny_call_entry F.slot_dict_iter hT F.entry_dict_iter ?_ (F.args_dict_iter_1 _))
  unfold Builtin.«dict.__iter__»
  refine wpAny_bind (wpAny_bind (wpAny_notOrdered_dict hT (wpAny_pure ?_)))
  refine wpAny_bind (wpAny_pure ?_)
  unfold Builtin.Dict.showsAll
  rw [if_neg (by rw [hd]; exact Bool.false_ne_true)]
  refine wpAny_bind (wpAny_pure ?_)
  refine wpAny_bind (wpAny_dictEntries hod hdd ?_)
  refine wpAny_bind (wpAny_dictEpoch hod hdd ?_)
  refine wpAny_bind (wpAny_newObj_type ?_ (by size_fits))
  exact wpAny_pure ⟨_, rfl, "dict_keyiterator", _, ⟨_, Heap.get?_push_size _ rfl, rfl⟩, F.slot_dict_keyiterator_next.lookup, hQ⟩
theorem walksK (hh : A.handled = none) (I d : Addr) (hne : d ≠ I) (es : Array DictEntry) (ep : Nat) :
    Walks prog w A I [I, d] [I] es.size (fun i v => ∃ e, es[i]? = some e ∧ v = e.key) (fun i h => h.IsKeyIter I d i es.size ep ∧ RawD h d es ep) where
  sub := fun b hb => by simp only [List.mem_singleton] at hb; simp [hb]
  frame := fun i h h' st hk => ⟨Heap.IsKeyIter.at st.1 fun o e => hk I (by simp) o e, st.2.at fun o e => hk d (by simp) o e⟩
  item := fun i s Q E hi st hQ => by
    have hx : es[i]? = some es[i] := Array.getElem?_eq_getElem hi
    refine nextK st.1 st.2 hx fun h' hit' hs' => hQ es[i].key h' s.toks ⟨es[i], hx, rfl⟩ ⟨hit', st.2.at fun o e => by rw [hs'.2 d hne]; exact e⟩ fun b o hb e => ?_
    rw [hs'.2 b (fun z => hb (by simp [z]))]; exact e
  done := fun s Q E st hQ => endK hh st.1 st.2 fun h' he => hQ h' s.toks fun b o hb e => he b o (fun z => hb (by simp [z])) e
  self := fun i s Q E st hQ => wpAny_pyIter_keyiter st.1 hQ
theorem srcK {d : Addr} {es : Array DictEntry} {ep : Nat} (lo : (d == sysModules) = false) : W.KdlSrc prog w "dict" d d es.size (fun i v => ∃ e, es[i]? = some e ∧ v = e.key) (fun h => RawD h d es ep) where
  type := fun s hm => hm.typeIs
  there := fun h hm => by obtain ⟨o, ho, _⟩ := hm; exact ⟨Heap.lt_size ho, Heap.lt_size ho⟩
  keep := fun h h' hm hk => hm.at fun o e => hk d (.inl rfl) o e
  notList := by decide
  notTuple := by decide
  hint := fun A E s Q hm hq => W.kdl_hint_dict hm.typeIs hq
  iter := fun A s hh hm => by
    have hlt : d < s.heap.objs.size := by obtain ⟨o, ho, _⟩ := hm; exact Heap.lt_size ho
    exact ⟨_, _, fun E Q hq => iterK lo hm hq, walksK hh s.heap.objs.size d (Nat.ne_of_lt hlt) es ep, ⟨_, Heap.get?_push_size _ rfl, rfl, rfl⟩, hm.at fun o e => Heap.get?_push_of_some _ e⟩
theorem collectK {d : Addr} {es : Array DictEntry} {ep : Nat} {R : List Value → Shared → Prop} (lo : (d == sysModules) = false) (hh : A.handled = none) (hD : RawD s.heap d es ep) (hl : es.size ≤ sizeLine)
    (h : ∀ (h' : Heap) (tk : Nat), (∀ b o, s.heap.get? b = some o → h'.get? b = some o) → R (es.toList.map (·.key)) { s with heap := h', toks := tk }) : wpAny (model prog w) A (collect (.ref d)) R E s := by
  refine W.kdu_collect (srcK lo) hh hD hl fun h' tk acc kp hacc => ?_
  have : acc.toList = es.toList.map (·.key) := by
    refine List.ext_getElem? fun i => ?_
    rw [Array.getElem?_toList, List.getElem?_map, Array.getElem?_toList]
    cases z : acc[i]? with
    | some v =>
      obtain ⟨e, he, rfl⟩ := hacc.2 i v z
      rw [he]; rfl
    | none =>
      have : es.size ≤ i := by rw [← hacc.1]; exact Array.getElem?_eq_none_iff.mp z
      rw [Array.getElem?_eq_none this]; rfl
  rw [this]
  exact h h' tk kp
end
end M6
set_option Elab.async false
set_option linter.all false
set_option maxRecDepth 100000
set_option maxHeartbeats 4000000
namespace M6
open PySem PySem.Spec PyProof.Rows
mutual
noncomputable def ltK : PyData → PyData → Bool
  | .int i, .int j => decide (i < j)
  | .str i, .str j => decide (i.cps.toList < j.cps.toList)
  | .tuple xs, .tuple ys => ltKs xs ys
  | _, _ => false
noncomputable def ltKs : List PyData → List PyData → Bool
  | [], [] => false
  | [], _ :: _ => true
  | _ :: _, [] => false
  | x :: xs, y :: ys => if x = y then ltKs xs ys else ltK x y
end
mutual
noncomputable def cmpK : PyData → PyData → Bool
  | .int _, .int _ => true
  | .str _, .str _ => true
  | .tuple xs, .tuple ys => cmpKs xs ys
  | _, _ => false
noncomputable def cmpKs : List PyData → List PyData → Bool
  | x :: xs, y :: ys => cmpK x y && cmpKs xs ys
  | _, _ => true
end
theorem reads_len {h : Heap} : ∀ {ds : List PyData} {vs : List Value} {as : List Addr}, ReadsAll h vs ds as → vs.length = ds.length
  | [], _, _, h => by cases h; rfl
  | _ :: _, _, _, h => by cases h with | cons _ r => simp [reads_len r]
section
variable {prog : Program} {w : World}
theorem lt_data : ∀ (n : Nat) (x y : PyData) {u v : Value} {as bs : List Addr} {A : Around} {E : Value → Shared → Prop} {s : Shared} {Q : Value → Shared → Prop}, x.depth ≤ n → y.depth ≤ n → okK x = true → okK y = true → cmpK x y = true → Reads s.heap u x as → Reads s.heap v y bs → A.units + n < cLine →
    Q (.bool (ltK x y)) s → wpAny (model prog w) A (compareOp .Lt u v) Q E s := by
  intro n
  induction n with
  | zero =>
    intro x y u v as bs A E s Q hx hy kx ky hc hr gr hu h
    cases hr with
    | int i t =>
      cases gr with
      | int j t' => exact wpAny_lt_int h
      | _ => simp [cmpK] at hc
    | str i t =>
      cases gr with
      | str j t' => exact lt_str h
      | _ => simp [cmpK] at hc
    | tuple ho hc hd' hall => rw [depth_tuple] at hx; omega
    | none => simp [okK] at kx
    | bool b => simp [okK] at kx
    | list _ _ _ _ => simp [okK] at kx
    | dict _ _ _ _ _ => simp [okK] at kx
  | succ n ih =>
    intro x y u v as bs A E s Q hx hy kx ky hc hr gr hu h
    cases hr with
    | int i t =>
      cases gr with
      | int j t' => exact wpAny_lt_int h
      | _ => simp [cmpK] at hc
    | str i t =>
      cases gr with
      | str j t' => exact lt_str h
      | _ => simp [cmpK] at hc
    | none => simp [okK] at kx
    | bool b => simp [okK] at kx
    | list _ _ _ _ => simp [okK] at kx
    | dict _ _ _ _ _ => simp [okK] at kx
    | @tuple a o us m xs as ho hcl hdat hall =>
      cases gr with
      | @tuple b o2 vs m2 ys bs ho2 hcl2 hdat2 hall2 =>
        have hT := typeIs_of ho hcl
        have hT2 := typeIs_of ho2 hcl2
        rw [depth_tuple] at hx hy
        have kx : okKs xs = true := kx
        have ky : okKs ys = true := ky
        have hc : cmpKs xs ys = true := hc
        show wpAny (model prog w) A (richCompare .Lt (.ref a) (.ref b)) Q E s
        refine wpAny_richCompare_same_room hT hT2 F.slot_tuple_lt ?_ (by omega)
        refine wpAny_call_entry F.slot_tuple_lt hT F.entry_tuple_lt ?_ (F.args_tuple_lt_2 _ _)
        unfold Builtin.«tuple.__lt__»
        refine wpAny_bind (wpAny_pure ?_)
        refine wpAny_bind (wpAny_isInstance hT2 isSubtype_tuple_tuple ?_)
        rw [if_neg (by decide)]
        refine wpAny_bind (wpAny_tupleItemsOf ho hdat (wpAny_bind (wpAny_tupleItemsOf ho2 hdat2 (wpAny_bind ?_))))
        refine wpAny_forIn_list _ (fun rest r s' => r.1 = none ∧ s' = s ∧ ∃ lx ly lu lv as' bs', rest = lu.zip lv ∧ ReadsAll s.heap lu lx as' ∧ ReadsAll s.heap lv ly bs' ∧ ltKs xs ys = ltKs lx ly ∧ (∀ z ∈ lx, z ∈ xs) ∧ (∀ z ∈ ly, z ∈ ys) ∧ cmpKs lx ly = true ∧ us.size + ly.length = vs.size + lx.length) _ ?_ ?_ (us.toList.zip vs.toList) (none, ())
          ⟨rfl, rfl, xs, ys, us.toList, vs.toList, _, _, rfl, hall, hall2, rfl, fun _ z => z, fun _ z => z, hc, by
            have h1 := reads_len hall
            have h2 := reads_len hall2
            rw [Array.length_toList] at h1 h2
            omega⟩
        · rintro ⟨p, q⟩ rest ⟨r1, r2⟩ s' ⟨hr, rfl, lx, ly, lu, lv, as', bs', hz, h1, h2, hl, m1, m2, hcc, hsz⟩
          cases h1 with
          | nil => simp at hz
          | @cons _ _ d1 ds1 a1 b1 g1 t1 =>
            cases h2 with
            | nil => simp at hz
            | @cons _ _ d2 ds2 a2 b2 g2 t2 =>
              rw [List.zip_cons_cons] at hz
              injection hz with e1 e2
              injection e1 with e3 e4
              subst e3; subst e4; subst e2
              have n1 := m1 d1 (by simp)
              have n2 := m2 d2 (by simp)
              have k1 := okKs_mem kx d1 n1
              have k2 := okKs_mem ky d2 n2
              have dd1 := depth_mem n1
              have dd2 := depth_mem n2
              simp only [cmpKs, Bool.and_eq_true] at hcc
              dsimp only
              refine wpAny_bind (SeqAt.eqBoolOverData prog w _ _ _ _ _ _ _ _ _ _ g1 g2 (lay_ok _ k1) (lay_ok _ k2) (by show A.units + 1 + _ < cLine; omega) ?_)
              rw [eqv_dec _ _ k1 k2]
              by_cases he : d1 = d2
              · rw [decide_eq_true he]
                refine wpAny_pure ⟨rfl, rfl, ds1, ds2, _, _, _, _, rfl, t1, t2, ?_, fun z hz => m1 z (List.mem_cons_of_mem _ hz), fun z hz => m2 z (List.mem_cons_of_mem _ hz), hcc.2, by simp only [List.length_cons] at hsz; omega⟩
                rw [hl]
                simp only [ltKs]
                rw [if_pos he]
              · rw [decide_eq_false he]
                have hl2 : ltKs xs ys = ltK d1 d2 := by
                  rw [hl]
                  simp only [ltKs]
                  rw [if_neg he]
                refine wpAny_bind (wpAny_rule ?_)
                refine wpAny_bind (ih d1 d2 (u := p) (v := q) (A := A.in1) (by omega) (by omega) k1 k2 hcc.1 g1 g2 (by show A.units + 1 + n < cLine; omega) ?_)
                refine wpAny_bind (wpAny_pure (wpAny_pure ?_))
                refine wpAny_pure ⟨_, rfl, (fun z => by cases z), ?_⟩
                rw [← hl2]; exact h
        · rintro ⟨r1, r2⟩ s' ⟨hr, rfl, lx, ly, lu, lv, as', bs', hz, h1, h2, hl, m1, m2, hcc, hsz⟩
          have hr : r1 = none := hr
          subst hr
          refine wpAny_pure ⟨_, rfl, (fun z => by cases z), ?_⟩
          have hfin : decide (us.size < vs.size) = ltKs xs ys := by
            rw [hl]
            cases h1 with
            | nil =>
              cases ly with
              | nil => simp only [ltKs, List.length_nil] at hsz ⊢; exact decide_eq_false (by omega)
              | cons _ _ => simp only [ltKs, List.length_cons, List.length_nil] at hsz ⊢; exact decide_eq_true (by omega)
            | cons g1 t1 =>
              cases h2 with
              | nil => simp only [ltKs, List.length_cons, List.length_nil] at hsz ⊢; exact decide_eq_false (by omega)
              | cons g2 t2 => simp at hz
          show Q (.bool (decide (us.size < vs.size))) s'
          rw [hfin]; exact h
      | _ => simp [cmpK] at hc
theorem one_int {A : Around} {E : Value → Shared → Prop} {s : Shared} {i j : Int} {t u : Tok} {Q : Bool → Shared → Prop} (h : Q (decide (i < j)) s) : wpAny (model prog w) A (PyProof.Rows.oneLt' true (.int i t) (.int j u)) Q E s := W.kat_lt_int h
theorem one_data {A : Around} {E : Value → Shared → Prop} {s : Shared} {x y : PyData} {u v : Value} {as bs : List Addr} {Q : Bool → Shared → Prop} (n : Nat) (hx : x.depth ≤ n) (hy : y.depth ≤ n) (kx : okK x = true) (ky : okK y = true) (hc : cmpK x y = true) (hr : Reads s.heap u x as) (gr : Reads s.heap v y bs) (hu : A.units + n < cLine)
    (h : Q (ltK x y) s) : wpAny (model prog w) A (PyProof.Rows.oneLt' false u v) Q E s := W.kat_one u v (lt_data n x y hx hy kx ky hc hr gr hu h)
theorem lex_data {A : Around} {Q : Bool → Shared → Prop} {s : Shared} {m1 m2 : Nat} : ∀ (lx ly : List PyData) {lu lv : List Value} {as bs : List Addr} (i : Nat), (∀ z ∈ lx, z.depth ≤ 6) → (∀ z ∈ ly, z.depth ≤ 6) → okKs lx = true → okKs ly = true → cmpKs lx ly = true → ReadsAll s.heap lu lx as → ReadsAll s.heap lv ly bs → A.units + 6 < cLine →
    (i = 0 → ∃ p q lx' ly', lx = .int p :: lx' ∧ ly = .int q :: ly') → m1 + ly.length = m2 + lx.length → Q (ltKs lx ly) s → W.KatLex prog w A true (decide (m1 < m2)) Q (lu.zip lv) i s
  | [], ly, lu, lv, as, bs, i, d1, d2, k1, k2, hc, h1, h2, hu, h0, hm, h => by
    cases h1
    show Q (decide (m1 < m2)) s
    cases ly with
    | nil => simp only [ltKs, List.length_nil] at hm h; rw [decide_eq_false (by omega)]; exact h
    | cons _ _ => simp only [ltKs, List.length_nil, List.length_cons] at hm h; rw [decide_eq_true (by omega)]; exact h
  | x :: lx, [], lu, lv, as, bs, i, d1, d2, k1, k2, hc, h1, h2, hu, h0, hm, h => by
    cases h2
    rw [List.zip_nil_right]
    show Q (decide (m1 < m2)) s
    simp only [ltKs, List.length_nil, List.length_cons] at hm h
    rw [decide_eq_false (by omega)]; exact h
  | x :: lx, y :: ly, lu, lv, as, bs, i, d1, d2, k1, k2, hc, h1, h2, hu, h0, hm, h => by
    simp only [okKs, Bool.and_eq_true] at k1 k2
    simp only [cmpKs, Bool.and_eq_true] at hc
    have dx := d1 x (by simp)
    have dy := d2 y (by simp)
    cases h1 with
    | @cons u us _ _ a1 b1 g1 t1 =>
      cases h2 with
      | @cons v vs _ _ a2 b2 g2 t2 =>
        rw [List.zip_cons_cons, W.KatLex.eq_2]
        refine SeqAt.eqBoolOverData prog w _ _ _ _ _ _ _ _ _ _ g1 g2 (lay_ok _ k1.1) (lay_ok _ k2.1) (by omega) ?_
        rw [eqv_dec _ _ k1.1 k2.1]
        simp only [ltKs] at h
        by_cases he : x = y
        · rw [decide_eq_true he, if_pos rfl]
          rw [if_pos he] at h
          exact lex_data lx ly (i + 1) (fun z hz => d1 z (List.mem_cons_of_mem _ hz)) (fun z hz => d2 z (List.mem_cons_of_mem _ hz)) k1.2 k2.2 hc.2 t1 t2 hu (fun z => by omega) (by simp only [List.length_cons] at hm; omega) h
        · rw [decide_eq_false he, if_neg (by decide)]
          rw [if_neg he] at h
          by_cases hi : i = 0
          · obtain ⟨p, q, lx', ly', e1, e2⟩ := h0 hi
            injection e1 with e1 _
            injection e2 with e2 _
            subst e1; subst e2; subst hi
            cases g1
            cases g2
            exact one_int h
          · have : (true && i == 0) = false := by simp [hi]
            rw [this]
            exact one_data 6 dx dy k1.1 k2.1 hc.1 g1 g2 hu h
noncomputable def Alls {β : Type} (P : β → Prop) (n : Nat) : W.KasT β → Prop
  | .ret a => P a
  | .ask i j k => i < n ∧ j < n ∧ ∀ b, Alls P n (k b)
theorem Alls.bind {β γ : Type} {P : β → Prop} {R : γ → Prop} {n : Nat} {f : β → W.KasT γ} : ∀ {t : W.KasT β}, Alls P n t → (∀ a, P a → Alls R n (f a)) → Alls R n (t.bind f)
  | .ret a, h, g => g a h
  | .ask i j k, ⟨h1, h2, h3⟩, g => ⟨h1, h2, fun b => Alls.bind (h3 b) g⟩
theorem getD_lt {n : Nat} {p : Array Nat} (hn : 0 < n) (hp : p.Perm (List.range n).toArray) (x : Nat) : p.getD x 0 < n := by
  rw [Srt.getD_of]
  cases z : p[x]? with
  | none => exact hn
  | some y =>
    have hm : y ∈ p := Array.mem_of_getElem? z
    have := (hp.mem_iff).mp hm
    simpa using this
section
variable {n : Nat}
theorem asc_all (hn : 0 < n) {p : Array Nat} (hp : p.Perm (List.range n).toArray) : ∀ (f x : Nat), Alls (fun _ => True) n (W.kas_asc p f x)
  | 0, x => trivial
  | f + 1, x => ⟨getD_lt hn hp _, getD_lt hn hp _, fun b => by
    show Alls _ n (if b = true then _ else _)
    cases b
    · exact asc_all hn hp f (x + 1)
    · exact trivial⟩
theorem desc_all (hn : 0 < n) : ∀ (f : Nat) {p : Array Nat} (x q : Nat), p.Perm (List.range n).toArray → Alls (fun r : Array Nat × Nat × Nat => r.1.Perm (List.range n).toArray) n (W.kas_desc f p x q)
  | 0, p, x, q, hp => hp
  | f + 1, p, x, q, hp => ⟨getD_lt hn hp _, getD_lt hn hp _, fun b => by
    show Alls _ n (if b = true then (if q > 0 then _ else _) else _)
    cases b
    · refine ⟨getD_lt hn hp _, getD_lt hn hp _, fun c => ?_⟩
      show Alls _ n (if c = true then _ else _)
      cases c
      · exact desc_all hn f (x + 1) (q + 1) hp
      · exact hp
    · rw [if_pos rfl]
      by_cases hq : q > 0
      · rw [if_pos hq]; exact desc_all hn f (x + 1) 0 (Srt.rev_perm.trans hp)
      · rw [if_neg hq]; exact desc_all hn f (x + 1) 0 hp⟩
theorem tail_all (hn : 0 < n) {p : Array Nat} (hp : p.Perm (List.range n).toArray) (x m : Nat) : Alls (fun r : Nat × Array Nat => r.2.Perm (List.range n).toArray) n (W.kas_tail3 x m p) :=
  Alls.bind (asc_all hn (Srt.rev_perm.trans hp) _ _) fun a _ => Srt.rev_perm.trans hp
theorem descPart_all (hn : 0 < n) {p : Array Nat} (hp : p.Perm (List.range n).toArray) (x m : Nat) : Alls (fun r : Nat × Array Nat => r.2.Perm (List.range n).toArray) n (W.kas_descPart x m p) :=
  Alls.bind (desc_all hn _ _ _ hp) fun r hr => by
    by_cases h : r.2.2 > 0
    · rw [if_pos h]; exact tail_all hn (Srt.rev_perm.trans hr) _ _
    · rw [if_neg h]; exact tail_all hn hr _ _
theorem count_all (hn : 0 < n) {p : Array Nat} (hp : p.Perm (List.range n).toArray) (m : Nat) : Alls (fun r : Nat × Array Nat => r.2.Perm (List.range n).toArray) n (W.kas_count m p) :=
  Alls.bind (asc_all hn hp _ _) fun x _ => by
    by_cases h : (x == m) = true
    · rw [if_pos h]; exact hp
    · rw [if_neg h]
      by_cases h2 : x > 1
      · rw [if_pos h2]
        refine ⟨getD_lt hn hp _, getD_lt hn hp _, fun b => ?_⟩
        show Alls _ n (if b = true then _ else _)
        cases b
        · exact descPart_all hn (Srt.rev_perm.trans hp) _ _
        · exact hp
      · rw [if_neg h2]; exact descPart_all hn hp _ _
theorem place_all (hn : 0 < n) {p : Array Nat} (hp : p.Perm (List.range n).toArray) (k : Nat) : ∀ (f l r : Nat), Alls (fun _ => True) n (W.kas_place p k f l r)
  | 0, l, r => trivial
  | f + 1, l, r => by
    rw [W.kas_place.eq_2]
    by_cases h : l ≥ r
    · rw [if_pos h]; exact trivial
    · rw [if_neg h]
      refine ⟨getD_lt hn hp _, getD_lt hn hp _, fun b => ?_⟩
      show Alls _ n (if b = true then _ else _)
      cases b
      · exact place_all hn hp k f _ _
      · exact place_all hn hp k f _ _
theorem bin_all (hn : 0 < n) : ∀ (f : Nat) {p : Array Nat} (j : Nat), p.Perm (List.range n).toArray → Alls (fun r : Array Nat => r.Perm (List.range n).toArray) n (W.kas_bin f p j)
  | 0, p, j, hp => hp
  | f + 1, p, j, hp => by
    rw [W.kas_bin.eq_2]
    exact Alls.bind (place_all hn hp _ _ _ _) fun l _ => bin_all hn f (j + 1) ((bubble_perm _ _ _).trans hp)
theorem sort_all (hn : 0 < n) : Alls (fun r : Array Nat => r.Perm (List.range n).toArray) n (W.kas_sort n) :=
  Alls.bind (count_all hn (Array.Perm.refl _) _) fun r hr => by
    by_cases h : r.1 < n
    · rw [if_pos h]; exact bin_all hn _ _ hr
    · rw [if_neg h]; exact hr
end
theorem wp_all {β : Type} {n : Nat} {P : β → Prop} {cmp : Nat → Nat → (Bool → Shared → Prop) → Shared → Prop} {Q : β → Shared → Prop} {s : Shared} (hc : ∀ i j C, i < n → j < n → (∀ b, C b s) → cmp i j C s) (hq : ∀ a, P a → Q a s) : ∀ {t : W.KasT β}, Alls P n t → W.KasT.kasWp cmp t Q s
  | .ret a, h => hq a h
  | .ask i j k, ⟨h1, h2, h3⟩ => hc i j _ h1 h2 fun b => wp_all hc hq (h3 b)
end
end M6
set_option Elab.async false
set_option linter.all false
set_option maxRecDepth 100000
set_option maxHeartbeats 4000000
namespace M6
open PySem PySem.Spec PyProof.Rows
section
variable {prog : Program} {w : World} {A : Around} {E : Value → Shared → Prop} {s : Shared}
noncomputable def midHeap (h : Heap) (a : Addr) (vs : List Value) : Heap := ((h.update a (Obj.mapSeq fun _ => #[])).push (seqObj "tuple" vs.toArray 0)).push (seqObj "list" #[] 0)
theorem list_sortN {a : Addr} {vs : List Value} {n : Nat} {P : PySem.Fin → Shared → Prop} (ho : s.heap.get? a = some (seqObj "list" vs.toArray n)) (h64 : vs.length < 64)
    (hk : 2 ≤ vs.length → ∃ κ, (∀ (Q : SortKind → Shared → Prop), Q κ { s with heap := midHeap s.heap a vs } → wpAny (model prog w) A (keyKind' vs.toArray) Q (fun _ _ => False) { s with heap := midHeap s.heap a vs }) ∧
      ∀ i j C, i < vs.length → j < vs.length → (∀ b, C b { s with heap := midHeap s.heap a vs }) → W.kas_ask prog w A κ vs i j C { s with heap := midHeap s.heap a vs })
    (h : ∀ out : List Value, out.Perm vs → P (.done (.ret .none)) { s with heap := sortedHeap s.heap a vs out.toArray }) :
    wpAny (model prog w) A (Builtin.«list.sort» ⟨[.ref a], []⟩) P E s := by
  obtain ⟨e1, ho1⟩ : ∃ e1, (s.heap.update a (Obj.mapSeq fun _ => #[])).get? a = some (seqObj "list" #[] e1) := ⟨_, get?_update_seq ho fun _ => #[]⟩
  have ho2 : (midHeap s.heap a vs).get? a = some (seqObj "list" #[] e1) := Heap.get?_push_of_some _ (Heap.get?_push_of_some _ ho1)
  have hz : vs.toArray.size ≤ sizeLine := by rw [List.size_toArray, sizeLine_eq]; omega
  rw [list_sort_plain a]
  refine wpAny_bind (listItems_at ho rfl (wpAny_bind (listUpdate_at ho rfl ?_ hz (Nat.zero_le _))))
  refine wpAny_bind (seqEpoch_at ho1 rfl (wpAny_bind (wpAny_newTuple ?_ (by simpa using hz))))
  refine wpAny_bind (wpAny_newList (wpAny_holding ?_) (Nat.zero_le _))
  show wpAny (model prog w) A (if vs.toArray.size < 2 then _ else _) P E { s with heap := midHeap s.heap a vs }
  by_cases h2 : vs.length < 2
  · rw [if_pos (by rw [List.size_toArray]; exact h2)]
    refine wpAny_bind (wpAny_pure ?_)
    dsimp only
    rw [if_pos (by rw [List.size_toArray]; exact h2)]
    refine wpAny_bind (wpAny_pure ?_)
    have e2 : ((vs.toArray.zip vs.toArray).map (·.2)) = vs.toArray := by
      rw [List.zip_toArray, List.map_toArray, List.map_snd_zip (Nat.le_refl _)]
    refine wpAny_bind (seqEpoch_at ho2 rfl (wpAny_bind (listUpdate_at ho2 rfl ?_ (Nat.zero_le _) ?_)))
    · show wpAny (model prog w) A (if (e1 != e1) = true then _ else _) P E _
      rw [if_neg (by simp)]
      refine wpAny_pure ?_
      have := h vs (List.Perm.refl _)
      rw [← e2] at this
      exact this
    · show ((vs.toArray.zip vs.toArray).map (·.2)).size ≤ _
      rw [e2, List.size_toArray, sizeLine_eq]; omega
  · rw [if_neg (by rw [List.size_toArray]; exact h2)]
    obtain ⟨κ, k1, k2⟩ := hk (by omega)
    refine wpAny_bind (wpAny_mono (k1 (fun κ' s' => κ' = κ ∧ s' = { s with heap := midHeap s.heap a vs }) ⟨rfl, rfl⟩) (fun κ' s' z => ?_) (fun _ _ z => z.elim))
    obtain ⟨rfl, rfl⟩ := z
    dsimp only
    rw [if_neg (by rw [List.size_toArray]; exact h2)]
    refine wpAny_bind (wpAny_mono (W.kat_run (Q := fun st s' => ∃ out : List Value, (arrOf st).map (·.2) = out.toArray ∧ failedOf st = none ∧ out.Perm vs ∧ s' = { s with heap := midHeap s.heap a vs }) (G := fun p s' => p.Perm (List.range vs.length).toArray ∧ s' = { s with heap := midHeap s.heap a vs }) rfl (by omega) h64 ?_ (wp_all k2 ?_ (sort_all (by omega)))) ?_ (fun _ _ z => z))
    · rintro p st' s' hp1 hp2 hp3 ⟨hp4, rfl⟩
      refine ⟨p.toList.map fun i => vs.getD i Value.none, ?_, hp3, ?_, rfl⟩
      · exact W.kat_snds rfl hp2
      · have e1 : ((List.range vs.length).map fun i => vs.getD i Value.none) = vs := by
          refine List.ext_getElem (by simp) fun i h1 h2 => ?_
          simp [List.getD, List.getElem?_eq_getElem h2]
        have e2 : p.toList.Perm (List.range vs.length) := by simpa using Array.perm_iff_toList_perm.mp hp4
        have := e2.map fun i => vs.getD i Value.none
        rw [e1] at this
        exact this
    · exact fun p hp => ⟨hp, rfl⟩
    · rintro ⟨⟨⟩, st⟩ s' ⟨out, o1, o2, o3, rfl⟩
      dsimp only
      refine wpAny_bind (seqEpoch_at ho2 rfl (wpAny_bind (listUpdate_at ho2 rfl ?_ (Nat.zero_le _) ?_)))
      · rw [o2]
        dsimp only
        rw [if_neg (by simp)]
        refine wpAny_pure ?_
        have := h out o3
        rw [← o1] at this
        exact this
      · rw [o1]
        have := o3.length_eq
        rw [List.size_toArray, sizeLine_eq]; omega
mutual
theorem reads_off {h h' : Heap} {b : Addr} {ob : Obj} (hb : h.get? b = some ob) (hd : ob.cls ≠ .type "tuple") (kp : ∀ c o, c ≠ b → h.get? c = some o → h'.get? c = some o) : ∀ (d : PyData) {v : Value} {as : List Addr}, okK d = true → Reads h v d as → Reads h' v d as
  | .int i, v, as, hk, hr => by cases hr; exact .int ..
  | .str i, v, as, hk, hr => by cases hr; exact .str ..
  | .tuple xs, v, as, hk, hr => by
    cases hr with
    | @tuple a o vs m _ _ ho hc hdat hall =>
      have hne : a ≠ b := fun e => by
        subst e
        rw [hb] at ho; cases ho
        exact hd hc
      exact .tuple (kp a o hne ho) hc hdat (readss_off hb hd kp xs hk hall)
  | .none, _, _, h, _ => by simp [okK] at h
  | .bool _, _, _, h, _ => by simp [okK] at h
  | .list _, _, _, h, _ => by simp [okK] at h
  | .dict _, _, _, h, _ => by simp [okK] at h
theorem readss_off {h h' : Heap} {b : Addr} {ob : Obj} (hb : h.get? b = some ob) (hd : ob.cls ≠ .type "tuple") (kp : ∀ c o, c ≠ b → h.get? c = some o → h'.get? c = some o) : ∀ (ds : List PyData) {vs : List Value} {as : List Addr}, okKs ds = true → ReadsAll h vs ds as → ReadsAll h' vs ds as
  | [], vs, as, hk, hr => by cases hr; exact .nil
  | d :: ds, vs, as, hk, hr => by
    simp only [okKs, Bool.and_eq_true] at hk
    cases hr with
    | cons hx hr => exact .cons (reads_off hb hd kp d hk.1 hx) (readss_off hb hd kp ds hk.2 hr)
end
theorem perm_inv {α β : Type} {f : α → β} : ∀ {ks : List α} {out : List β}, out.Perm (ks.map f) → ∃ o' : List α, o'.Perm ks ∧ out = o'.map f
  | [], out, h => ⟨[], .refl _, by simpa using h⟩
  | k :: ks, out, h => by
    have hm : f k ∈ out := h.mem_iff.mpr (by simp)
    obtain ⟨l1, l2, rfl⟩ := List.append_of_mem hm
    have h2 : (l1 ++ l2).Perm (ks.map f) := by
      have := List.perm_middle.symm.trans h
      rw [List.map_cons] at this
      exact this.cons_inv
    obtain ⟨o', p1, p2⟩ := perm_inv h2
    obtain ⟨o1, o2, e1, e2, e3⟩ := List.map_eq_append_iff.mp p2.symm
    subst e1
    refine ⟨o1 ++ k :: o2, List.perm_middle.trans (p1.cons k), ?_⟩
    rw [List.map_append, List.map_cons, e2, e3]
noncomputable def IntKey (h : Heap) (k : PyData × Addr) : Prop := isKey h k.1 k.2 ∧ ∃ p r, k.1 = .tuple (.int p :: r)
theorem kinds_ok {h : Heap} : ∀ {ks : List (PyData × Addr)}, (∀ k ∈ ks, IntKey h k) → ∃ fs, W.KatTups h (ks.map fun k => .ref k.2) fs ∧ fs.length = ks.length ∧ ∀ f ∈ fs, ∃ i t, f = Value.int i t
  | [], _ => ⟨[], .nil, rfl, by simp⟩
  | (d, a) :: ks, hk => by
    obtain ⟨fs, h1, h2, h3⟩ := kinds_ok fun k hk' => hk k (List.mem_cons_of_mem _ hk')
    obtain ⟨⟨k1, k2, as, hr⟩, p, r, e⟩ := hk (d, a) (by simp)
    have e : d = .tuple (.int p :: r) := e
    subst e
    cases hr with
    | @tuple _ o vs m _ _ ho hc hdat hall =>
      generalize hvs : vs.toList = l at hall
      cases hall with
      | @cons v l' _ _ a1 b1 g1 t1 =>
        cases g1 with
        | int _ t =>
          refine ⟨.int p t :: fs, .cons ho hc hdat ?_ h1, by simp [h2], fun f hf => ?_⟩
          · rw [← Array.getElem?_toList, hvs]; rfl
          · rcases List.mem_cons.mp hf with rfl | hf
            · exact ⟨p, t, rfl⟩
            · exact h3 f hf
theorem asks_ok {ks : List (PyData × Addr)} (hk : ∀ k ∈ ks, IntKey s.heap k) (hc : ∀ k ∈ ks, ∀ l ∈ ks, cmpK k.1 l.1 = true) (hu : A.units + 6 < cLine) (i j : Nat) (C : Bool → Shared → Prop) (hi : i < ks.length) (hj : j < ks.length) (h : ∀ b, C b s) :
    W.kas_ask prog w A (tuples' true) (ks.map fun k => .ref k.2) i j C s := by
  have hx := hk ks[i] (List.getElem_mem hi)
  have hy := hk ks[j] (List.getElem_mem hj)
  have hxy := hc ks[i] (List.getElem_mem hi) ks[j] (List.getElem_mem hj)
  have e : ∀ n (hn : n < ks.length), (ks.map fun k => Value.ref k.2).getD n Value.none = .ref ks[n].2 := fun n hn => by simp [List.getD, hn]
  unfold W.kas_ask
  rw [e i hi, e j hj]
  generalize ks[i] = x at hx hxy
  generalize ks[j] = y at hy hxy
  obtain ⟨⟨k1, k2, as, hr⟩, p, r, e1⟩ := hx
  obtain ⟨⟨l1, l2, bs, gr⟩, q, t, e2⟩ := hy
  obtain ⟨dx, ax⟩ := x
  obtain ⟨dy, ay⟩ := y
  have e1 : dx = .tuple (.int p :: r) := e1
  have e2 : dy = .tuple (.int q :: t) := e2
  subst e1; subst e2
  have k2 : (PyData.tuple (.int p :: r)).depth ≤ 6 := k2
  have l2 : (PyData.tuple (.int q :: t)).depth ≤ 6 := l2
  rw [depth_tuple] at k2 l2
  cases hr with
  | @tuple _ o us m _ _ ho hcl hdat hall =>
    cases gr with
    | @tuple _ o2 vs m2 _ _ ho2 hcl2 hdat2 hall2 =>
      have n1 := reads_len hall
      have n2 := reads_len hall2
      rw [Array.length_toList] at n1 n2
      exact W.kat_lt ho hdat ho2 hdat2 (lex_data _ _ 0 (fun z hz => by have := depth_mem hz; omega) (fun z hz => by have := depth_mem hz; omega) k1 l1 hxy hall hall2 hu (fun _ => ⟨p, q, r, t, rfl, rfl⟩) (by omega) (h _))
theorem mid_other {h : Heap} {a : Addr} {vs : List Value} {b : Addr} {o : Obj} (hb : b ≠ a) (e : h.get? b = some o) : (midHeap h a vs).get? b = some o :=
  Heap.get?_push_of_some _ (Heap.get?_push_of_some _ ((Heap.get?_update_other _ _ (Ne.symm hb)).trans e))
theorem sorted_data {d : Addr} {es : Array DictEntry} {ep : Nat} {ks : List (PyData × Addr)} {Q : Value → Shared → Prop} (hh : A.handled = none) (lo : (d == sysModules) = false) (hD : RawD s.heap d es ep) (hes : es.toList.map (·.key) = ks.map fun k => .ref k.2) (hk : ∀ k ∈ ks, IntKey s.heap k) (hc : ∀ k ∈ ks, ∀ l ∈ ks, cmpK k.1 l.1 = true) (h64 : ks.length < 64) (hu : A.units + 20 < cLine)
    (h : ∀ (h1 h2 : Heap) (tk : Nat) (out : List (PyData × Addr)) (c : Nat), (∀ b o, s.heap.get? b = some o → h1.get? b = some o) → (∀ b o, h1.get? b = some o → h2.get? b = some o) → h2.get? h1.objs.size = some (seqObj "list" (out.map fun k => Value.ref k.2).toArray c) → out.Perm ks → Q (.ref h1.objs.size) { s with heap := h2, toks := tk }) :
    wpAny (model prog w) A (call (.builtin "sorted") [.ref d]) Q E s := by
  have hsz : es.size = ks.length := by have := congrArg List.length hes; simpa using this
  refine Calls.call_function_entry kind_sorted plain_sorted entry_sorted (args_sorted1 _) ?_
  unfold Builtin.«sorted»
  refine wpAny_bind (m := checkCount "sorted" 1 1 _) (wpAny_pure ?_)
  refine wpAny_bind (collectK lo ?_ hD (by rw [sizeLine_eq]; omega) fun h1 tk kp => ?_)
  · exact hh
  rw [hes]
  generalize hvs : (ks.map fun k => Value.ref k.2) = vs
  have hvl : vs.length = ks.length := by rw [← hvs, List.length_map]
  refine wpAny_bind (wpAny_newList ?_ (by first | (rw [sizeLine_eq]; omega) | (rw [List.size_toArray, sizeLine_eq]; omega)))
  have gL : (h1.push (seqObj "list" vs.toArray 0)).get? h1.objs.size = some (seqObj "list" vs.toArray 0) := Heap.get?_push_size _ rfl
  have key : ∀ (A' : Around), A'.units + 8 < cLine → ∀ {P : PySem.Fin → Shared → Prop} {E' : Value → Shared → Prop}, (∀ out : List Value, out.Perm vs → P (.done (.ret .none)) { s with heap := sortedHeap (h1.push (seqObj "list" vs.toArray 0)) h1.objs.size vs out.toArray, toks := tk }) →
      wpAny (model prog w) A' (Builtin.«list.sort» ⟨[.ref h1.objs.size], []⟩) P E' { s with heap := h1.push (seqObj "list" vs.toArray 0), toks := tk } := fun A' hA P E' hP => by
    refine list_sortN (s := { s with heap := h1.push (seqObj "list" vs.toArray 0), toks := tk }) gL (by omega) (fun h2 => ⟨tuples' true, fun Q' hQ' => ?_, ?_⟩) hP
    · have hk' : ∀ k ∈ ks, IntKey (midHeap (h1.push (seqObj "list" vs.toArray 0)) h1.objs.size vs) k := fun k hk1 => by
        obtain ⟨⟨k1, k2, as, hr⟩, r⟩ := hk k hk1
        exact ⟨⟨k1, k2, as, reads_off gL (fun z => by injection z with z; exact absurd z (by decide)) (fun c o hc1 e => mid_other hc1 e) _ k1 (Reads.keeps (fun b o e => Heap.get?_push_of_some _ (kp b o e)) hr)⟩, r⟩
      obtain ⟨fs, f1, f2, f3⟩ := kinds_ok hk'
      rw [hvs] at f1
      refine W.kat_kind (T := .type "int") f1 (by omega) (fun v hv => ?_) (by decide) hQ'
      obtain ⟨i, t, rfl⟩ := f3 v hv
      intro A2 Q2 E2 s2 _ q
      exact wpAny_typeOf (typeIs_int s2 i t) q
    · intro i j C hi hj hC
      have hk' : ∀ k ∈ ks, IntKey (midHeap (h1.push (seqObj "list" vs.toArray 0)) h1.objs.size vs) k := fun k hk1 => by
        obtain ⟨⟨k1, k2, as, hr⟩, r⟩ := hk k hk1
        exact ⟨⟨k1, k2, as, reads_off gL (fun z => by injection z with z; exact absurd z (by decide)) (fun c o hc1 e => mid_other hc1 e) _ k1 (Reads.keeps (fun b o e => Heap.get?_push_of_some _ (kp b o e)) hr)⟩, r⟩
      have := asks_ok (prog := prog) (w := w) (A := A') (s := { s with heap := midHeap (h1.push (seqObj "list" vs.toArray 0)) h1.objs.size vs, toks := tk }) hk' hc (by omega) i j C (by omega) (by omega) hC
      rw [hvs] at this
      exact this
  refine wpAny_bind (wpAny_holding (wpAny_call_entry slot_list_sort ⟨_, gL, rfl⟩ entry_list_sort (key _ ?_ fun out hp => ⟨_, rfl, ?_⟩) (args_list_sort _)))
  · show A.units + 1 + 1 + 8 < cLine
    omega
  · obtain ⟨c, hcc⟩ := sortedHeap_at (out := out.toArray) gL
    rw [← hvs] at hp
    obtain ⟨o', p1, rfl⟩ := perm_inv hp
    refine wpAny_pure ⟨_, rfl, h h1 _ tk o' c kp (fun b o e => ?_) ?_ p1⟩
    · have lb := Heap.lt_size e
      show (sortedHeap _ _ _ _).get? b = some o
      rw [sortedHeap_old (Nat.ne_of_lt lb) (by rw [size_push']; exact Nat.lt_succ_of_lt lb)]
      exact Heap.get?_push_of_some _ e
    · exact hcc
end
end M6
set_option Elab.async false
set_option linter.all false
set_option maxRecDepth 100000
set_option maxHeartbeats 4000000
namespace L2
open PySem PySem.Spec PyProof.Rows M6
noncomputable def nAt (W : World) (a : Addr) (xs : List (PyData × Addr)) : Heap → Prop := fun h => (a == sysModules) = false ∧ ∃ o es ep, h.get? a = some o ∧ o.ExactDict ∧ o.data = Data.dict es ep ∧
  es.toList = xs.map (fun x => ({ hash := hashK W x.1, key := .ref x.2, val := .bool true } : DictEntry)) ∧ (xs.map (·.1)).Nodup
theorem nAt.at {W : World} {a : Addr} {xs : List (PyData × Addr)} {h h' : Heap} (x : nAt W a xs h) (e : ∀ o, h.get? a = some o → h'.get? a = some o) : nAt W a xs h' := by
  obtain ⟨z, o, es, ep, h1, r⟩ := x
  exact ⟨z, o, es, ep, e o h1, r⟩
theorem nAt.ok {P : Program} {w W : World} {H : Hp} {h : Heap} {a : Addr} {xs : List (PyData × Addr)} (x : nAt W a xs h) : ObjOk P w H h a (.ext (nAt W a xs)) := by
  obtain ⟨z, o, es, ep, h1, r⟩ := id x
  exact ⟨x, ⟨o, h1⟩, fun h1 h2 y e => y.at e⟩
theorem ext_own {P : Program} {w W : World} {H : Hp} {h : Heap} {a b : Addr} {xs : List (PyData × Addr)} (x : ObjOk P w H h a (.ext (nAt W b xs))) : b = a := by
  obtain ⟨y, ⟨o, e⟩, st⟩ := x
  apply Classical.byContradiction
  intro hne
  obtain ⟨z, ob, es, ep, h1, h2, h3, r⟩ := id y
  have g1 : (h.update b fun _ => { cls := .none }).get? a = some o := (Heap.get?_update_other _ _ hne).trans e
  have g2 : (h.update b fun _ => { cls := .none }).get? b = some { cls := .none } := Heap.get?_update_self (fun _ => { cls := .none }) h1 rfl
  obtain ⟨_, o2, es2, ep2, k1, k2, k3, _⟩ := st h (h.update b fun _ => { cls := .none }) y fun o' e' => by rw [e] at e'; cases e'; exact g1
  rw [g2] at k1
  cases k1
  cases k3
noncomputable def putA (xs : List (PyData × Addr)) (d : PyData) (b : Addr) : List (PyData × Addr) := if (xs.any fun x => decide (x.1 = d)) = true then xs else xs ++ [(d, b)]
theorem putA_stored (xs : List (PyData × Addr)) (d : PyData) (b : Addr) : storedH (xs.map fun x => (x.1, x.2, Value.bool true)) d b (.bool true) = (putA xs d b).map fun x => (x.1, x.2, Value.bool true) := by
  have e : (atKey (xs.map fun x => (x.1, x.2, Value.bool true)) d).isSome = (xs.any fun x => decide (x.1 = d)) := by
    unfold atKey
    rw [Option.isSome_map]
    induction xs with
    | nil => rfl
    | cons x xs ih =>
      rw [List.map_cons, List.find?_cons, List.any_cons]
      by_cases h : x.1 = d
      · simp [h]
      · simp only [h, decide_false, Bool.false_or]; exact ih
  unfold storedH putA
  rw [e]
  by_cases h : (xs.any fun x => decide (x.1 = d)) = true
  · rw [if_pos h, if_pos h, List.map_map]
    refine List.map_congr_left fun x _ => ?_
    simp only [Function.comp, putAt]
    split <;> rfl
  · rw [if_neg h, if_neg h, List.map_append]; rfl
section
variable {X : Cx} {pins : List (Addr × Obj)} {σ : St} {H : Hp} {s : Shared} {A : Around} {E : Value → Shared → Prop}
noncomputable def KeysD (K : PySem.W.Frag) (H : Hp) (xs : List (PyData × Addr)) : Prop := ∀ x ∈ xs, okK x.1 = true ∧ x.1.depth ≤ 6 ∧ DatV K H x.1 (.ref x.2)
theorem Inv.key (I : Inv X pins σ H s) {d : PyData} {b : Addr} (h1 : okK d = true) (h2 : d.depth ≤ 6) (h3 : DatV X.K H d (.ref b)) : isKey s.heap d b :=
  ⟨h1, h2, I.reads d (.ref b) (.ref b) h3 rfl⟩
theorem n_setItem {a b : Addr} {xs : List (PyData × Addr)} {d : PyData} {Q : Unit → Shared → Prop} (hu : A.units + 20 < cLine) (I : Inv X pins σ H s) (e : H a = some (.ext (nAt X.w a xs))) (hk : KeysD X.K H xs) (h1 : okK d = true) (h2 : d.depth ≤ 6) (h3 : DatV X.K H d (.ref b)) (hl : xs.length < 1000)
    (h : ∀ s', Inv X pins σ (upd H a (.ext (nAt X.w a (putA xs d b)))) s' → Q () s') : wpAny (model X.prog X.w) A (setItem (.ref a) (.ref b) (.bool true)) Q E s := by
  obtain ⟨⟨z, o, es, ep, ho, hx, hd, hes, hn⟩, _, _⟩ := (show ObjOk X.prog X.w H s.heap a (.ext (nAt X.w a xs)) from I.hok a _ e)
  have dd : Heap.DictOfH (dataKind X.prog X.w) s.heap a (xs.map fun x => (x.1, x.2, Value.bool true)) := by
    refine ⟨o, es, ep, ho, hx, hd, ?_, fun x hx' => ?_, ?_⟩
    · rw [hes, List.map_map]; rfl
    · obtain ⟨y, hy, rfl⟩ := List.mem_map.mp hx'
      obtain ⟨k1, k2, k3⟩ := hk y hy
      exact I.key k1 k2 k3
    · rw [List.map_map]; exact hn
  refine wpAny_setItem_heap (knd := dataKind X.prog X.w) (hsz := by rw [List.length_map, sizeLine_eq]; omega) (show A.units + 1 + 10 < cLine by omega) (I.key h1 h2 h3) dd fun h' dd' hs => h _ ?_
  rw [putA_stored] at dd'
  obtain ⟨q, es', ep', hq, x1, x2, x3, _, x5⟩ := dd'
  have nn : nAt X.w a (putA xs d b) h' := ⟨z, q, es', ep', hq, x1, x2, by rw [x3, List.map_map]; rfl, by rw [List.map_map] at x5; exact x5⟩
  exact d_write I (by rw [e]; exact True.intro) hs ⟨q, hq⟩ nn.ok
end
noncomputable def tDNewN (W : World) : TE := fun _ H Q => ∀ p, H p = none → Q (.ref p) (upd H p (.ext (nAt W p [])))
noncomputable def sNPut (K : PySem.W.Frag) (W : World) (td ty tv : TE) : TS := fun D σ H => tv σ H fun v H1 => td σ H1 fun x H2 => ty σ H2 fun y H3 => ∃ (a a' b : Addr) (xs : List (PyData × Addr)) (d : PyData), v = .bl true ∧ x = .ref a ∧ y = .ref b ∧ H3 a = some (.ext (nAt W a' xs)) ∧
  KeysD K H3 xs ∧ okK d = true ∧ d.depth ≤ 6 ∧ DatV K H3 d (.ref b) ∧ xs.length < 1000 ∧ (a' = a → D.nx σ (upd H3 a (.ext (nAt W a (putA xs d b)))))
noncomputable def rSortN (K : PySem.W.Frag) (W : World) : List V → Hp → VK → Prop := fun vs H Q => ∃ (a a' : Addr) (ks : List (PyData × Addr)), vs = [.ref a] ∧ H a = some (.ext (nAt W a' ks)) ∧ KeysD K H ks ∧ (∀ k ∈ ks, ∃ p r, k.1 = PyData.tuple (.int p :: r)) ∧ (∀ k ∈ ks, ∀ l ∈ ks, cmpK k.1 l.1 = true) ∧ ks.length < 64 ∧
  ∀ (p : Addr) (out : List (PyData × Addr)), H p = none → out.Perm ks → Q (.ref p) (upd H p (.lst (out.map fun k => V.ref k.2)))
theorem vals_refs {α : Type} (f : α → Addr) : ∀ l : List α, Vals (l.map fun x => V.ref (f x)) (l.map fun x => Value.ref (f x))
  | [] => .nil
  | x :: l => .cons rfl (vals_refs f l)
section
variable {X : Cx} {o i value : Expr} {td ty tv : TE} {pos pos' : Pos}
theorem pe_dnewN : PE X (.Dict [] [] pos) (tDNewN X.w) := fun pins s σ H Q I h =>
  wpAny_Dict_empty ⟨.ref s.heap.objs.size, _, I.laid (a := s.heap.objs.size) (o := .ext (nAt X.w s.heap.objs.size [])) (t' := s.toks) (fun _ _ q => Heap.get?_push_of_some _ q) (Nat.le_refl _)
    (nAt.ok ⟨beq_eq_false_iff_ne.mpr (Ne.symm (Nat.ne_of_lt I.big)), _, #[], 0, Heap.get?_push_size _ rfl, ⟨rfl, rfl, rfl⟩, rfl, rfl, List.nodup_nil⟩), rfl, h _ (I.hok.fresh (Nat.le_refl _))⟩
theorem ps_nput (hu : X.A.units + 20 < cLine) (ho : PE X o td) (hi : PE X i ty) (hv : PE X value tv) (hs : swapsWith value (some (.Subscript o i pos')) pos.line X.env = pure false) :
    PS X (.Assign [.Subscript o i pos'] value pos) (sNPut X.K X.w td ty tv) := by
  intro pins s σ H D I h
  refine wpAny_Assign_Subscript (thn (hv pins s σ H _ I h) fun r s1 ⟨v, H1, I1, rv, q1⟩ => thn (ho pins s1 σ H1 _ I1 q1) fun u s2 ⟨x, H2, I2, rx, q2⟩ => thn (hi pins s2 σ H2 _ I2 q2) fun iv s3 ⟨y, H3, I3, ry, a, a', b, xs, d, ev, ex, ey, e, k1, k2, k3, k4, k5, q3⟩ => ?_) hs
  subst ev ex ey
  obtain rfl : u = Value.ref a := rx
  obtain rfl : iv = Value.ref b := ry
  obtain rfl : r = Value.bool true := rv
  obtain rfl := ext_own (show ObjOk X.prog X.w H3 s3.heap a (.ext (nAt X.w a' xs)) from I3.hok a _ e)
  exact n_setItem hu I3 e k1 k2 k3 k4 k5 fun s4 I4 => ⟨σ, _, I4, q3 rfl⟩
theorem call_sortN {k : Nat} (hr : Room k X.A) : CallR X (.builtin "sorted") (rSortN X.K X.w) := by
  intro pins s σ H xs us Q I r h
  obtain ⟨a, a', ks, rfl, e, hk, h0, hc, hl, q⟩ := h
  obtain ⟨u, rfl, ru⟩ := vals1 r
  cases ru
  have ob := (show ObjOk X.prog X.w H s.heap a (.ext (nAt X.w a' ks)) from I.hok a _ e)
  obtain rfl := ext_own ob
  obtain ⟨⟨z, o, es, ep, ho, hx, hd, hes, hn⟩, _, _⟩ := ob
  refine sorted_data hr.hd z ⟨o, ho, hx, hd⟩ (by rw [hes, List.map_map]; rfl) (fun y hy => ?_) hc hl (by have := hr.units; omega) fun h1 h2 tk out c kp1 kp2 g hp => ?_
  · obtain ⟨k1, k2, k3⟩ := hk y hy
    exact ⟨I.key k1 k2 k3, h0 y hy⟩
  · have I1 : Inv X pins σ H { s with heap := h1, toks := tk } := I.kept (t' := tk) kp1
    refine ⟨.ref h1.objs.size, _, I1.laid (a := h1.objs.size) (t' := tk) (o := .lst (out.map fun k => V.ref k.2)) kp2 (Nat.le_refl _) ⟨by rw [List.length_map, hp.length_eq, sizeLine_eq]; omega, _, c, vals_refs (fun k => k.2) out, g⟩, rfl, q _ out (I1.hok.fresh (Nat.le_refl _)) hp⟩
end
end L2
set_option Elab.async false
set_option linter.all false
set_option maxRecDepth 100000
set_option maxHeartbeats 4000000
namespace M6
open PySem PySem.Spec PyProof.Rows
section
variable {prog : Program} {w : World} {A : Around} {E : Value → Shared → Prop} {s : Shared}
theorem items_eq {es : Array DictEntry} {acc : Array Value} (hacc : ItemsOf (fun i v => ∃ e, es[i]? = some e ∧ v = e.key) acc es.size) : acc.toList = es.toList.map (·.key) := by
  refine List.ext_getElem? fun i => ?_
  rw [Array.getElem?_toList, List.getElem?_map, Array.getElem?_toList]
  cases z : acc[i]? with
  | some v =>
    obtain ⟨e, he, rfl⟩ := hacc.2 i v z
    rw [he]; rfl
  | none =>
    have : es.size ≤ i := by rw [← hacc.1]; exact Array.getElem?_eq_none_iff.mp z
    rw [Array.getElem?_eq_none this]; rfl
theorem sorted_intD {d : Addr} {es : Array DictEntry} {ep : Nat} {ns : List Int} {Q : Value → Shared → Prop} (hh : A.handled = none) (lo : (d == sysModules) = false) (hD : RawD s.heap d es ep) (hes : IntsAre (es.toList.map (·.key)) ns) (h64 : es.size < 64)
    (h : ∀ (h1 h2 : Heap) (tk : Nat) (out : List Value) (ns' : List Int) (c : Nat), (∀ b o, s.heap.get? b = some o → h1.get? b = some o) → (∀ b o, h1.get? b = some o → h2.get? b = some o) → h2.get? h1.objs.size = some (seqObj "list" out.toArray c) → IntsAre out ns' → ns'.Perm ns → ns'.Pairwise (· ≤ ·) → Q (.ref h1.objs.size) { s with heap := h2, toks := tk }) :
    wpAny (model prog w) A (call (.builtin "sorted") [.ref d]) Q E s := by
  refine Calls.call_function_entry kind_sorted plain_sorted entry_sorted (args_sorted1 _) ?_
  unfold Builtin.«sorted»
  refine wpAny_bind (m := checkCount "sorted" 1 1 _) (wpAny_pure ?_)
  refine wpAny_bind (collectK lo ?_ hD (by rw [sizeLine_eq]; omega) fun h1 tk kp => ?_)
  · exact hh
  have hvl : (es.toList.map (·.key)).length = es.size := by rw [List.length_map, Array.length_toList]
  generalize (es.toList.map (·.key)) = vs at hes hvl
  refine wpAny_bind (wpAny_newList ?_ (by first | (rw [sizeLine_eq]; omega) | (rw [List.size_toArray, sizeLine_eq]; omega)))
  have gL : (h1.push (seqObj "list" vs.toArray 0)).get? h1.objs.size = some (seqObj "list" vs.toArray 0) := Heap.get?_push_size _ rfl
  refine wpAny_bind (wpAny_holding (wpAny_call_entry slot_list_sort ⟨_, gL, rfl⟩ entry_list_sort (list_sort_tree gL hes (by omega) fun out ns' a1 a2 a3 => ⟨_, rfl, ?_⟩) (args_list_sort _)))
  obtain ⟨c, hcc⟩ := sortedHeap_at (out := out) gL
  refine wpAny_pure ⟨_, rfl, h h1 _ tk out.toList ns' c kp (fun b o e => ?_) (by rw [Array.toArray_toList]; exact hcc) a1 a2 a3⟩
  have lb := Heap.lt_size e
  show (sortedHeap _ _ _ _).get? b = some o
  rw [sortedHeap_old (Nat.ne_of_lt lb) (by rw [size_push']; exact Nat.lt_succ_of_lt lb)]
  exact Heap.get?_push_of_some _ e
end
end M6
namespace L2
open PySem PySem.Spec PyProof.Rows M6
theorem kV_rel {k : Key} {u : Value} (h : keyIs k u = true) : RelV (kV k) u := by
  rcases keyIs_shape h with ⟨i, t, rfl, rfl⟩ | ⟨x, t, rfl, rfl⟩
  · exact ⟨t, rfl⟩
  · exact ⟨t, rfl⟩
theorem keys_rel {prog : Program} {w : World} : ∀ {kvs : List (Key × V)} {vs : List (Key × Value)} {es : List DictEntry}, KV kvs vs → Pairs (mixKind prog w) es vs → Vals (kvs.map fun p => kV p.1) (es.map (·.key))
  | [], _, es, h1, h2 => by cases h1; cases h2; exact .nil
  | p :: kvs, _, es, h1, h2 => by
    cases h1 with
    | cons r t =>
      cases h2 with
      | cons g1 g2 g3 =>
        refine .cons ?_ (keys_rel t g3)
        show RelV (kV p.1) _
        rw [r.1]
        exact kV_rel g1
theorem ints_rel : ∀ {ns : List Int} {us : List Value}, Vals (ns.map V.int) us → IntsAre us ns
  | [], us, h => by cases h; exact .nil
  | n :: ns, us, h => by
    cases h with
    | cons r t =>
      obtain ⟨tk, rfl⟩ := r
      exact .cons n tk (ints_rel t)
noncomputable def rListD : List V → Hp → VK → Prop := fun xs H Q => ∃ (a : Addr) (kvs : List (Key × V)), xs = [.ref a] ∧ H a = some (.dK kvs) ∧ ∀ p, H p = none → Q (.ref p) (upd H p (.lst (kvs.map fun x => kV x.1)))
noncomputable def rSortD : List V → Hp → VK → Prop := fun xs H Q => ∃ (a : Addr) (kvs : List (Key × V)) (ns : List Int), xs = [.ref a] ∧ H a = some (.dK kvs) ∧ (kvs.map fun x => kV x.1) = ns.map V.int ∧ ns.length < 64 ∧ ∀ p (ns' : List Int), H p = none → ns'.Perm ns → ns'.Pairwise (· ≤ ·) → Q (.ref p) (upd H p (.lst (ns'.map V.int)))
noncomputable def rInK (neg : Bool) : R2 := fun y x H Q => ∃ a kvs k, x = .ref a ∧ y = kV k ∧ H a = some (.dK kvs) ∧ Q (.bl (neg != (valV kvs k).isSome)) H
section
variable {X : Cx}
theorem raw_of {pins : List (Addr × Obj)} {σ : St} {H : Hp} {s : Shared} {a : Addr} {kvs : List (Key × V)} (I : Inv X pins σ H s) (e : H a = some (.dK kvs)) : (a == sysModules) = false ∧ kvs.length ≤ sizeLine ∧ ∃ es ep, RawD s.heap a es ep ∧ Vals (kvs.map fun x => kV x.1) (es.toList.map (·.key)) := by
  obtain ⟨z, hd, vs, rel, o, es, ep, ho, hx, hdat, hk, hp, hn⟩ := dk_of I.hok e
  exact ⟨hd, z, es, ep, ⟨o, ho, hx, hdat⟩, keys_rel rel hp⟩
theorem call_listD {k : Nat} (hr : Room k X.A) : CallR X (.type "list") rListD := by
  intro pins s σ H xs us Q I r h
  obtain ⟨a, kvs, rfl, e, q⟩ := h
  obtain ⟨u, rfl, ru⟩ := vals1 r
  cases ru
  obtain ⟨lo, hz, es, ep, hD, hv⟩ := raw_of I e
  have hl : es.size = kvs.length := by have := hv.length; simpa using this.symm
  refine W.kdl_call (srcK lo) hr.hd hD (by rw [hl]; exact hz) fun h' tk acc c kp g hacc => ?_
  have ea : acc.toList = es.toList.map (·.key) := items_eq hacc
  refine ⟨.ref s.heap.objs.size, _, I.laid (a := s.heap.objs.size) (t' := tk) (o := .lst (kvs.map fun x => kV x.1)) kp (Nat.le_refl _) ⟨by rw [List.length_map]; exact hz, acc.toList, c, by rw [ea]; exact hv, by rw [Array.toArray_toList]; exact g⟩, rfl, q _ (I.hok.fresh (Nat.le_refl _))⟩
theorem call_sortD {k : Nat} (hr : Room k X.A) : CallR X (.builtin "sorted") rSortD := by
  intro pins s σ H xs us Q I r h
  obtain ⟨a, kvs, ns, rfl, e, hi, hl64, q⟩ := h
  obtain ⟨u, rfl, ru⟩ := vals1 r
  cases ru
  obtain ⟨lo, hz, es, ep, hD, hv⟩ := raw_of I e
  rw [hi] at hv
  have hl : es.size = ns.length := by have := hv.length; simpa using this.symm
  refine sorted_intD hr.hd lo hD (ints_rel hv) (by omega) fun h1 h2 tk out ns' c kp1 kp2 g a1 a2 a3 => ?_
  have I1 : Inv X pins σ H { s with heap := h1, toks := tk } := I.kept (t' := tk) kp1
  refine ⟨.ref h1.objs.size, _, I1.laid (a := h1.objs.size) (t' := tk) (o := .lst (ns'.map V.int)) kp2 (Nat.le_refl _) ⟨by rw [List.length_map, a2.length_eq, sizeLine_eq]; omega, out, c, vals_ints a1, g⟩, rfl, q _ ns' (I1.hok.fresh (Nat.le_refl _)) a2 a3⟩
theorem op_notInK (hu : X.A.units + 1 < cLine) : OpR X (compareOp .NotIn) (rInK true) := by
  intro pins s σ H y x v u Q I ry rx h
  obtain ⟨a, kvs, k, rfl, rfl, e, q⟩ := h
  obtain rfl : u = Value.ref a := rx
  exact d_notIn hu I (DGet.k e) ry fun s3 I3 => ⟨.bl (!(valV kvs k).isSome), H, I3, rfl, by simpa using q⟩
end
end L2
set_option Elab.async false
set_option linter.all false
set_option maxRecDepth 100000
set_option maxHeartbeats 4000000
namespace M6
open PySem PySem.Spec PyProof.Rows
theorem miss_keys : typeLookup (.type "list") (Str.ofString "keys") = pure none := by rw [typeLookup_type]; kernel_rfl
section
variable {prog : Program} {w : World} {A : Around} {E : Value → Shared → Prop} {s : Shared}
theorem keys_miss {a : Addr} {xs : Array Value} {k : Nat} {Q : Option Value → Shared → Prop} (hx : s.heap.get? a = some { cls := .type "list", data := .seq xs k }) (hA : A.handled = none)
    (h : ∀ (h' : Heap) (tk : Nat), (∀ b o, s.heap.get? b = some o → h'.get? b = some o) → Q none { s with heap := h', toks := tk }) : wpAny (model prog w) A (getAttr? (.ref a) (Str.ofString "keys")) Q E s := by
  have f1 := sub_AttributeError
  have f3 := PySem.F.slot_list_getattribute.lookup
  have f4 := PySem.F.slot_list_getattribute.bind (Value.ref a)
  have f5 := am_list_getattr_none
  have f6 := miss_keys
  obtain ⟨hp, g, d, tk, os⟩ := s
  dsimp only at h hx ⊢
  have hT : Shared.TypeIs ⟨hp, g, d, tk, os⟩ (.ref a) "list" := ⟨_, hx, rfl⟩
  unfold getAttr? getAttrBy? getAttrBy getAttrByItsOwn callGetattribute boundAndCalled
  generalize hC : @PySem.call = C
  wp_walk
  subst hC
  refine call_meets PySem.F.slot_list_getattribute (s := ⟨hp, g, d, tk + 1, os⟩) ⟨_, hx, rfl⟩ am_entry_list_getattribute (PySem.F.args_list_getattribute_2 (Value.ref a) (Value.str (Str.ofString "keys") tk)) (meets_getattribute_miss_list a xs k #[] (Str.ofString "keys") tk f6 (by decide +kernel)) ⟨hx, hA, fun h' tk' e hx' => ?_⟩
  obtain ⟨t, u, he⟩ := hx'.there
  have hT2 : Shared.TypeIs ⟨h', g, d, tk', os⟩ (.ref e) "AttributeError" := ⟨_, he, rfl⟩
  have hk := hx'.keeps
  show wpAny (model prog w) A (getattributeRaised (Value.ref a) (Value.str (Str.ofString "keys") tk) (Value.type "list") (.ref e) none false false) _ _ _
  unfold getattributeRaised
  refine wpAny_bind (wpAny_isInstance hT2 f1 ?_)
  rw [if_pos rfl]
  refine wpAny_bind (wpAny_of_eq f5 ?_)
  show wpAny (model prog w) A (do let _ ← throw (Value.ref e); _) _ _ _
  refine wpAny_bind (wpAny_throw ?_)
  show wpAny (model prog w) A (do
              let __do_lift ← isInstance (Value.ref e) (Value.type "AttributeError")
              if __do_lift = true then pure none else throw (Value.ref e)) Q E _
  refine wpAny_bind (wpAny_isInstance hT2 f1 ?_)
  rw [if_pos rfl]
  exact wpAny_pure (h h' tk' hk)
end
theorem entry_dul : entryFor table "dict.update.loop" = some Builtin.«dict.update.loop» := entryFor_of_tree (by kernel_rfl)
theorem plain_dul : plainId "dict.update.loop" = true := by decide +kernel
noncomputable def storedAll {K : Type} [DecidableEq K] (ps : List (K × Value)) : List (K × Value) := ps.foldl (fun acc p => stored acc p.1 p.2) []
section
variable {prog : Program} {w : World} {A : Around} {E : Value → Shared → Prop} {s : Shared} {K : Type} [DecidableEq K] {knd : KeyKind prog w K}
noncomputable def PairAt (knd : KeyKind prog w K) (h : Heap) (v : Value) (p : K × Value) : Prop := ∃ t ku o n, v = .ref t ∧ h.get? t = some o ∧ o.cls = .type "tuple" ∧ o.data = .seq #[ku, p.2] n ∧ knd.is p.1 ku = true
theorem PairAt.at {h h' : Heap} {v : Value} {p : K × Value} (x : PairAt knd h v p) (e : ∀ b o, o.cls = .type "tuple" → h.get? b = some o → h'.get? b = some o) : PairAt knd h' v p := by
  obtain ⟨t, ku, o, n, h1, h2, h3, h4⟩ := x
  exact ⟨t, ku, o, n, h1, e t o h3 h2, h3, h4⟩
theorem dict_at {h h' : Heap} {d : Addr} {kvs : List (K × Value)} (x : Heap.DictOf knd h d kvs) (e : ∀ o, h.get? d = some o → h'.get? d = some o) : Heap.DictOf knd h' d kvs := by
  obtain ⟨o, es, ep, h1, r⟩ := x
  exact ⟨o, es, ep, e o h1, r⟩
theorem stored_len (kvs : List (K × Value)) (k : K) (v : Value) : (stored kvs k v).length ≤ kvs.length + 1 := by
  unfold stored
  split
  · rw [List.length_map]; omega
  · rw [List.length_append]; exact Nat.le_refl _
theorem storedAll_snoc (ps : List (K × Value)) (p : K × Value) : storedAll (ps ++ [p]) = stored (storedAll ps) p.1 p.2 := by
  unfold storedAll
  rw [List.foldl_append]; rfl
theorem storedAll_len (ps : List (K × Value)) : (storedAll ps).length ≤ ps.length := by
  have : ∀ (l acc : List (K × Value)), (l.foldl (fun acc p => stored acc p.1 p.2) acc).length ≤ acc.length + l.length := by
    intro l
    induction l with
    | nil => intro acc; simp
    | cons a r ih => intro acc; rw [List.foldl_cons, List.length_cons]; have := ih (stored acc a.1 a.2); have := stored_len acc a.1 a.2; omega
  have := this ps []
  simpa [storedAll] using this
theorem loop_dict {I l d : Addr} {its : Array Value} {ps : List (K × Value)} {R : Result → Shared → Prop} {St : Nat → Heap → Prop} (W : Walks prog w A.in1 I [I, l] [I] its.size (fun i v => its[i]? = some v) St) (hSt : ∀ i h, St i h → ∀ o, h.get? I = some o → o.cls ≠ .type "tuple") (hdI : d ≠ I) (hdl : d ≠ l) (hlen : its.size = ps.length) (hn : ps.length ≤ 1000) :
    ∀ (k i : Nat) (s : Shared), its.size - i = k → i ≤ its.size → St i s.heap → Heap.DictOf knd s.heap d (storedAll (ps.take i)) → (∀ (i : Nat) (v : Value) (p : K × Value), its[i]? = some v → ps[i]? = some p → PairAt knd s.heap v p) →
      (∀ (h' : Heap) (tk : Nat), Heap.DictOf knd h' d (storedAll ps) → (∀ b o, b ≠ d → b ≠ I → s.heap.get? b = some o → h'.get? b = some o) → R (.ok (.ret .none)) { s with heap := h', toks := tk }) →
      codeAny (model prog w) A (.builtin "dict.update.loop" ⟨[.ref d, .ref I, rawInt i, .none], []⟩) R s := by
  intro k
  induction k with
  | zero =>
    intro i s hk hi hst hD hp hR
    obtain rfl : i = its.size := by omega
    refine codeAny_builtin entry_dul ?_
    rw [Around.under_plainId plain_dul _]
    show wpAny _ A.in1 (pyNext (.ref I) >>= _) _ _ s
    refine wpAny_bind (W.done s _ _ hst fun h' tk hm => ?_)
    rw [hlen, List.take_length] at hD
    refine wpAny_bind (wpAny_pure ?_)
    exact wpAny_pure (hR h' tk (dict_at hD fun o e => hm d o (by simpa using hdI) e) fun b o h1 h2 e => hm b o (by simpa using h2) e)
  | succ k ih =>
    intro i s hk hi hst hD hp hR
    have hlt : i < its.size := by omega
    refine codeAny_builtin entry_dul ?_
    rw [Around.under_plainId plain_dul _]
    show wpAny _ A.in1 (pyNext (.ref I) >>= _) _ _ s
    refine wpAny_bind (W.item i s _ _ hlt hst fun v h' tk hP hst' hm => ?_)
    have hpi : ps[i]? = some ps[i] := List.getElem?_eq_getElem (by omega)
    have hp2 : ∀ (i : Nat) (v : Value) (p : K × Value), its[i]? = some v → ps[i]? = some p → PairAt knd h' v p := fun j v p h1 h2 => (hp j v p h1 h2).at fun b o hc e => hm b o (by
      intro z
      simp only [List.mem_singleton] at z
      subst z
      exact hSt i _ hst o e hc) e
    obtain ⟨t, ku, o, m, rfl, ho, hc, hd, hku⟩ := hp2 i v _ hP hpi
    have hD2 : Heap.DictOf knd h' d (storedAll (ps.take i)) := dict_at hD fun o e => hm d o (by simpa using hdI) e
    dsimp only
    refine wpAny_bind (wpAny_holding ?_)
    refine wpAny_bind (wpAny_tryCatch ?_)
    unfold Builtin.Dict.pairItems
    refine wpAny_bind (wpAny_typeOf (T := "tuple") ⟨o, ho, hc⟩ ?_)
    rw [if_pos (by decide)]
    refine wpAny_bind (wpAny_seqItems ho hd (wpAny_pure ?_))
    have h2 := storedAll_len (ps.take i)
    rw [List.length_take] at h2
    refine wpAny_holding (wpAny_dictSet_pairs hku hD2 (fun h'' hD'' hs => ?_) (by rw [sizeLine_eq]; omega))
    have e9 : ∀ b o, b ≠ d → h'.get? b = some o → h''.get? b = some o := fun b o hb e => (hs.2 b hb).trans e
    refine wpAny_pure ⟨plainId_quiet plain_dul _, ?_⟩
    rw [show ((i : Int) + 1) = ((i + 1 : Nat) : Int) by omega]
    refine ih (i + 1) { s with heap := h'', toks := tk + 1 } (by omega) hlt (W.frame _ h' h'' hst' fun b hb o e => e9 b o ?_ e) ?_ (fun j v p h1 h2 => (hp2 j v p h1 h2).at fun b o hc e => e9 b o ?_ e) fun h3 tk3 hD3 kp3 => ?_
    · simp only [List.mem_cons, List.not_mem_nil, or_false] at hb
      rcases hb with rfl | rfl
      · exact Ne.symm hdI
      · exact Ne.symm hdl
    · rw [List.take_succ, hpi]
      show Heap.DictOf knd h'' d (storedAll (ps.take i ++ [ps[i]]))
      rw [storedAll_snoc]
      exact hD''
    · intro z
      subst z
      obtain ⟨od, _, _, hod, hcd, _⟩ := hD2
      rw [hod] at e; cases e
      rw [hcd.1] at hc
      injection hc with hc
      exact absurd hc (by decide)
    · exact hR h3 tk3 hD3 fun b o h1 h2 e => kp3 b o h1 h2 (e9 b o h1 (hm b o (by simpa using h2) e))
theorem call_dictP {l : Addr} {its : Array Value} {ps : List (K × Value)} {Q : Value → Shared → Prop} (hh : A.handled = none) {c : Nat} (hl : s.heap.get? l = some { cls := .type "list", data := .seq its c }) (hlen : its.size = ps.length) (hp : ∀ (i : Nat) (v : Value) (p : K × Value), its[i]? = some v → ps[i]? = some p → PairAt knd s.heap v p) (hn : ps.length ≤ 1000)
    (h : ∀ (h' : Heap) (tk : Nat), Heap.DictOf knd h' s.heap.objs.size (storedAll ps) → (∀ b o, s.heap.get? b = some o → h'.get? b = some o) → Q (.ref s.heap.objs.size) { s with heap := h', toks := tk }) :
    wpAny (model prog w) A (call (.type "dict") [.ref l]) Q E s := by
  refine callType_codes PySem.F.kt_called_dict (PySem.F.kt_typeCall_dict_1 (.ref l)) PySem.F.entry_dict_init (kt_code_dict_new (.ref l) (Q₁ := fun u s₁ => u = .ref s.heap.objs.size ∧ s₁ = { s with heap := s.heap.push { cls := .type "dict", data := .dict #[] } }) ⟨rfl, rfl⟩) fun obj s₁ z => ?_
  obtain ⟨rfl, rfl⟩ := z
  have hnew : Heap.DictOf knd (s.heap.push { cls := Value.type "dict", data := Data.dict #[] }) s.heap.objs.size [] := Heap.DictOf.new s.heap
  have hl1 : (s.heap.push { cls := Value.type "dict", data := Data.dict #[] }).get? l = some { cls := .type "list", data := .seq its c } := Heap.get?_push_of_some _ hl
  refine ⟨Heap.DictOf.typeIs hnew, PySem.F.args_dict_init_2 _ _, ?_⟩
  unfold Builtin.«dict.__init__»
  refine wpAny_bind (wpAny_bind (wpAny_notOrdered_dict (Heap.DictOf.typeIs hnew) (wpAny_pure ?_)))
  show wpAny _ _ (Builtin.Dict.updateFrom "dict.__init__" s.heap.objs.size (.ref l) [] .none) _ _ _
  unfold Builtin.Dict.updateFrom
  refine wpAny_bind (wpAny_typeOf (T := "list") ⟨_, hl1, rfl⟩ ?_)
  rw [if_pos (by decide)]
  refine wpAny_bind (keys_miss hl1 hh fun h1 tk1 kp1 => ?_)
  rw [if_pos (by decide)]
  refine wpAny_bind (wpAny_rule ?_)
  have hl2 : h1.IsList l its := ⟨_, kp1 _ _ hl1, rfl, c, rfl⟩
  refine wpAny_bind (wpAny_pyIter_list hl2 ?_)
  have hD1 : Heap.DictOf knd h1 s.heap.objs.size [] := dict_at hnew fun o e => kp1 _ _ e
  refine wpAny_pure ⟨plainId_quiet plain_dul _, ?_⟩
  have lS : s.heap.objs.size < h1.objs.size := by obtain ⟨o, _, _, ho, _⟩ := hD1; exact Heap.lt_size ho
  have ll : l < s.heap.objs.size := Heap.lt_size hl
  have kp2 : ∀ b o, s.heap.get? b = some o → h1.get? b = some o := fun b o e => kp1 b o (Heap.get?_push_of_some _ e)
  refine loop_dict (ps := ps) (Walks.list (A := A.in1.in1) hh h1.objs.size l (Nat.ne_of_lt (Nat.lt_trans ll lS)) its) (fun i h z o e => ?_) (Nat.ne_of_lt lS) (Nat.ne_of_gt ll) hlen hn its.size 0 _ rfl (Nat.zero_le _) ?_ ?_ ?_ fun h' tk hD' kp' => ⟨rfl, h h' tk hD' fun b o e => ?_⟩
  · obtain ⟨o', ho', hc', _⟩ := z.1
    rw [e] at ho'; cases ho'
    rw [hc']
    intro z
    injection z with z
    exact absurd z (by decide)
  · exact ⟨⟨_, Heap.get?_push_size _ rfl, rfl, rfl⟩, hl2.at fun o e => Heap.get?_push_of_some _ e⟩
  · exact dict_at hD1 fun o e => Heap.get?_push_of_some _ e
  · exact fun i v p h2 h3 => (hp i v p h2 h3).at fun b o _ e => Heap.get?_push_of_some _ (kp2 b o e)
  · have lb := Heap.lt_size e
    exact kp' b o (Nat.ne_of_lt lb) (Nat.ne_of_lt (Nat.lt_trans lb lS)) (Heap.get?_push_of_some _ (kp2 b o e))
end
end M6
set_option Elab.async false
set_option linter.all false
set_option maxRecDepth 100000
set_option maxHeartbeats 4000000
namespace L2
open PySem PySem.Spec PyProof.Rows M6
noncomputable def putAll (kvs : List (Key × V)) : List (Key × V) := kvs.foldl (fun acc p => putK acc p.1 p.2) []
theorem putAll_rel : ∀ {kvs : List (Key × V)} {vs : List (Key × Value)}, KV kvs vs → ∀ {a : List (Key × V)} {b : List (Key × Value)}, KV a b → KV (kvs.foldl (fun acc p => putK acc p.1 p.2) a) (vs.foldl (fun acc p => stored acc p.1 p.2) b)
  | [], _, h, a, b, g => by cases h; exact g
  | p :: kvs, _, h, a, b, g => by
    cases h with
    | @cons _ q _ vs r t =>
      show KV (kvs.foldl _ (putK a p.1 p.2)) (vs.foldl _ (stored b q.1 q.2))
      rw [← r.1]
      exact putAll_rel t (g.put p.1 r.2)
theorem putAll_len (kvs : List (Key × V)) : (putAll kvs).length ≤ kvs.length := by
  have : ∀ (l acc : List (Key × V)), (l.foldl (fun acc p => putK acc p.1 p.2) acc).length ≤ acc.length + l.length := by
    intro l
    induction l with
    | nil => intro acc; simp
    | cons a r ih => intro acc; rw [List.foldl_cons, List.length_cons]; have := ih (putK acc a.1 a.2); have := length_putK acc a.1 a.2; omega
  have := this kvs []
  simpa [putAll] using this
noncomputable def PrsH (H : Hp) (ts : List Addr) (kvs : List (Key × V)) : Prop := Paired (fun t (p : Key × V) => H t = some (.tup [kV p.1, p.2])) ts kvs
noncomputable def rDictP : List V → Hp → VK → Prop := fun xs H Q => ∃ (a : Addr) (ts : List Addr) (kvs : List (Key × V)), xs = [.ref a] ∧ H a = some (.lst (ts.map V.ref)) ∧ PrsH H ts kvs ∧ kvs.length ≤ 1000 ∧ ∀ p, H p = none → Q (.ref p) (upd H p (.dK (putAll kvs)))
theorem refs_vals : ∀ {ts : List Addr} {us : List Value}, Vals (ts.map V.ref) us → us = ts.map Value.ref
  | [], us, h => by cases h; rfl
  | t :: ts, us, h => by
    cases h with
    | cons r g =>
      obtain rfl : _ = Value.ref t := r
      rw [refs_vals g]; rfl
section
variable {X : Cx}
theorem prs_at {pins : List (Addr × Obj)} {σ : St} {H : Hp} {s : Shared} (I : Inv X pins σ H s) : ∀ {ts : List Addr} {kvs : List (Key × V)}, PrsH H ts kvs → ∃ ps : List (Key × Value), KV kvs ps ∧ ps.length = ts.length ∧ ∀ (i : Nat) (v : Value) (p : Key × Value), (ts.map Value.ref)[i]? = some v → ps[i]? = some p → PairAt (mixKind X.prog X.w) s.heap v p
  | [], _, h => by cases h; exact ⟨[], .nil, rfl, fun i v p h => by simp at h⟩
  | t :: ts, _, h => by
    cases h with
    | @cons _ q _ kvs r g =>
      obtain ⟨ps, h1, h2, h3⟩ := prs_at I g
      obtain ⟨_, its, rv, o, ho, hc, n, hd⟩ := (show ObjOk X.prog X.w H s.heap t (.tup [kV q.1, q.2]) from I.hok t _ r)
      cases rv with
      | @cons _ ku _ its' g1 rv =>
        cases rv with
        | @cons _ u _ its'' g2 rv =>
          cases rv
          refine ⟨(q.1, u) :: ps, .cons ⟨rfl, g2⟩ h1, by simp [h2], fun i v p e1 e2 => ?_⟩
          cases i with
          | zero =>
            simp only [List.map_cons, List.getElem?_cons_zero, Option.some.injEq] at e1 e2
            subst e1; subst e2
            exact ⟨t, ku, o, n, rfl, ho, hc, hd, kV_is g1⟩
          | succ i =>
            simp only [List.map_cons, List.getElem?_cons_succ] at e1 e2
            exact h3 i v p e1 e2
theorem call_dictD {k : Nat} (hr : Room k X.A) : CallR X (.type "dict") rDictP := by
  intro pins s σ H xs us Q I r h
  obtain ⟨a, ts, kvs, rfl, e, hp, hl, q⟩ := h
  obtain ⟨u, rfl, ru⟩ := vals1 r
  cases ru
  obtain ⟨hz, its, c, rv, g⟩ := (show ObjOk X.prog X.w H s.heap a (.lst (ts.map V.ref)) from I.hok a _ e)
  have ei := refs_vals rv
  obtain ⟨ps, p1, p2, p3⟩ := prs_at I hp
  have p4 := Paired.length p1
  refine call_dictP (knd := mixKind X.prog X.w) (its := its.toArray) (ps := ps) hr.hd g (by rw [List.size_toArray, ei, List.length_map]; exact p2.symm) (fun i v p h1 h2 => p3 i v p (by rw [← ei]; simpa using h1) h2) (by omega) fun h' tk dd kp => ?_
  have dd' : h'.DictOf (mixKind X.prog X.w) s.heap.objs.size (storedAll ps) := dd
  refine ⟨.ref s.heap.objs.size, _, I.laid (a := s.heap.objs.size) (t' := tk) (o := .dK (putAll kvs)) kp (Nat.le_refl _) ⟨by have := putAll_len kvs; rw [sizeLine_eq]; omega, beq_eq_false_iff_ne.mpr (Ne.symm (Nat.ne_of_lt I.big)), _, putAll_rel p1 .nil, dd'⟩, rfl, q _ (I.hok.fresh (Nat.le_refl _))⟩
end
end L2
set_option Elab.async false
set_option linter.all false
set_option maxRecDepth 100000
set_option maxHeartbeats 4000000
namespace M
open PySem PySem.Spec PyProof.Rows L2 M6
noncomputable def keyOf : D → Option Key
  | .int i => some (.inl i)
  | .str x => some (.inr x)
  | _ => none
noncomputable def kD : Key → D
  | .inl i => .int i
  | .inr x => .str x
noncomputable def dHas (ks : List Key) (k : Key) : Bool := ks.any fun j => decide (j = k)
section
variable {K : PySem.W.Frag}
theorem rep_key {w : Wd} {d : D} {v : V} {k : Key} (h : Rep K w d v) (e : keyOf d = some k) : v = kV k := by
  cases d <;> simp only [keyOf] at e <;> cases e
  · simpa [Rep, kV] using h
  · simpa [Rep, kV] using h
theorem see_key {w : Wd} {S : Sto} {d : D} {v : V} {k : Key} (h : Rep K w d v) (e : keyOf (see S d) = some k) : v = kV k := by
  cases z : see S d <;> rw [z] at e <;> simp only [keyOf] at e <;> cases e
  · exact see_int h z
  · exact see_str h z
theorem kD_rep {w : Wd} (k : Key) : Rep K w (kD k) (kV k) := by cases k <;> simp [kD, kV, Rep]
theorem kDs_rep {w : Wd} : ∀ (kvs : List (Key × V)), Reps K w ((kvs.map (·.1)).map kD) (kvs.map fun x => kV x.1)
  | [] => .nil
  | p :: r => .cons (kD_rep p.1) (kDs_rep r)
noncomputable def aDNewK : AE := fun _ S Q => Q (.new (.dct [] [])) S
theorem s_dnewK : ∀ σ H Q, conE K aDNewK σ H Q → tDNewK σ H Q := by
  rintro σ H Q ⟨w, δ, S, Qa, ok, env, q, bk⟩ p hp
  exact bk (.new (.dct [] [])) S _ w _ .refl (ok.alloc hp) (ok.fresh hp ⟨[], rfl, rfl, .nil⟩) q
noncomputable def aDGetK (a b : AE) : AE := fun δ S Q => a δ S fun r1 S1 => b δ S1 fun r2 S2 => ∃ ks ds k d, see S2 r1.d = .dct ks ds ∧ keyOf r2.d = some k ∧ dGet ks ds k = some d ∧ Q (.dat d) S2
theorem s_dgetK {a b : AE} : ∀ σ H Q, conE K (aDGetK a b) σ H Q → tDGet (conE K a) (conE K b) σ H Q := by
  rintro σ H Q ⟨w, δ, S, Qa, ok, env, q, bk⟩
  refine ⟨w, δ, S, _, ok, env, q, .go fun r1 S1 v1 w1 H1 le1 ok1 rep1 q1 => ?_⟩
  refine ⟨w1, δ, S1, _, ok1, env.le le1, q1, .go fun r2 S2 v2 w2 H2 le2 ok2 rep2 ⟨ks, ds, k, d, z1, z2, z3, q2⟩ => ?_⟩
  obtain ⟨a, kvs, rfl, h1, rfl, h3⟩ := see_dct ok2 (rep1.le le2) z1
  obtain ⟨v, g1, g2⟩ := get_rep h3 z3
  rw [rep_key rep2 z2]
  refine ⟨a, v, rfl, ?_, bk.dat (le1.trans le2) ok2 g2 q2⟩
  rw [← g1]
  exact DGet.k h1
noncomputable def aDPutK (a b c : AE) : AS := fun D δ S => c δ S fun r3 S1 => a δ S1 fun r1 S2 => b δ S2 fun r2 S3 => ∃ n ks ds k, r1.d = .loc n ∧ keyOf r2.d = some k ∧ S3[n]? = some (some (.dct ks ds)) ∧ ds.length < 1000 ∧ D.nx δ (S3.set n (some (dPut ks ds k r3.d)))
theorem s_dputK {a b c : AE} : ∀ D σ H, conS K (aDPutK a b c) D σ H → sDPut (conE K a) (conE K b) (conE K c) D σ H := by
  rintro D σ H ⟨w, δ, S, Da, ok, env, q, bk⟩
  refine ⟨w, δ, S, _, ok, env, q, .go fun r3 S1 v3 w1 H1 le1 ok1 rep3 q1 => ?_⟩
  refine ⟨w1, δ, S1, _, ok1, env.le le1, q1, .go fun r1 S2 v1 w2 H2 le2 ok2 rep1 q2 => ?_⟩
  refine ⟨w2, δ, S2, _, ok2, (env.le le1).le le2, q2, .go fun r2 S3 v2 w3 H3 le3 ok3 rep2 ⟨n, ks, ds, k, z1, z2, z3, hl, q3⟩ => ?_⟩
  rw [z1] at rep1
  obtain ⟨a, kvs, rfl, h0, h1, rfl, h3⟩ := dct_at ok3 (rep1.le le3) z3
  rw [rep_key rep2 z2]
  have hlen : kvs.length = ds.length := by have := h3.length; rw [List.length_map] at this; exact this
  refine ⟨a, _, rfl, DPut.k h1 (by rw [hlen, sizeLine_eq]; omega), ?_⟩
  have ok4 := ok3.put z3 h0 (put_repO (k := k) (rep3.le (le2.trans le3)) h3)
  exact bk.nx δ _ σ w3 _ ((le1.trans le2).trans le3) ok4 (((env.le le1).le le2).le le3) q3
noncomputable def aInD (neg : Bool) : A2 := fun x y S Q => match see S y with
  | .dct ks _ => ∃ k, keyOf (see S x) = some k ∧ Q (.dat (.bl (neg != dHas ks k))) S
  | _ => False
theorem c_inK {neg : Bool} : ∀ x y H Q, con2 K (aInD neg) x y H Q → rInK neg x y H Q := by
  intro x y H Q h
  obtain ⟨w, d, e, S, Qa, ok, r1, r2, q, bk⟩ := h
  unfold aInD at q
  cases z : see S e <;> rw [z] at q <;> first | exact q.elim | skip
  obtain ⟨k, z1, q⟩ := q
  obtain ⟨a, kvs, rfl, h1, rfl, h3⟩ := see_dct ok r2 z
  refine ⟨a, kvs, k, rfl, see_key r1 z1, h1, bk.dat .refl ok .bl ?_⟩
  have e2 : dHas (kvs.map (·.1)) k = (valV kvs k).isSome := by
    unfold dHas
    rw [List.any_map]
    exact valV_any k kvs
  rw [← e2]; exact q
noncomputable def aListD : AN := fun ds S Q => ∃ d ks es, ds = [d] ∧ see S d = .dct ks es ∧ Q (.new (.lst (ks.map kD))) S
noncomputable def aSortD : AN := fun ds S Q => ∃ d es, ∃ ns : List Int, ds = [d] ∧ see S d = .dct (ns.map Sum.inl) es ∧ ns.length < 64 ∧ ∀ ns' : List Int, ns'.Perm ns → ns'.Pairwise (· ≤ ·) → Q (.new (.lst (ns'.map D.int))) S
noncomputable def dP2 (a : List Key × List D) (p : Key × D) : List Key × List D := if dHas a.1 p.1 = true then (a.1, (a.1.zip a.2).map fun x => if x.1 = p.1 then p.2 else x.2) else (a.1 ++ [p.1], a.2 ++ [p.2])
noncomputable def dAll (ps : List (Key × D)) : List Key × List D := ps.foldl dP2 ([], [])
noncomputable def aDictP : AN := fun ds S Q => ∃ d, ∃ ps : List (Key × D), ds = [d] ∧ see S d = .lst (ps.map fun p => .tup [kD p.1, p.2]) ∧ ps.length ≤ 1000 ∧ Q (.new (.dct (dAll ps).1 (dAll ps).2)) S
theorem dP2_put (a : List Key × List D) (p : Key × D) : dPut a.1 a.2 p.1 p.2 = .dct (dP2 a p).1 (dP2 a p).2 := by
  unfold dPut dP2 dHas
  split <;> rfl
theorem dAll_rep {w : Wd} : ∀ {ps : List (Key × D)} {kvs : List (Key × V)}, Paired (fun (p : Key × D) (q : Key × V) => p.1 = q.1 ∧ Rep K w p.2 q.2) ps kvs → ∀ {a : List Key × List D} {b : List (Key × V)}, b.map (·.1) = a.1 → Reps K w a.2 (b.map (·.2)) →
    (kvs.foldl (fun acc p => putK acc p.1 p.2) b).map (·.1) = (ps.foldl dP2 a).1 ∧ Reps K w (ps.foldl dP2 a).2 ((kvs.foldl (fun acc p => putK acc p.1 p.2) b).map (·.2))
  | [], _, h, a, b, g1, g2 => by cases h; exact ⟨g1, g2⟩
  | p :: ps, _, h, a, b, g1, g2 => by
    cases h with
    | @cons _ q _ kvs r t =>
      have hr := put_repO (K := K) (k := p.1) r.2 g2
      rw [g1] at hr
      rw [show dPut a.1 a.2 p.1 p.2 = _ from dP2_put a p] at hr
      obtain ⟨kvs', e1, e2, e3⟩ := hr
      injection e1 with e1
      subst e1
      rw [r.1] at e2 e3
      exact dAll_rep t e2 e3
theorem pairs_rep {w : Wd} {H : Hp} {S : Sto} (ok : Ok K w H S) : ∀ {ps : List (Key × D)} {xs : List V}, Reps K w (ps.map fun p => D.tup [kD p.1, p.2]) xs → ∃ ts kvs, xs = ts.map V.ref ∧ PrsH H ts kvs ∧ Paired (fun (p : Key × D) (q : Key × V) => p.1 = q.1 ∧ Rep K w p.2 q.2) ps kvs
  | [], xs, h => ⟨[], [], by simpa [Reps] using h, .nil, .nil⟩
  | p :: ps, xs, h => by
    simp only [List.map_cons, Reps] at h
    obtain ⟨x, r, rfl, h1, h2⟩ := h
    obtain ⟨ts, kvs, rfl, g1, g2⟩ := pairs_rep ok h2
    simp only [Rep] at h1
    obtain ⟨t, ys, rfl, hB, hy⟩ := h1
    simp only [Reps] at hy
    obtain ⟨y1, r1, rfl, k1, y2, r2, rfl, k2, rfl⟩ := hy
    have e1 : y1 = kV p.1 := rep_key k1 (by cases p.1 <;> rfl)
    subst e1
    exact ⟨t :: ts, (p.1, y2) :: kvs, rfl, .cons (ok.base _ _ hB) g1, .cons ⟨rfl, k2⟩ g2⟩
end
section
variable {X : Cx} {o i value : Expr} {pos pos' : Pos}
theorem pe_dnewK : GE X (.Dict [] [] pos) aDNewK := ⟨mE L2.pe_dnewK s_dnewK⟩
theorem pe_dgetK {ta tb : AE} (hu : X.A.units + 1 < cLine) (ho : GE X o ta) (hi : GE X i tb) (hs : NoSl i) : GE X (.Subscript o i pos) (aDGetK ta tb) := ⟨mE (L2.pe_dget hu ho.p hi.p hs) s_dgetK⟩
theorem ps_dputK {ta tb tc : AE} (hu : X.A.units + 1 < cLine) (ho : GE X o ta) (hi : GE X i tb) (hv : GE X value tc) (hs : swapsWith value (some (.Subscript o i pos')) pos.line X.env = pure false) : GS X (.Assign [.Subscript o i pos'] value pos) (aDPutK ta tb tc) :=
  ⟨mS (L2.ps_dput hu ho.p hi.p hv.p hs) s_dputK⟩
theorem o_notInD {k : Nat} (hr : Room k X.A) : Op2 X (compareOp .NotIn) (aInD true) := ⟨m2 (op_notInK (hu_of hr)) c_inK⟩
theorem o_listD {k : Nat} (hr : Room k X.A) : OpC X (.type "list") aListD := ⟨mC (call_listD hr) fun xs H Q h => by
  obtain ⟨w, ds, S, Qa, ok, rep, ⟨d, ks, es, rfl, z, q⟩, bk⟩ := h
  obtain ⟨v, rfl, r1⟩ := reps1 rep
  obtain ⟨a, kvs, rfl, h1, rfl, h3⟩ := see_dct ok r1 z
  exact ⟨a, kvs, rfl, h1, fun p hp => bk (.new (.lst _)) S _ w _ .refl (ok.alloc hp) (ok.fresh hp ⟨_, rfl, kDs_rep kvs⟩) q⟩⟩
theorem o_sortD {k : Nat} (hr : Room k X.A) : OpC X (.builtin "sorted") aSortD := ⟨mC (call_sortD hr) fun xs H Q h => by
  obtain ⟨w, ds, S, Qa, ok, rep, ⟨d, es, ns, rfl, z, hl, q⟩, bk⟩ := h
  obtain ⟨v, rfl, r1⟩ := reps1 rep
  obtain ⟨a, kvs, rfl, h1, h2, h3⟩ := see_dct ok r1 z
  refine ⟨a, kvs, ns, rfl, h1, ?_, hl, fun p ns' hp g1 g2 => bk (.new (.lst _)) S _ w _ .refl (ok.alloc hp) (ok.fresh hp ⟨_, rfl, reps_ints ns'⟩) (q ns' g1 g2)⟩
  have : (kvs.map fun x => kV x.1) = (kvs.map (·.1)).map kV := by rw [List.map_map]; rfl
  rw [this, h2, List.map_map]; rfl⟩
theorem o_dictP {k : Nat} (hr : Room k X.A) : OpC X (.type "dict") aDictP := ⟨mC (call_dictD hr) fun xs H Q h => by
  obtain ⟨w, ds, S, Qa, ok, rep, ⟨d, ps, rfl, z, hl, q⟩, bk⟩ := h
  obtain ⟨v, rfl, r1⟩ := reps1 rep
  obtain ⟨a, xs, rfl, h1, h2⟩ := see_lst ok r1 z
  obtain ⟨ts, kvs, rfl, g1, g2⟩ := pairs_rep ok h2
  have hlen := Paired.length g2
  obtain ⟨e1, e2⟩ := dAll_rep g2 (a := ([], [])) (b := []) rfl .nil
  exact ⟨a, ts, kvs, rfl, h1, g1, by omega, fun p hp => bk (.new (.dct (dAll ps).1 (dAll ps).2)) S _ w _ .refl (ok.alloc hp) (ok.fresh hp ⟨_, rfl, e1, e2⟩) q⟩⟩
end
end M
set_option Elab.async false
set_option linter.all false
set_option maxRecDepth 100000
set_option maxHeartbeats 4000000
namespace M
open PySem PySem.Spec PyProof.Rows L2 M6
noncomputable def nF (W : World) (ks : List D) : Addr → List Addr → Heap → Prop := fun a bs => nAt W a ((ks.map py).zip bs)
noncomputable def nO (W : World) (ks : List D) : MO := .ddt (nF W ks) ks
noncomputable def GoodK (d : D) : Prop := pur d = true ∧ okK (py d) = true ∧ (py d).depth ≤ 6 ∧ ∃ es, d = .tup es
noncomputable def putN (ks : List D) (k : D) : List D := if (ks.any fun j => decide (py j = py k)) = true then ks else ks ++ [k]
section
variable {K : PySem.W.Frag}
theorem good_ref {w : Wd} {H : Hp} {S : Sto} {d : D} {v : V} (ok : Ok K w H S) (h : Rep K w d v) (g : GoodK d) : ∃ b, v = .ref b ∧ DatV K H (py d) (.ref b) := by
  obtain ⟨g1, g2, g3, es, rfl⟩ := g
  have h2 := h
  simp only [Rep] at h2
  obtain ⟨b, ys, rfl, _⟩ := h2
  have := see_dat ok h (by simpa [see] using g1)
  exact ⟨b, rfl, by simpa [see] using this⟩
theorem keys_dat {w : Wd} {H : Hp} {S : Sto} (ok : Ok K w H S) : ∀ {ks : List D} {bs : List Addr}, Reps K w ks (bs.map V.ref) → (∀ k ∈ ks, GoodK k) → KeysD K H ((ks.map py).zip bs)
  | [], bs, _, _ => fun x hx => by simp at hx
  | k :: ks, [], h, _ => by simp only [List.map_nil, Reps] at h; obtain ⟨_, _, z, _⟩ := h; cases z
  | k :: ks, b :: bs, h, g => by
    simp only [List.map_cons, Reps] at h
    obtain ⟨x, r, e, h1, h2⟩ := h
    injection e with e1 e2
    subst e1; subst e2
    intro y hy
    rw [List.map_cons, List.zip_cons_cons] at hy
    rcases List.mem_cons.mp hy with rfl | hy
    · obtain ⟨b', e, hd⟩ := good_ref ok h1 (g k (by simp))
      cases e
      exact ⟨(g k (by simp)).2.1, (g k (by simp)).2.2.1, hd⟩
    · exact keys_dat ok h2 (fun k hk => g k (List.mem_cons_of_mem _ hk)) y hy
noncomputable def aDNewN (W : World) : AE := fun _ S Q => Q (.new (nO W [])) S
theorem s_dnewN {W : World} : ∀ σ H Q, conE K (aDNewN W) σ H Q → tDNewN W σ H Q := by
  rintro σ H Q ⟨w, δ, S, Qa, ok, env, q, bk⟩ p hp
  exact bk (.new (nO W [])) S _ w _ .refl (ok.alloc hp) (ok.fresh hp ⟨p, [], rfl, .nil⟩) q
noncomputable def aNPut (W : World) (a b c : AE) : AS := fun D δ S => c δ S fun r3 S1 => a δ S1 fun r1 S2 => b δ S2 fun r2 S3 => ∃ n ks, r3.d = .bl true ∧ r1.d = .loc n ∧ S3[n]? = some (some (nO W ks)) ∧ GoodK r2.d ∧ (∀ k ∈ ks, GoodK k) ∧ ks.length < 1000 ∧ D.nx δ (S3.set n (some (nO W (putN ks r2.d))))
theorem putA_zip {ks : List D} {bs : List Addr} {k : D} {b : Addr} (h : ks.length = bs.length) : ∃ bs', putA ((ks.map py).zip bs) (py k) b = ((putN ks k).map py).zip bs' ∧ (bs' = bs ∧ putN ks k = ks ∨ bs' = bs ++ [b] ∧ putN ks k = ks ++ [k]) := by
  have e : (((ks.map py).zip bs).any fun x => decide (x.1 = py k)) = (ks.any fun j => decide (py j = py k)) := by
    have : ((ks.map py).zip bs).map (·.1) = ks.map py := List.map_fst_zip (by rw [List.length_map]; omega)
    have h1 : (((ks.map py).zip bs).any fun x => decide (x.1 = py k)) = ((((ks.map py).zip bs).map (·.1)).any fun d => decide (d = py k)) := by rw [List.any_map]; rfl
    rw [h1, this, List.any_map]; rfl
  unfold putA putN
  rw [e]
  by_cases hc : (ks.any fun j => decide (py j = py k)) = true
  · rw [if_pos hc, if_pos hc]
    exact ⟨bs, rfl, .inl ⟨rfl, rfl⟩⟩
  · rw [if_neg hc, if_neg hc]
    refine ⟨bs ++ [b], ?_, .inr ⟨rfl, rfl⟩⟩
    rw [List.map_append, List.zip_append (by rw [List.length_map]; exact h)]; rfl
theorem s_nput {W : World} {a b c : AE} : ∀ D σ H, conS K (aNPut W a b c) D σ H → sNPut K W (conE K a) (conE K b) (conE K c) D σ H := by
  rintro D σ H ⟨w, δ, S, Da, ok, env, q, bk⟩
  refine ⟨w, δ, S, _, ok, env, q, .go fun r3 S1 v3 w1 H1 le1 ok1 rep3 q1 => ?_⟩
  refine ⟨w1, δ, S1, _, ok1, env.le le1, q1, .go fun r1 S2 v1 w2 H2 le2 ok2 rep1 q2 => ?_⟩
  refine ⟨w2, δ, S2, _, ok2, (env.le le1).le le2, q2, .go fun r2 S3 v2 w3 H3 le3 ok3 rep2 ⟨n, ks, z0, z1, z2, g1, g2, hl, q3⟩ => ?_⟩
  rw [z1] at rep1
  have rep1 := rep1.le le3
  simp only [Rep] at rep1
  obtain ⟨a, h0, rfl⟩ := rep1
  obtain ⟨a1, u, k1, k2, k3, a', bs, rfl, k5⟩ := ok3.live n _ z2
  rw [h0] at k1; cases k1
  obtain ⟨b, rfl, hb⟩ := good_ref ok3 rep2 g1
  have hlen : ks.length = bs.length := by have := k5.length; rw [List.length_map] at this; exact this.symm
  refine ⟨a, a', b, _, py r2.d, ?_, rfl, rfl, k3, keys_dat ok3 k5 g2, g1.2.1, g1.2.2.1, hb, ?_, fun e => ?_⟩
  · rw [rep_bl rep3 z0]
  · rw [List.length_zip, List.length_map]; omega
  · subst e
    obtain ⟨bs', e1, e2⟩ := putA_zip (k := r2.d) (b := b) hlen
    rw [e1]
    refine bk.nx δ _ σ w3 _ ((le1.trans le2).trans le3) (ok3.put z2 h0 (o' := nO W (putN ks r2.d)) ⟨a', bs', rfl, ?_⟩) (((env.le le1).le le2).le le3) q3
    rcases e2 with ⟨rfl, e⟩ | ⟨rfl, e⟩
    · rw [e]; exact k5
    · rw [e, List.map_append]; exact k5.snoc rep2
noncomputable def aSortN (W : World) : AN := fun ds S Q => ∃ n ks, ds = [.loc n] ∧ S[n]? = some (some (nO W ks)) ∧ (∀ k ∈ ks, GoodK k ∧ ∃ p r, py k = PyData.tuple (.int p :: r)) ∧ (∀ k ∈ ks, ∀ l ∈ ks, cmpK (py k) (py l) = true) ∧ ks.length < 64 ∧ ∀ ks' : List D, ks'.Perm ks → Q (.new (.lst ks')) S
theorem zip_rep {w : Wd} : ∀ {ks : List D} {bs : List Addr}, Reps K w ks (bs.map V.ref) → ∀ x ∈ ks.zip bs, Rep K w x.1 (.ref x.2)
  | [], _, _, x, hx => by simp at hx
  | _ :: _, [], _, x, hx => by simp at hx
  | k :: ks, b :: bs, h, x, hx => by
    simp only [List.map_cons, Reps] at h
    obtain ⟨y, r, e, h1, h2⟩ := h
    injection e with e1 e2
    subst e1; subst e2
    rw [List.zip_cons_cons] at hx
    rcases List.mem_cons.mp hx with rfl | hx
    · exact h1
    · exact zip_rep h2 x hx
theorem reps_of_pairs {w : Wd} : ∀ {o : List (D × Addr)}, (∀ x ∈ o, Rep K w x.1 (.ref x.2)) → Reps K w (o.map (·.1)) (o.map fun x => V.ref x.2)
  | [], _ => .nil
  | x :: o, h => .cons (h x (by simp)) (reps_of_pairs fun y hy => h y (List.mem_cons_of_mem _ hy))
end
section
variable {X : Cx} {o i value : Expr} {pos pos' : Pos}
theorem pe_dnewN : GE X (.Dict [] [] pos) (aDNewN X.w) := ⟨mE L2.pe_dnewN s_dnewN⟩
theorem ps_nput {k : Nat} (hr : Room k X.A) {ta tb tc : AE} (ho : GE X o ta) (hi : GE X i tb) (hv : GE X value tc) (hs : swapsWith value (some (.Subscript o i pos')) pos.line X.env = pure false) : GS X (.Assign [.Subscript o i pos'] value pos) (aNPut X.w ta tb tc) :=
  ⟨mS (L2.ps_nput (by have := hr.units; omega) ho.p hi.p hv.p hs) s_nput⟩
theorem o_sortN {k : Nat} (hr : Room k X.A) : OpC X (.builtin "sorted") (aSortN X.w) := ⟨mC (call_sortN hr) fun xs H Q h => by
  obtain ⟨w, ds, S, Qa, ok, rep, ⟨n, ks, rfl, z, g1, g2, hl, q⟩, bk⟩ := h
  obtain ⟨v, rfl, r1⟩ := reps1 rep
  simp only [Rep] at r1
  obtain ⟨a, h0, rfl⟩ := r1
  obtain ⟨a1, u, k1, k2, k3, a', bs, rfl, k5⟩ := ok.live n _ z
  rw [h0] at k1; cases k1
  have hlen : ks.length = bs.length := by have := k5.length; rw [List.length_map] at this; exact this.symm
  have mem1 : ∀ x ∈ (ks.map py).zip bs, ∃ k ∈ ks, x.1 = py k := fun x hx => by
    have := (List.of_mem_zip hx).1
    obtain ⟨k, hk, e⟩ := List.mem_map.mp this
    exact ⟨k, hk, e.symm⟩
  refine ⟨a, a', _, rfl, k3, keys_dat ok k5 (fun k hk => (g1 k hk).1), fun x hx => ?_, fun x hx y hy => ?_, by rw [List.length_zip, List.length_map]; omega, fun p out hp hperm => ?_⟩
  · obtain ⟨k, hk, e⟩ := mem1 x hx
    rw [e]; exact (g1 k hk).2
  · obtain ⟨k, hk, e⟩ := mem1 x hx
    obtain ⟨k', hk', e'⟩ := mem1 y hy
    rw [e, e']; exact g2 k hk k' hk'
  · have ez : (ks.map py).zip bs = (ks.zip bs).map fun x => (py x.1, x.2) := by rw [List.zip_map_left]; rfl
    rw [ez] at hperm
    obtain ⟨o', p1, rfl⟩ := perm_inv hperm
    have e2 : (List.map (fun k : PyData × Addr => V.ref k.2) (o'.map fun x => (py x.1, x.2))) = o'.map fun x => V.ref x.2 := by rw [List.map_map]; rfl
    rw [e2]
    refine bk (.new (.lst (o'.map (·.1)))) S _ w _ .refl (ok.alloc hp) (ok.fresh hp ⟨_, rfl, reps_of_pairs fun x hx => zip_rep k5 x (p1.mem_iff.mp hx)⟩) (q _ ?_)
    have := p1.map (·.1)
    rw [List.map_fst_zip (by omega)] at this
    exact this⟩
end
end M
set_option Elab.async false
set_option linter.all false
set_option maxRecDepth 100000
set_option maxHeartbeats 4000000
namespace M
open PySem PySem.Spec PyProof.Rows L2 M6
section
variable {K : PySem.W.Frag}
theorem upd_self {H : Hp} {a : Addr} {u : HO} (h : H a = some u) : upd H a u = H := by
  funext b
  by_cases hb : b = a
  · subst hb; rw [upd_same, h]
  · rw [upd_ne hb]
inductive FrzC (p : Nat) (ks : List Key) : List D → Sto → List D → Sto → Prop
  | nil {ds : List D} {S : Sto} : FrzC p ks ds S ds S
  | step {ds ds' es : List D} {S S' : Sto} {m : Nat} (h : S[m]? = some (some (.lst es))) (hm : m ≠ p) (t : FrzC p ks (ds.map (sb m (.lst es))) ((S.set m none).set p (some (.dct ks (ds.map (sb m (.lst es)))))) ds' S') : FrzC p ks ds S ds' S'
theorem frzC_ok {p : Nat} {ks : List Key} {ds ds' : List D} {S S' : Sto} (h : FrzC p ks ds S ds' S') : ∀ {w : Wd} {H : Hp}, S[p]? = some (some (.dct ks ds)) → Ok K w H S → ∃ w', w.le w' ∧ Ok K w' H S' := by
  induction h with
  | nil => exact fun _ ok => ⟨_, .refl, ok⟩
  | @step ds ds' es S S' m hS hm t ih =>
    intro w H hp ok
    obtain ⟨w1, le1, ok1, f⟩ := frz1 ok hS
    have hl : p < S.length := by
      rcases Nat.lt_or_ge p S.length with z | z
      · exact z
      · rw [List.getElem?_eq_none z] at hp; cases hp
    have hp1 : (S.set m none)[p]? = some (some (.dct ks ds)) := by rw [List.getElem?_set_ne hm]; exact hp
    obtain ⟨a, u, k1, k2, k3, kvs, rfl, k5, k6⟩ := ok.live p _ hp
    have k1' : w1.r p = some a := le1.r _ _ k1
    have ro : RepO K w1 (.dct ks (ds.map (sb m (.lst es)))) (.dK kvs) := ⟨kvs, rfl, k5, sb_rep le1 f k6⟩
    have ok2 := ok1.put hp1 k1' ro
    rw [upd_self k3] at ok2
    obtain ⟨w2, le2, ok3⟩ := ih (by rw [List.getElem?_set, if_pos rfl, if_pos (by simpa using hl)]) ok2
    exact ⟨w2, le1.trans le2, ok3⟩
noncomputable def aFrzD (a : AE) : AE := fun δ S Q => a δ S fun r S1 => ∃ p ks ds ds' S2, r = .dat (.loc p) ∧ S1[p]? = some (some (.dct ks ds)) ∧ FrzC p ks ds S1 ds' S2 ∧ Q (.dat (.loc p)) S2
theorem s_frzD {a : AE} : ∀ σ H Q, conE K (aFrzD a) σ H Q → conE K a σ H Q := by
  rintro σ H Q ⟨w, δ, S, Qa, ok, env, q, bk⟩
  refine ⟨w, δ, S, _, ok, env, q, fun r S1 v w1 H1 le1 ok1 rep1 ⟨p, ks, ds, ds', S2, er, hS, hf, q1⟩ => ?_⟩
  subst er
  have rep1 : Rep K w1 (.loc p) v := rep1
  obtain ⟨w2, le2, ok2⟩ := frzC_ok hf hS ok1
  exact bk.dat (le1.trans le2) ok2 (rep1.le le2) q1
end
section
variable {X : Cx} {e : Expr}
theorem freD {t : AE} (h : GE X e t) : GE X e (aFrzD t) := ⟨mE h.p s_frzD⟩
end
end M
set_option Elab.async false
set_option linter.all false
set_option maxRecDepth 100000
set_option maxHeartbeats 4000000
namespace M7
open PySem PySem.Spec PyProof.Rows M5
noncomputable def Rise (xs : Array Nat) : Prop := ∀ i j, i < j → (hj : j < xs.size) → (hi : i < xs.size) → xs[i] < xs[j]
theorem below_go {xs : Array Nat} (hx : Rise xs) (j : Nat) : ∀ (f lo hi : Nat), hi - lo ≤ f → lo ≤ hi → hi ≤ xs.size → (∀ i (h : i < xs.size), i < lo → xs[i] < j) → (∀ i (h : i < xs.size), hi ≤ i → j ≤ xs[i]) →
    SetTable.below.go xs j f lo hi ≤ xs.size ∧ (∀ i (h : i < xs.size), i < SetTable.below.go xs j f lo hi → xs[i] < j) ∧ ∀ i (h : i < xs.size), SetTable.below.go xs j f lo hi ≤ i → j ≤ xs[i]
  | 0, lo, hi, h1, h2, h3, h4, h5 => by
    rw [SetTable.below.go.eq_1]
    have : hi = lo := by omega
    subst this
    exact ⟨h3, h4, h5⟩
  | f + 1, lo, hi, h1, h2, h3, h4, h5 => by
    rw [SetTable.below.go.eq_2]
    by_cases hl : lo < hi
    · rw [if_pos hl]
      dsimp only
      have hm : (lo + hi) / 2 < xs.size := by omega
      have eg : xs.getD ((lo + hi) / 2) j = xs[(lo + hi) / 2] := by simp [Array.getD, hm]
      rw [eg]
      by_cases hc : xs[(lo + hi) / 2] < j
      · rw [if_pos hc]
        refine below_go hx j f _ hi (by omega) (by omega) h3 (fun i h hi' => ?_) h5
        rcases Nat.lt_or_ge i ((lo + hi) / 2) with z | z
        · have := hx i _ z hm h; omega
        · obtain rfl : i = (lo + hi) / 2 := by omega
          exact hc
      · rw [if_neg hc]
        refine below_go hx j f lo _ (by omega) (by omega) (by omega) h4 (fun i h hi' => ?_)
        rcases Nat.lt_or_ge ((lo + hi) / 2) i with z | z
        · have := hx _ i z h hm; omega
        · obtain rfl : i = (lo + hi) / 2 := by omega
          omega
    · rw [if_neg hl]
      have : hi = lo := by omega
      subst this
      exact ⟨h3, h4, h5⟩
theorem below_ok {xs : Array Nat} (hx : Rise xs) (j : Nat) : SetTable.below xs j ≤ xs.size ∧ (∀ i (h : i < xs.size), i < SetTable.below xs j → xs[i] < j) ∧ ∀ i (h : i < xs.size), SetTable.below xs j ≤ i → j ≤ xs[i] :=
  below_go hx j xs.size 0 xs.size (by omega) (Nat.zero_le _) (Nat.le_refl _) (fun i h z => absurd z (Nat.not_lt_zero _)) (fun i h z => by omega)
theorem below_next {xs : Array Nat} (hx : Rise xs) {i : Nat} (hi : i < xs.size) : SetTable.below xs (xs[i] + 1) = i + 1 := by
  obtain ⟨h1, h2, h3⟩ := below_ok hx (xs[i] + 1)
  have a1 : i < SetTable.below xs (xs[i] + 1) := by
    rcases Nat.lt_or_ge i (SetTable.below xs (xs[i] + 1)) with z | z
    · exact z
    · have := h3 i hi z; omega
  rcases Nat.lt_or_ge (i + 1) (SetTable.below xs (xs[i] + 1)) with z | z
  · have hs : i + 1 < xs.size := by omega
    have := h2 (i + 1) hs z
    have := hx i (i + 1) (by omega) hs hi
    omega
  · omega
theorem below_zero {xs : Array Nat} (hx : Rise xs) : SetTable.below xs 0 = 0 := by
  obtain ⟨h1, h2, h3⟩ := below_ok hx 0
  rcases Nat.eq_zero_or_pos (SetTable.below xs 0) with z | z
  · exact z
  · have := h2 0 (by omega) z; omega
theorem rise_list {xs : Array Nat} : Rise xs ↔ xs.toList.Pairwise (· < ·) := by
  rw [List.pairwise_iff_getElem]
  constructor
  · intro h i j hi hj hij
    have := h i j hij (by simpa using hj) (by simpa using hi)
    simpa using this
  · intro h i j hij hj hi
    have := h i j (by simpa using hi) (by simpa using hj) hij
    simpa using this
theorem rise_put {xs : Array Nat} {j : Nat} (hx : Rise xs) (hj : (xs[SetTable.below xs j]? == some j) = false) : Rise (SetTable.insertAt xs (SetTable.below xs j) j) := by
  obtain ⟨h1, h2, h3⟩ := below_ok hx j
  rw [rise_list] at hx ⊢
  have e : (SetTable.insertAt xs (SetTable.below xs j) j).toList = xs.toList.take (SetTable.below xs j) ++ [j] ++ xs.toList.drop (SetTable.below xs j) := by
    unfold SetTable.insertAt
    simp [Array.toList_extract]
    exact List.take_of_length_le (by simp)
  rw [e]
  generalize SetTable.below xs j = p at *
  have ht : ∀ x ∈ xs.toList.take p, x < j := fun x hx' => by
    obtain ⟨i, hi, rfl⟩ := List.getElem_of_mem hx'
    rw [List.length_take] at hi
    have := h2 i (by simp at hi; omega) (by omega)
    simpa using this
  have hd : ∀ x ∈ xs.toList.drop p, j < x := fun x hx' => by
    obtain ⟨i, hi, rfl⟩ := List.getElem_of_mem hx'
    rw [List.length_drop] at hi
    have hi' : p + i < xs.size := by simp at hi; omega
    have a1 := h3 (p + i) hi' (by omega)
    have e1 : (xs.toList.drop p)[i] = xs[p + i] := by simp
    rw [e1]
    have hps : p < xs.size := by omega
    have a2 : xs[p] ≠ j := fun z => by
      rw [Array.getElem?_eq_getElem hps, z] at hj
      simp at hj
    rcases Nat.eq_zero_or_pos i with rfl | z
    · have : xs[p + 0] = xs[p] := rfl
      omega
    · have a3 := h3 p hps (Nat.le_refl _)
      have a4 := rise_list.mpr hx p (p + i) (by omega) hi' hps
      omega
  rw [List.pairwise_append, List.pairwise_append]
  refine ⟨⟨hx.sublist (List.take_sublist ..), by simp, fun a ha b hb => ?_⟩, hx.sublist (List.drop_sublist ..), fun a ha b hb => ?_⟩
  · rw [List.mem_singleton.mp hb]; exact ht a ha
  · rcases List.mem_append.mp ha with ha | ha
    · exact Nat.lt_trans (ht a ha) (hd b hb)
    · rw [List.mem_singleton.mp ha]; exact hd b hb
theorem fst_sub {α : Type} (f : Nat → Option α) : ∀ l : List Nat, (List.map (fun x => x.1) (List.filterMap (fun j => Option.map (fun x => (j, x)) (f j)) l)).Sublist l
  | [] => .slnil
  | a :: l => by
    rw [List.filterMap_cons]
    cases f a with
    | none => exact .cons a (fst_sub f l)
    | some x => exact .cons₂ a (fst_sub f l)
noncomputable def Neat (t : SetTable) : Prop := t.dummies = #[] ∧ (t.plain = true → Rise t.place)
theorem neat_stand (t : SetTable) (n : Nat) : Neat (t.standIn n) := ⟨rfl, fun z => by cases z⟩
theorem neat_or {t : SetTable} {n : Nat} (h : Neat t) : Neat (t.orStandIn n) := by
  unfold SetTable.orStandIn
  split
  · exact h
  · exact neat_stand t n
theorem neat_laid {mask finger moves : Nat} {led plain : Bool} {hs : Array Int} {t : SetTable} {o : Array Nat} (h : SetTable.laid mask finger moves led plain hs = some (t, o)) : Neat t := by
  unfold SetTable.laid at h
  cases hl : SetTable.layClean mask hs with
  | none => rw [hl] at h; cases h
  | some ow =>
    rw [hl] at h
    have h : some _ = some _ := h
    injection h with h
    injection h with h1 h2
    subst h1
    refine ⟨rfl, fun _ => ?_⟩
    rw [rise_list]
    exact List.Pairwise.sublist (fst_sub _ _) List.pairwise_lt_range
theorem neat_relay {t : SetTable} {es : Array (Int × Value)} {n : Nat} : Neat (relayAll t es n).2.1 := by
  unfold relayAll
  split
  · rename_i t' order he
    dsimp only
    split
    · exact neat_laid he
    · exact neat_stand _ _
  · exact neat_stand _ _
theorem probe_free {t : SetTable} (hd : t.dummies = #[]) {hashAt : Nat → Int} {h : Int} : ∀ (f : Nat) (p : SetTable.Probe) {j : Nat} {dm : Option Nat}, p.dummy = none → SetTable.probe.go t hashAt h f p = some (.empty j dm) → dm = none ∧ (t.place[SetTable.below t.place j]? == some j) = false
  | 0, p, j, dm, _, e => by rw [SetTable.probe.go.eq_1] at e; cases e
  | f + 1, p, j, dm, hp, e => by
    rw [SetTable.probe.go.eq_2] at e
    have hs : ∀ q, t.slot q = if (t.place[SetTable.below t.place q]? == some q) = true then .live (SetTable.below t.place q) else .empty := fun q => by
      unfold SetTable.slot
      dsimp only
      rw [hd]
      have : SetTable.has #[] q = false := by unfold SetTable.has; rfl
      rw [this]; rfl
    have adv : (t.advance p).dummy = none := by
      unfold SetTable.advance
      split
      · exact hp
      · exact hp
    rw [hs] at e
    by_cases hc : (t.place[SetTable.below t.place p.j]? == some p.j) = true
    · rw [if_pos hc] at e
      dsimp only at e
      split at e
      · cases e
      · exact probe_free hd f _ adv e
    · rw [if_neg hc] at e
      dsimp only at e
      injection e with e
      injection e with e1 e2
      subst e1
      exact ⟨by rw [← e2]; exact hp, by simpa using hc⟩
theorem neat_new {t : SetTable} {es : Array (Int × Value)} {h : Int} {x : Value} (hn : Neat t) : Neat (layNew t es h x).2.1 := by
  unfold layNew
  split
  · rename_i slot wd he
    dsimp only
    refine neat_or ?_
    unfold SetTable.freeSlot at he
    split at he
    · rename_i j dm hp
      injection he with he
      injection he with e1 e2
      obtain ⟨rfl, h2⟩ := probe_free hn.1 _ _ rfl hp
      have e1 : j = slot := e1
      subst e1
      have hh : SetTable.has t.dummies j = false := by rw [hn.1]; unfold SetTable.has; rfl
      refine ⟨?_, fun z => ?_⟩
      · show (if SetTable.has t.dummies j = true then _ else t.dummies) = #[]
        rw [if_neg (by rw [hh]; decide)]; exact hn.1
      · exact rise_put (hn.2 z) h2
    · cases he
  · exact neat_stand _ _
noncomputable def intOf : Value → Int
  | .int i _ => i
  | _ => 0
noncomputable def IObj (prog : Program) (w : World) (o : Obj) (S : List Int) : Prop :=
  ∃ es ep t, o.ExactSet ∧ o.data = .set es ep t ∧ ElemsOf (PySem.intKind prog w) es.toList ∧ (es.toList.map fun e => intOf e.2).Perm S ∧ t.fits es.size = true ∧ t.led = (!w.params.followText "set-order") ∧ Neat t
noncomputable def IAt (prog : Program) (w : World) (h : Heap) (a : Addr) (S : List Int) : Prop := ∃ o, h.get? a = some o ∧ IObj prog w o S
noncomputable def addI (S : List Int) (x : Int) : List Int := if x ∈ S then S else S ++ [x]
section
variable {prog : Program} {w : World} {A : Around} {E : Value → Shared → Prop} {s : Shared}
theorem isKI (x : Int) (t : Tok) : (PySem.intKind prog w).is x (.int x t) = true := by
  show Value.isInt x (.int x t) = true
  simp [Value.isInt]
theorem intOfK {x : Int} {v : Value} (h : (PySem.intKind prog w).is x v = true) : intOf v = x := by
  obtain ⟨t, rfl⟩ := Value.isInt_shape h
  rfl
theorem add_int {a : Addr} {S : List Int} {x : Int} {tk : Tok} {Q : Bool → Shared → Prop} (hS : IAt prog w s.heap a S) (hn : S.length + 1 < 4096)
    (h : ∀ b h', Heap.SameBut a s.heap h' → IAt prog w h' a (addI S x) → Q b { s with heap := h' }) :
    wpAny (model prog w) A (setAddHashed a (.int x tk) ((PySem.intKind prog w).hash x)) Q E s := by
  obtain ⟨o, ho, es, ep, t, hex, hd, hel, hp, hf, hled, hpl⟩ := hS
  have hlen : es.size = S.length := by rw [← hp.length_eq, List.length_map, Array.length_toList]
  have hb : es.size < scanBound := by show es.size < 4096; omega
  unfold setAddHashed
  unfold setAddHashedIn
  refine wpAny_holding (wpAny_bind (wpAny_setState_of ho hd hf ?_))
  dsimp only
  rw [byScan_of (x := .int x tk) rfl hb hel, if_pos rfl]
  unfold setAddByScan
  refine wpAny_bind (wpAny_bind (wpAny_rule (wpAny_bind (wpAny_setScan_of (k := x) (isKI x tk) ho hd hf hel ?_))))
  cases hr : List.findIdx? (fun e => (PySem.intKind prog w).is x e.2) es.toList with
  | some j =>
    obtain ⟨hj, hpj, _⟩ := List.findIdx?_eq_some_iff_getElem.mp hr
    have hx : x ∈ S := hp.mem_iff.mp (List.mem_map.mpr ⟨_, List.getElem_mem hj, intOfK hpj⟩)
    dsimp only
    refine wpAny_pure (wpAny_pure ?_)
    have q := h false s.heap (Heap.SameBut.refl a s.heap) (by
      unfold addI
      rw [if_pos hx]
      exact ⟨o, ho, es, ep, t, hex, hd, hel, hp, hf, hled, hpl⟩)
    exact q
  | none =>
    have hx : x ∉ S := fun hx => by
      obtain ⟨e, he, z⟩ := List.mem_map.mp (hp.mem_iff.mpr hx)
      obtain ⟨⟨k, hk, _⟩, _⟩ := hel e he
      rw [intOfK hk] at z
      subst z
      have := List.findIdx?_eq_none_iff.mp hr e he
      rw [hk] at this; cases this
    dsimp only
    have hlp := layNew_perm t es ((PySem.intKind prog w).hash x) (.int x tk)
    have hlf := layNew_fits t es ((PySem.intKind prog w).hash x) (.int x tk)
    have hln := neat_new (es := es) (h := (PySem.intKind prog w).hash x) (x := .int x tk) hpl
    have hlk := layNew_kept t es ((PySem.intKind prog w).hash x) (.int x tk)
    generalize layNew t es ((PySem.intKind prog w).hash x) (.int x tk) = L at hlp hlf hlk hln ⊢
    obtain ⟨es1, t1, wd, gv⟩ := L
    dsimp only at hlp hlf hlk hln ⊢
    rw [Array.toList_push] at hlp
    have hel1 : ElemsOf (PySem.intKind prog w) es1.toList := (hel.push (isKI x tk) rfl).perm hlp
    have hp1 : (es1.toList.map fun e => intOf e.2).Perm (S ++ [x]) := by
      refine (hlp.map _).trans ?_
      rw [List.map_append]
      exact hp.append_right [x]
    have hsz1 : es1.size = S.length + 1 := by rw [← Array.length_toList, ← List.length_map (f := fun e : Int × Value => intOf e.2), hp1.length_eq, List.length_append]; rfl
    have gw : ∀ (b : Bool) {s₁ : Shared} {Q' : Unit → Shared → Prop}, Q' () s₁ → wpAny (model prog w) A (match b with | true => rule "set.scan.the-table-gave-way" | false => pure ()) Q' E s₁ := by
      intro b s₁ Q' q
      cases b
      · exact wpAny_pure q
      · exact wpAny_rule q
    refine wpAny_bind (gw _ ?_)
    have fin : ∀ (t2 : SetTable), t2.fits es1.size = true → t2.led = t.led → Neat t2 → wpAny (model prog w) A (do
        storeSet a es1 t2
        if (!wd && t2.tooFull) = true then do
            (match (relayAll t2 es1 (SetTable.grown es1.size)).2.2 with | true => rule "set.scan.the-table-gave-way" | false => pure ())
            storeSet a (relayAll t2 es1 (SetTable.grown es1.size)).1 (relayAll t2 es1 (SetTable.grown es1.size)).2.1
            pure (some true)
          else pure (some true)) (fun r s' => r = some true ∧ Q true s') E s := by
      intro t2 f2 l2 p2
      refine wpAny_bind (wpAny_storeSet_of ho hd ?_ (by rw [hsz1, sizeLine_eq]; omega))
      have ho1 := upd_set es1 t2 ho hd
      have sb1 := Heap.SameBut.update s.heap a (Obj.putSet es1 t2)
      split
      · have rp := relayAll_perm t2 es1 (SetTable.grown es1.size)
        have rf := relayAll_fits t2 es1 (SetTable.grown es1.size)
        have rk := relayAll_kept t2 es1 (SetTable.grown es1.size)
        have rn : Neat (relayAll t2 es1 (SetTable.grown es1.size)).2.1 := neat_relay
        generalize relayAll t2 es1 (SetTable.grown es1.size) = Rl at rp rf rk rn ⊢
        obtain ⟨es2, t3, g2⟩ := Rl
        dsimp only at rp rf rk rn ⊢
        have hsz2 : es2.size = es1.size := by rw [← Array.length_toList, rp.length_eq, Array.length_toList]
        refine wpAny_bind (gw _ ?_)
        refine wpAny_bind (wpAny_storeSet_of ho1 rfl ?_ (by rw [hsz2, hsz1, sizeLine_eq]; omega))
        refine wpAny_pure ⟨rfl, h true _ (sb1.trans (Heap.SameBut.update _ a _)) ⟨_, upd_set es2 t3 ho1 rfl, es2, _, t3, hex, rfl, hel1.perm rp, ?_, rf, rk.1.trans (l2.trans hled), rn⟩⟩
        · unfold addI; rw [if_neg hx]; exact (rp.map _).trans hp1
      · refine wpAny_pure ⟨rfl, h true _ sb1 ⟨_, ho1, es1, _, t2, hex, rfl, hel1, ?_, f2, l2.trans hled, p2⟩⟩
        unfold addI; rw [if_neg hx]; exact hp1
    cases hpt : t1.plain with
    | true =>
      rw [if_pos rfl]
      refine wpAny_bind ?_
      rw [hashByValue_scannable 8 (x := .int x tk) rfl]
      refine wpAny_pure ?_
      refine wpAny_mono (fin _ ?_ ?_ ?_) ?_ (fun _ _ z => z)
      · rw [if_pos (by simp [plainKind])]; exact hlf
      · rw [if_pos (by simp [plainKind])]; exact hlk.1
      · rw [if_pos (by simp [plainKind])]; exact hln
      · rintro r s' ⟨rfl, q⟩
        exact wpAny_pure q
    | false =>
      rw [if_neg (by decide)]
      refine wpAny_bind (wpAny_pure ?_)
      refine wpAny_mono (fin _ ?_ ?_ ?_) ?_ (fun _ _ z => z)
      · rw [if_pos rfl]; exact hlf
      · rw [if_pos rfl]; exact hlk.1
      · rw [if_pos rfl]; exact hln
      · rintro r s' ⟨rfl, q⟩
        exact wpAny_pure q
end
noncomputable def allI (val : Nat → Int) : Nat → List Int
  | 0 => []
  | i + 1 => addI (allI val i) (val i)
theorem addI_len (S : List Int) (x : Int) : (addI S x).length ≤ S.length + 1 := by
  unfold addI
  split
  · omega
  · rw [List.length_append]; exact Nat.le_refl _
theorem allI_len (val : Nat → Int) : ∀ i, (allI val i).length ≤ i
  | 0 => Nat.le_refl _
  | i + 1 => Nat.le_trans (addI_len ..) (Nat.succ_le_succ (allI_len val i))
theorem IAt.keep {prog : Program} {w : World} {h h' : Heap} {a : Addr} {S : List Int} (x : IAt prog w h a S) (e : ∀ o, h.get? a = some o → h'.get? a = some o) : IAt prog w h' a S :=
  let ⟨o, ho, r⟩ := x; ⟨o, e o ho, r⟩
section
variable {prog : Program} {w : World} {A : Around} {R : Result → Shared → Prop} {I : Addr} {fp wr : List Addr} {G : Array GenState → Array GenState → Prop} {n : Nat} {P : Nat → Value → Prop} {St : Nat → Shared → Prop}
theorem loop_int (W : WalksS prog w A.in1 I fp wr G n P St) (a : Addr) (ha : a ∉ fp) (val : Nat → Int) (hval : ∀ i v, P i v → ∃ t, v = .int (val i) t) (hn : n < 4000) :
    ∀ (k i : Nat) (s : Shared), n - i = k → i ≤ n → St i s → IAt prog w s.heap a (allI val i) →
      (∀ s', Moved (a :: wr) G s s' → IAt prog w s'.heap a (allI val n) → R (.ok (.ret .none)) s') →
      codeAny (model prog w) A (.builtin "set.update.loop" ⟨[.ref a, .ref I], []⟩) R s := by
  have haw : a ∉ wr := fun z => ha (W.sub _ z)
  have sub : ∀ b ∈ wr, b ∈ a :: wr := fun b z => List.mem_cons_of_mem _ z
  intro k
  induction k with
  | zero =>
    intro i s hk hi hst hS hR
    obtain rfl : i = n := by omega
    refine codeAny_builtin PyProof.Rows.F.entry_set_update_loop ?_
    rw [Around.under_plainId PyProof.Rows.F.plain_set_update_loop _]
    show wpAny _ A.in1 (pyNext (.ref I) >>= _) _ _ s
    refine wpAny_bind (W.done s _ _ hst fun s' hm => ?_)
    exact wpAny_pure (hR s' (hm.mono sub) (hS.keep fun o e => hm.heap a o haw e))
  | succ k ih =>
    intro i s hk hi hst hS hR
    have hlt : i < n := by omega
    refine codeAny_builtin PyProof.Rows.F.entry_set_update_loop ?_
    rw [Around.under_plainId PyProof.Rows.F.plain_set_update_loop _]
    show wpAny _ A.in1 (pyNext (.ref I) >>= _) _ _ s
    refine wpAny_bind (W.item i s _ _ hlt hst fun v s' hP hst' hm => ?_)
    obtain ⟨t, rfl⟩ := hval i v hP
    have hS' : IAt prog w s'.heap a (allI val i) := hS.keep fun o e => hm.heap a o haw e
    show wpAny _ A.in1 (holding [Value.int (val i) t] (setAdd a (.int (val i) t)) >>= _) _ _ s'
    refine wpAny_bind (wpAny_holding ?_)
    unfold setAdd
    refine wpAny_holding (wpAny_bind ((PySem.intKind prog w).pyHash (k := val i) (isKI _ _) ?_))
    have := allI_len val i
    refine add_int (s := { s' with toks := s'.toks + 1 }) hS' (by omega) fun b h' hsb hS2 => ?_
    refine wpAny_pure ⟨plainId_quiet PyProof.Rows.F.plain_set_update_loop _, ih (i + 1) _ (by omega) hlt (W.frame _ s' _ _ hst' (Nat.le_succ _) fun b hb o e => ?_) hS2 fun s'' hm'' hS'' => ?_⟩
    · rw [hsb.2 b fun z : b = a => ha (z ▸ hb)]; exact e
    · refine hR s'' (Moved.trans W.gtrans ((hm.mono sub).then_heap (Nat.le_succ _) fun b o hb e => ?_) hm'') hS''
      rw [hsb.2 b fun z : b = a => hb (z ▸ List.mem_cons_self)]; exact e
end
section
variable {prog : Program} {w : World} {A : Around} {E : Value → Shared → Prop} {s : Shared}
theorem IAt_fresh {h : Heap} {a : Addr} (e : h.get? a = some (freshSet (!w.params.followText "set-order"))) : IAt prog w h a [] :=
  ⟨_, e, #[], 0, _, ⟨rfl, rfl, rfl⟩, rfl, fun e he => by simp at he, .nil, rfl, rfl, rfl, fun _ => fun i j _ hj _ => absurd hj (by simp [SetTable.fresh])⟩
theorem call_setI {l : Addr} {T : String} {ob : Obj} {n : Nat} {P : Nat → Value → Prop} {St : Addr → Nat → Heap → Prop} {val : Nat → Int} {Q : Value → Shared → Prop}
    (hh : A.handled = none) (hT : s.TypeIs (.ref l) T) (h1 : isSubtype (.type T) (.type "set") = pure false) (h2 : isSubtype (.type T) (.type "frozenset") = pure false) (h3 : (Value.type T == Value.type "dict") = false)
    (it : ∀ {A' : Around} {s' : Shared} {Q' : Value → Shared → Prop} {E' : Value → Shared → Prop}, (∀ b o, s.heap.get? b = some o → s'.heap.get? b = some o) → Q' (.ref s'.heap.objs.size) { s' with heap := s'.heap.push ob } → wpAny (model prog w) A' (pyIter (.ref l)) Q' E' s')
    (hob : ob.isFreed = false) (W : ∀ {A' : Around} (I : Addr), A'.handled = none → l ≠ I → Walks prog w A' I [I, l] [I] n P (St I)) (st0 : ∀ I h', (∀ b o, s.heap.get? b = some o → h'.get? b = some o) → h'.get? I = some ob → St I 0 h')
    (hval : ∀ i v, P i v → ∃ t, v = .int (val i) t) (hn : n < 4000)
    (h : ∀ (h' : Heap) (tk : Nat), IAt prog w h' s.heap.objs.size (allI val n) → (∀ b o, b < s.heap.objs.size → s.heap.get? b = some o → h'.get? b = some o) → Q (.ref s.heap.objs.size) { s with heap := h', toks := tk }) :
    wpAny (model prog w) A (call (.type "set") [.ref l]) Q E s := by
  obtain ⟨c, tl, hmro⟩ := PySem.F.called_set.mro
  have hmade := PySem.F.called_set.made
  have hsub := PySem.F.called_set.sub
  have g1 := PySem.F.called_set.notType
  have g2 := PySem.F.called_set.canCreate
  have hct := PySem.F.typeCall_set_1 (.ref l)
  refine wpAny_call (codeAny_of_tree ?_)
  show wpAny _ _ (callAny (.type "set") _) _ _ _
  refine wpAny_pure ⟨Code.quiet_builtin _ (by decide +kernel), codeAny_builtin PySem.F.entry_type_call ?_⟩
  rw [Around.under_plain (weight_type_call_type "set" [.ref l] []) rfl]
  repeat (any_goals (first | assumption | wp_step))
  generalize hled : (!w.params.followText "set-order") = led
  refine codeAny_mono (set_new (.ref l) (E := E) (Q₁ := fun u s₁ => u = .ref s.heap.objs.size ∧ s₁ = { s with heap := s.heap.push (freshSet led) }) ⟨rfl, by rw [hled]⟩) fun r s₁ hr => ?_
  cases r with
  | error e => exact hr
  | ok fl =>
    cases fl with
    | ret u =>
      obtain ⟨rfl, rfl⟩ := hr
      have gS : (s.heap.push (freshSet led)).get? s.heap.objs.size = some (freshSet led) := Heap.get?_push_size _ rfl
      have tS : Shared.TypeIs { s with heap := s.heap.push (freshSet led) } (.ref s.heap.objs.size) "set" := ⟨_, gS, rfl⟩
      have hli := PySem.F.called_set.init.lookup
      have hbi := PySem.F.called_set.init.bind (.ref s.heap.objs.size)
      repeat (any_goals (first | assumption | wp_step))
      refine codeAny_mono (codeAny_call_builtin (R := wants (fun r s₂ => r = .none ∧ ∃ h' tk, s₂ = { s with heap := h', toks := tk } ∧ IAt prog w h' s.heap.objs.size (allI val n) ∧ (∀ b o, b < s.heap.objs.size → s.heap.get? b = some o → h'.get? b = some o)) E) PySem.F.called_set.init.plain PySem.F.entry_set_init (check_set_init_1 tS ?_)) fun r₂ s₂ hr₂ => ?_
      · have hlS : l < s.heap.objs.size := by obtain ⟨o, ho, _⟩ := hT; exact Heap.lt_size ho
        have kp : ∀ b o, s.heap.get? b = some o → (s.heap.push (freshSet led)).get? b = some o := fun b o e => Heap.get?_push_of_some _ e
        have tl1 : Shared.TypeIs { s with heap := s.heap.push (freshSet led) } (.ref l) T := by obtain ⟨o, ho, z⟩ := hT; exact ⟨o, kp _ _ ho, z⟩
        unfold Builtin.«set.__init__» noKeywords Builtin.Frozenset.updateFrom
        generalize hPI : pyIter = PI
        wp_walk
        subst hPI
        refine it kp ?_
        have sz : (s.heap.push (freshSet led)).objs.size = s.heap.objs.size + 1 := Heap.size_push ..
        have kp2 : ∀ b o, s.heap.get? b = some o → ((s.heap.push (freshSet led)).push ob).get? b = some o := fun b o e => Heap.get?_push_of_some _ (kp b o e)
        have hne : l ≠ (s.heap.push (freshSet led)).objs.size := by rw [sz]; exact Nat.ne_of_lt (Nat.lt_succ_of_lt hlS)
        have hSf : s.heap.objs.size ∉ [(s.heap.push (freshSet led)).objs.size, l] := by
          rw [sz]
          simp only [List.mem_cons, List.not_mem_nil, or_false]
          rintro (z | z)
          · exact absurd z (by omega)
          · rw [z] at hlS; exact Nat.lt_irrefl _ hlS
        refine wpAny_bind (wpAny_runValue ?_)
        refine loop_int (W (A' := A.in1.in1.in1) _ hh hne).toS s.heap.objs.size hSf val hval hn (n - 0) 0 _ rfl (Nat.zero_le _) ?_ ?_ ?_
        · exact st0 _ _ kp2 (Heap.get?_push_size _ hob)
        · exact IAt_fresh (by rw [hled]; exact Heap.get?_push_of_some _ gS)
        · intro s' hm hS'
          obtain ⟨h', g', d', tk', os'⟩ := s'
          obtain rfl : g' = s.gens := hm.gens
          obtain rfl : d' = s.drawn := hm.drawn
          obtain rfl : os' = s.os := hm.os
          refine wpAny_pure (wpAny_pure ⟨rfl, h', tk', rfl, hS', fun b o hb e => hm.heap b o ?_ (kp2 b o e)⟩)
          rw [sz]
          simp only [List.mem_cons, List.not_mem_nil, or_false]
          rintro (z | z)
          · exact Nat.ne_of_lt hb z
          · exact Nat.ne_of_lt (Nat.lt_succ_of_lt hb) z
      · cases r₂ with
        | error e => exact hr₂
        | ok fl₂ =>
          cases fl₂ with
          | ret r =>
            obtain ⟨rfl, h', tk, rfl, hS', hk'⟩ := hr₂
            repeat (any_goals (first | assumption | wp_step))
            exact h _ _ hS' hk'
          | _ => exact hr₂.elim
    | _ => exact hr.elim
theorem set_tupleI {l : Addr} {its : Array Value} {ss : List Int} {Q : Value → Shared → Prop} (hh : A.handled = none) (hl : s.heap.IsTuple l its) (hS : IntsAre its.toList ss) (hn : ss.length < 4000)
    (h : ∀ (h' : Heap) (tk : Nat), IAt prog w h' s.heap.objs.size (allI (fun i => ss.getD i 0) ss.length) → (∀ b o, b < s.heap.objs.size → s.heap.get? b = some o → h'.get? b = some o) → Q (.ref s.heap.objs.size) { s with heap := h', toks := tk }) :
    wpAny (model prog w) A (call (.type "set") [.ref l]) Q E s := by
  have el : its.size = ss.length := by rw [← Array.length_toList, hS.length]
  rw [← el] at h
  refine call_setI (T := "tuple") (St := fun I i h => h.IsTupleIter I l i ∧ h.IsTuple l its) (ob := { cls := .type "tuple_iterator", data := .fields #[.ref l, .int 0 0] }) (P := fun i v => its[i]? = some v) hh hl.typeIs M5.F.sub_tuple_set M5.F.sub_tuple_frozenset (by decide) (fun kp q => wpAny_pyIter_tuple (hl.at (kp l)) q) rfl (fun I h1 h2 => Walks.tuple h1 I l h2 its)
    (fun I h' kp e => ⟨⟨_, e, rfl, rfl⟩, hl.at (kp l)⟩) ?_ (by omega) h
  intro i v hv
  rw [← Array.getElem?_toList] at hv
  clear h
  revert i
  generalize its.toList = vs at hS
  clear el hn
  induction hS with
  | nil => intro i hv; simp at hv
  | cons x t r ih =>
    intro i hv
    cases i with
    | zero => simp at hv; exact ⟨t, by rw [← hv]; rfl⟩
    | succ i =>
      rw [List.getElem?_cons_succ] at hv
      obtain ⟨t', e⟩ := ih i hv
      exact ⟨t', e⟩
theorem set_listI {l : Addr} {its : Array Value} {ss : List Int} {Q : Value → Shared → Prop} (hh : A.handled = none) (hl : s.heap.IsList l its) (hS : IntsAre its.toList ss) (hn : ss.length < 4000)
    (h : ∀ (h' : Heap) (tk : Nat), IAt prog w h' s.heap.objs.size (allI (fun i => ss.getD i 0) ss.length) → (∀ b o, b < s.heap.objs.size → s.heap.get? b = some o → h'.get? b = some o) → Q (.ref s.heap.objs.size) { s with heap := h', toks := tk }) :
    wpAny (model prog w) A (call (.type "set") [.ref l]) Q E s := by
  have el : its.size = ss.length := by rw [← Array.length_toList, hS.length]
  rw [← el] at h
  refine call_setI (T := "list") (St := fun I i h => h.IsListIter I l i ∧ h.IsList l its) (ob := { cls := .type "list_iterator", data := .fields #[.ref l, .int 0 0] }) (P := fun i v => its[i]? = some v) hh hl.typeIs PySem.F.sub_list_set PySem.F.sub_list_frozenset (by decide) (fun kp q => wpAny_pyIter_list (hl.at (kp l)) q) rfl (fun I h1 h2 => Walks.list h1 I l h2 its)
    (fun I h' kp e => ⟨⟨_, e, rfl, rfl⟩, hl.at (kp l)⟩) ?_ (by omega) h
  intro i v hv
  rw [← Array.getElem?_toList] at hv
  clear h
  revert i
  generalize its.toList = vs at hS
  clear el hn
  induction hS with
  | nil => intro i hv; simp at hv
  | cons x t r ih =>
    intro i hv
    cases i with
    | zero => simp at hv; exact ⟨t, by rw [← hv]; rfl⟩
    | succ i =>
      rw [List.getElem?_cons_succ] at hv
      obtain ⟨t', e⟩ := ih i hv
      exact ⟨t', e⟩
end
theorem mem_addI {S : List Int} {x y : Int} : y ∈ addI S x ↔ y ∈ S ∨ y = x := by
  unfold addI
  split
  · exact ⟨.inl, fun z => z.elim id fun e => e ▸ ‹_›⟩
  · simp
theorem nodup_addI {S : List Int} {x : Int} (h : S.Nodup) : (addI S x).Nodup := by
  unfold addI
  split
  · exact h
  · rw [List.nodup_append]
    refine ⟨h, by simp, fun a ha b hb => ?_⟩
    simp only [List.mem_singleton] at hb
    subst hb
    intro e
    subst e
    exact absurd ha ‹_›
theorem nodup_allI (val : Nat → Int) : ∀ n, (allI val n).Nodup
  | 0 => List.nodup_nil
  | n + 1 => nodup_addI (nodup_allI val n)
theorem mem_allI (val : Nat → Int) (y : Int) : ∀ n, y ∈ allI val n ↔ ∃ i, i < n ∧ val i = y
  | 0 => by simp [allI]
  | n + 1 => by
    show y ∈ addI _ _ ↔ _
    rw [mem_addI, mem_allI val y n]
    constructor
    · rintro (⟨i, h, e⟩ | e)
      · exact ⟨i, by omega, e⟩
      · exact ⟨n, by omega, e.symm⟩
    · rintro ⟨i, h, e⟩
      rcases Nat.lt_or_ge i n with z | z
      · exact .inl ⟨i, z, e⟩
      · obtain rfl : i = n := by omega
        exact .inr e.symm
theorem mem_allI' (ss : List Int) (y : Int) : y ∈ allI (fun i => ss.getD i 0) ss.length ↔ y ∈ ss := by
  rw [mem_allI]
  constructor
  · rintro ⟨i, h, e⟩
    have : ss.getD i 0 = ss[i] := by simp [h]
    rw [this] at e
    exact e ▸ List.getElem_mem h
  · intro h
    obtain ⟨i, h1, e⟩ := List.getElem_of_mem h
    exact ⟨i, h1, by simp [h1, e]⟩
end M7
set_option Elab.async false
set_option linter.all false
set_option maxRecDepth 100000
set_option maxHeartbeats 4000000
namespace M7
open PySem PySem.Spec PyProof.Rows M5
section
variable {prog : Program} {w : World} {A : Around} {E : Value → Shared → Prop} {s : Shared}
theorem nextP {a : Addr} {ep i sl : Nat} {es : Array (Int × Value)} {t : SetTable} {Q : Option (Value × Nat) → Shared → Prop} (hb : w.params.followText "set-order" = false) (hS : SAt s.heap a es ep t) (hf : t.fits es.size = true) (h1 : (!t.plain && decide (es.size > 1)) = false) (hl : t.led = true)
    (h : Q (match es[SetTable.below t.place sl]?, t.place[SetTable.below t.place sl]? with | some (_, x), some j => some (x, j + 1) | _, _ => none) s) : wpAny (model prog w) A (setNext a sl i ep) Q E s := by
  obtain ⟨o, ho, hc, hd⟩ := hS
  unfold setNext
  refine wpAny_bind (wpAny_setState_of ho hd hf ?_)
  dsimp only
  refine wpAny_bind (by_text ?_)
  rw [if_neg (by rw [hb]; decide)]
  rw [if_neg (by
    show ¬ ((!t.plain && decide (es.size > 1)) = true)
    rw [h1]; decide)]
  refine wpAny_bind ?_
  show wpAny _ _ (if (!t.led && !es.isEmpty) = true then unsupported "set:maker-not-led" else pure ()) _ _ _
  rw [if_neg (by rw [hl]; simp)]
  refine wpAny_pure (wpAny_pure ?_)
  exact h
noncomputable def Ints (vs : List Value) (S : List Int) : Prop := (∀ v ∈ vs, ∃ x t, v = .int x t) ∧ (vs.map intOf).Perm S
theorem ints_of {es : Array (Int × Value)} {l : List (Int × Value)} {S : List Int} (hel : ElemsOf (PySem.intKind prog w) es.toList) (hp : (es.toList.map fun e => intOf e.2).Perm S) (h : l.Perm es.toList) : Ints (l.map (·.2)) S := by
  refine ⟨fun v hv => ?_, ?_⟩
  · obtain ⟨e, he, rfl⟩ := List.mem_map.mp hv
    obtain ⟨⟨k, hk, _⟩, _⟩ := hel e (h.mem_iff.mp he)
    obtain ⟨t, z⟩ := Value.isInt_shape hk
    exact ⟨k, t, z⟩
  · rw [List.map_map]
    exact (h.map _).trans hp
theorem iter_setI {a : Addr} {S : List Int} {Q : Value → Shared → Prop} (hS : IAt prog w s.heap a S) (hn : S.length < 4000)
    (h : ∀ (I : Addr) (ord : List Value) (fp : List Addr) (St : Nat → Heap → Prop) (h' : Heap) d, (∀ b o, s.heap.get? b = some o → h'.get? b = some o) → s.heap.objs.size ≤ I → (∀ b ∈ fp, b = a ∨ s.heap.objs.size ≤ b) →
      (∀ {A' : Around}, A'.handled = none → Walks prog w A' I fp [I] ord.length (fun i v => ord[i]? = some v) St) → St 0 h' → Ints ord S → Q (.ref I) { s with heap := h', drawn := d }) :
    wpAny (model prog w) A (pyIter (.ref a)) Q E s := by
  obtain ⟨o, ho, es, ep, t, hex, hd, hel, hp, hf, hled, hpl⟩ := hS
  have sa : SAt s.heap a es ep t := ⟨o, ho, hex.1, hd⟩
  have la : a < s.heap.objs.size := Heap.lt_size ho
  refine wpAny_pyIter_slot sa.typeIs M5.F.slot_siter (wpAny_call_entry M5.F.slot_siter sa.typeIs M5.F.entry_siter ?_ (M5.F.args_siter _))
  unfold Builtin.«frozenset.__iter__»
  refine wpAny_bind (wpAny_of_eq (a := a) rfl ?_)
  refine wpAny_bind (wpAny_bind (wpAny_setEntries_of ho hd hf (wpAny_pure ?_)))
  refine wpAny_bind ?_
  unfold setDrawn
  refine wpAny_bind (wpAny_setState_of ho hd hf ?_)
  dsimp only
  refine wpAny_bind (by_text ?_)
  refine wpAny_pure ?_
  have hsz : es.size = S.length := by rw [← hp.length_eq, List.length_map, Array.length_toList]
  cases hb : w.params.followText "set-order" with
  | true =>
    rw [if_neg (by simp)]
    refine wpAny_bind (wpAny_pure ?_)
    refine wpAny_bind (wpAny_setEpoch_of ho hd hf ?_)
    refine wpAny_bind (wpAny_newObj_type ?_)
    have ho2 := Heap.get?_push_of_some (itO (rawInt 0) 0 a es.size ep) ho
    have hit : IsIt (s.heap.push (itO (rawInt 0) 0 a es.size ep)) s.heap.objs.size (rawInt 0) 0 a es.size ep := ⟨_, Heap.get?_push_size _ rfl, rfl, rfl⟩
    refine wpAny_pure ⟨_, rfl, "set_iterator", _, ⟨_, Heap.get?_push_size _ rfl, rfl⟩, M5.F.slot_next.lookup, ?_⟩
    have hpk := pick_perm (w.params.setOrder a ep) es
    refine h s.heap.objs.size ((pickOrder (w.params.setOrder a ep) es).toList.map (·.2)) [s.heap.objs.size, a] _ _ s.drawn (fun b o e => Heap.get?_push_of_some _ e) (Nat.le_refl _) (fun b z => ?_)
      (fun {A'} hh => walksN (sl := fun _ => 0) (ep := ep) (es := es) (t := t) hh (Nat.ne_of_lt la) hf (by rw [List.length_map, hpk.length_eq, Array.length_toList]) ?_ ?_) ⟨hit, _, ho2, hex.1, hd⟩ (ints_of hel hp hpk)
    · simp only [List.mem_cons, List.not_mem_nil, or_false] at z
      rcases z with rfl | rfl
      · exact .inr (Nat.le_refl _)
      · exact .inl rfl
    · intro i x hx A' s' Q' E' sa' q
      refine nextA hb sa' hf ?_
      rw [List.getElem?_map, Array.getElem?_toList] at hx
      cases hy : (pickOrder (w.params.setOrder a ep) es)[i]? with
      | none => rw [hy] at hx; cases hx
      | some e => rw [hy] at hx; injection hx with hx; subst hx; exact q
    · intro A' s' Q' E' sa' q
      refine nextA hb sa' hf ?_
      rw [Array.getElem?_eq_none (by rw [List.length_map, Array.length_toList]; exact Nat.le_refl _)]
      exact q
  | false =>
    rw [hb] at hled
    have hps : t.place.size = es.size := by
      simp only [SetTable.fits, Bool.and_eq_true, beq_iff_eq] at hf
      exact hf.1
    by_cases hz : (!t.plain && decide (es.size > 1)) = false
    · have hR : Rise t.place := by
        cases hp1 : t.plain with
        | true => exact hpl.2 hp1
        | false =>
          rw [hp1] at hz
          have hz : decide (es.size > 1) = false := hz
          have hz := of_decide_eq_false hz
          intro i j hij hj _
          omega
      rw [if_neg (by
        show ¬ ((!false && (!t.plain && decide (es.size > 1))) = true)
        rw [hz]; decide)]
      refine wpAny_bind (wpAny_pure ?_)
      refine wpAny_bind (wpAny_setEpoch_of ho hd hf ?_)
      refine wpAny_bind (wpAny_newObj_type ?_)
      have ho2 := Heap.get?_push_of_some (itO (rawInt 0) 0 a es.size ep) ho
      have hit : IsIt (s.heap.push (itO (rawInt 0) 0 a es.size ep)) s.heap.objs.size (rawInt 0) 0 a es.size ep := ⟨_, Heap.get?_push_size _ rfl, rfl, rfl⟩
      refine wpAny_pure ⟨_, rfl, "set_iterator", _, ⟨_, Heap.get?_push_size _ rfl, rfl⟩, M5.F.slot_next.lookup, ?_⟩
      have at_sl : ∀ i, i ≤ es.size → SetTable.below t.place (if i = 0 then 0 else t.place.getD (i - 1) 0 + 1) = i := fun i hi => by
        by_cases h0 : i = 0
        · subst h0; rw [if_pos rfl]; exact below_zero hR
        · rw [if_neg h0]
          have h1 : i - 1 < t.place.size := by omega
          have e1 : t.place.getD (i - 1) 0 = t.place[i - 1] := by simp [Array.getD, h1]
          rw [e1, below_next hR h1]; omega
      refine h s.heap.objs.size (es.toList.map (·.2)) [s.heap.objs.size, a] _ _ s.drawn (fun b o e => Heap.get?_push_of_some _ e) (Nat.le_refl _) (fun b z => ?_)
        (fun {A'} hh => walksN (sl := fun i => if i = 0 then 0 else t.place.getD (i - 1) 0 + 1) (ep := ep) (es := es) (t := t) hh (Nat.ne_of_lt la) hf (by rw [List.length_map, Array.length_toList]) ?_ ?_) ⟨hit, _, ho2, hex.1, hd⟩ (ints_of hel hp (.refl _))
      · simp only [List.mem_cons, List.not_mem_nil, or_false] at z
        rcases z with rfl | rfl
        · exact .inr (Nat.le_refl _)
        · exact .inl rfl
      · intro i x hx A' s' Q' E' sa' q
        have hi : i < es.size := by
          have := (List.getElem?_eq_some_iff.mp hx).1
          simpa using this
        refine nextP hb sa' hf hz hled ?_
        rw [List.getElem?_map, Array.getElem?_toList, Array.getElem?_eq_getElem hi] at hx
        injection hx with hx
        subst hx
        rw [at_sl i (by omega), Array.getElem?_eq_getElem hi, Array.getElem?_eq_getElem (by omega : i < t.place.size)]
        have e1 : (if i + 1 = 0 then 0 else t.place.getD (i + 1 - 1) 0 + 1) = t.place[i]'(by omega) + 1 := by
          rw [if_neg (by omega), Nat.add_sub_cancel]
          simp [Array.getD, (by omega : i < t.place.size)]
        rw [e1] at q
        exact q
      · intro A' s' Q' E' sa' q
        refine nextP hb sa' hf hz hled ?_
        rw [List.length_map, Array.length_toList]
        have en : es[SetTable.below t.place (if es.size = 0 then 0 else t.place.getD (es.size - 1) 0 + 1)]? = none := by
          rw [at_sl es.size (Nat.le_refl _)]
          exact Array.getElem?_eq_none (Nat.le_refl _)
        rw [en]
        exact q
    · have hz : (!t.plain && decide (es.size > 1)) = true := by simpa using hz
      rw [if_pos (by
        show (!false && (!t.plain && decide (es.size > 1))) = true
        rw [hz]; rfl)]
      refine wpAny_bind (any_draw _ _ (by simp) fun ps d hps => ?_)
      obtain ⟨l, e1, e2, e3⟩ := pull es ps hps
      refine wpAny_bind ?_
      unfold newTuple
      refine wpAny_newObj_type (s := { s with drawn := d }) ?_ (by
        have : ps.length = es.size := by rw [hps.length_eq, List.length_range]
        show (ps.map fun (i : Nat) => rawInt i).toArray.size ≤ sizeLine
        rw [List.size_toArray, List.length_map, sizeLine_eq]; omega)
      refine wpAny_bind (wpAny_setEpoch_of (s := { s with heap := s.heap.push _, drawn := d }) (Heap.get?_push_of_some _ ho) hd hf ?_)
      refine wpAny_bind (wpAny_newObj_type ?_)
      generalize hto : ({ cls := .type "tuple", data := .seq (ps.map fun (i : Nat) => rawInt i).toArray } : Obj) = to
      have hT1 : (s.heap.push to).get? s.heap.objs.size = some to := Heap.get?_push_size _ (by rw [← hto]; rfl)
      have z1 : (s.heap.push to).objs.size = s.heap.objs.size + 1 := Heap.size_push ..
      have gI : ((s.heap.push to).push (itO (.ref s.heap.objs.size) 0 a es.size ep)).get? (s.heap.push to).objs.size = some (itO (.ref s.heap.objs.size) 0 a es.size ep) := Heap.get?_push_size _ rfl
      refine wpAny_pure ⟨_, rfl, "set_iterator", _, ⟨_, gI, rfl⟩, M5.F.slot_next.lookup, ?_⟩
      refine h (s.heap.push to).objs.size (l.map (·.2)) [(s.heap.push to).objs.size, a, s.heap.objs.size] _ _ d (fun b o e => Heap.get?_push_of_some _ (Heap.get?_push_of_some _ e)) (by rw [z1]; exact Nat.le_succ _) (fun b z => ?_)
        (fun {A'} hh => walksD (T := s.heap.objs.size) (ep := ep) (es := es) (t := t) (ps := ps) hh (by rw [z1]; exact Nat.ne_of_lt (Nat.lt_succ_of_lt la)) (by rw [z1]; exact Nat.ne_of_lt (Nat.lt_succ_self _)) hf (by rw [List.length_map]; exact e1) (fun i h1 h2 => ?_)) ⟨⟨_, gI, rfl, rfl⟩, ⟨_, Heap.get?_push_of_some _ (Heap.get?_push_of_some _ ho), hex.1, hd⟩, ⟨_, Heap.get?_push_of_some _ hT1, by rw [← hto], 0, by rw [← hto]⟩⟩ (ints_of hel hp e2)
      · rw [z1] at z
        simp only [List.mem_cons, List.not_mem_nil, or_false] at z
        rcases z with rfl | rfl | rfl
        · exact .inr (Nat.le_succ _)
        · exact .inl rfl
        · exact .inr (Nat.le_refl _)
      · have h3 : i < l.length := by rw [List.length_map] at h2; exact h2
        refine ⟨l[i].1, ?_⟩
        rw [e3 i h1 h3, List.getElem_map]
theorem intsAre_map : ∀ (vs : List Value), (∀ v ∈ vs, ∃ x t, v = .int x t) → IntsAre vs (vs.map intOf)
  | [], _ => .nil
  | v :: vs, h => by
    obtain ⟨x, t, rfl⟩ := h v (by simp)
    exact .cons x t (intsAre_map vs fun u hu => h u (List.mem_cons_of_mem _ hu))
theorem hint_setI {a : Addr} {Q : Bool → Shared → Prop} (hT : s.TypeIs (.ref a) "set") (h : Q false s) : wpAny (model prog w) A (Builtin.List.listLengthHint (.ref a)) Q E s := by
  unfold Builtin.List.listLengthHint
  refine wpAny_bind (wpAny_specialOf hT PySem.F.slot_set_len.lookup ?_)
  dsimp only
  rw [show splitId "set.__len__" = some ("set", "__len__") by decide +kernel]
  dsimp only
  refine wpAny_bind (wpAny_isInstance (b := true) hT sub_set_self ?_)
  rw [if_neg (by decide)]
  rw [if_pos (by decide +kernel)]
  refine wpAny_bind (wpAny_typeOf hT ?_)
  exact wpAny_pure h
theorem extend_setI {a L : Addr} {S : List Int} {R : Result → Shared → Prop} (hh : A.handled = none) (hS : IAt prog w s.heap a S) (hn : S.length < 4000) (hL : s.heap.get? L = some { cls := .type "list", data := .seq #[] }) (hLa : L ≠ a)
    (hR : ∀ s' (ord : List Value) c', (∀ b o, b ≠ L → s.heap.get? b = some o → s'.heap.get? b = some o) → s'.gens = s.gens → s'.os = s.os → s'.heap.get? L = some { cls := .type "list", dict := none, data := .seq ord.toArray c', slots := #[] } → Ints ord S → R (.ok (.ret (.ref L))) s') :
    wpAny (model prog w) A.in1 (Builtin.List.listExtendWith (.ref L) (.ref a) (.ref L))
      (fun fin s' => match fin with | .done f => R (.ok f) s' | .again c' => c'.quiet = true ∧ codeAny (model prog w) A c' R s') (fun e s' => R (.error e) s') s := by
  have tS : s.TypeIs (.ref a) "set" := let ⟨o, ho, es, ep, t, hex, _⟩ := hS; ⟨o, ho, hex.1⟩
  unfold Builtin.List.listExtendWith
  refine wpAny_bind (wpAny_typeOf tS ?_)
  have h1 : Builtin.List.listSameRef (.ref L) (.ref a) = false := by simp [Builtin.List.listSameRef, hLa]
  have h2 : (Value.type "set" == Value.type "list") = false := by decide
  have h3 : (Value.type "set" == Value.type "tuple") = false := by decide
  simp only [h1, h2, h3, Bool.or_false, Bool.false_eq_true, if_false]
  refine wpAny_bind (iter_setI hS hn fun I ord fp St h' d kp hI hfp W st0 tx => ?_)
  have ll : L < s.heap.objs.size := Heap.lt_size hL
  have hLf : L ∉ fp := fun z => (hfp L z).elim hLa fun z => absurd ll (Nat.not_lt.mpr z)
  have tS' : Shared.TypeIs { s with heap := h', drawn := d } (.ref a) "set" := let ⟨o, ho, hc⟩ := tS; ⟨o, kp _ _ ho, hc⟩
  refine wpAny_bind (wpAny_holding (hint_setI tS' ?_))
  rw [if_pos (by rfl)]
  refine wpAny_bind (wpAny_rule ?_)
  refine wpAny_bind ?_
  show wpAny _ A.in1 (updateSeq L (·.push .none) >>= fun _ => updateSeq L (·.pop)) _ _ _
  refine wpAny_bind (wpAny_updateSeq (s := { s with heap := h', drawn := d }) (kp _ _ hL) rfl ?_)
  have g2 := Heap.get?_update_self (Obj.mapSeq (·.push Value.none)) (kp _ _ hL) rfl
  refine wpAny_updateSeq (hz := by seq_fits) g2 rfl ?_
  have g3 := Heap.get?_update_self (Obj.mapSeq (·.pop)) g2 rfl
  have oth : ∀ b o, b ≠ L → h'.get? b = some o → ((h'.update L (Obj.mapSeq (·.push Value.none))).update L (Obj.mapSeq (·.pop))).get? b = some o :=
    fun b o hb e => (Heap.get?_update_other _ _ (Ne.symm hb)).trans ((Heap.get?_update_other _ _ (Ne.symm hb)).trans e)
  have hlen : ord.length = S.length := by rw [← tx.2.length_eq, List.length_map]
  have WS := (W (A' := A.in1) hh).toS
  refine wpAny_pure ⟨plainId_quiet PySem.F.plain_extend_loop _, codeAny_extend_loopS WS (by rw [sizeLine_eq]; omega) _ hLf _ ord.length 0 _ _ _ rfl (Nat.zero_le _)
      (WS.frame 0 { s with heap := h', drawn := d } _ s.toks st0 (Nat.le_refl _) fun b hb o e => oth b o (fun z => hLf (z ▸ hb)) e) g3 (ItemsOf.nil _) fun s' acc' c' hm hS' hacc => ?_⟩
  have ea : acc' = ord.toArray := by
    refine Array.ext (by rw [hacc.1, List.size_toArray]) fun i h1 h2 => ?_
    have z : ord[i]? = some acc'[i] := hacc.2 i acc'[i] (Array.getElem?_eq_getElem h1)
    have h2 : i < ord.length := by simpa using h2
    rw [List.getElem?_eq_getElem h2] at z
    simpa using (Option.some.inj z).symm
  rw [ea] at hS'
  refine hR s' ord c' (fun b o hb e => ?_) hm.gens hm.os hS' tx
  refine hm.heap b o ?_ (oth b o hb (kp b o e))
  simp only [List.mem_cons, List.not_mem_nil, or_false]
  rintro (z | z)
  · exact hb z
  · have := Heap.lt_size e
    rw [z] at this
    exact absurd this (Nat.not_lt.mpr hI)
theorem code_collectI {a : Addr} {S : List Int} {R : Result → Shared → Prop} (hh : A.handled = none) (hS : IAt prog w s.heap a S) (hn : S.length < 4000)
    (hR : ∀ s' (ord : List Value) c', (∀ b o, s.heap.get? b = some o → s'.heap.get? b = some o) → s'.gens = s.gens → s'.os = s.os → s'.heap.get? s.heap.objs.size = some { cls := .type "list", dict := none, data := .seq ord.toArray c', slots := #[] } → Ints ord S → R (.ok (.ret (.ref s.heap.objs.size))) s') :
    codeAny (model prog w) A (.builtin "proto.collect" ⟨[.ref a], []⟩) R s := by
  have la : a < s.heap.objs.size := let ⟨o, ho, _⟩ := hS; Heap.lt_size ho
  refine codeAny_builtin entry_proto_collect' ?_
  show wpAny _ _ (do again (.builtin "list.__iadd__" ⟨[← newList [], .ref a], []⟩)) _ _ s
  refine wpAny_bind (wpAny_newList (wpAny_pure ⟨Code.quiet_builtin _ (by decide +kernel), codeAny_builtin entry_list_iadd' ?_⟩))
  rw [Around.under_plainId (show plainId "list.__iadd__" = true by decide +kernel) _]
  show wpAny _ _ (Builtin.List.listExtendWith (.ref s.heap.objs.size) (.ref a) (.ref s.heap.objs.size)) _ _ { s with heap := s.heap.push (seqObj "list" #[] 0) }
  refine extend_setI (s := { s with heap := s.heap.push (seqObj "list" #[] 0) }) (S := S) ?_ (hS.keep fun o e => Heap.get?_push_of_some _ e) hn (Heap.get?_push_size _ rfl) (Nat.ne_of_gt la) fun s' ord c' kp e1 e2 g tx => ?_
  · exact hh
  · exact hR s' ord c' (fun b o e => kp b o (Nat.ne_of_lt (Heap.lt_size e)) (Heap.get?_push_of_some _ e)) e1 e2 g tx
theorem collect_setI {a : Addr} {S : List Int} {Q : List Value → Shared → Prop} (hh : A.handled = none) (hS : IAt prog w s.heap a S) (hn : S.length < 4000)
    (h : ∀ s' (ord : List Value), (∀ b o, s.heap.get? b = some o → s'.heap.get? b = some o) → s'.gens = s.gens → s'.os = s.os → s.heap.objs.size ≤ s'.heap.objs.size → Ints ord S → Q ord s') : wpAny (model prog w) A (collect (.ref a)) Q E s := by
  unfold collect
  refine wpAny_bind (wpAny_runValue (code_collectI hh hS hn fun s' ord c' kp e1 e2 g tx => ?_))
  dsimp only
  refine wpAny_bind (wpAny_load g ?_)
  exact wpAny_pure (h s' ord kp e1 e2 (Nat.le_of_lt (Heap.lt_size g)) tx)
theorem sorted_setI {a : Addr} {S : List Int} {Q : Value → Shared → Prop} (hh : A.handled = none) (hS : IAt prog w s.heap a S) (hn : S.length < 64)
    (h : ∀ (p : Addr) s' (out : List Value) (ss : List Int) c, (∀ b o, s.heap.get? b = some o → s'.heap.get? b = some o) → s'.gens = s.gens → s'.os = s.os → s.heap.objs.size ≤ p → s'.heap.get? p = some (seqObj "list" out.toArray c) → IntsAre out ss → ss.Perm S → ss.Pairwise (· ≤ ·) → Q (.ref p) s') :
    wpAny (model prog w) A (call (.builtin "sorted") [.ref a]) Q E s := by
  refine Calls.call_function_entry kind_sorted plain_sorted entry_sorted (args_sorted1 _) ?_
  unfold Builtin.«sorted»
  refine wpAny_bind (m := checkCount "sorted" 1 1 _) (wpAny_pure ?_)
  refine wpAny_bind (collect_setI (S := S) ?_ hS (by omega) fun s1 ord kp e1 e2 le tx => ?_)
  · exact hh
  have hl : ord.length = S.length := by rw [← tx.2.length_eq, List.length_map]
  refine wpAny_bind (wpAny_newList ?_ (by first | (rw [sizeLine_eq]; omega) | (rw [List.size_toArray, sizeLine_eq]; omega)))
  have hSA : IntsAre ord (ord.map intOf) := intsAre_map ord tx.1
  have gL : (s1.heap.push (seqObj "list" ord.toArray 0)).get? s1.heap.objs.size = some (seqObj "list" ord.toArray 0) := Heap.get?_push_size _ rfl
  refine wpAny_bind (wpAny_holding (wpAny_call_entry slot_list_sort ⟨_, gL, rfl⟩ entry_list_sort (list_sort_tree gL hSA (by omega) fun out ns' a1 a2 a3 => ⟨_, rfl, ?_⟩) (args_list_sort _)))
  obtain ⟨c, hc⟩ := sortedHeap_at (out := out) gL
  refine wpAny_pure ⟨_, rfl, h s1.heap.objs.size _ out.toList ns' c (fun b o e => ?_) e1 e2 le ?_ a1 (a2.trans tx.2) a3⟩
  · have lb := Heap.lt_size (kp b o e)
    show (sortedHeap _ _ _ _).get? b = some o
    rw [sortedHeap_old (Nat.ne_of_lt lb) (by rw [size_push']; exact Nat.lt_succ_of_lt lb)]
    exact Heap.get?_push_of_some _ (kp b o e)
  · rw [Array.toArray_toList]; exact hc
end
end M7
set_option Elab.async false
set_option linter.all false
set_option maxRecDepth 100000
set_option maxHeartbeats 4000000
namespace L2
open PySem PySem.Spec PyProof.Rows
noncomputable def tSortSetI (K : PySem.W.Frag) (ta : TE) : TE := fun σ H Q => ta σ H fun x H1 => ∃ (p : Addr) (ss : List Int), x = .ref p ∧ (SqT K H1 p (ss.map V.int) ∨ SqL K H1 p (ss.map V.int)) ∧ ss.length < 64 ∧
  ∀ (l : Addr) (ss' : List Int), H1 l = none → ss'.Nodup → (∀ y, y ∈ ss' ↔ y ∈ ss) → ss'.Pairwise (· ≤ ·) → Q (.ref l) (upd H1 l (.lst (ss'.map V.int)))
section
variable {X : Cx} {e : Expr} {ta : TE} {p p2 pos pos2 : Pos}
theorem pe_sortSetI (hc : X.calm = true) (hg : Gl X "sorted") (hm : X.mg "sorted" = none) (hg2 : Gl X "set") (hm2 : X.mg "set" = none) (he : PE X e ta) (hs : notStar e = true := by rfl) :
    PE X (.Call (.Name "sorted" p) [.Call (.Name "set" p2) [e] [] pos2] [] pos) (tSortSetI X.K ta) := by
  intro pins s σ H Q I h
  have hk := I.ok.hd hc
  refine wpAny_Call_Name_kw (ld_blt I hg hm (u := .builtin "sorted") (by decide +kernel) ?_ (by decide +kernel) (by decide +kernel))
  refine PyProof.Rows.callWith_builtin1 (E := X.xe) ?_ (star_cons [] X.env rfl) rfl
  rw [star_cons [] X.env rfl]
  refine Calls.spliced_cons ?_
  refine wpAny_Call_Name_kw (ld_blt I hg2 hm2 (u := .type "set") (by decide +kernel) ?_ (by decide +kernel) (by decide +kernel))
  refine PyProof.Rows.callWith_type1 (E := X.xe) ?_ (star_cons [] X.env hs) rfl
  rw [star_cons [] X.env hs]
  refine Calls.spliced_cons (thn (he pins s σ H _ I h) fun u s1 ⟨x, H1, I1, rx, a, ss, ex, hq, hl, q⟩ => ?_)
  subst ex
  obtain rfl : u = Value.ref a := rx
  refine Calls.spliced_nil ?_
  have fin : ∀ (h' : Heap) (tk : Nat), M7.IAt X.prog X.w h' s1.heap.objs.size (M7.allI (fun i => ss.getD i 0) ss.length) → (∀ b o, b < s1.heap.objs.size → s1.heap.get? b = some o → h'.get? b = some o) →
      wpAny (model X.prog X.w) X.A (call (.builtin "sorted") [.ref s1.heap.objs.size]) (EP X pins σ Q) X.xe { s1 with heap := h', toks := tk } := by
    intro h' tk tS kp
    have hlen := M7.allI_len (fun i => ss.getD i 0) ss.length
    refine M7.sorted_setI (s := { s1 with heap := h', toks := tk }) hk tS (by omega) fun l s2 out ss' c kp2 e1 e2 le g hS hp hs => ?_
    obtain ⟨h2, g2, d2, t2, o2⟩ := s2
    obtain rfl : g2 = s1.gens := e1
    obtain rfl : o2 = s1.os := e2
    have kpA : ∀ b o, s1.heap.get? b = some o → h2.get? b = some o := fun b o z => kp2 b o (kp b o (Heap.lt_size z) z)
    have le1 : s1.heap.objs.size ≤ l := by
      obtain ⟨o, ho, _⟩ := tS
      exact Nat.le_trans (Nat.le_of_lt (Heap.lt_size ho)) le
    have hlen2 : ss'.length < 64 := by rw [hp.length_eq]; omega
    refine ⟨.ref l, _, (I1.laid (a := l) (t' := t2) (o := .lst (ss'.map V.int)) kpA le1 ⟨by rw [List.length_map, sizeLine_eq]; omega, out, c, vals_ints hS, g⟩).drw d2, rfl, q l ss' (I1.hok.fresh le1) (hp.nodup_iff.mpr (M7.nodup_allI _ _)) (fun y => (hp.mem_iff).trans (M7.mem_allI' ss y)) hs⟩
  rcases hq with hq | hq
  · obtain ⟨its, r', pl, hz⟩ := I1.tuple hq
    refine M7.set_tupleI (its := its.toArray) (ss := ss) hk pl (by simpa using intsAre_of r') (by omega) fun h' tk tS kp => ?_
    exact Calls.spliced_nil (fin h' tk tS kp)
  · obtain ⟨its, r', pl, hz⟩ := I1.list hq
    refine M7.set_listI (its := its.toArray) (ss := ss) hk pl.isList (by simpa using intsAre_of r') (by omega) fun h' tk tS kp => ?_
    exact Calls.spliced_nil (fin h' tk tS kp)
end
end L2
namespace M
open PySem PySem.Spec PyProof.Rows L2
section
variable {K : PySem.W.Frag}
noncomputable def aSortSetI (a : AE) : AE := fun δ S Q => a δ S fun r S1 => ∃ ss : List Int, (see S1 r.d = .tup (ss.map D.int) ∨ see S1 r.d = .lst (ss.map D.int)) ∧ ss.length < 64 ∧
  ∀ ss' : List Int, ss'.Nodup → (∀ y, y ∈ ss' ↔ y ∈ ss) → ss'.Pairwise (· ≤ ·) → Q (.new (.lst (ss'.map D.int))) S1
theorem s_sortSetI {a : AE} : ∀ σ H Q, conE K (aSortSetI a) σ H Q → tSortSetI K (conE K a) σ H Q := by
  rintro σ H Q ⟨w, δ, S, Qa, ok, env, q, bk⟩
  refine ⟨w, δ, S, _, ok, env, q, .go fun r1 S1 v1 w1 H1 le1 ok1 rep1 ⟨ss, z, hl, q1⟩ => ?_⟩
  rcases z with z | z
  · obtain ⟨a, xs, rfl, h1, h2⟩ := see_tup ok1 rep1 z
    rw [reps_ints' h2] at h1
    exact ⟨a, ss, rfl, .inl (SqT.of h1), hl, fun l ss' hp n1 n2 n3 => bk (.new (.lst _)) S1 _ w1 _ le1 (ok1.alloc hp) (ok1.fresh hp ⟨_, rfl, reps_ints ss'⟩) (q1 ss' n1 n2 n3)⟩
  · obtain ⟨a, xs, rfl, h1, h2⟩ := see_lst ok1 rep1 z
    rw [reps_ints' h2] at h1
    exact ⟨a, ss, rfl, .inr (SqL.of h1), hl, fun l ss' hp n1 n2 n3 => bk (.new (.lst _)) S1 _ w1 _ le1 (ok1.alloc hp) (ok1.fresh hp ⟨_, rfl, reps_ints ss'⟩) (q1 ss' n1 n2 n3)⟩
end
section
variable {X : Cx} {e : Expr} {p p2 pos pos2 : Pos}
theorem pe_sortSetI {ta : AE} (hc : X.calm = true) (hg : Gl X "sorted") (hm : X.mg "sorted" = none) (hg2 : Gl X "set") (hm2 : X.mg "set" = none) (he : GE X e ta) (hs : notStar e = true := by rfl) :
    GE X (.Call (.Name "sorted" p) [.Call (.Name "set" p2) [e] [] pos2] [] pos) (aSortSetI ta) := ⟨mE (L2.pe_sortSetI hc hg hm hg2 hm2 he.p hs) s_sortSetI⟩
end
end M
set_option Elab.async false
set_option linter.all false
set_option maxRecDepth 100000
set_option maxHeartbeats 4000000
namespace M6
open PySem PySem.Spec PyProof.Rows
section
variable {prog : Program} {w : World} {A : Around} {E : Value → Shared → Prop} {s : Shared}
theorem draw_list {I l : Addr} {items : Array Value} {St : Nat → Heap → Prop} (W : Walks prog w A I [I, l] [I] items.size (fun i v => items[i]? = some v) St) : ∀ (k i : Nat) {s : Shared} {E : Value → Shared → Prop} {Q : List Value → Shared → Prop}, i + k = items.size → St i s.heap →
    (∀ (h' : Heap) (tk : Nat), St items.size h' → (∀ b o, b ≠ I → s.heap.get? b = some o → h'.get? b = some o) → Q (items.toList.drop i) { s with heap := h', toks := tk }) → wpAny (model prog w) A (draw (.ref I) k) Q E s
  | 0, i, s, E, Q, hk, hst, h => by
    rw [draw.eq_def]
    obtain rfl : i = items.size := by omega
    have := h s.heap s.toks hst fun b o _ e => e
    rw [List.drop_of_length_le (by simp)] at this
    exact wpAny_pure this
  | k + 1, i, s, E, Q, hk, hst, h => by
    rw [draw.eq_def]
    have hi : i < items.size := by omega
    refine wpAny_bind (W.item i s _ _ hi hst fun v h' tk hP hst' hm => ?_)
    dsimp only
    refine wpAny_bind (wpAny_holding (draw_list W k (i + 1) (s := { s with heap := h', toks := tk }) (by omega) hst' fun h'' tk' hst'' hm' => ?_))
    refine wpAny_pure ?_
    have e : items.toList.drop i = v :: items.toList.drop (i + 1) := by
      rw [← List.getElem_cons_drop (by simpa using hi)]
      congr 1
      rw [Array.getElem?_eq_getElem hi] at hP
      simpa using hP
    have := h h'' tk' hst'' fun b o hb e => hm' b o hb (hm b o (by simpa using hb) e)
    rw [e] at this
    exact this
theorem unpack_list {l : Addr} {items : Array Value} {Q : List Value → Shared → Prop} (hh : A.handled = none) (hl : s.heap.IsList l items)
    (h : ∀ (h' : Heap) (tk : Nat), (∀ b o, s.heap.get? b = some o → h'.get? b = some o) → Q items.toList { s with heap := h', toks := tk }) : wpAny (model prog w) A (unpackItems (.ref l) items.size none) Q E s := by
  have ll : l < s.heap.objs.size := by obtain ⟨o, ho, _⟩ := hl; exact Heap.lt_size ho
  unfold unpackItems
  refine wpAny_bind (wpAny_bind (wpAny_specialOf hl.typeIs slot_list_iter.lookup (wpAny_pure ?_)))
  rw [if_neg (by decide)]
  refine wpAny_bind (wpAny_holding (wpAny_pyIter_list hl ?_))
  have W := Walks.list (prog := prog) (w := w) (A := A) hh s.heap.objs.size l (Nat.ne_of_lt ll) items
  refine wpAny_bind (wpAny_holding (draw_list W items.size 0 (by omega) ⟨⟨_, Heap.get?_push_size _ rfl, rfl, rfl⟩, hl.at fun o e => Heap.get?_push_of_some _ e⟩ fun h1 tk1 hst1 kp1 => ?_))
  rw [List.drop_zero, if_neg (by simp)]
  refine wpAny_bind (wpAny_holding (W.done _ _ _ hst1 fun h2 tk2 kp2 => ?_))
  rw [if_neg (by decide)]
  refine wpAny_pure (h h2 tk2 fun b o e => ?_)
  have lb := Nat.ne_of_lt (Heap.lt_size e)
  exact kp2 b o (by simpa using lb) (kp1 b o lb (Heap.get?_push_of_some _ e))
end
end M6
namespace L2
open PySem PySem.Spec PyProof.Rows M6
noncomputable def gTupL (K : PySem.W.Frag) (n : Nat) (t : TGs) : TG := fun v σ H Q => ∃ a xs, v = .ref a ∧ SqL K H a xs ∧ xs.length = n ∧ t xs σ H Q
section
variable {X : Cx} {pos : Pos}
theorem pg_tupL {es : List Expr} {k : Nat} {t : TGs} {n : Nat} (hc : X.calm = true) (h : PGs X es t)
    (hn : (assignEach es X.env).length = n := by rfl) (hst : (assignEach es X.env).findIdx? (·.1) = none := by rfl) : PG X (.Tuple es k pos) (gTupL X.K n t) := by
  intro pins s σ H v u Q I r hw
  obtain ⟨a, xs, e1, hq, hl, hw⟩ := hw
  subst e1
  cases r
  obtain ⟨its, rv, ht, hz⟩ := I.list hq
  rw [assign_Tuple]
  refine wpAny_bind (wpAny_standAt ?_)
  unfold unpack
  rw [hst]
  have e2 : (assignEach es X.env).length = its.toArray.size := by simp [hn, ← hl, rv.length]
  rw [e2]
  refine wpAny_bind (wpAny_holding (unpack_list (I.ok.hd hc) ht.isList fun h' tk kp => ?_))
  have I1 : Inv X pins σ H { s with heap := h', toks := tk } := I.kept (t' := tk) kp
  exact h pins _ σ H xs _ Q I1 (by simpa using rv) hw
end
end L2
namespace M
open PySem PySem.Spec PyProof.Rows L2
noncomputable def agTupL (n : Nat) (a : AGs) : AG := fun d δ S Q => ∃ ds, see S d = .lst ds ∧ ds.length = n ∧ a ds δ S Q
section
variable {K : PySem.W.Frag}
theorem s_gTupL {n : Nat} {a : AGs} : ∀ v σ H Q, conG K (agTupL n a) v σ H Q → gTupL K n (conGs K a) v σ H Q := by
  rintro v σ H Q ⟨w, d, δ, S, Qa, ok, env, rep, ⟨ds, z, hl, q⟩, bk⟩
  obtain ⟨b, xs, rfl, h1, h2⟩ := see_lst ok rep z
  exact ⟨b, xs, rfl, SqL.of h1, by rw [h2.length]; exact hl, w, ds, δ, S, Qa, ok, env, h2, q, bk⟩
end
section
variable {X : Cx} {es : List Expr} {pos : Pos}
theorem pg_tupL {k : Nat} {t : AGs} {n : Nat} (hc : X.calm = true) (h : GGs X es t) (hn : (assignEach es X.env).length = n := by rfl) (hst : (assignEach es X.env).findIdx? (·.1) = none := by rfl) : GG X (.Tuple es k pos) (agTupL n t) := ⟨mG (L2.pg_tupL hc h.p hn hst) s_gTupL⟩
end
section
variable {X : Cx} {pos : Pos}
theorem pe_own0 {k : Nat} {ps : List Str} {sp : AN} {x : Str} {p : Pos} (D : Def X.prog X.w X.K X.mg X.base k x ps (conSp X.K sp)) (hr : Room k X.A) (hg : Gl X x) (hdb : (x == ("__debug__" : Str)) = false := by decide +kernel) :
    GE X (.Call (.Name x p) [] [] pos) (aCall sp aNil) := ⟨by
  obtain ⟨f, fd, F, hm, hk, hb⟩ := D.ex
  refine mE (L2.pe_call0 F hr hg hm hk hb .nil pass0 hdb) fun σ H Q h => ?_
  obtain ⟨w, δ, S, Qa, ok, env, q, bk⟩ := h
  exact ⟨w, [], S, Qa, ok, .nil, q, bk⟩⟩
end
end M
set_option Elab.async false
set_option linter.all false
set_option maxRecDepth 100000
set_option maxHeartbeats 4000000
namespace K31
open PySem L2
noncomputable def top (i : Nat) : Stmt := PySem.Challenge.pw_pathask_k31_stands_come_to.main.body.getD i (.Pass ⟨0, 0, 0, 0⟩)
noncomputable abbrev sHolds : Stmt := top 2
noncomputable abbrev NscHolds : List Str := ["leaf", "marks"]
noncomputable abbrev PscHolds : List Str := ["leaf", "marks"]
theorem scHolds : FnScope NscHolds PscHolds (defScope sHolds) := ⟨rfl, rfl, rfl, by decide +kernel, rfl, by decide +kernel, by decide +kernel⟩
noncomputable abbrev sTakes : Stmt := top 3
noncomputable abbrev NscTakes : List Str := ["leaf", "side", "word"]
noncomputable abbrev PscTakes : List Str := ["leaf", "side", "word"]
theorem scTakes : FnScope NscTakes PscTakes (defScope sTakes) := ⟨rfl, rfl, rfl, by decide +kernel, rfl, by decide +kernel, by decide +kernel⟩
noncomputable abbrev sCell : Stmt := top 13
noncomputable abbrev NscCell : List Str := ["_law_script", "_law_k"]
noncomputable abbrev PscCell : List Str := ["_law_script", "_law_k"]
theorem scCell : FnScope NscCell PscCell (defScope sCell) := ⟨rfl, rfl, rfl, by decide +kernel, rfl, by decide +kernel, by decide +kernel⟩
noncomputable abbrev sWords : Stmt := top 15
noncomputable abbrev NscWords : List Str := []
noncomputable abbrev PscWords : List Str := []
theorem scWords : FnScope NscWords PscWords (defScope sWords) := ⟨rfl, rfl, rfl, by decide +kernel, rfl, by decide +kernel, by decide +kernel⟩
noncomputable abbrev sMarks : Stmt := top 16
noncomputable abbrev NscMarks : List Str := []
noncomputable abbrev PscMarks : List Str := []
theorem scMarks : FnScope NscMarks PscMarks (defScope sMarks) := ⟨rfl, rfl, rfl, by decide +kernel, rfl, by decide +kernel, by decide +kernel⟩
noncomputable abbrev sLeaf : Stmt := top 17
noncomputable abbrev NscLeaf : List Str := ["_law_way", "_law_number"]
noncomputable abbrev PscLeaf : List Str := ["_law_way", "_law_number"]
theorem scLeaf : FnScope NscLeaf PscLeaf (defScope sLeaf) := ⟨rfl, rfl, rfl, by decide +kernel, rfl, by decide +kernel, by decide +kernel⟩
noncomputable abbrev sDraws : Stmt := top 14
noncomputable abbrev NscDraws : List Str := ["_law_cell", "_law_sizes", "_law_found", "_law_figures", "_law_k", "_law_mixed"]
noncomputable abbrev PscDraws : List Str := ["_law_cell", "_law_sizes"]
theorem scDraws : FnScope NscDraws PscDraws (defScope sDraws) := ⟨rfl, rfl, rfl, by decide +kernel, rfl, by decide +kernel, by decide +kernel⟩
structure Txt (K : PySem.W.Frag) (mg : Str → Option Value) : Prop where
  len : mg "len" = none
  isinstance : mg "isinstance" = none
  tuple : mg "tuple" = none
  list : mg "list" = none
  dict : mg "dict" = none
  bool : mg "bool" = none
  range : mg "range" = none
  sorted : mg "sorted" = none
  set : mg "set" = none
  any : ∃ t, mg "ANY" = some (.str "*" t)
section
variable {X : Cx} {pos : Pos} {mg : Str → Option Value} {K : PySem.W.Frag}
theorem g_str {x y : Str} (e : ∃ t, mg x = some (.str y t)) (hg : Gl X x) (hm : X.mg = mg) (hd : (x == ("__debug__" : Str)) = false) : M.GE X (.Name x pos) (M.aC (.str y)) := by
  obtain ⟨t, e⟩ := e
  exact M.pe_glob (v := .str y) hg (by rw [hm]; exact e) ⟨t, rfl⟩ (fun _ => .str) hd
theorem Txt.pe_ANY (T : Txt K mg) (hg : Gl X "ANY" := by rfl) (hm : X.mg = mg := by rfl) : M.GE X (.Name "ANY" pos) (M.aC (.str "*")) := g_str T.any hg hm (by decide +kernel)
end
open M
theorem sz {n : Nat} (h : decide (n ≤ 100) = true) : n ≤ sizeLine := by rw [sizeLine_eq]; have := of_decide_eq_true h; omega
theorem ix_tup {ds : List D} {i : Int} {S : Sto} {Q : AK} : aIx (.tup ds) (.int i) S Q = ∃ e, atI ds i = some e ∧ Q (.dat e) S := rfl
theorem ix_lst {ds : List D} {i : Int} {S : Sto} {Q : AK} : aIx (.lst ds) (.int i) S Q = ∃ e, atI ds i = some e ∧ Q (.dat e) S := rfl
theorem at0 {α : Type} {a : α} {r : List α} : atI (a :: r) (0 : Int) = some a := (atI_nat (j := 0) rfl : atI (a :: r) ((0 : Nat) : Int) = some a)
theorem at1 {α : Type} {a b : α} {r : List α} : atI (a :: b :: r) (1 : Int) = some b := (atI_nat (j := 1) rfl : atI (a :: b :: r) ((1 : Nat) : Int) = some b)
theorem at2 {α : Type} {a b c : α} {r : List α} : atI (a :: b :: c :: r) (2 : Int) = some c := (atI_nat (j := 2) rfl : atI (a :: b :: c :: r) ((2 : Nat) : Int) = some c)
theorem at3 {α : Type} {a b c d : α} {r : List α} : atI (a :: b :: c :: d :: r) (3 : Int) = some d := (atI_nat (j := 3) rfl : atI (a :: b :: c :: d :: r) ((3 : Nat) : Int) = some d)
theorem at_lt {ds : List D} {z : Nat} (h : z < ds.length) : ∃ e, atI ds (z : Int) = some e ∧ e ∈ ds := ⟨ds[z], atI_nat (List.getElem?_eq_getElem h), List.getElem_mem h⟩
theorem pick {ds : List D} {z : Nat} {S : Sto} {Q : AK} (h : z < ds.length) (k : ∀ e ∈ ds, Q (.dat e) S) : aIx (.lst ds) (.int z) S Q := by
  obtain ⟨e, h1, h2⟩ := at_lt h
  exact ⟨e, h1, k e h2⟩
inductive Lf where
  | stay | step (b : Bool) (x : Str) | mk (b : Bool) (m : Str)
noncomputable def side (b : Bool) : Str := if b then "on" else "back"
noncomputable def mkS (b : Bool) : Str := if b then "at" else "off"
noncomputable def lD : Lf → D
  | .stay => .tup [.str "stay"]
  | .step b x => .tup [.str "step", .str (side b), .str x]
  | .mk b m => .tup [.str (mkS b), .str m]
noncomputable def WD : List Str := ["a", "ab", "stay", "*"]
noncomputable def MK : List Str := ["a", "many"]
noncomputable def LOk : Lf → Prop
  | .stay => True
  | .step _ x => x ∈ WD
  | .mk _ m => m ∈ MK
theorem wd_ok {x : Str} (h : x ∈ WD) : okS x = true := by
  simp only [WD, List.mem_cons, List.not_mem_nil, or_false] at h
  rcases h with rfl | rfl | rfl | rfl <;> decide +kernel
theorem mk_ok {x : Str} (h : x ∈ MK) : okS x = true := by
  simp only [MK, List.mem_cons, List.not_mem_nil, or_false] at h
  rcases h with rfl | rfl <;> decide +kernel
theorem inS_mem {m : Str} : ∀ {mg : List Str}, inS (.str m) mg = decide (m ∈ mg)
  | [] => rfl
  | a :: r => by
    have ih := inS_mem (m := m) (mg := r)
    unfold inS at ih ⊢
    rw [List.any_cons, ih]
    simp only [isS]
    by_cases h1 : m = a <;> by_cases h2 : m ∈ r <;> simp [h1, h2]
noncomputable def hold (l : Lf) (ms : List Str) : Bool := match l with
  | .stay => true
  | .step _ _ => false
  | .mk b m => decide (m ∈ ms) == b
noncomputable def take (l : Lf) (s w : Str) : Bool := match l with
  | .step b x => decide (side b = s) && (decide (x = w) || decide (x = "*"))
  | _ => false
noncomputable def texts (ss : List Str) : Prop := ss.length ≤ 50 ∧ ∀ x ∈ ss, okS x = true
section
variable {P : Program} {w : World} {K : PySem.W.Frag} {mg : Str → Option Value} {base : Heap}
noncomputable def spHolds : AN := fun ds S Q => ∃ (l : Lf) (ms : List Str), ds = [lD l, .lst (ms.map D.str)] ∧ LOk l ∧ texts ms ∧ Q (.dat (.bl (hold l ms))) S
theorem d_Holds (T : Txt K mg) (F : Src K mg "holds" PscHolds sHolds) : Def P w K mg base 1 "holds" PscHolds (conSp K spHolds) := by
  refine defA F scHolds (fun ds S Q h => ?_) (fun f cdv A outer s H E hr => ?_)
  · obtain ⟨l, ms, rfl, _⟩ := h; rfl
  · refine ⟨_, (M.pss_cons (M.ps_if (M.pt_cmpR (M.o_eq hr) (M.pe_ix M.o_ix (M.pv 0) M.pe_int (fun _ _ => rfl)) M.pe_str (nomark _))
        (M.pss_one (M.ps_ret (M.pe_cmpR (M.o_in hr) (M.pe_ix M.o_ix (M.pv 0) M.pe_int (fun _ _ => rfl)) (M.pv 1) rfl)))
        M.pss_nil)
      (M.pss_cons (M.ps_if (M.pt_cmpR (M.o_eq hr) (M.pe_ix M.o_ix (M.pv 0) M.pe_int (fun _ _ => rfl)) M.pe_str (nomark _))
        (M.pss_one (M.ps_ret (M.pe_cmpR (M.o_notIn hr) (M.pe_ix M.o_ix (M.pv 0) M.pe_int (fun _ _ => rfl)) (M.pv 1) rfl)))
        M.pss_nil)
      (M.pss_one (M.ps_ret (M.pe_cmpR (M.o_eq hr) (M.pe_ix M.o_ix (M.pv 0) M.pe_int (fun _ _ => rfl)) M.pe_str (nomark _)))))), fun ds S Q h => ?_⟩
    obtain ⟨l, ms, rfl, hl, hm, q⟩ := h
    have e0 : startA NscHolds [lD l, .lst (ms.map D.str)] = [some (lD l), some (.lst (ms.map D.str))] := rfl
    rw [e0]
    simp only [aRet, aRetN, aAndV, aOrV, aNotV, aCall, aCons, aNil, aVar, aC, aOp, aUn, aB, aTru, aIf, aSeq, aIfS, aNot, aAnd, aOr, aAsg, agName, aNext, aChain, aSl, aPart, aNoPart, aDrop, aTup, aLst, rd_dat, rd_new, mod_lst, le_int', lt_int', aI_int, add_int', add_lst', eq_int', eq_str', tru_bl, tru_lst, tru_tup, true_and, aIsi, aLen, see_int', see_str', see_bl', see_non', see_tup', see_lst', see_stc', see_scr', List.getElem?_cons_zero, List.getElem?_cons_succ, List.set_cons_zero, List.set_cons_succ, Option.some.injEq, exists_eq_left', List.cons.injEq, and_true, D.ty.injEq, D.bl.injEq, D.int.injEq, D.str.injEq, and_assoc, exists_and_left, exists_eq_left, exists_and_right, ret_bl, ret_int, Bool.false_eq_true, if_true, if_false, Bool.not_true, Bool.not_false]
    have inl : ∀ {neg : Bool} {m : Str} {Q' : AK}, okS m = true → Q' (.dat (.bl (neg != decide (m ∈ ms)))) S → aIn neg (.str m) (.lst (ms.map D.str)) S Q' := fun {neg m Q'} h1 q' =>
      in_textsL (n := 0) (ss := ms) h1 (by decide) (List.all_eq_true.mpr hm.2) (by rw [inS_mem]; exact q') (by have := hm.1; omega)
    cases l with
    | stay =>
      simp only [lD, ix_tup, at0, at1, at2, aRet, aRetN, aAndV, aOrV, aNotV, aCall, aCons, aNil, aVar, aC, aOp, aUn, aB, aTru, aIf, aSeq, aIfS, aNot, aAnd, aOr, aAsg, agName, aNext, aChain, aSl, aPart, aNoPart, aDrop, aTup, aLst, rd_dat, rd_new, mod_lst, le_int', lt_int', aI_int, add_int', add_lst', eq_int', eq_str', tru_bl, tru_lst, tru_tup, true_and, aIsi, aLen, see_int', see_str', see_bl', see_non', see_tup', see_lst', see_stc', see_scr', List.getElem?_cons_zero, List.getElem?_cons_succ, List.set_cons_zero, List.set_cons_succ, Option.some.injEq, exists_eq_left', List.cons.injEq, and_true, D.ty.injEq, D.bl.injEq, D.int.injEq, D.str.injEq, and_assoc, exists_and_left, exists_eq_left, exists_and_right, ret_bl, ret_int, Bool.false_eq_true, if_true, if_false, Bool.not_true, Bool.not_false]
      rw [if_neg (by decide), if_neg (by decide)]
      exact q
    | step b x =>
      simp only [lD, ix_tup, at0, at1, at2, aRet, aRetN, aAndV, aOrV, aNotV, aCall, aCons, aNil, aVar, aC, aOp, aUn, aB, aTru, aIf, aSeq, aIfS, aNot, aAnd, aOr, aAsg, agName, aNext, aChain, aSl, aPart, aNoPart, aDrop, aTup, aLst, rd_dat, rd_new, mod_lst, le_int', lt_int', aI_int, add_int', add_lst', eq_int', eq_str', tru_bl, tru_lst, tru_tup, true_and, aIsi, aLen, see_int', see_str', see_bl', see_non', see_tup', see_lst', see_stc', see_scr', List.getElem?_cons_zero, List.getElem?_cons_succ, List.set_cons_zero, List.set_cons_succ, Option.some.injEq, exists_eq_left', List.cons.injEq, and_true, D.ty.injEq, D.bl.injEq, D.int.injEq, D.str.injEq, and_assoc, exists_and_left, exists_eq_left, exists_and_right, ret_bl, ret_int, Bool.false_eq_true, if_true, if_false, Bool.not_true, Bool.not_false]
      rw [if_neg (by decide), if_neg (by decide), decide_eq_false (by decide)]
      exact q
    | mk b m =>
      simp only [lD, ix_tup, at0, at1, at2, aRet, aRetN, aAndV, aOrV, aNotV, aCall, aCons, aNil, aVar, aC, aOp, aUn, aB, aTru, aIf, aSeq, aIfS, aNot, aAnd, aOr, aAsg, agName, aNext, aChain, aSl, aPart, aNoPart, aDrop, aTup, aLst, rd_dat, rd_new, mod_lst, le_int', lt_int', aI_int, add_int', add_lst', eq_int', eq_str', tru_bl, tru_lst, tru_tup, true_and, aIsi, aLen, see_int', see_str', see_bl', see_non', see_tup', see_lst', see_stc', see_scr', List.getElem?_cons_zero, List.getElem?_cons_succ, List.set_cons_zero, List.set_cons_succ, Option.some.injEq, exists_eq_left', List.cons.injEq, and_true, D.ty.injEq, D.bl.injEq, D.int.injEq, D.str.injEq, and_assoc, exists_and_left, exists_eq_left, exists_and_right, ret_bl, ret_int, Bool.false_eq_true, if_true, if_false, Bool.not_true, Bool.not_false]
      cases b
      · rw [if_neg (by decide), if_pos (by decide)]
        refine inl (mk_ok hl) (ret_pur rfl ?_)
        have e : (true != decide (m ∈ ms)) = hold (.mk false m) ms := by simp only [hold]; cases decide (m ∈ ms) <;> rfl
        rw [e]; exact q
      · rw [if_pos (by decide)]
        refine inl (mk_ok hl) (ret_pur rfl ?_)
        have e : (false != decide (m ∈ ms)) = hold (.mk true m) ms := by simp only [hold]; cases decide (m ∈ ms) <;> rfl
        rw [e]; exact q
noncomputable def spTakes : AN := fun ds S Q => ∃ (l : Lf) (sd wd : Str), ds = [lD l, .str sd, .str wd] ∧ LOk l ∧ okS wd = true ∧ Q (.dat (.bl (take l sd wd))) S
theorem d_Takes (T : Txt K mg) (F : Src K mg "takes" PscTakes sTakes) : Def P w K mg base 1 "takes" PscTakes (conSp K spTakes) := by
  refine defA F scTakes (fun ds S Q h => ?_) (fun f cdv A outer s H E hr => ?_)
  · obtain ⟨l, sd, wd, rfl, _⟩ := h; rfl
  · refine ⟨_, (M.pss_one (M.ps_ret (M.pe_and (M.pe_cmpR (M.o_eq hr) (M.pe_ix M.o_ix (M.pv 0) M.pe_int (fun _ _ => rfl)) M.pe_str (nomark _)) (M.pe_and (M.pe_cmpR (M.o_eq hr) (M.pe_ix M.o_ix (M.pv 0) M.pe_int (fun _ _ => rfl)) (M.pv 1) (nomark _)) (M.pe_one (M.pe_cmpR (M.o_in hr) (M.pe_ix M.o_ix (M.pv 0) M.pe_int (fun _ _ => rfl)) (M.pe_tup (M.pac (M.pv 2) (M.pac T.pe_ANY M.pa_nil))) rfl)))))), fun ds S Q h => ?_⟩
    obtain ⟨l, sd, wd, rfl, hl, hw, q⟩ := h
    have e0 : startA NscTakes [lD l, .str sd, .str wd] = [some (lD l), some (.str sd), some (.str wd)] := rfl
    rw [e0]
    simp only [aRet, aRetN, aAndV, aOrV, aNotV, aCall, aCons, aNil, aVar, aC, aOp, aUn, aB, aTru, aIf, aSeq, aIfS, aNot, aAnd, aOr, aAsg, agName, aNext, aChain, aSl, aPart, aNoPart, aDrop, aTup, aLst, rd_dat, rd_new, mod_lst, le_int', lt_int', aI_int, add_int', add_lst', eq_int', eq_str', tru_bl, tru_lst, tru_tup, true_and, aIsi, aLen, see_int', see_str', see_bl', see_non', see_tup', see_lst', see_stc', see_scr', List.getElem?_cons_zero, List.getElem?_cons_succ, List.set_cons_zero, List.set_cons_succ, Option.some.injEq, exists_eq_left', List.cons.injEq, and_true, D.ty.injEq, D.bl.injEq, D.int.injEq, D.str.injEq, and_assoc, exists_and_left, exists_eq_left, exists_and_right, ret_bl, ret_int, Bool.false_eq_true, if_true, if_false, Bool.not_true, Bool.not_false]
    cases l with
    | stay =>
      simp only [lD, ix_tup, at0, at1, at2, aRet, aRetN, aAndV, aOrV, aNotV, aCall, aCons, aNil, aVar, aC, aOp, aUn, aB, aTru, aIf, aSeq, aIfS, aNot, aAnd, aOr, aAsg, agName, aNext, aChain, aSl, aPart, aNoPart, aDrop, aTup, aLst, rd_dat, rd_new, mod_lst, le_int', lt_int', aI_int, add_int', add_lst', eq_int', eq_str', tru_bl, tru_lst, tru_tup, true_and, aIsi, aLen, see_int', see_str', see_bl', see_non', see_tup', see_lst', see_stc', see_scr', List.getElem?_cons_zero, List.getElem?_cons_succ, List.set_cons_zero, List.set_cons_succ, Option.some.injEq, exists_eq_left', List.cons.injEq, and_true, D.ty.injEq, D.bl.injEq, D.int.injEq, D.str.injEq, and_assoc, exists_and_left, exists_eq_left, exists_and_right, ret_bl, ret_int, Bool.false_eq_true, if_true, if_false, Bool.not_true, Bool.not_false]
      rw [if_neg (by decide)]
      exact q
    | step b x =>
      simp only [lD, ix_tup, at0, at1, at2, aRet, aRetN, aAndV, aOrV, aNotV, aCall, aCons, aNil, aVar, aC, aOp, aUn, aB, aTru, aIf, aSeq, aIfS, aNot, aAnd, aOr, aAsg, agName, aNext, aChain, aSl, aPart, aNoPart, aDrop, aTup, aLst, rd_dat, rd_new, mod_lst, le_int', lt_int', aI_int, add_int', add_lst', eq_int', eq_str', tru_bl, tru_lst, tru_tup, true_and, aIsi, aLen, see_int', see_str', see_bl', see_non', see_tup', see_lst', see_stc', see_scr', List.getElem?_cons_zero, List.getElem?_cons_succ, List.set_cons_zero, List.set_cons_succ, Option.some.injEq, exists_eq_left', List.cons.injEq, and_true, D.ty.injEq, D.bl.injEq, D.int.injEq, D.str.injEq, and_assoc, exists_and_left, exists_eq_left, exists_and_right, ret_bl, ret_int, Bool.false_eq_true, if_true, if_false, Bool.not_true, Bool.not_false]
      rw [if_pos (by decide)]
      refine ite2 (fun h => ⟨sz rfl, in_texts (n := 0) (ss := [wd, "*"]) (wd_ok hl) (by decide) (by simp only [List.all_cons, List.all_nil, hw, Bool.and_true]; decide +kernel) (ret_pur rfl ?_) (by simp)⟩) (fun h => ?_)
      · have h : side b = sd := of_decide_eq_true h
        have e : (false != inS (.str x) [wd, "*"]) = take (.step b x) sd wd := by
          simp only [take, h, decide_true, Bool.true_and, inS, List.any_cons, List.any_nil, Bool.or_false, isS, Bool.false_bne]
        rw [e]; exact q
      · have h : ¬ side b = sd := fun e => h (decide_eq_true e)
        have e : take (.step b x) sd wd = false := by simp only [take, decide_eq_false h, Bool.false_and]
        rw [e] at q; exact q
    | mk b m =>
      simp only [lD, ix_tup, at0, at1, at2, aRet, aRetN, aAndV, aOrV, aNotV, aCall, aCons, aNil, aVar, aC, aOp, aUn, aB, aTru, aIf, aSeq, aIfS, aNot, aAnd, aOr, aAsg, agName, aNext, aChain, aSl, aPart, aNoPart, aDrop, aTup, aLst, rd_dat, rd_new, mod_lst, le_int', lt_int', aI_int, add_int', add_lst', eq_int', eq_str', tru_bl, tru_lst, tru_tup, true_and, aIsi, aLen, see_int', see_str', see_bl', see_non', see_tup', see_lst', see_stc', see_scr', List.getElem?_cons_zero, List.getElem?_cons_succ, List.set_cons_zero, List.set_cons_succ, Option.some.injEq, exists_eq_left', List.cons.injEq, and_true, D.ty.injEq, D.bl.injEq, D.int.injEq, D.str.injEq, and_assoc, exists_and_left, exists_eq_left, exists_and_right, ret_bl, ret_int, Bool.false_eq_true, if_true, if_false, Bool.not_true, Bool.not_false]
      rw [if_neg (by cases b <;> decide)]
      exact q
noncomputable def spCell : AN := fun ds S Q => ∃ (ns : List Int) (k : Nat), ds = [.scr ns, .int k] ∧ ∀ z : Int, Q (.dat (.int z)) S
theorem d_Cell (T : Txt K mg) (F : Src K mg "_law_cell_at" PscCell sCell) : Def P w K mg base 1 "_law_cell_at" PscCell (conSp K spCell) := by
  refine defA F scCell (fun ds S Q h => ?_) (fun f cdv A outer s H E hr => ?_)
  · obtain ⟨ns, k, rfl, _⟩ := h; rfl
  · refine ⟨_, (M.pss_cons (M.ps_if (M.pt_cmpR M.o_lt (M.pv 1) (M.pcb M.o_len (by rfl) T.len (by decide +kernel) (M.pac (M.pv 0) M.pa_nil)) (nomark _))
        (M.pss_one (M.ps_ret (M.pe_ix M.o_ix (M.pv 0) (M.pv 1) (fun _ _ => rfl))))
        M.pss_nil)
      (M.pss_one (M.ps_ret M.pe_int))), fun ds S Q h => ?_⟩
    obtain ⟨ns, k, rfl, q⟩ := h
    have e0 : startA NscCell [.scr ns, .int k] = [some (.scr ns), some (.int k)] := rfl
    rw [e0]
    simp only [aRet, aRetN, aAndV, aOrV, aNotV, aCall, aCons, aNil, aVar, aC, aOp, aUn, aB, aTru, aIf, aSeq, aIfS, aNot, aAnd, aOr, aAsg, agName, aNext, aChain, aSl, aPart, aNoPart, aDrop, aTup, aLst, rd_dat, rd_new, mod_lst, le_int', lt_int', aI_int, add_int', add_lst', eq_int', eq_str', tru_bl, tru_lst, tru_tup, true_and, aIsi, aLen, see_int', see_str', see_bl', see_non', see_tup', see_lst', see_stc', see_scr', List.getElem?_cons_zero, List.getElem?_cons_succ, List.set_cons_zero, List.set_cons_succ, Option.some.injEq, exists_eq_left', List.cons.injEq, and_true, D.ty.injEq, D.bl.injEq, D.int.injEq, D.str.injEq, and_assoc, exists_and_left, exists_eq_left, exists_and_right, ret_bl, ret_int, Bool.false_eq_true, if_true, if_false, Bool.not_true, Bool.not_false]
    refine ⟨ns.length, rfl, ite2 (fun h => ?_) (fun h => q _)⟩
    have h : k < ns.length := by have := of_decide_eq_true h; omega
    exact ⟨ns[k], atI_nat (List.getElem?_eq_getElem h), ret_pur rfl (q _)⟩
noncomputable def spWords : AN := fun ds S Q => ds = [] ∧ Q (.new (.lst [.str "a", .str "ab", .str "stay"])) S
theorem d_Words (T : Txt K mg) (F : Src K mg "_law_words" PscWords sWords) : Def P w K mg base 1 "_law_words" PscWords (conSp K spWords) := by
  refine defA F scWords (fun ds S Q h => ?_) (fun f cdv A outer s H E hr => ?_)
  · obtain ⟨rfl, _⟩ := h; rfl
  · refine ⟨_, (M.pss_one (M.ps_ret (M.pe_lst (M.pac M.pe_str (M.pac M.pe_str (M.pac M.pe_str M.pa_nil)))))), fun ds S Q h => ?_⟩
    obtain ⟨rfl, q⟩ := h
    have e0 : startA NscWords [] = [] := rfl
    rw [e0]
    simp only [aRet, aRetN, aAndV, aOrV, aNotV, aCall, aCons, aNil, aVar, aC, aOp, aUn, aB, aTru, aIf, aSeq, aIfS, aNot, aAnd, aOr, aAsg, agName, aNext, aChain, aSl, aPart, aNoPart, aDrop, aTup, aLst, rd_dat, rd_new, mod_lst, le_int', lt_int', aI_int, add_int', add_lst', eq_int', eq_str', tru_bl, tru_lst, tru_tup, true_and, aIsi, aLen, see_int', see_str', see_bl', see_non', see_tup', see_lst', see_stc', see_scr', List.getElem?_cons_zero, List.getElem?_cons_succ, List.set_cons_zero, List.set_cons_succ, Option.some.injEq, exists_eq_left', List.cons.injEq, and_true, D.ty.injEq, D.bl.injEq, D.int.injEq, D.str.injEq, and_assoc, exists_and_left, exists_eq_left, exists_and_right, ret_bl, ret_int, Bool.false_eq_true, if_true, if_false, Bool.not_true, Bool.not_false]
    exact ⟨sz rfl, ret_new rfl q⟩
noncomputable def spMarks : AN := fun ds S Q => ds = [] ∧ Q (.new (.lst [.str "a", .str "many"])) S
theorem d_Marks (T : Txt K mg) (F : Src K mg "_law_marks" PscMarks sMarks) : Def P w K mg base 1 "_law_marks" PscMarks (conSp K spMarks) := by
  refine defA F scMarks (fun ds S Q h => ?_) (fun f cdv A outer s H E hr => ?_)
  · obtain ⟨rfl, _⟩ := h; rfl
  · refine ⟨_, (M.pss_one (M.ps_ret (M.pe_lst (M.pac M.pe_str (M.pac M.pe_str M.pa_nil))))), fun ds S Q h => ?_⟩
    obtain ⟨rfl, q⟩ := h
    have e0 : startA NscMarks [] = [] := rfl
    rw [e0]
    simp only [aRet, aRetN, aAndV, aOrV, aNotV, aCall, aCons, aNil, aVar, aC, aOp, aUn, aB, aTru, aIf, aSeq, aIfS, aNot, aAnd, aOr, aAsg, agName, aNext, aChain, aSl, aPart, aNoPart, aDrop, aTup, aLst, rd_dat, rd_new, mod_lst, le_int', lt_int', aI_int, add_int', add_lst', eq_int', eq_str', tru_bl, tru_lst, tru_tup, true_and, aIsi, aLen, see_int', see_str', see_bl', see_non', see_tup', see_lst', see_stc', see_scr', List.getElem?_cons_zero, List.getElem?_cons_succ, List.set_cons_zero, List.set_cons_succ, Option.some.injEq, exists_eq_left', List.cons.injEq, and_true, D.ty.injEq, D.bl.injEq, D.int.injEq, D.str.injEq, and_assoc, exists_and_left, exists_eq_left, exists_and_right, ret_bl, ret_int, Bool.false_eq_true, if_true, if_false, Bool.not_true, Bool.not_false]
    exact ⟨sz rfl, ret_new rfl q⟩
noncomputable def spLeaf : AN := fun ds S Q => ∃ (a b : Nat), ds = [.int a, .int b] ∧ a < 5 ∧ ∀ l : Lf, LOk l → Q (.dat (lD l)) S
theorem d_Leaf (T : Txt K mg) (F : Src K mg "_law_leaf" PscLeaf sLeaf) (D_law_words : Def P w K mg base 1 "_law_words" PscWords (conSp K spWords)) (D_law_marks : Def P w K mg base 1 "_law_marks" PscMarks (conSp K spMarks)) : Def P w K mg base 2 "_law_leaf" PscLeaf (conSp K spLeaf) := by
  refine defA F scLeaf (fun ds S Q h => ?_) (fun f cdv A outer s H E hr => ?_)
  · obtain ⟨a, b, rfl, _⟩ := h; rfl
  · refine ⟨_, (M.pss_cons (M.ps_if (M.pt_cmpR (M.o_eq hr) (M.pv 0) M.pe_int (nomark _))
        (M.pss_one (M.ps_ret (M.pe_tup (M.pac M.pe_str M.pa_nil))))
        M.pss_nil)
      (M.pss_cons (M.ps_if (M.pt_cmpR M.o_lt (M.pv 0) M.pe_int (nomark _))
        (M.pss_one (M.ps_ret (M.pe_tup (M.pac M.pe_str (M.pac (M.pe_ix M.o_ix (M.pe_lst (M.pac M.pe_str (M.pac M.pe_str M.pa_nil))) (M.pe_op M.o_mod (M.pv 1) M.pe_int) (fun _ _ => rfl)) (M.pac (M.pe_ix M.o_ix (M.pe_op M.o_add (M.pe_own0 D_law_words (hr.mono (by decide)) (by rfl)) (M.pe_lst (M.pac M.pe_str M.pa_nil))) (M.pe_op M.o_mod (M.pe_op M.o_fdiv (M.pv 1) M.pe_int) M.pe_int) (fun _ _ => rfl)) M.pa_nil))))))
        M.pss_nil)
      (M.pss_one (M.ps_ret (M.pe_tup (M.pac (M.pe_ix M.o_ix (M.pe_lst (M.pac M.pe_str (M.pac M.pe_str M.pa_nil))) (M.pe_op M.o_sub (M.pv 0) M.pe_int) (fun _ _ => rfl)) (M.pac (M.pe_ix M.o_ix (M.pe_own0 D_law_marks (hr.mono (by decide)) (by rfl)) (M.pe_op M.o_mod (M.pv 1) M.pe_int) (fun _ _ => rfl)) M.pa_nil))))))), fun ds S Q h => ?_⟩
    obtain ⟨a, b, rfl, ha, q⟩ := h
    have e0 : startA NscLeaf [.int a, .int b] = [some (.int a), some (.int b)] := rfl
    rw [e0]
    simp only [aRet, aRetN, aAndV, aOrV, aNotV, aCall, aCons, aNil, aVar, aC, aOp, aUn, aB, aTru, aIf, aSeq, aIfS, aNot, aAnd, aOr, aAsg, agName, aNext, aChain, aSl, aPart, aNoPart, aDrop, aTup, aLst, rd_dat, rd_new, mod_lst, le_int', lt_int', aI_int, add_int', add_lst', eq_int', eq_str', tru_bl, tru_lst, tru_tup, true_and, aIsi, aLen, see_int', see_str', see_bl', see_non', see_tup', see_lst', see_stc', see_scr', List.getElem?_cons_zero, List.getElem?_cons_succ, List.set_cons_zero, List.set_cons_succ, Option.some.injEq, exists_eq_left', List.cons.injEq, and_true, D.ty.injEq, D.bl.injEq, D.int.injEq, D.str.injEq, and_assoc, exists_and_left, exists_eq_left, exists_and_right, ret_bl, ret_int, Bool.false_eq_true, if_true, if_false, Bool.not_true, Bool.not_false]
    refine ite2 (fun h => ⟨sz rfl, ret_pur rfl (q .stay trivial)⟩) (fun h => ?_)
    have h0 : ¬ ((a : Int) = 0) := by simpa using h
    refine ite2 (fun h1 => ?_) (fun h1 => ?_)
    · refine ⟨sz rfl, by decide, ?_⟩
      rw [show ((b : Int) % 2) = ((b % 2 : Nat) : Int) by omega, show ((b : Int) / 2 % 4) = ((b / 2 % 4 : Nat) : Int) by omega]
      refine pick (by show b % 2 < 2; omega) fun e he => ?_
      obtain ⟨c, rfl⟩ : ∃ c, e = .str (side c) := by
        simp only [List.mem_cons, List.not_mem_nil, or_false] at he
        rcases he with rfl | rfl
        · exact ⟨true, rfl⟩
        · exact ⟨false, rfl⟩
      refine ⟨rfl, sz rfl, sz rfl, ⟨by decide, by decide⟩, by decide, ?_⟩
      refine pick (by show b / 2 % 4 < 4; omega) fun e he => ?_
      obtain ⟨x, rfl, hx⟩ : ∃ x, e = .str x ∧ x ∈ WD := by
        simp only [List.cons_append, List.nil_append, List.mem_cons, List.not_mem_nil, or_false] at he
        rcases he with rfl | rfl | rfl | rfl <;> exact ⟨_, rfl, by simp [WD]⟩
      exact ⟨sz rfl, ret_pur rfl (q (.step c x) hx)⟩
    · have h3 : ¬ ((a : Int) < 3) := by simpa using h1
      refine ⟨sz rfl, ?_⟩
      rw [show ((b : Int) % 2) = ((b % 2 : Nat) : Int) by omega, show ((a : Int) - 3) = ((a - 3 : Nat) : Int) by omega]
      refine pick (by show a - 3 < 2; omega) fun e he => ?_
      obtain ⟨c, rfl⟩ : ∃ c, e = .str (mkS c) := by
        simp only [List.mem_cons, List.not_mem_nil, or_false] at he
        rcases he with rfl | rfl
        · exact ⟨true, rfl⟩
        · exact ⟨false, rfl⟩
      refine ⟨rfl, by decide, ?_⟩
      refine pick (by show b % 2 < 2; omega) fun e he => ?_
      obtain ⟨x, rfl, hx⟩ : ∃ x, e = .str x ∧ x ∈ MK := by
        simp only [List.mem_cons, List.not_mem_nil, or_false] at he
        rcases he with rfl | rfl <;> exact ⟨_, rfl, by simp [MK]⟩
      exact ⟨sz rfl, ret_pur rfl (q (.mk c x) hx)⟩
noncomputable def nL (ns : List Nat) : List D := ns.map fun n : Nat => D.int n
theorem purs_nL : ∀ ns : List Nat, purs (nL ns) = true
  | [] => rfl
  | n :: ns => by
    have := purs_nL ns
    unfold nL at this ⊢
    simp only [List.map_cons, purs, pur, this, Bool.and_self]
theorem mul_int' {i j : Int} {S : Sto} {Q : AK} : aMul (.int i) (.int j) S Q = (CMul i j ∧ Q (.dat (.int (i * j))) S) := rfl
noncomputable def spDraws : AN := fun ds S Q => ∃ (z : Int) (ss : List Nat), ds = [.int z, .lst (nL ss)] ∧ (∀ n ∈ ss, 0 < n ∧ n < 1000) ∧ ss.length ≤ 100 ∧ ∀ ys : List Nat, ys.length = ss.length → (∀ (i : Nat) (a b : Nat), ys[i]? = some a → ss[i]? = some b → a < b) → Q (.new (.lst (nL ys))) S
theorem d_Draws (T : Txt K mg) (F : Src K mg "_law_draws" PscDraws sDraws) : Def P w K mg base 1 "_law_draws" PscDraws (conSp K spDraws) := by
  refine defA F scDraws (fun ds S Q h => ?_) (fun f cdv A outer s H E hr => ?_)
  · obtain ⟨z, ss, rfl, _⟩ := h; rfl
  · refine ⟨_, (M.pss_cons (M.ps_set (i := 2) scDraws.nd rfl (Or.inl rfl) (M.alo (M.pe_lst M.pa_nil)))
      (M.pss_cons (M.ps_set (i := 3) scDraws.nd rfl (Or.inl rfl) (M.pe_op M.o_sub (M.pv 0) (M.pe_op M.o_pow M.pe_int M.pe_int)))
      (M.pss_cons (M.ps_for PassesOwn.never rfl (M.pi_range1 (by rfl) T.range (M.pac (M.pcb M.o_len (by rfl) T.len (by decide +kernel) (M.pac (M.pv 1) M.pa_nil)) M.pa_nil)) (M.pg_name (i := 4) scDraws.nd rfl (Or.inl rfl))
        (M.pss_cons (M.ps_set (i := 5) scDraws.nd rfl (Or.inl rfl) (M.pe_op M.o_mod (M.pe_op M.o_mul (M.pe_op M.o_add (M.pe_op M.o_mod (M.pv 0) M.pe_int) M.pe_int) (M.pe_op M.o_add (M.pe_op M.o_mul (M.pv 4) (M.pv 4)) M.pe_int)) M.pe_int))
        (M.pss_cons (M.ps_set (i := 5) scDraws.nd rfl (Or.inl rfl) (M.pe_op M.o_mod (M.pe_op M.o_mul (M.pe_op M.o_add (M.pe_op M.o_add (M.pe_op M.o_mul (M.pv 5) (M.pv 5)) (M.pe_op M.o_mul M.pe_int (M.pv 4))) M.pe_int) M.pe_int) M.pe_int))
        (M.pss_cons (M.ps_if (M.pt_cmpR M.o_ge (M.pv 0) (M.pe_op M.o_pow M.pe_int M.pe_int) (nomark _))
          (M.pss_one (M.ps_set (i := 5) scDraws.nd rfl (Or.inl rfl) (M.pv 3)))
          M.pss_nil)
        (M.pss_cons (M.ps_expr (M.pe_bm PySem.F.plainAttrs_list PySem.F.slot_list_append PySem.F.type_list_append M.m_append (M.pv 2) (M.pac (M.pe_op M.o_mod (M.pv 5) (M.pe_ix M.o_ix (M.pv 1) (M.pv 4) (fun _ _ => rfl))) M.pa_nil)))
        (M.pss_one (M.ps_set (i := 3) scDraws.nd rfl (Or.inl rfl) (M.pe_op M.o_fdiv (M.pv 3) (M.pe_ix M.o_ix (M.pv 1) (M.pv 4) (fun _ _ => rfl))))))))))
      (M.pss_one (M.ps_ret (M.pv 2)))))), fun ds S Q h => ?_⟩
    obtain ⟨z, ss, rfl, hs, hl, q⟩ := h
    have e0 : startA NscDraws [.int z, .lst (nL ss)] = [some (.int z), some (.lst (nL ss)), none, none, none, none] := rfl
    rw [e0]
    simp only [aAlloc, aLst, aNil, aFor, iRng, aRet, aRetN, aAndV, aOrV, aNotV, aCall, aCons, aNil, aVar, aC, aOp, aUn, aB, aTru, aIf, aSeq, aIfS, aNot, aAnd, aOr, aAsg, agName, aNext, aChain, aSl, aPart, aNoPart, aDrop, aTup, aLst, rd_dat, rd_new, mod_lst, le_int', lt_int', aI_int, add_int', add_lst', eq_int', eq_str', tru_bl, tru_lst, tru_tup, true_and, aIsi, aLen, see_int', see_str', see_bl', see_non', see_tup', see_lst', see_stc', see_scr', List.getElem?_cons_zero, List.getElem?_cons_succ, List.set_cons_zero, List.set_cons_succ, Option.some.injEq, exists_eq_left', List.cons.injEq, and_true, D.ty.injEq, D.bl.injEq, D.int.injEq, D.str.injEq, and_assoc, exists_and_left, exists_eq_left, exists_and_right, ret_bl, ret_int, Bool.false_eq_true, if_true, if_false, Bool.not_true, Bool.not_false]
    refine ⟨Nat.zero_le _, ⟨by decide, by decide, by decide⟩, ss.length, by simp [lenD, nL], by omega, by omega, ?_⟩
    refine loop_by (fun rest δ S' => ∃ (ys : List Nat) (fg : Int) (v4 v5 : Option D), δ = [some (.int z), some (.lst (nL ss)), some (.loc S.length), some (.int fg), v4, v5] ∧ S' = S ++ [some (.lst (nL ys))] ∧
        rest = ((List.range ss.length).drop ys.length).map (fun a : Nat => D.int a) ∧ ys.length ≤ ss.length ∧ ∀ (i a b : Nat), ys[i]? = some a → ss[i]? = some b → a < b) ?_ ?_ _ _ _ ⟨[], _, none, none, rfl, rfl, by simp [iRngD], Nat.zero_le _, fun i a b h => by simp at h⟩
    · rintro δ S' ⟨ys, fg, v4, v5, rfl, rfl, hr, hle, hlt⟩
      have hlen : ys.length = ss.length := by
        have := congrArg List.length hr
        simp at this; omega
      refine ⟨trivial, _, rfl, ?_⟩
      exact ret_loc (n := S.length) (Nat.le_refl _) (purs_nL ys) (by simp) (by simp) (q ys hlen hlt)
    · rintro t rest δ S' N' ⟨ys, fg, v4, v5, rfl, rfl, hr, hle, hlt⟩ hN'
      have hi : ys.length < ss.length := by
        rcases Nat.lt_or_ge ys.length ss.length with h | h
        · exact h
        · rw [List.drop_of_length_le (by simpa using h)] at hr; simp at hr
      rw [List.drop_eq_getElem_cons (by simpa using hi), List.map_cons, List.getElem_range] at hr
      injection hr with e1 e2
      subst e1; subst e2
      have hb : ss[ys.length]? = some ss[ys.length] := List.getElem?_eq_getElem hi
      obtain ⟨b0, b1⟩ := hs _ (List.getElem_mem hi)
      generalize ss[ys.length] = b at hb b0 b1
      have hat : atI (nL ss) ((ys.length : Nat) : Int) = some (.int (b : Int)) := atI_nat (by rw [nL, List.getElem?_map, hb]; rfl)
      have es : see (S ++ [some (.lst (nL ys))]) (.loc S.length) = .lst (nL ys) := by simp [see, MO.d]
      have fin : ∀ (mx : Int) (v5' : Option D), isTy "list" (see (S ++ [some (.lst (nL ys))]) (.loc S.length)) ∧ aIx (.lst (nL ss)) (.int ((ys.length : Nat) : Int)) (S ++ [some (.lst (nL ys))]) (fun y S2 => aI (fun x j => 0 < j) (fun i j => D.int (i % j)) (.int mx) y.d S2 fun x S1 => aAppend (.loc S.length) [x.d] S1 fun x S1 =>
          aIx (.lst (nL ss)) (.int ((ys.length : Nat) : Int)) S1 fun y S2 => aI CDiv (fun i j => D.int (i / j)) (.int fg) y.d S2 fun r S1 => N' [some (.int z), some (.lst (nL ss)), some (.loc S.length), some r.d, some (.int ((ys.length : Nat) : Int)), v5'] S1) := fun mx v5' => by
        rw [es]
        refine ⟨rfl, ?_⟩
        simp only [ix_lst, hat, Option.some.injEq, exists_eq_left', aRet, aRetN, aAndV, aOrV, aNotV, aCall, aCons, aNil, aVar, aC, aOp, aUn, aB, aTru, aIf, aSeq, aIfS, aNot, aAnd, aOr, aAsg, agName, aNext, aChain, aSl, aPart, aNoPart, aDrop, aTup, aLst, rd_dat, rd_new, mod_lst, le_int', lt_int', aI_int, add_int', add_lst', eq_int', eq_str', tru_bl, tru_lst, tru_tup, true_and, aIsi, aLen, see_int', see_str', see_bl', see_non', see_tup', see_lst', see_stc', see_scr', List.getElem?_cons_zero, List.getElem?_cons_succ, List.set_cons_zero, List.set_cons_succ, Option.some.injEq, exists_eq_left', List.cons.injEq, and_true, D.ty.injEq, D.bl.injEq, D.int.injEq, D.str.injEq, and_assoc, exists_and_left, exists_eq_left, exists_and_right, ret_bl, ret_int, Bool.false_eq_true, if_true, if_false, Bool.not_true, Bool.not_false]
        have h0 := Int.emod_nonneg mx (show (b : Int) ≠ 0 by omega)
        have h1 := Int.emod_lt_of_pos mx (show (0 : Int) < b by omega)
        obtain ⟨c, hc⟩ : ∃ c : Nat, mx % (b : Int) = c := ⟨(mx % b).toNat, by omega⟩
        rw [hc] at h1 ⊢
        refine ⟨by omega, S.length, nL ys, _, rfl, rfl, by simp, by rw [nL, List.length_map, sizeLine_eq]; omega, ?_⟩
        rw [List.set_append_right _ _ (Nat.le_refl _), Nat.sub_self]
        simp only [ix_lst, hat, Option.some.injEq, exists_eq_left', aRet, aRetN, aAndV, aOrV, aNotV, aCall, aCons, aNil, aVar, aC, aOp, aUn, aB, aTru, aIf, aSeq, aIfS, aNot, aAnd, aOr, aAsg, agName, aNext, aChain, aSl, aPart, aNoPart, aDrop, aTup, aLst, rd_dat, rd_new, mod_lst, le_int', lt_int', aI_int, add_int', add_lst', eq_int', eq_str', tru_bl, tru_lst, tru_tup, true_and, aIsi, aLen, see_int', see_str', see_bl', see_non', see_tup', see_lst', see_stc', see_scr', List.getElem?_cons_zero, List.getElem?_cons_succ, List.set_cons_zero, List.set_cons_succ, Option.some.injEq, exists_eq_left', List.cons.injEq, and_true, D.ty.injEq, D.bl.injEq, D.int.injEq, D.str.injEq, and_assoc, exists_and_left, exists_eq_left, exists_and_right, ret_bl, ret_int, Bool.false_eq_true, if_true, if_false, Bool.not_true, Bool.not_false]
        refine ⟨⟨by omega, by omega⟩, hN' _ _ ⟨ys ++ [c], _, _, _, rfl, by simp [nL], by rw [List.length_append]; rfl, by rw [List.length_append]; exact hi, fun i x y h2 h3 => ?_⟩⟩
        rcases Nat.lt_or_ge i ys.length with h | h
        · rw [List.getElem?_append_left h] at h2; exact hlt i x y h2 h3
        · rw [List.getElem?_append_right h] at h2
          obtain rfl : i = ys.length := by
            have := (List.getElem?_eq_some_iff.mp h2).1
            simp at this; omega
          rw [hb] at h3; cases h3
          simp at h2; omega
      refine ⟨trivial, ?_⟩
      simp only [aRet, aRetN, aAndV, aOrV, aNotV, aCall, aCons, aNil, aVar, aC, aOp, aUn, aB, aTru, aIf, aSeq, aIfS, aNot, aAnd, aOr, aAsg, agName, aNext, aChain, aSl, aPart, aNoPart, aDrop, aTup, aLst, rd_dat, rd_new, mod_lst, le_int', lt_int', aI_int, add_int', add_lst', eq_int', eq_str', tru_bl, tru_lst, tru_tup, true_and, aIsi, aLen, see_int', see_str', see_bl', see_non', see_tup', see_lst', see_stc', see_scr', List.getElem?_cons_zero, List.getElem?_cons_succ, List.set_cons_zero, List.set_cons_succ, Option.some.injEq, exists_eq_left', List.cons.injEq, and_true, D.ty.injEq, D.bl.injEq, D.int.injEq, D.str.injEq, and_assoc, exists_and_left, exists_eq_left, exists_and_right, ret_bl, ret_int, Bool.false_eq_true, if_true, if_false, Bool.not_true, Bool.not_false, mul_int']
      have b0 := Int.emod_nonneg z (show (1000003 : Int) ≠ 0 by decide)
      have b1 := Int.emod_lt_of_pos z (show (0 : Int) < 1000003 by decide)
      refine ⟨by decide, .inl ⟨by omega, by omega⟩, .inl ⟨by omega, by omega⟩, by decide, ?_⟩
      generalize (z % 1000003 + 1) * ((ys.length : Int) * (ys.length : Int) + 48271) = u
      have c0 := Int.emod_nonneg u (show (65537 : Int) ≠ 0 by decide)
      have c1 := Int.emod_lt_of_pos u (show (0 : Int) < 65537 by decide)
      generalize u % 65537 = v at c0 c1 ⊢
      refine ⟨.inl ⟨by omega, by omega⟩, .inl ⟨by decide, by decide⟩, .inr ⟨by decide, by decide⟩, by decide, ⟨by decide, by decide, by decide⟩, ite2 (fun _ => ?_) (fun _ => ?_)⟩
      · simp only [aBM, aRet, aRetN, aAndV, aOrV, aNotV, aCall, aCons, aNil, aVar, aC, aOp, aUn, aB, aTru, aIf, aSeq, aIfS, aNot, aAnd, aOr, aAsg, agName, aNext, aChain, aSl, aPart, aNoPart, aDrop, aTup, aLst, rd_dat, rd_new, mod_lst, le_int', lt_int', aI_int, add_int', add_lst', eq_int', eq_str', tru_bl, tru_lst, tru_tup, true_and, aIsi, aLen, see_int', see_str', see_bl', see_non', see_tup', see_lst', see_stc', see_scr', List.getElem?_cons_zero, List.getElem?_cons_succ, List.set_cons_zero, List.set_cons_succ, Option.some.injEq, exists_eq_left', List.cons.injEq, and_true, D.ty.injEq, D.bl.injEq, D.int.injEq, D.str.injEq, and_assoc, exists_and_left, exists_eq_left, exists_and_right, ret_bl, ret_int, Bool.false_eq_true, if_true, if_false, Bool.not_true, Bool.not_false]
        exact fin _ _
      · simp only [aBM, aRet, aRetN, aAndV, aOrV, aNotV, aCall, aCons, aNil, aVar, aC, aOp, aUn, aB, aTru, aIf, aSeq, aIfS, aNot, aAnd, aOr, aAsg, agName, aNext, aChain, aSl, aPart, aNoPart, aDrop, aTup, aLst, rd_dat, rd_new, mod_lst, le_int', lt_int', aI_int, add_int', add_lst', eq_int', eq_str', tru_bl, tru_lst, tru_tup, true_and, aIsi, aLen, see_int', see_str', see_bl', see_non', see_tup', see_lst', see_stc', see_scr', List.getElem?_cons_zero, List.getElem?_cons_succ, List.set_cons_zero, List.set_cons_succ, Option.some.injEq, exists_eq_left', List.cons.injEq, and_true, D.ty.injEq, D.bl.injEq, D.int.injEq, D.str.injEq, and_assoc, exists_and_left, exists_eq_left, exists_and_right, ret_bl, ret_int, Bool.false_eq_true, if_true, if_false, Bool.not_true, Bool.not_false]
        exact fin _ _
end
end K31
set_option Elab.async false
set_option linter.all false
set_option maxRecDepth 100000
set_option maxHeartbeats 4000000
namespace K31
open PySem L2 M M6
noncomputable abbrev sMach : Stmt := top 18
noncomputable abbrev NscMach : List Str := ["_law_cell", "_law_most", "_law_ds", "_law_many", "_law_ends", "_law_moves", "_law_j", "_law_one", "_law_way", "_law_number", "_law_other"]
noncomputable abbrev PscMach : List Str := ["_law_cell", "_law_most"]
theorem scMach : FnScope NscMach PscMach (defScope sMach) := ⟨rfl, rfl, rfl, by decide +kernel, rfl, by decide +kernel, by decide +kernel⟩
noncomputable abbrev Mv := Nat × Lf × Nat
noncomputable def vD (m : Mv) : D := .tup [.int m.1, lD m.2.1, .int m.2.2]
noncomputable def MOk (n : Nat) (m : Mv) : Prop := m.1 < n ∧ LOk m.2.1 ∧ m.2.2 < n
noncomputable def mD (n b : Nat) (es : List Nat) (mv : List Mv) : D := .tup [.int n, .int b, .tup (nL es), .tup (mv.map vD)]
theorem str_ok {x : Str} (h : okS x = true) : (PyData.str x).canLay0 = true := by
  have := th_fit (n := 0) (d := .str x) h (by decide)
  unfold fit PySem.SeqAt.shaped at this
  simp only [Bool.and_eq_true] at this
  exact this.2.1
theorem lf_ok {l : Lf} (h : LOk l) : okK (py (lD l)) = true ∧ (py (lD l)).depth ≤ 1 ∧ pur (lD l) = true := by
  cases l with
  | stay => exact ⟨by simp only [lD, py, pys, okK, okKs, Bool.and_true]; exact str_ok (by decide +kernel), by decide, rfl⟩
  | step b x =>
    refine ⟨?_, by simp [lD, py, pys, PyData.depth, PyData.depthAll], rfl⟩
    simp only [lD, py, pys, okK, okKs, Bool.and_true, Bool.and_eq_true]
    exact ⟨str_ok (by decide +kernel), str_ok (by cases b <;> decide +kernel), str_ok (wd_ok h)⟩
  | mk b m =>
    refine ⟨?_, by simp [lD, py, pys, PyData.depth, PyData.depthAll], rfl⟩
    simp only [lD, py, pys, okK, okKs, Bool.and_true, Bool.and_eq_true]
    exact ⟨str_ok (by cases b <;> decide +kernel), str_ok (mk_ok h)⟩
theorem mv_good {n : Nat} {m : Mv} (h : MOk n m) : GoodK (vD m) := by
  obtain ⟨h1, h2, h3⟩ := lf_ok h.2.1
  refine ⟨by simp only [vD, pur, purs, h3, Bool.and_self], ?_, ?_, _, rfl⟩
  · simp only [vD, py, pys, okK, okKs, h1, Bool.and_self]
  · simp only [vD, py, pys, PyData.depth, PyData.depthAll]
    omega
theorem lf_cmp (l k : Lf) : cmpK (py (lD l)) (py (lD k)) = true := by cases l <;> cases k <;> simp [lD, py, pys, cmpK, cmpKs]
theorem mv_cmp (m k : Mv) : cmpK (py (vD m)) (py (vD k)) = true := by simp only [vD, py, pys, cmpK, cmpKs, lf_cmp, Bool.and_self]
theorem mv_int (m : Mv) : ∃ p r, py (vD m) = PyData.tuple (.int p :: r) := ⟨_, _, rfl⟩
theorem purs_vD {n : Nat} : ∀ {mv : List Mv}, (∀ m ∈ mv, MOk n m) → purs (mv.map vD) = true
  | [], _ => rfl
  | m :: mv, h => by
    simp only [List.map_cons, purs, (mv_good (h m (by simp))).1, purs_vD fun k hk => h k (List.mem_cons_of_mem _ hk), Bool.and_self]
theorem pur_mD {n b : Nat} {es : List Nat} {mv : List Mv} (h : ∀ m ∈ mv, MOk n m) : pur (mD n b es mv) = true := by
  simp only [mD, pur, purs, purs_nL, purs_vD h, Bool.and_self]
theorem put_vD (mv : List Mv) (m : Mv) : ∃ mv', putN (mv.map vD) (vD m) = mv'.map vD ∧ (mv' = mv ∨ mv' = mv ++ [m]) := by
  unfold putN
  split
  · exact ⟨mv, rfl, .inl rfl⟩
  · exact ⟨mv ++ [m], by rw [List.map_append]; rfl, .inr rfl⟩
theorem sIx_nat {n a k : Nat} (h : k ≤ n) : HT.sIx n a (some (k : Int)) = k := by
  rw [HT.sIx_nat]; omega
noncomputable def SS : List Nat := [6, 6, 8, 18] ++ (List.replicate 6 (List.replicate 3 [6, 5, 16, 6]).flatten).flatten
theorem SS4 : ∀ j, j < 18 → SS[4 + 4 * j]? = some 6 ∧ SS[4 + 4 * j + 1]? = some 5 ∧ SS[4 + 4 * j + 2]? = some 16 ∧ SS[4 + 4 * j + 3]? = some 6 := by decide
theorem at_nL {ys : List Nat} {i a : Nat} (h : ys[i]? = some a) : atI (nL ys) (i : Int) = some (.int (a : Int)) := atI_nat (by rw [nL, List.getElem?_map, h]; rfl)
theorem drop4 {ys : List Nat} {i a b c d : Nat} (h1 : ys[i]? = some a) (h2 : ys[i + 1]? = some b) (h3 : ys[i + 2]? = some c) (h4 : ys[i + 3]? = some d) : cutD (nL ys) (some (i : Int)) (some ((i + 4 : Nat) : Int)) = nL [a, b, c, d] := by
  have hl : i + 3 < ys.length := (List.getElem?_eq_some_iff.mp h4).1
  have g : ∀ {j x : Nat}, ys[j]? = some x → ∀ h : j < ys.length, ys[j] = x := fun {j x} e h => by rw [List.getElem?_eq_getElem h] at e; simpa using e
  have e : (ys.drop i).take 4 = [a, b, c, d] := by
    rw [List.drop_eq_getElem_cons (by omega), List.drop_eq_getElem_cons (by omega), List.drop_eq_getElem_cons (by omega), List.drop_eq_getElem_cons (by omega)]
    simp only [List.take_succ_cons, List.take_zero, g h1, g h2, g h3, g h4]
  unfold cutD
  rw [sIx_nat (by simp [nL]; omega), sIx_nat (by simp [nL]; omega), show i + 4 - i = 4 by omega]
  unfold nL
  rw [← List.map_drop, ← List.map_take, e]
section
variable {P : Program} {w : World} {K : PySem.W.Frag} {mg : Str → Option Value} {base : Heap}
noncomputable def spMach : AN := fun ds S Q => ∃ z : Int, ds = [.int z, .int 6] ∧ ∀ (n b : Nat) (es : List Nat) (mv : List Mv), 1 ≤ n → n ≤ 6 → b < n → (∀ e ∈ es, e < n) → (∀ m ∈ mv, MOk n m) → mv.length ≤ 17 → Q (.dat (mD n b es mv)) S
theorem d_Mach (T : Txt K mg) (F : Src K mg "_law_machine" PscMach sMach) (D_law_draws : Def P w K mg base 1 "_law_draws" PscDraws (conSp K spDraws)) (D_law_leaf : Def P w K mg base 2 "_law_leaf" PscLeaf (conSp K spLeaf)) : Def P w K mg base 3 "_law_machine" PscMach (conSp K spMach) := by
  refine defA F scMach (fun ds S Q h => ?_) (fun f cdv A outer s H E hr => ?_)
  · obtain ⟨z, rfl, _⟩ := h; rfl
  · refine ⟨_, (M.pss_cons (M.ps_set (i := 2) scMach.nd rfl (Or.inr rfl) (M.pe_own D_law_draws (hr.mono (by decide)) (by rfl) (M.pac (M.pv 0) (M.pac (M.pe_op M.o_add (M.pe_lst (M.pac (M.pv 1) (M.pac (M.pv 1) (M.pac M.pe_int (M.pac (M.pe_op M.o_mul M.pe_int (M.pv 1)) M.pa_nil))))) (M.pe_op M.o_mul (M.pe_op M.o_mul (M.pe_lst (M.pac (M.pv 1) (M.pac M.pe_int (M.pac M.pe_int (M.pac (M.pv 1) M.pa_nil))))) M.pe_int) (M.pv 1))) M.pa_nil))))
      (M.pss_cons (M.ps_set (i := 3) scMach.nd rfl (Or.inl rfl) (M.pe_op M.o_add M.pe_int (M.pe_ix M.o_ix (M.pv 2) M.pe_int (fun _ _ => rfl))))
      (M.pss_cons (M.ps_setComp (i := 4) scMach.nd rfl rfl (N := ["_law_stand", "_law_ds"]) (caps := [none, some 2]) (bs_mk (by decide +kernel)) (by rfl) (by rfl) rfl (M.pi_range1 (by rfl) T.range (M.pac (M.pv 3) M.pa_nil)) (fun _ _ _ _ => (M.pg_name (i := 0) (by decide +kernel : List.Nodup (["_law_stand", "_law_ds"] : List Str)) rfl (Or.inl rfl))) (fun _ _ _ _ => (M.pts_one (M.pt_cmpR (M.o_eq hr) (M.pe_op M.o_mod (M.pe_op M.o_fdiv (M.pe_ix M.o_ix (M.pv 1) M.pe_int (fun _ _ => rfl)) (M.pe_ix M.o_ix (M.pe_lst (M.pac M.pe_int (M.pac M.pe_int (M.pac M.pe_int M.pa_nil)))) (M.pe_op M.o_mod (M.pv 0) M.pe_int) (fun _ _ => rfl))) M.pe_int) M.pe_int (nomark _)))) (fun _ _ _ _ => (M.pv 0)))
      (M.pss_cons (M.ps_set (i := 5) scMach.nd rfl (Or.inl rfl) (M.alo M.pe_dnewN))
      (M.pss_cons (M.ps_for PassesOwn.never rfl (M.pi_range1 (by rfl) T.range (M.pac (M.pe_ix M.o_ix (M.pv 2) M.pe_int (fun _ _ => rfl)) M.pa_nil)) (M.pg_name (i := 6) scMach.nd rfl (Or.inl rfl))
        (M.pss_cons (M.ps_asg (M.pe_slice M.o_slc (M.pv 2) (M.po_some (M.pe_op M.o_add M.pe_int (M.pe_op M.o_mul M.pe_int (M.pv 6)))) (M.po_some (M.pe_op M.o_add M.pe_int (M.pe_op M.o_mul M.pe_int (M.pv 6))))) (M.pg_tupL (n := 4) rfl (M.pgs_cons (M.pg_name (i := 7) scMach.nd rfl (Or.inl rfl)) (M.pgs_cons (M.pg_name (i := 8) scMach.nd rfl (Or.inl rfl)) (M.pgs_cons (M.pg_name (i := 9) scMach.nd rfl (Or.inl rfl)) (M.pgs_cons (M.pg_name (i := 10) scMach.nd rfl (Or.inl rfl)) M.pgs_nil))))))
        (M.pss_one (M.ps_nput hr (M.pv 5) (M.pe_tup (M.pac (M.pe_op M.o_mod (M.pv 7) (M.pv 3)) (M.pac (M.pe_own D_law_leaf (hr.mono (by decide)) (by rfl) (M.pac (M.pv 8) (M.pac (M.pv 9) M.pa_nil))) (M.pac (M.pe_op M.o_mod (M.pv 10) (M.pv 3)) M.pa_nil)))) M.pe_bl rfl))))
      (M.pss_one (M.ps_ret (M.pe_tup (M.pac (M.pv 3) (M.pac (M.pe_op M.o_mod (M.pe_ix M.o_ix (M.pv 2) M.pe_int (fun _ _ => rfl)) (M.pv 3)) (M.pac (M.pct M.o_tupleOf (by rfl) T.tuple (by decide +kernel) (M.pac (M.pv 4) M.pa_nil)) (M.pac (M.pct M.o_tupleOf (by rfl) T.tuple (by decide +kernel) (M.pac (M.pcb (M.o_sortN hr) (by rfl) T.sorted (by decide +kernel) (M.pac (M.pv 5) M.pa_nil)) M.pa_nil)) M.pa_nil)))))))))))), fun ds S Q h => ?_⟩
    obtain ⟨z, rfl, q⟩ := h
    have e0 : startA NscMach [.int z, .int 6] = [some (.int z), some (.int 6), none, none, none, none, none, none, none, none, none] := rfl
    rw [e0]
    simp only [aLst, aNil, aRet, aRetN, aAndV, aOrV, aNotV, aCall, aCons, aNil, aVar, aC, aOp, aUn, aB, aTru, aIf, aSeq, aIfS, aNot, aAnd, aOr, aAsg, agName, aNext, aChain, aSl, aPart, aNoPart, aDrop, aTup, aLst, rd_dat, rd_new, mod_lst, le_int', lt_int', aI_int, add_int', add_lst', eq_int', eq_str', tru_bl, tru_lst, tru_tup, true_and, aIsi, aLen, see_int', see_str', see_bl', see_non', see_tup', see_lst', see_stc', see_scr', List.getElem?_cons_zero, List.getElem?_cons_succ, List.set_cons_zero, List.set_cons_succ, Option.some.injEq, exists_eq_left', List.cons.injEq, and_true, D.ty.injEq, D.bl.injEq, D.int.injEq, D.str.injEq, and_assoc, exists_and_left, exists_eq_left, exists_and_right, ret_bl, ret_int, Bool.false_eq_true, if_true, if_false, Bool.not_true, Bool.not_false]
    rw [mul_int']
    refine ⟨.inl ⟨by decide, by decide⟩, sz rfl, sz rfl, ?_⟩
    refine ⟨⟨by decide, by decide⟩, sz rfl, ⟨by decide, by decide⟩, sz rfl, sz rfl, z, SS, rfl, by decide, by decide, fun ys hl hlt => ?_⟩
    have get : ∀ (i b : Nat), SS[i]? = some b → ∃ a, ys[i]? = some a ∧ a < b := fun i b h => by
      have hi : i < ys.length := by rw [hl]; exact (List.getElem?_eq_some_iff.mp h).1
      exact ⟨ys[i], List.getElem?_eq_getElem hi, hlt i _ b (List.getElem?_eq_getElem hi) h⟩
    obtain ⟨y0, g0, l0⟩ := get 0 6 rfl
    obtain ⟨y1, g1, l1⟩ := get 1 6 rfl
    obtain ⟨y2, g2, l2⟩ := get 2 8 rfl
    obtain ⟨y3, g3, l3⟩ := get 3 18 rfl
    have a0 : atI (nL ys) (0 : Int) = some (.int (y0 : Int)) := at_nL g0
    have a1 : atI (nL ys) (1 : Int) = some (.int (y1 : Int)) := at_nL g1
    have a2 : atI (nL ys) (2 : Int) = some (.int (y2 : Int)) := at_nL g2
    have a3 : atI (nL ys) (3 : Int) = some (.int (y3 : Int)) := at_nL g3
    refine ⟨_, a0, ?_⟩
    simp only [aRet, aRetN, aAndV, aOrV, aNotV, aCall, aCons, aNil, aVar, aC, aOp, aUn, aB, aTru, aIf, aSeq, aIfS, aNot, aAnd, aOr, aAsg, agName, aNext, aChain, aSl, aPart, aNoPart, aDrop, aTup, aLst, rd_dat, rd_new, mod_lst, le_int', lt_int', aI_int, add_int', add_lst', eq_int', eq_str', tru_bl, tru_lst, tru_tup, true_and, aIsi, aLen, see_int', see_str', see_bl', see_non', see_tup', see_lst', see_stc', see_scr', List.getElem?_cons_zero, List.getElem?_cons_succ, List.set_cons_zero, List.set_cons_succ, Option.some.injEq, exists_eq_left', List.cons.injEq, and_true, D.ty.injEq, D.bl.injEq, D.int.injEq, D.str.injEq, and_assoc, exists_and_left, exists_eq_left, exists_and_right, ret_bl, ret_int, Bool.false_eq_true, if_true, if_false, Bool.not_true, Bool.not_false]
    rw [show (1 : Int) + (y0 : Int) = ((1 + y0 : Nat) : Int) by omega]
    obtain ⟨n, hn⟩ : ∃ n, n = 1 + y0 := ⟨_, rfl⟩
    rw [← hn]
    have n1 : 1 ≤ n := by omega
    have n6 : n ≤ 6 := by omega
    generalize (cxOf CX0 P w K mg base NscMach "_law_machine" (defScope sMach) f cdv A outer s H E).w = W
    simp only [aComp, iRng, aRet, aRetN, aAndV, aOrV, aNotV, aCall, aCons, aNil, aVar, aC, aOp, aUn, aB, aTru, aIf, aSeq, aIfS, aNot, aAnd, aOr, aAsg, agName, aNext, aChain, aSl, aPart, aNoPart, aDrop, aTup, aLst, rd_dat, rd_new, mod_lst, le_int', lt_int', aI_int, add_int', add_lst', eq_int', eq_str', tru_bl, tru_lst, tru_tup, true_and, aIsi, aLen, see_int', see_str', see_bl', see_non', see_tup', see_lst', see_stc', see_scr', List.getElem?_cons_zero, List.getElem?_cons_succ, List.set_cons_zero, List.set_cons_succ, Option.some.injEq, exists_eq_left', List.cons.injEq, and_true, D.ty.injEq, D.bl.injEq, D.int.injEq, D.str.injEq, and_assoc, exists_and_left, exists_eq_left, exists_and_right, ret_bl, ret_int, Bool.false_eq_true, if_true, if_false, Bool.not_true, Bool.not_false]
    refine ⟨by omega, by omega, ?_⟩
    refine comp_by (fun rest acc δ S' => ∃ (es : List Nat) (v : Option D), acc = nL es ∧ (∀ e ∈ es, e < n) ∧ (∀ x ∈ rest, ∃ k : Nat, k < n ∧ x = .int k) ∧ es.length + rest.length ≤ n ∧ S' = S ∧ δ = [v, some (.lst (nL ys))]) ?_ ?_ _ [] _ _ ⟨[], none, rfl, by simp, fun x hx => ?_, by simp [iRngD], rfl, rfl⟩
    · rintro acc δ S' ⟨es, v, rfl, he, _, hel, rfl, rfl⟩
      refine ⟨trivial, ?_⟩
      simp only [aAlloc, aDNewN, aFor, iRng, aRet, aRetN, aAndV, aOrV, aNotV, aCall, aCons, aNil, aVar, aC, aOp, aUn, aB, aTru, aIf, aSeq, aIfS, aNot, aAnd, aOr, aAsg, agName, aNext, aChain, aSl, aPart, aNoPart, aDrop, aTup, aLst, rd_dat, rd_new, mod_lst, le_int', lt_int', aI_int, add_int', add_lst', eq_int', eq_str', tru_bl, tru_lst, tru_tup, true_and, aIsi, aLen, see_int', see_str', see_bl', see_non', see_tup', see_lst', see_stc', see_scr', List.getElem?_cons_zero, List.getElem?_cons_succ, List.set_cons_zero, List.set_cons_succ, Option.some.injEq, exists_eq_left', List.cons.injEq, and_true, D.ty.injEq, D.bl.injEq, D.int.injEq, D.str.injEq, and_assoc, exists_and_left, exists_eq_left, exists_and_right, ret_bl, ret_int, Bool.false_eq_true, if_true, if_false, Bool.not_true, Bool.not_false]
      refine ⟨_, a3, ?_⟩
      simp only [aRet, aRetN, aAndV, aOrV, aNotV, aCall, aCons, aNil, aVar, aC, aOp, aUn, aB, aTru, aIf, aSeq, aIfS, aNot, aAnd, aOr, aAsg, agName, aNext, aChain, aSl, aPart, aNoPart, aDrop, aTup, aLst, rd_dat, rd_new, mod_lst, le_int', lt_int', aI_int, add_int', add_lst', eq_int', eq_str', tru_bl, tru_lst, tru_tup, true_and, aIsi, aLen, see_int', see_str', see_bl', see_non', see_tup', see_lst', see_stc', see_scr', List.getElem?_cons_zero, List.getElem?_cons_succ, List.set_cons_zero, List.set_cons_succ, Option.some.injEq, exists_eq_left', List.cons.injEq, and_true, D.ty.injEq, D.bl.injEq, D.int.injEq, D.str.injEq, and_assoc, exists_and_left, exists_eq_left, exists_and_right, ret_bl, ret_int, Bool.false_eq_true, if_true, if_false, Bool.not_true, Bool.not_false]
      refine ⟨by omega, by omega, ?_⟩
      refine loop_by (fun rest δ S'' => ∃ (mv : List Mv) (v6 v7 v8 v9 v10 : Option D), S'' = S' ++ [some (nO W (mv.map vD))] ∧ (∀ m ∈ mv, MOk n m) ∧ (∀ x ∈ rest, ∃ k : Nat, k < 18 ∧ x = .int k) ∧ mv.length + rest.length ≤ 17 ∧
          δ = [some (.int z), some (.int 6), some (.lst (nL ys)), some (.int n), some (.lst (nL es)), some (.loc S'.length), v6, v7, v8, v9, v10]) ?_ ?_ _ _ _ ⟨[], none, none, none, none, none, rfl, by simp, fun x hx => ?_, by simp [iRngD]; omega, rfl⟩
      · rintro δ S'' ⟨mv, v6, v7, v8, v9, v10, rfl, hmv, _, hml, rfl⟩
        refine ⟨trivial, ?_⟩
        simp only [ix_lst, a1, Option.some.injEq, exists_eq_left', aTupleOf, aRet, aRetN, aAndV, aOrV, aNotV, aCall, aCons, aNil, aVar, aC, aOp, aUn, aB, aTru, aIf, aSeq, aIfS, aNot, aAnd, aOr, aAsg, agName, aNext, aChain, aSl, aPart, aNoPart, aDrop, aTup, aLst, rd_dat, rd_new, mod_lst, le_int', lt_int', aI_int, add_int', add_lst', eq_int', eq_str', tru_bl, tru_lst, tru_tup, true_and, aIsi, aLen, see_int', see_str', see_bl', see_non', see_tup', see_lst', see_stc', see_scr', List.getElem?_cons_zero, List.getElem?_cons_succ, List.set_cons_zero, List.set_cons_succ, Option.some.injEq, exists_eq_left', List.cons.injEq, and_true, D.ty.injEq, D.bl.injEq, D.int.injEq, D.str.injEq, and_assoc, exists_and_left, exists_eq_left, exists_and_right, ret_bl, ret_int, Bool.false_eq_true, if_true, if_false, Bool.not_true, Bool.not_false]
        rw [show ((y1 : Int) % (n : Int)) = ((y1 % n : Nat) : Int) by simp]
        refine ⟨by omega, S'.length, mv.map vD, rfl, by simp, fun k hk => ?_, fun k hk l hl => ?_, by rw [List.length_map]; omega, fun ks' hp => ?_⟩
        · obtain ⟨m, hm, rfl⟩ := List.mem_map.mp hk
          exact ⟨mv_good (hmv m hm), mv_int m⟩
        · obtain ⟨m, hm, rfl⟩ := List.mem_map.mp hk
          obtain ⟨m', hm', rfl⟩ := List.mem_map.mp hl
          exact mv_cmp m m'
        · obtain ⟨mv', p1, rfl⟩ := perm_inv hp
          have hmv' : ∀ m ∈ mv', MOk n m := fun m hm => hmv m (p1.mem_iff.mp hm)
          simp only [aRet, aRetN, aAndV, aOrV, aNotV, aCall, aCons, aNil, aVar, aC, aOp, aUn, aB, aTru, aIf, aSeq, aIfS, aNot, aAnd, aOr, aAsg, agName, aNext, aChain, aSl, aPart, aNoPart, aDrop, aTup, aLst, rd_dat, rd_new, mod_lst, le_int', lt_int', aI_int, add_int', add_lst', eq_int', eq_str', tru_bl, tru_lst, tru_tup, true_and, aIsi, aLen, see_int', see_str', see_bl', see_non', see_tup', see_lst', see_stc', see_scr', List.getElem?_cons_zero, List.getElem?_cons_succ, List.set_cons_zero, List.set_cons_succ, Option.some.injEq, exists_eq_left', List.cons.injEq, and_true, D.ty.injEq, D.bl.injEq, D.int.injEq, D.str.injEq, and_assoc, exists_and_left, exists_eq_left, exists_and_right, ret_bl, ret_int, Bool.false_eq_true, if_true, if_false, Bool.not_true, Bool.not_false]
          refine ⟨sz rfl, ⟨_, out_dat (pur_mD (es := es) (b := y1 % n) hmv'), fun k o hk e => .inl ?_, ?_⟩⟩
          · rw [List.getElem?_append_left hk] at e; exact e
          · rw [List.take_left]
            exact q n (y1 % n) es mv' n1 n6 (Nat.mod_lt _ (by omega)) he hmv' (by have := p1.length_eq; omega)
      · rintro x rest δ S'' N' ⟨mv, v6, v7, v8, v9, v10, rfl, hmv, hx, hml, rfl⟩ hN'
        obtain ⟨j, hj, rfl⟩ := hx x (by simp)
        obtain ⟨s1, s2, s3, s4⟩ := SS4 j hj
        obtain ⟨b1, f1, m1⟩ := get _ _ s1
        obtain ⟨b2, f2, m2⟩ := get _ _ s2
        obtain ⟨b3, f3, m3⟩ := get _ _ s3
        obtain ⟨b4, f4, m4⟩ := get _ _ s4
        refine ⟨trivial, ?_⟩
        simp only [aRet, aRetN, aAndV, aOrV, aNotV, aCall, aCons, aNil, aVar, aC, aOp, aUn, aB, aTru, aIf, aSeq, aIfS, aNot, aAnd, aOr, aAsg, agName, aNext, aChain, aSl, aPart, aNoPart, aDrop, aTup, aLst, rd_dat, rd_new, mod_lst, le_int', lt_int', aI_int, add_int', add_lst', eq_int', eq_str', tru_bl, tru_lst, tru_tup, true_and, aIsi, aLen, see_int', see_str', see_bl', see_non', see_tup', see_lst', see_stc', see_scr', List.getElem?_cons_zero, List.getElem?_cons_succ, List.set_cons_zero, List.set_cons_succ, Option.some.injEq, exists_eq_left', List.cons.injEq, and_true, D.ty.injEq, D.bl.injEq, D.int.injEq, D.str.injEq, and_assoc, exists_and_left, exists_eq_left, exists_and_right, ret_bl, ret_int, Bool.false_eq_true, if_true, if_false, Bool.not_true, Bool.not_false, mul_int']
        refine ⟨.inl ⟨by decide, by decide⟩, .inl ⟨by decide, by decide⟩, ?_⟩
        rw [show (4 : Int) + 4 * (j : Int) = ((4 + 4 * j : Nat) : Int) by omega, show (8 : Int) + 4 * (j : Int) = ((4 + 4 * j + 4 : Nat) : Int) by omega]
        unfold aSlc
        rw [see_lst']
        dsimp only
        rw [drop4 f1 f2 f3 f4]
        refine ⟨nL [b1, b2, b3, b4], rfl, rfl, _, _, rfl, _, _, rfl, _, _, rfl, _, _, rfl, rfl, ?_⟩
        simp only [aNPut, aRet, aRetN, aAndV, aOrV, aNotV, aCall, aCons, aNil, aVar, aC, aOp, aUn, aB, aTru, aIf, aSeq, aIfS, aNot, aAnd, aOr, aAsg, agName, aNext, aChain, aSl, aPart, aNoPart, aDrop, aTup, aLst, rd_dat, rd_new, mod_lst, le_int', lt_int', aI_int, add_int', add_lst', eq_int', eq_str', tru_bl, tru_lst, tru_tup, true_and, aIsi, aLen, see_int', see_str', see_bl', see_non', see_tup', see_lst', see_stc', see_scr', List.getElem?_cons_zero, List.getElem?_cons_succ, List.set_cons_zero, List.set_cons_succ, Option.some.injEq, exists_eq_left', List.cons.injEq, and_true, D.ty.injEq, D.bl.injEq, D.int.injEq, D.str.injEq, and_assoc, exists_and_left, exists_eq_left, exists_and_right, ret_bl, ret_int, Bool.false_eq_true, if_true, if_false, Bool.not_true, Bool.not_false]
        refine ⟨by omega, b2, b3, rfl, m2, fun l hlf => ?_⟩
        simp only [aRet, aRetN, aAndV, aOrV, aNotV, aCall, aCons, aNil, aVar, aC, aOp, aUn, aB, aTru, aIf, aSeq, aIfS, aNot, aAnd, aOr, aAsg, agName, aNext, aChain, aSl, aPart, aNoPart, aDrop, aTup, aLst, rd_dat, rd_new, mod_lst, le_int', lt_int', aI_int, add_int', add_lst', eq_int', eq_str', tru_bl, tru_lst, tru_tup, true_and, aIsi, aLen, see_int', see_str', see_bl', see_non', see_tup', see_lst', see_stc', see_scr', List.getElem?_cons_zero, List.getElem?_cons_succ, List.set_cons_zero, List.set_cons_succ, Option.some.injEq, exists_eq_left', List.cons.injEq, and_true, D.ty.injEq, D.bl.injEq, D.int.injEq, D.str.injEq, and_assoc, exists_and_left, exists_eq_left, exists_and_right, ret_bl, ret_int, Bool.false_eq_true, if_true, if_false, Bool.not_true, Bool.not_false]
        rw [show ((b1 : Int) % (n : Int)) = ((b1 % n : Nat) : Int) by simp, show ((b4 : Int) % (n : Int)) = ((b4 % n : Nat) : Int) by simp]
        have ok : MOk n (b1 % n, l, b4 % n) := ⟨Nat.mod_lt _ (by omega), hlf, Nat.mod_lt _ (by omega)⟩
        refine ⟨by omega, sz rfl, S'.length, rfl, mv.map vD, by simp, mv_good ok, fun k hk => ?_, by rw [List.length_map]; omega, ?_⟩
        · obtain ⟨m, hm, rfl⟩ := List.mem_map.mp hk
          exact mv_good (hmv m hm)
        · obtain ⟨mv', e1, e2⟩ := put_vD mv (b1 % n, l, b4 % n)
          have e1 : putN (mv.map vD) (.tup [.int ((b1 % n : Nat) : Int), lD l, .int ((b4 % n : Nat) : Int)]) = mv'.map vD := e1
          rw [e1, List.set_append_right _ _ (Nat.le_refl _), Nat.sub_self]
          refine hN' _ _ ⟨mv', _, _, _, _, _, rfl, fun m hm => ?_, fun x hx' => hx x (List.mem_cons_of_mem _ hx'), ?_, rfl⟩
          · rcases e2 with rfl | rfl
            · exact hmv m hm
            · rcases List.mem_append.mp hm with hm | hm
              · exact hmv m hm
              · rw [List.mem_singleton.mp hm]; exact ok
          · simp only [List.length_cons] at hml
            rcases e2 with rfl | rfl
            · omega
            · rw [List.length_append]; show mv.length + 1 + _ ≤ _; omega
      · simp only [iRngD, List.mem_map, List.mem_range] at hx
        obtain ⟨a, ha, rfl⟩ := hx
        exact ⟨a, by omega, by simp⟩
    · rintro x rest acc δ S' N' ⟨es, v, rfl, he, hx, hel, rfl, rfl⟩ hN'
      obtain ⟨j, hj, rfl⟩ := hx x (by simp)
      refine ⟨trivial, ?_⟩
      simp only [ix_lst, a2, Option.some.injEq, exists_eq_left', aLst, aRet, aRetN, aAndV, aOrV, aNotV, aCall, aCons, aNil, aVar, aC, aOp, aUn, aB, aTru, aIf, aSeq, aIfS, aNot, aAnd, aOr, aAsg, agName, aNext, aChain, aSl, aPart, aNoPart, aDrop, aTup, aLst, rd_dat, rd_new, mod_lst, le_int', lt_int', aI_int, add_int', add_lst', eq_int', eq_str', tru_bl, tru_lst, tru_tup, true_and, aIsi, aLen, see_int', see_str', see_bl', see_non', see_tup', see_lst', see_stc', see_scr', List.getElem?_cons_zero, List.getElem?_cons_succ, List.set_cons_zero, List.set_cons_succ, Option.some.injEq, exists_eq_left', List.cons.injEq, and_true, D.ty.injEq, D.bl.injEq, D.int.injEq, D.str.injEq, and_assoc, exists_and_left, exists_eq_left, exists_and_right, ret_bl, ret_int, Bool.false_eq_true, if_true, if_false, Bool.not_true, Bool.not_false]
      rw [show ((j : Int) % 3) = ((j % 3 : Nat) : Int) by omega]
      obtain ⟨e, ea, em⟩ := at_lt (ds := [D.int 1, D.int 2, D.int 4]) (z := j % 3) (by show j % 3 < 3; omega)
      refine ⟨sz rfl, by decide, e, ea, ?_⟩
      obtain ⟨c, rfl, c0, c1⟩ : ∃ c : Int, e = .int c ∧ 0 < c ∧ c < 10 := by
        simp only [List.mem_cons, List.not_mem_nil, or_false] at em
        rcases em with rfl | rfl | rfl <;> exact ⟨_, rfl, by decide, by decide⟩
      simp only [aRet, aRetN, aAndV, aOrV, aNotV, aCall, aCons, aNil, aVar, aC, aOp, aUn, aB, aTru, aIf, aSeq, aIfS, aNot, aAnd, aOr, aAsg, agName, aNext, aChain, aSl, aPart, aNoPart, aDrop, aTup, aLst, rd_dat, rd_new, mod_lst, le_int', lt_int', aI_int, add_int', add_lst', eq_int', eq_str', tru_bl, tru_lst, tru_tup, true_and, aIsi, aLen, see_int', see_str', see_bl', see_non', see_tup', see_lst', see_stc', see_scr', List.getElem?_cons_zero, List.getElem?_cons_succ, List.set_cons_zero, List.set_cons_succ, Option.some.injEq, exists_eq_left', List.cons.injEq, and_true, D.ty.injEq, D.bl.injEq, D.int.injEq, D.str.injEq, and_assoc, exists_and_left, exists_eq_left, exists_and_right, ret_bl, ret_int, Bool.false_eq_true, if_true, if_false, Bool.not_true, Bool.not_false]
      simp only [List.length_cons] at hel
      refine ⟨⟨c0, by omega⟩, by decide, ite2 (fun _ => ⟨?_, hN' _ _ _ ⟨es ++ [j], _, by simp [nL], fun e he' => ?_, fun x hx' => hx x (List.mem_cons_of_mem _ hx'), by rw [List.length_append]; show es.length + 1 + _ ≤ _; omega, rfl, rfl⟩⟩) (fun _ => hN' _ _ _ ⟨es, _, rfl, he, fun x hx' => hx x (List.mem_cons_of_mem _ hx'), by omega, rfl, rfl⟩)⟩
      · rw [nL, List.length_map, sizeLine_eq]; omega
      · rcases List.mem_append.mp he' with he' | he'
        · exact he e he'
        · rw [List.mem_singleton.mp he']; exact hj
    · simp only [iRngD, List.mem_map, List.mem_range] at hx
      obtain ⟨a, ha, rfl⟩ := hx
      exact ⟨a, by omega, by simp⟩
end
end K31
set_option Elab.async false
set_option linter.all false
set_option maxRecDepth 100000
set_option maxHeartbeats 4000000
namespace K31
open PySem L2 M M6
noncomputable abbrev sBy : Stmt := top 5
noncomputable abbrev NscBy : List Str := ["many", "moves", "near", "one", "leaf", "other"]
noncomputable abbrev PscBy : List Str := ["many", "moves"]
theorem scBy : FnScope NscBy PscBy (defScope sBy) := ⟨rfl, rfl, rfl, by decide +kernel, rfl, by decide +kernel, by decide +kernel⟩
noncomputable abbrev sNear : Stmt := top 11
noncomputable abbrev NscNear : List Str := ["machine"]
noncomputable abbrev PscNear : List Str := ["machine"]
theorem scNear : FnScope NscNear PscNear (defScope sNear) := ⟨rfl, rfl, rfl, by decide +kernel, rfl, by decide +kernel, by decide +kernel⟩
noncomputable def Blk (S : Sto) (n : Nat) (g : Nat → Option MO) (d : Option MO) : Sto := S ++ ((List.range n).map g ++ [d])
section
variable {S : Sto} {n : Nat} {g g' : Nat → Option MO} {d d' x : Option MO}
theorem blk_at {i : Nat} (h : i < n) : (Blk S n g d)[S.length + i]? = some (g i) := by
  unfold Blk
  rw [List.getElem?_append_right (by omega), Nat.add_sub_cancel_left, List.getElem?_append_left (by simpa using h)]
  simp [h]
theorem blk_d : (Blk S n g d)[S.length + n]? = some d := by
  unfold Blk
  rw [List.getElem?_append_right (by omega), Nat.add_sub_cancel_left, List.getElem?_append_right (by simp)]
  simp
theorem blk_set {i : Nat} (h : i < n) : (Blk S n g d).set (S.length + i) x = Blk S n (fun j => if j = i then x else g j) d := by
  unfold Blk
  rw [List.set_append_right _ _ (by omega), Nat.add_sub_cancel_left, List.set_append_left _ _ (by simpa using h)]
  congr 2
  refine List.ext_getElem (by simp) fun j h1 h2 => ?_
  rw [List.getElem_set]
  simp only [List.getElem_map, List.getElem_range]
  by_cases e : i = j
  · rw [if_pos e, if_pos e.symm]
  · rw [if_neg e, if_neg (Ne.symm e)]
theorem blk_setd : (Blk S n g d).set (S.length + n) x = Blk S n g x := by
  unfold Blk
  rw [List.set_append_right _ _ (by omega), Nat.add_sub_cancel_left, List.set_append_right _ _ (by simp)]
  simp
theorem blk_take : (Blk S n g d).take S.length = S := by unfold Blk; rw [List.take_left]
theorem blk_congr (h : ∀ i, i < n → g i = g' i) : Blk S n g d = Blk S n g' d := by
  unfold Blk
  congr 2
  exact List.map_congr_left fun i hi => h i (by simpa using hi)
end
theorem ret_ownG {S S' : Sto} {o : MO} {m : Nat} {Q : AK} (hm : S.length ≤ m) (e : S'[m]? = some (some o)) (hs : S'.take S.length = S) (h : belO S.length o = true) (q : Q (.new o) S) : M.ret S S' (.dat (.loc m)) Q := by
  refine ⟨.new o, ?_, fun k o' hk e' => .inl ?_, by rw [hs]; exact q⟩
  · simp only [out]
    rw [if_neg (by omega), e]
    show (if _ then _ else _) = _
    rw [if_pos h]
  · rw [← hs, List.getElem?_take, if_pos hk]; exact e'
noncomputable def kN (n : Nat) : List Key := (List.range n).map fun i : Nat => Sum.inl (i : Int)
noncomputable def pD (m : Mv) : D := .tup [lD m.2.1, .int m.2.2]
noncomputable def nearD (mv : List Mv) (i : Nat) : List D := (mv.filter fun m => decide (m.1 = i)).map pD
noncomputable def nearO (n : Nat) (mv : List Mv) : MO := .dct (kN n) ((List.range n).map fun i => .lst (nearD mv i))
theorem dHas_kN {n i : Nat} : dHas (kN n) (.inl (i : Int)) = decide (i < n) := by
  unfold dHas kN
  rw [List.any_map]
  by_cases h : i < n
  · rw [decide_eq_true h, List.any_eq_true]
    exact ⟨i, by simpa using h, by simp⟩
  · rw [decide_eq_false h, List.any_eq_false]
    intro j hj
    simp only [List.mem_range] at hj
    simp; omega
theorem dGet_kN {n i : Nat} {f : Nat → D} (h : i < n) : dGet (kN n) ((List.range n).map f) (.inl (i : Int)) = some (f i) := by
  unfold dGet kN
  have e : ((List.range n).map (fun i : Nat => (Sum.inl (i : Int) : Key))).zip ((List.range n).map f) = (List.range n).map fun j : Nat => ((Sum.inl (j : Int) : Key), f j) := by
    rw [List.zip_map']
  rw [e, List.find?_map]
  have : (List.range n).find? ((fun p : Key × D => decide (p.1 = Sum.inl (i : Int))) ∘ fun j : Nat => (Sum.inl (j : Int), f j)) = some i := by
    rw [List.find?_eq_some_iff_getElem]
    refine ⟨by simp, i, by simpa using h, by simp, fun j hj => ?_⟩
    simp; omega
  rw [this]; rfl
theorem dAll_kN {n : Nat} {f : Nat → D} : dAll ((List.range n).map fun i : Nat => (Sum.inl (i : Int), f i)) = (kN n, (List.range n).map f) := by
  induction n with
  | zero => rfl
  | succ n ih =>
    unfold dAll at ih ⊢
    rw [List.range_succ, List.map_append, List.foldl_append, ih]
    show dP2 (kN n, (List.range n).map f) (Sum.inl (n : Int), f n) = _
    unfold dP2
    rw [if_neg (by rw [dHas_kN]; simp)]
    simp [kN, List.range_succ]
theorem nearD_snoc (qs : List Mv) (r : Mv) (i : Nat) : nearD (qs ++ [r]) i = if i = r.1 then nearD qs i ++ [pD r] else nearD qs i := by
  unfold nearD
  rw [List.filter_append, List.map_append]
  by_cases h : i = r.1
  · subst h; simp
  · rw [if_neg h]
    have : ¬ r.1 = i := fun e => h e.symm
    simp [this]
theorem frz_all {S : Sto} {n : Nat} {f : Nat → List D} : ∀ (j k : Nat), k + j = n → FrzC (S.length + n) (kN n) ((List.range n).map fun i => if i < k then D.lst (f i) else .loc (S.length + i)) (Blk S n (fun i => if i < k then none else some (.lst (f i))) (some (.dct (kN n) ((List.range n).map fun i => if i < k then D.lst (f i) else .loc (S.length + i)))))
    ((List.range n).map fun i => D.lst (f i)) (Blk S n (fun _ => none) (some (.dct (kN n) ((List.range n).map fun i => D.lst (f i)))))
  | 0, k, h => by
    have e : ((List.range n).map fun i => if i < k then D.lst (f i) else .loc (S.length + i)) = (List.range n).map fun i => D.lst (f i) := List.map_congr_left fun i hi => by
      rw [if_pos (by simp at hi; omega)]
    rw [e, blk_congr (g := fun i => if i < k then none else some (.lst (f i))) (g' := fun _ => none) (fun i hi => by rw [if_pos (by omega)])]
    exact .nil
  | j + 1, k, h => by
    have hk : k < n := by omega
    refine .step (m := S.length + k) (es := f k) ?_ (by omega) ?_
    · rw [blk_at hk, if_neg (by omega)]
    · have e1 : (((List.range n).map fun i => if i < k then D.lst (f i) else .loc (S.length + i)).map (sb (S.length + k) (.lst (f k)))) = (List.range n).map fun i => if i < k + 1 then D.lst (f i) else .loc (S.length + i) := by
        rw [List.map_map]
        refine List.map_congr_left fun i hi => ?_
        show sb (S.length + k) (.lst (f k)) (if i < k then D.lst (f i) else .loc (S.length + i)) = _
        rcases Nat.lt_trichotomy i k with h | h | h
        · rw [if_pos h, if_pos (by omega)]; rfl
        · subst h
          rw [if_neg (by omega), if_pos (by omega)]
          show (if S.length + i = S.length + i then _ else _) = _
          rw [if_pos rfl]
        · rw [if_neg (by omega), if_neg (by omega)]
          show (if S.length + i = S.length + k then _ else _) = _
          rw [if_neg (by omega)]
      rw [e1, blk_set hk, blk_setd]
      have e2 := blk_congr (S := S) (n := n) (d := some (.dct (kN n) ((List.range n).map fun i => if i < k + 1 then D.lst (f i) else .loc (S.length + i)))) (g := fun j => if j = k then none else if j < k then none else some (MO.lst (f j))) (g' := fun i => if i < k + 1 then none else some (.lst (f i))) (fun i hi => by
        rcases Nat.lt_trichotomy i k with h | h | h
        · rw [if_neg (by omega), if_pos h, if_pos (by omega)]
        · rw [if_pos h, if_pos (by omega)]
        · rw [if_neg (by omega), if_neg (by omega), if_neg (by omega)])
      rw [e2]
      exact frz_all j (k + 1) (by omega)
theorem purs_pD {n : Nat} : ∀ {mv : List Mv}, (∀ m ∈ mv, MOk n m) → purs (mv.map pD) = true
  | [], _ => rfl
  | m :: mv, h => by
    have h1 := (lf_ok (h m (by simp)).2.1).2.2
    simp only [List.map_cons, purs, pD, pur, h1, purs_pD fun k hk => h k (List.mem_cons_of_mem _ hk), Bool.and_self]
theorem bel_near {n m : Nat} {mv : List Mv} (h : ∀ x ∈ mv, MOk n x) : belO m (nearO n mv) = true := by
  show bels m ((List.range n).map fun i => D.lst (nearD mv i)) = true
  refine bels_pur m _ ?_
  generalize List.range n = l
  induction l with
  | nil => rfl
  | cons i l ih =>
    have h1 : purs (nearD mv i) = true := purs_pD fun x hx => h x (List.mem_filter.mp hx).1
    simp only [List.map_cons, purs, pur, h1, ih, Bool.and_self]
section
variable {P : Program} {w : World} {K : PySem.W.Frag} {mg : Str → Option Value} {base : Heap}
noncomputable def spBy : AN := fun ds S Q => ∃ (n : Nat) (mv : List Mv), ds = [.int n, .tup (mv.map vD)] ∧ n ≤ 6 ∧ (∀ m ∈ mv, MOk n m) ∧ mv.length ≤ 17 ∧ Q (.new (nearO n mv)) S
theorem d_By (T : Txt K mg) (F : Src K mg "by_stand" PscBy sBy) : Def P w K mg base 1 "by_stand" PscBy (conSp K spBy) := by
  refine defA F scBy (fun ds S Q h => ?_) (fun f cdv A outer s H E hr => ?_)
  · obtain ⟨n, mv, rfl, _⟩ := h; rfl
  · refine ⟨_, (M.pss_cons (M.ps_set (i := 2) scBy.nd rfl (Or.inl rfl) (M.alo (M.pct (M.o_dictP hr) (by rfl) T.dict (by decide +kernel) (M.pac (M.pe_comp (N := ["stand"]) (caps := [none]) (bs_mk (by decide +kernel)) (by rfl) (by rfl) rfl (M.pi_range1 (by rfl) T.range (M.pac (M.pv 0) M.pa_nil)) (fun _ _ _ _ => (M.pg_name (i := 0) (by decide +kernel : List.Nodup (["stand"] : List Str)) rfl (Or.inl rfl))) (fun _ _ _ _ => M.pts_nil) (fun _ _ _ _ => (M.pe_tup (M.pac (M.pv 0) (M.pac (M.alo (M.pe_lst M.pa_nil)) M.pa_nil))))) M.pa_nil))))
      (M.pss_cons (M.ps_for PassesOwn.never rfl (M.pi_any (M.pv 1)) (M.pg_tup (n := 3) rfl (M.pgs_cons (M.pg_name (i := 3) scBy.nd rfl (Or.inl rfl)) (M.pgs_cons (M.pg_name (i := 4) scBy.nd rfl (Or.inl rfl)) (M.pgs_cons (M.pg_name (i := 5) scBy.nd rfl (Or.inl rfl)) M.pgs_nil))))
        (M.pss_one (M.ps_expr (M.pe_bm PySem.F.plainAttrs_list PySem.F.slot_list_append PySem.F.type_list_append M.m_append (M.pe_dgetK (hu_of hr) (M.pv 2) (M.pv 3) (fun _ _ => rfl)) (M.pac (M.pe_tup (M.pac (M.pv 4) (M.pac (M.pv 5) M.pa_nil))) M.pa_nil)))))
      (M.pss_one (M.ps_ret (M.freD (M.pv 2)))))), fun ds S Q h => ?_⟩
    obtain ⟨n, mv, rfl, n6, hmv, hl, q⟩ := h
    have e0 : startA NscBy [.int n, .tup (mv.map vD)] = [some (.int n), some (.tup (mv.map vD)), none, none, none, none] := rfl
    rw [e0]
    simp only [aComp, iRng, aAlloc, aRet, aRetN, aAndV, aOrV, aNotV, aCall, aCons, aNil, aVar, aC, aOp, aUn, aB, aTru, aIf, aSeq, aIfS, aNot, aAnd, aOr, aAsg, agName, aNext, aChain, aSl, aPart, aNoPart, aDrop, aTup, aLst, rd_dat, rd_new, mod_lst, le_int', lt_int', aI_int, add_int', add_lst', eq_int', eq_str', tru_bl, tru_lst, tru_tup, true_and, aIsi, aLen, see_int', see_str', see_bl', see_non', see_tup', see_lst', see_stc', see_scr', List.getElem?_cons_zero, List.getElem?_cons_succ, List.set_cons_zero, List.set_cons_succ, Option.some.injEq, exists_eq_left', List.cons.injEq, and_true, D.ty.injEq, D.bl.injEq, D.int.injEq, D.str.injEq, and_assoc, exists_and_left, exists_eq_left, exists_and_right, ret_bl, ret_int, Bool.false_eq_true, if_true, if_false, Bool.not_true, Bool.not_false]
    refine ⟨by omega, by omega, ?_⟩
    refine comp_by (fun rest acc δ S' => ∃ (k : Nat) (v : Option D), k ≤ n ∧ rest = ((List.range n).drop k).map (fun i : Nat => D.int i) ∧ acc = (List.range k).map (fun i : Nat => D.tup [.int i, .loc (S.length + i)]) ∧ S' = S ++ (List.range k).map (fun _ => some (MO.lst [])) ∧ δ = [v]) ?_ ?_ _ [] _ _ ⟨0, none, Nat.zero_le _, by simp [iRngD], rfl, by simp, rfl⟩
    · rintro acc δ S' ⟨k, v, hk, hr, rfl, rfl, rfl⟩
      obtain rfl : k = n := by
        have := congrArg List.length hr
        simp at this; omega
      refine ⟨trivial, _, (List.range k).map (fun i : Nat => (Sum.inl (i : Int), D.loc (S.length + i))), rfl, ?_, by simp; omega, ?_⟩
      · rw [see_lst', List.map_map]; rfl
      · rw [dAll_kN]
        dsimp only
        simp only [aFor, iAny, iAnyD, aRet, aRetN, aAndV, aOrV, aNotV, aCall, aCons, aNil, aVar, aC, aOp, aUn, aB, aTru, aIf, aSeq, aIfS, aNot, aAnd, aOr, aAsg, agName, aNext, aChain, aSl, aPart, aNoPart, aDrop, aTup, aLst, rd_dat, rd_new, mod_lst, le_int', lt_int', aI_int, add_int', add_lst', eq_int', eq_str', tru_bl, tru_lst, tru_tup, true_and, aIsi, aLen, see_int', see_str', see_bl', see_non', see_tup', see_lst', see_stc', see_scr', List.getElem?_cons_zero, List.getElem?_cons_succ, List.set_cons_zero, List.set_cons_succ, Option.some.injEq, exists_eq_left', List.cons.injEq, and_true, D.ty.injEq, D.bl.injEq, D.int.injEq, D.str.injEq, and_assoc, exists_and_left, exists_eq_left, exists_and_right, ret_bl, ret_int, Bool.false_eq_true, if_true, if_false, Bool.not_true, Bool.not_false]
        have eb : ∀ o : MO, S ++ (List.range k).map (fun _ => some (MO.lst [])) ++ [some o] = Blk S k (fun i => some (.lst (nearD [] i))) (some o) := fun o => by
          unfold Blk nearD
          rw [List.append_assoc]; rfl
        rw [eb, show List.length (S ++ (List.range k).map (fun _ => some (MO.lst []))) = S.length + k by simp]
        refine loop_by (fun rest δ S' => ∃ (qs rs : List Mv) (v3 v4 v5 : Option D), rest = rs.map vD ∧ qs ++ rs = mv ∧ S' = Blk S k (fun i => some (.lst (nearD qs i))) (some (.dct (kN k) ((List.range k).map fun i => .loc (S.length + i)))) ∧
            δ = [some (.int k), some (.tup (mv.map vD)), some (.loc (S.length + k)), v3, v4, v5]) ?_ ?_ _ _ _ ⟨[], mv, none, none, none, rfl, rfl, rfl, rfl⟩
        · rintro δ S' ⟨qs, rs, v3, v4, v5, hr, he, rfl, rfl⟩
          have : rs = [] := by cases rs with
            | nil => rfl
            | cons _ _ => simp at hr
          subst this
          rw [List.append_nil] at he
          subst he
          refine ⟨trivial, ?_⟩
          simp only [aFrzD, aRet, aRetN, aAndV, aOrV, aNotV, aCall, aCons, aNil, aVar, aC, aOp, aUn, aB, aTru, aIf, aSeq, aIfS, aNot, aAnd, aOr, aAsg, agName, aNext, aChain, aSl, aPart, aNoPart, aDrop, aTup, aLst, rd_dat, rd_new, mod_lst, le_int', lt_int', aI_int, add_int', add_lst', eq_int', eq_str', tru_bl, tru_lst, tru_tup, true_and, aIsi, aLen, see_int', see_str', see_bl', see_non', see_tup', see_lst', see_stc', see_scr', List.getElem?_cons_zero, List.getElem?_cons_succ, List.set_cons_zero, List.set_cons_succ, Option.some.injEq, exists_eq_left', List.cons.injEq, and_true, D.ty.injEq, D.bl.injEq, D.int.injEq, D.str.injEq, and_assoc, exists_and_left, exists_eq_left, exists_and_right, ret_bl, ret_int, Bool.false_eq_true, if_true, if_false, Bool.not_true, Bool.not_false]
          have fz := frz_all (S := S) (n := k) (f := nearD qs) k 0 (by omega)
          simp only [Nat.not_lt_zero, if_false] at fz
          refine ⟨_, rfl, _, _, blk_d, _, _, fz, ?_⟩
          exact ret_ownG (by omega) blk_d blk_take (bel_near hmv) q
        · rintro x rest δ S' N' ⟨qs, rs, v3, v4, v5, hr, he, rfl, rfl⟩ hN'
          cases rs with
          | nil => simp at hr
          | cons r rs =>
            rw [List.map_cons] at hr
            injection hr with h1 h2
            subst h1; subst h2
            have hm : r ∈ mv := by rw [← he]; simp
            have ok := hmv r hm
            have hqs : qs.length ≤ 17 := by have := congrArg List.length he; simp at this; omega
            refine ⟨trivial, _, rfl, rfl, _, _, rfl, _, _, rfl, _, _, rfl, rfl, ?_⟩
            have sd : ∀ g : Nat → Option MO, see (Blk S k g (some (.dct (kN k) ((List.range k).map fun i => D.loc (S.length + i))))) (.loc (S.length + k)) = .dct (kN k) ((List.range k).map fun i => .loc (S.length + i)) := fun g => by simp only [see, blk_d]; rfl
            simp only [aBM, aDGetK, aRet, aRetN, aAndV, aOrV, aNotV, aCall, aCons, aNil, aVar, aC, aOp, aUn, aB, aTru, aIf, aSeq, aIfS, aNot, aAnd, aOr, aAsg, agName, aNext, aChain, aSl, aPart, aNoPart, aDrop, aTup, aLst, rd_dat, rd_new, mod_lst, le_int', lt_int', aI_int, add_int', add_lst', eq_int', eq_str', tru_bl, tru_lst, tru_tup, true_and, aIsi, aLen, see_int', see_str', see_bl', see_non', see_tup', see_lst', see_stc', see_scr', List.getElem?_cons_zero, List.getElem?_cons_succ, List.set_cons_zero, List.set_cons_succ, Option.some.injEq, exists_eq_left', List.cons.injEq, and_true, D.ty.injEq, D.bl.injEq, D.int.injEq, D.str.injEq, and_assoc, exists_and_left, exists_eq_left, exists_and_right, ret_bl, ret_int, Bool.false_eq_true, if_true, if_false, Bool.not_true, Bool.not_false]
            refine ⟨_, _, sd _, _, rfl, _, dGet_kN ok.1, ?_⟩
            have sl : see (Blk S k (fun i => some (.lst (nearD qs i))) (some (.dct (kN k) ((List.range k).map fun i => D.loc (S.length + i))))) (.loc (S.length + r.1)) = .lst (nearD qs r.1) := by simp only [see, blk_at ok.1]; rfl
            rw [sl]
            refine ⟨rfl, sz rfl, S.length + r.1, _, _, rfl, rfl, blk_at ok.1, ?_, ?_⟩
            · have h1 : (nearD qs r.1).length ≤ qs.length := by rw [nearD, List.length_map]; exact List.length_filter_le ..
              rw [sizeLine_eq]; omega
            · rw [blk_set ok.1]
              refine hN' _ _ ⟨qs ++ [r], rs, _, _, _, rfl, by rw [List.append_assoc]; exact he, ?_, rfl⟩
              refine blk_congr fun i hi => ?_
              rw [nearD_snoc]
              by_cases e : i = r.1
              · rw [if_pos e, if_pos e, e]; rfl
              · rw [if_neg e, if_neg e]
    · rintro x rest acc δ S' N' ⟨k, v, hk, hr, rfl, rfl, rfl⟩ hN'
      have hi : k < n := by
        rcases Nat.lt_or_ge k n with h | h
        · exact h
        · rw [List.drop_of_length_le (by simpa using h)] at hr; simp at hr
      rw [List.drop_eq_getElem_cons (by simpa using hi), List.map_cons, List.getElem_range] at hr
      injection hr with e1 e2
      subst e1; subst e2
      refine ⟨trivial, ?_⟩
      simp only [aYes, if_true, aAlloc, aLst, aNil, aRet, aRetN, aAndV, aOrV, aNotV, aCall, aCons, aNil, aVar, aC, aOp, aUn, aB, aTru, aIf, aSeq, aIfS, aNot, aAnd, aOr, aAsg, agName, aNext, aChain, aSl, aPart, aNoPart, aDrop, aTup, aLst, rd_dat, rd_new, mod_lst, le_int', lt_int', aI_int, add_int', add_lst', eq_int', eq_str', tru_bl, tru_lst, tru_tup, true_and, aIsi, aLen, see_int', see_str', see_bl', see_non', see_tup', see_lst', see_stc', see_scr', List.getElem?_cons_zero, List.getElem?_cons_succ, List.set_cons_zero, List.set_cons_succ, Option.some.injEq, exists_eq_left', List.cons.injEq, and_true, D.ty.injEq, D.bl.injEq, D.int.injEq, D.str.injEq, and_assoc, exists_and_left, exists_eq_left, exists_and_right, ret_bl, ret_int, Bool.false_eq_true, if_true, if_false, Bool.not_true, Bool.not_false]
      refine ⟨Nat.zero_le _, sz rfl, by rw [List.length_map, List.length_range, sizeLine_eq]; omega, hN' _ _ _ ⟨k + 1, _, hi, rfl, ?_, ?_, rfl⟩⟩
      · rw [List.range_succ, List.map_append]; simp
      · rw [List.range_succ, List.map_append, ← List.append_assoc]; rfl
noncomputable def spNear : AN := fun ds S Q => ∃ (n b : Nat) (es : List Nat) (mv : List Mv), ds = [mD n b es mv] ∧ n ≤ 6 ∧ (∀ m ∈ mv, MOk n m) ∧ mv.length ≤ 17 ∧ Q (.new (nearO n mv)) S
theorem d_Near (T : Txt K mg) (F : Src K mg "moves_near" PscNear sNear) (D_by_stand : Def P w K mg base 1 "by_stand" PscBy (conSp K spBy)) : Def P w K mg base 2 "moves_near" PscNear (conSp K spNear) := by
  refine defA F scNear (fun ds S Q h => ?_) (fun f cdv A outer s H E hr => ?_)
  · obtain ⟨n, b, es, mv, rfl, _⟩ := h; rfl
  · refine ⟨_, (M.pss_one (M.ps_ret (M.pe_own D_by_stand (hr.mono (by decide)) (by rfl) (M.pac (M.pe_ix M.o_ix (M.pv 0) M.pe_int (fun _ _ => rfl)) (M.pac (M.pe_ix M.o_ix (M.pv 0) M.pe_int (fun _ _ => rfl)) M.pa_nil))))), fun ds S Q h => ?_⟩
    obtain ⟨n, b, es, mv, rfl, n6, hmv, hl, q⟩ := h
    have e0 : startA NscNear [mD n b es mv] = [some (mD n b es mv)] := rfl
    rw [e0]
    simp only [mD, ix_tup, at0, at1, at2, at3, aRet, aRetN, aAndV, aOrV, aNotV, aCall, aCons, aNil, aVar, aC, aOp, aUn, aB, aTru, aIf, aSeq, aIfS, aNot, aAnd, aOr, aAsg, agName, aNext, aChain, aSl, aPart, aNoPart, aDrop, aTup, aLst, rd_dat, rd_new, mod_lst, le_int', lt_int', aI_int, add_int', add_lst', eq_int', eq_str', tru_bl, tru_lst, tru_tup, true_and, aIsi, aLen, see_int', see_str', see_bl', see_non', see_tup', see_lst', see_stc', see_scr', List.getElem?_cons_zero, List.getElem?_cons_succ, List.set_cons_zero, List.set_cons_succ, Option.some.injEq, exists_eq_left', List.cons.injEq, and_true, D.ty.injEq, D.bl.injEq, D.int.injEq, D.str.injEq, and_assoc, exists_and_left, exists_eq_left, exists_and_right, ret_bl, ret_int, Bool.false_eq_true, if_true, if_false, Bool.not_true, Bool.not_false]
    refine ⟨n, mv, rfl, n6, hmv, hl, ⟨.new (nearO n mv), ?_, chg_same, by rw [List.take_length]; exact q⟩⟩
    simp only [out]
    rw [if_pos (bel_near hmv)]
end
end K31
set_option Elab.async false
set_option linter.all false
set_option maxRecDepth 100000
set_option maxHeartbeats 4000000
namespace K31
open PySem L2 M M6
noncomputable abbrev sGone : Stmt := top 6
noncomputable abbrev NscGone : List Str := ["near", "stands", "marks", "found", "waiting", "stand", "leaf", "other"]
noncomputable abbrev PscGone : List Str := ["near", "stands", "marks"]
theorem scGone : FnScope NscGone PscGone (defScope sGone) := ⟨rfl, rfl, rfl, by decide +kernel, rfl, by decide +kernel, by decide +kernel⟩
noncomputable abbrev sGoBy : Stmt := top 7
noncomputable abbrev NscGoBy : List Str := ["near", "stands", "side", "word", "found", "stand", "leaf", "other"]
noncomputable abbrev PscGoBy : List Str := ["near", "stands", "side", "word"]
theorem scGoBy : FnScope NscGoBy PscGoBy (defScope sGoBy) := ⟨rfl, rfl, rfl, by decide +kernel, rfl, by decide +kernel, by decide +kernel⟩
noncomputable abbrev sCome : Stmt := top 9
noncomputable abbrev NscCome : List Str := ["machine", "stands", "marks"]
noncomputable abbrev PscCome : List Str := ["machine", "stands", "marks"]
theorem scCome : FnScope NscCome PscCome (defScope sCome) := ⟨rfl, rfl, rfl, by decide +kernel, rfl, by decide +kernel, by decide +kernel⟩
noncomputable abbrev sStp : Stmt := top 10
noncomputable abbrev NscStp : List Str := ["machine", "stands", "side", "word"]
noncomputable abbrev PscStp : List Str := ["machine", "stands", "side", "word"]
theorem scStp : FnScope NscStp PscStp (defScope sStp) := ⟨rfl, rfl, rfl, by decide +kernel, rfl, by decide +kernel, by decide +kernel⟩
theorem nodup_lt : ∀ (n : Nat) (l : List Nat), l.Nodup → (∀ x ∈ l, x < n) → l.length ≤ n
  | 0, [], _, _ => Nat.le_refl _
  | 0, x :: _, _, h => absurd (h x (by simp)) (by omega)
  | n + 1, l, h1, h2 => by
    have := nodup_lt n (l.erase n) (h1.erase n) fun x hx => by
      have h3 := (List.Nodup.mem_erase_iff h1).mp hx
      have := h2 x h3.2
      have := h3.1
      omega
    have h4 : l.length - 1 ≤ (l.erase n).length := by
      rw [List.length_erase]; split <;> omega
    omega
noncomputable def fks (ks : List Nat) : List Key := ks.map fun k : Nat => Sum.inl (k : Int)
noncomputable def fvs (ks : List Nat) : List D := ks.map fun _ => D.bl true
noncomputable def fO (ks : List Nat) : MO := .dct (fks ks) (fvs ks)
theorem fO_d (ks : List Nat) : (fO ks).d = .dct (fks ks) (fvs ks) := rfl
noncomputable def ins (ks : List Nat) (k : Nat) : List Nat := if k ∈ ks then ks else ks ++ [k]
theorem mem_ins {ks : List Nat} {k x : Nat} : x ∈ ins ks k ↔ x ∈ ks ∨ x = k := by
  unfold ins
  split
  · next h => exact ⟨.inl, fun h' => h'.elim id fun e => e ▸ h⟩
  · simp
theorem nodup_ins {ks : List Nat} {k : Nat} (h : ks.Nodup) : (ins ks k).Nodup := by
  unfold ins
  split
  · exact h
  · next hk =>
    rw [List.nodup_append]
    refine ⟨h, by simp, fun a ha b hb => ?_⟩
    rw [List.mem_singleton.mp hb]
    intro e; exact hk (e ▸ ha)
theorem has_fks {ks : List Nat} {k : Nat} : dHas (fks ks) (.inl (k : Int)) = decide (k ∈ ks) := by
  unfold dHas fks
  rw [List.any_map]
  by_cases h : k ∈ ks
  · rw [decide_eq_true h, List.any_eq_true]
    exact ⟨k, h, by simp⟩
  · rw [decide_eq_false h, List.any_eq_false]
    intro j hj
    simp; intro e; exact h (by rw [← show j = k by omega]; exact hj)
theorem dP2_fO (ks : List Nat) (k : Nat) : dP2 (fks ks, fvs ks) (.inl (k : Int), .bl true) = (fks (ins ks k), fvs (ins ks k)) := by
  unfold dP2
  dsimp only
  rw [has_fks]
  by_cases h : k ∈ ks
  · rw [if_pos (decide_eq_true h)]
    have e : ins ks k = ks := if_pos h
    rw [e]
    congr 1
    unfold fks fvs
    rw [List.zip_map', List.map_map]
    refine List.map_congr_left fun j _ => ?_
    show (if _ then _ else _) = _
    split <;> rfl
  · rw [if_neg (by simpa using h)]
    have e : ins ks k = ks ++ [k] := if_neg h
    rw [e]
    unfold fks fvs
    simp
theorem put_fO (ks : List Nat) (k : Nat) : dPut (fks ks) (fvs ks) (.inl (k : Int)) (.bl true) = fO (ins ks k) := by
  have := dP2_put (fks ks, fvs ks) (.inl (k : Int), .bl true)
  rw [dP2_fO] at this
  exact this
noncomputable def insAll (ks st : List Nat) : List Nat := st.foldl ins ks
theorem dAll_fO : ∀ (st ks : List Nat), (st.map fun s : Nat => ((Sum.inl (s : Int) : Key), D.bl true)).foldl dP2 (fks ks, fvs ks) = (fks (insAll ks st), fvs (insAll ks st))
  | [], ks => rfl
  | s :: st, ks => by
    rw [List.map_cons, List.foldl_cons, dP2_fO]
    exact dAll_fO st (ins ks s)
theorem mem_insAll {x : Nat} : ∀ (st ks : List Nat), x ∈ insAll ks st ↔ x ∈ ks ∨ x ∈ st
  | [], ks => by simp [insAll]
  | s :: st, ks => by
    show x ∈ insAll (ins ks s) st ↔ _
    rw [mem_insAll st, mem_ins, List.mem_cons, or_assoc]
theorem nodup_insAll : ∀ (st ks : List Nat), ks.Nodup → (insAll ks st).Nodup
  | [], ks, h => h
  | s :: st, ks, h => nodup_insAll st (ins ks s) (nodup_ins h)
inductive Reach (mv : List Mv) (ms : List Str) (st : List Nat) : Nat → Prop
  | base {x : Nat} : x ∈ st → Reach mv ms st x
  | go {m : Mv} : Reach mv ms st m.1 → m ∈ mv → hold m.2.1 ms = true → Reach mv ms st m.2.2
theorem Reach.lt {n : Nat} {mv : List Mv} {ms : List Str} {st : List Nat} (hmv : ∀ m ∈ mv, MOk n m) (hst : ∀ s ∈ st, s < n) {x : Nat} (h : Reach mv ms st x) : x < n := by
  induction h with
  | base h => exact hst _ h
  | go _ h _ _ => exact (hmv _ h).2.2
theorem Reach.closed {mv : List Mv} {ms : List Str} {st ks : List Nat} (h1 : ∀ s ∈ st, s ∈ ks) (h2 : ∀ m ∈ mv, m.1 ∈ ks → hold m.2.1 ms = true → m.2.2 ∈ ks) {x : Nat} (h : Reach mv ms st x) : x ∈ ks := by
  induction h with
  | base h => exact h1 _ h
  | go _ h g ih => exact h2 _ h ih g
noncomputable def Stp (mv : List Mv) (st : List Nat) (s w : Str) (x : Nat) : Prop := ∃ m ∈ mv, m.1 ∈ st ∧ take m.2.1 s w = true ∧ m.2.2 = x
theorem ret_newE {S T : Sto} {o : MO} {Q : AK} (h : belO S.length o = true) (q : Q (.new o) S) : M.ret S (S ++ T) (.new o) Q := by
  refine ⟨.new o, ?_, fun k o' hk e' => .inl ?_, by rw [List.take_left]; exact q⟩
  · simp only [out]
    rw [if_pos h]
  · rw [List.getElem?_append_left hk] at e'; exact e'
theorem bel_nL (m : Nat) (ns : List Nat) : belO m (.lst (nL ns)) = true := bels_pur m _ (purs_nL ns)
theorem sort_fks {ks : List Nat} {ns' : List Int} (hp : ns'.Perm (ks.map fun k : Nat => (k : Int))) (hs : ns'.Pairwise (· ≤ ·)) : ∃ rs : List Nat, rs.Perm ks ∧ rs.Pairwise (· ≤ ·) ∧ ns'.map D.int = nL rs := by
  obtain ⟨rs, h1, rfl⟩ := perm_inv hp
  refine ⟨rs, h1, ?_, by rw [List.map_map]; rfl⟩
  rw [List.pairwise_map] at hs
  exact hs.imp fun h => by omega
section
variable {P : Program} {w : World} {K : PySem.W.Frag} {mg : Str → Option Value} {base : Heap}
noncomputable def spGone : AN := fun ds S Q => ∃ (n : Nat) (mv : List Mv) (st : List Nat) (ms : List Str), ds = [(nearO n mv).d, .tup (nL st), .lst (ms.map D.str)] ∧ n ≤ 6 ∧ (∀ m ∈ mv, MOk n m) ∧ mv.length ≤ 17 ∧ (∀ s ∈ st, s < n) ∧ st.length ≤ 10 ∧ texts ms ∧
  ∀ rs : List Nat, rs.Pairwise (· ≤ ·) → rs.Nodup → (∀ x, x ∈ rs ↔ Reach mv ms st x) → Q (.new (.lst (nL rs))) S
theorem d_Gone (T : Txt K mg) (F : Src K mg "gone_without_steps" PscGone sGone) (D_holds : Def P w K mg base 1 "holds" PscHolds (conSp K spHolds)) : Def P w K mg base 2 "gone_without_steps" PscGone (conSp K spGone) := by
  refine defA F scGone (fun ds S Q h => ?_) (fun f cdv A outer s H E hr => ?_)
  · obtain ⟨n, mv, st, ms, rfl, _⟩ := h; rfl
  · refine ⟨_, (M.pss_cons (M.ps_set (i := 3) scGone.nd rfl (Or.inl rfl) (M.alo (M.pct (M.o_dictP hr) (by rfl) T.dict (by decide +kernel) (M.pac (M.pe_comp (N := ["stand"]) (caps := [none]) (bs_mk (by decide +kernel)) (by rfl) (by rfl) rfl (M.pi_any (M.pv 1)) (fun _ _ _ _ => (M.pg_name (i := 0) (by decide +kernel : List.Nodup (["stand"] : List Str)) rfl (Or.inl rfl))) (fun _ _ _ _ => M.pts_nil) (fun _ _ _ _ => (M.pe_tup (M.pac (M.pv 0) (M.pac M.pe_bl M.pa_nil))))) M.pa_nil))))
      (M.pss_cons (M.ps_set (i := 4) scGone.nd rfl (Or.inl rfl) (M.alo (M.pct (M.o_listD hr) (by rfl) T.list (by decide +kernel) (M.pac (M.pv 3) M.pa_nil))))
      (M.pss_cons (M.ps_while PassesOwn.never (M.pt_val (M.pv 4))
        (M.pss_cons (M.ps_set (i := 5) scGone.nd rfl (Or.inl rfl) (M.pe_bm0 PySem.F.plainAttrs_list PySem.F.slot_list_pop PySem.F.type_list_pop M.m_pop (M.pv 4)))
        (M.pss_one (M.ps_for PassesOwn.never rfl (M.pi_any (M.pe_dgetK (hu_of hr) (M.pv 0) (M.pv 5) (fun _ _ => rfl))) (M.pg_tup (n := 2) rfl (M.pgs_cons (M.pg_name (i := 6) scGone.nd rfl (Or.inl rfl)) (M.pgs_cons (M.pg_name (i := 7) scGone.nd rfl (Or.inl rfl)) M.pgs_nil)))
          (M.pss_one (M.ps_if (M.pw_pt (M.pw_and (M.pt_cmpR (M.o_notInD hr) (M.pv 7) (M.pv 3) rfl) (M.pw_and1 (M.pt_val (M.pe_own D_holds (hr.mono (by decide)) (by rfl) (M.pac (M.pv 6) (M.pac (M.pv 2) M.pa_nil)))))))
            (M.pss_cons (M.ps_dputK (hu_of hr) (M.pv 3) (M.pv 7) M.pe_bl rfl)
            (M.pss_one (M.ps_expr (M.pe_bm PySem.F.plainAttrs_list PySem.F.slot_list_append PySem.F.type_list_append M.m_append (M.pv 4) (M.pac (M.pv 7) M.pa_nil)))))
            M.pss_nil))))))
      (M.pss_one (M.ps_ret (M.pcb (M.o_sortD hr) (by rfl) T.sorted (by decide +kernel) (M.pac (M.pv 3) M.pa_nil))))))), fun ds S Q h => ?_⟩
    obtain ⟨n, mv, st, ms, rfl, n6, hmv, hl, hst, hsl, hms, q⟩ := h
    have e0 : startA NscGone [(nearO n mv).d, .tup (nL st), .lst (ms.map D.str)] = [some (nearO n mv).d, some (.tup (nL st)), some (.lst (ms.map D.str)), none, none, none, none, none] := rfl
    rw [e0]
    simp only [aAlloc, aComp, iAny, iAnyD, aRet, aRetN, aAndV, aOrV, aNotV, aCall, aCons, aNil, aVar, aC, aOp, aUn, aB, aTru, aIf, aSeq, aIfS, aNot, aAnd, aOr, aAsg, agName, aNext, aChain, aSl, aPart, aNoPart, aDrop, aTup, aLst, rd_dat, rd_new, mod_lst, le_int', lt_int', aI_int, add_int', add_lst', eq_int', eq_str', tru_bl, tru_lst, tru_tup, true_and, aIsi, aLen, see_int', see_str', see_bl', see_non', see_tup', see_lst', see_stc', see_scr', List.getElem?_cons_zero, List.getElem?_cons_succ, List.set_cons_zero, List.set_cons_succ, Option.some.injEq, exists_eq_left', List.cons.injEq, and_true, D.ty.injEq, D.bl.injEq, D.int.injEq, D.str.injEq, and_assoc, exists_and_left, exists_eq_left, exists_and_right, ret_bl, ret_int, Bool.false_eq_true, if_true, if_false, Bool.not_true, Bool.not_false]
    refine comp_by (fun rest acc δ S' => ∃ (qs rs : List Nat) (v : Option D), rest = nL rs ∧ qs ++ rs = st ∧ acc = qs.map (fun i : Nat => D.tup [.int i, .bl true]) ∧ S' = S ∧ δ = [v]) ?_ ?_ _ [] _ _ ⟨[], st, none, rfl, rfl, rfl, rfl, rfl⟩
    · rintro acc δ S' ⟨qs, rs, v, hr, he, rfl, rfl, rfl⟩
      have : rs = [] := by cases rs with
        | nil => rfl
        | cons _ _ => simp [nL] at hr
      subst this
      rw [List.append_nil] at he
      subst he
      refine ⟨trivial, _, qs.map (fun i : Nat => (Sum.inl (i : Int), D.bl true)), rfl, ?_, by rw [List.length_map]; omega, ?_⟩
      · rw [see_lst', List.map_map]; rfl
      · have e1 : dAll (qs.map (fun i : Nat => (Sum.inl (i : Int), D.bl true))) = (fks (insAll [] qs), fvs (insAll [] qs)) := dAll_fO qs []
        rw [e1]
        dsimp only
        obtain ⟨k0, hk0⟩ : ∃ k0, k0 = insAll [] qs := ⟨_, rfl⟩
        rw [← hk0]
        have hm0 : ∀ x, x ∈ k0 ↔ x ∈ qs := fun x => by rw [hk0, mem_insAll]; simp
        have hn0 : k0.Nodup := by rw [hk0]; exact nodup_insAll qs [] .nil
        have at3 : ∀ a b : MO, (S' ++ [some a, some b])[S'.length]? = some (some a) := fun a b => by simp
        have at4 : ∀ a b : MO, (S' ++ [some a, some b])[S'.length + 1]? = some (some b) := fun a b => by rw [List.getElem?_append_right (by omega)]; simp
        have set3 : ∀ a b c : MO, (S' ++ [some a, some b]).set S'.length (some c) = S' ++ [some c, some b] := fun a b c => by rw [List.set_append_right _ _ (Nat.le_refl _)]; simp
        have set4 : ∀ a b c : MO, (S' ++ [some a, some b]).set (S'.length + 1) (some c) = S' ++ [some a, some c] := fun a b c => by rw [List.set_append_right _ _ (by omega)]; simp
        have see3 : ∀ a b : MO, see (S' ++ [some a, some b]) (.loc S'.length) = a.d := fun a b => by simp only [see, at3]
        have see4 : ∀ a b : MO, see (S' ++ [some a, some b]) (.loc (S'.length + 1)) = b.d := fun a b => by simp only [see, at4]
        refine ⟨_, fks k0, fvs k0, rfl, by simp only [see, List.getElem?_append_right (Nat.le_refl _), Nat.sub_self]; rfl, ?_⟩
        dsimp only
        rw [show (fks k0).map kD = nL k0 by unfold fks nL; rw [List.map_map]; rfl, show S' ++ [some (MO.dct (fks k0) (fvs k0))] ++ [some (MO.lst (nL k0))] = S' ++ [some (fO k0), some (.lst (nL k0))] by rw [List.append_assoc]; rfl, show List.length (S' ++ [some (MO.dct (fks k0) (fvs k0))]) = S'.length + 1 by simp]
        refine ⟨fun μ δ S2 => ∃ (ks ws : List Nat) (v5 v6 v7 : Option D), δ = [some (nearO n mv).d, some (.tup (nL qs)), some (.lst (ms.map D.str)), some (.loc S'.length), some (.loc (S'.length + 1)), v5, v6, v7] ∧ S2 = S' ++ [some (fO ks), some (.lst (nL ws))] ∧ μ = n - ks.length + ws.length ∧
            ks.Nodup ∧ (∀ s ∈ qs, s ∈ ks) ∧ (∀ k ∈ ks, Reach mv ms qs k) ∧ (∀ k ∈ ws, k ∈ ks) ∧ (∀ m ∈ mv, m.1 ∈ ks → m.1 ∉ ws → hold m.2.1 ms = true → m.2.2 ∈ ks) ∧ ws.length ≤ ks.length, ⟨_, k0, k0, none, none, none, rfl, rfl, rfl, hn0, fun s hs => (hm0 s).mpr hs, fun k hk => .base ((hm0 k).mp hk), fun k hk => hk, fun m hm h1 h2 => absurd h1 h2, Nat.le_refl _⟩, ?_⟩
        rintro μ δ S2 ⟨ks, ws, v5, v6, v7, rfl, rfl, rfl, hn, h1, h2, h3, h4, h5⟩
        have hlt : ∀ k ∈ ks, k < n := fun k hk => (h2 k hk).lt hmv hst
        have hkl := nodup_lt n ks hn hlt
        refine ⟨_, rfl, !ws.isEmpty, by show aTruD (see _ (.loc (S'.length + 1))) = _; rw [see4]; cases ws <;> rfl, ite2 (fun hw => ?_) (fun hw => ?_)⟩
        · obtain ⟨ws', a, rfl⟩ : ∃ ws' a, ws = ws' ++ [a] := by
            rcases List.eq_nil_or_concat ws with rfl | ⟨l, a, rfl⟩
            · simp at hw
            · exact ⟨l, a, by simp⟩
          have ha : a ∈ ks := h3 a (by simp)
          obtain ⟨N, hN⟩ : ∃ N : AEnv → Sto → Prop, N = fun δ S2 => ∃ (ks1 ws1 : List Nat) (v5 v6 v7 : Option D), δ = [some (nearO n mv).d, some (.tup (nL qs)), some (.lst (ms.map D.str)), some (.loc S'.length), some (.loc (S'.length + 1)), v5, v6, v7] ∧ S2 = S' ++ [some (fO ks1), some (.lst (nL ws1))] ∧ n - ks1.length + ws1.length < n - ks.length + (ws' ++ [a]).length ∧
            ks1.Nodup ∧ (∀ s ∈ qs, s ∈ ks1) ∧ (∀ k ∈ ks1, Reach mv ms qs k) ∧ (∀ k ∈ ws1, k ∈ ks1) ∧ (∀ m ∈ mv, m.1 ∈ ks1 → m.1 ∉ ws1 → hold m.2.1 ms = true → m.2.2 ∈ ks1) ∧ ws1.length ≤ ks1.length := ⟨_, rfl⟩
          refine ⟨N, ?_, ?_⟩
          · rw [hN]
            rintro δ' S3 ⟨ks1, ws1, w5, w6, w7, g1, g2, g3, g4⟩
            exact ⟨_, g3, ks1, ws1, w5, w6, w7, g1, g2, rfl, g4⟩
          · simp only [aBM0, aPop, aRet, aRetN, aAndV, aOrV, aNotV, aCall, aCons, aNil, aVar, aC, aOp, aUn, aB, aTru, aIf, aSeq, aIfS, aNot, aAnd, aOr, aAsg, agName, aNext, aChain, aSl, aPart, aNoPart, aDrop, aTup, aLst, rd_dat, rd_new, mod_lst, le_int', lt_int', aI_int, add_int', add_lst', eq_int', eq_str', tru_bl, tru_lst, tru_tup, true_and, aIsi, aLen, see_int', see_str', see_bl', see_non', see_tup', see_lst', see_stc', see_scr', List.getElem?_cons_zero, List.getElem?_cons_succ, List.set_cons_zero, List.set_cons_succ, Option.some.injEq, exists_eq_left', List.cons.injEq, and_true, D.ty.injEq, D.bl.injEq, D.int.injEq, D.str.injEq, and_assoc, exists_and_left, exists_eq_left, exists_and_right, ret_bl, ret_int, Bool.false_eq_true, if_true, if_false, Bool.not_true, Bool.not_false]
            have et : nL (ws' ++ [a]) = nL ws' ++ [.int (a : Int)] := by simp [nL]
            refine ⟨by rw [see4]; rfl, _, rfl, _, at4 _ _, .int (a : Int), by rw [et]; simp, ?_⟩
            rw [set4, show (nL (ws' ++ [a])).dropLast = nL ws' by rw [et]; simp]
            simp only [aFor, iAny, aDGetK, aRet, aRetN, aAndV, aOrV, aNotV, aCall, aCons, aNil, aVar, aC, aOp, aUn, aB, aTru, aIf, aSeq, aIfS, aNot, aAnd, aOr, aAsg, agName, aNext, aChain, aSl, aPart, aNoPart, aDrop, aTup, aLst, rd_dat, rd_new, mod_lst, le_int', lt_int', aI_int, add_int', add_lst', eq_int', eq_str', tru_bl, tru_lst, tru_tup, true_and, aIsi, aLen, see_int', see_str', see_bl', see_non', see_tup', see_lst', see_stc', see_scr', List.getElem?_cons_zero, List.getElem?_cons_succ, List.set_cons_zero, List.set_cons_succ, Option.some.injEq, exists_eq_left', List.cons.injEq, and_true, D.ty.injEq, D.bl.injEq, D.int.injEq, D.str.injEq, and_assoc, exists_and_left, exists_eq_left, exists_and_right, ret_bl, ret_int, Bool.false_eq_true, if_true, if_false, Bool.not_true, Bool.not_false]
            refine ⟨kN n, _, rfl, _, rfl, _, dGet_kN (hlt a ha), ?_⟩
            simp only [iAnyD, aRet, aRetN, aAndV, aOrV, aNotV, aCall, aCons, aNil, aVar, aC, aOp, aUn, aB, aTru, aIf, aSeq, aIfS, aNot, aAnd, aOr, aAsg, agName, aNext, aChain, aSl, aPart, aNoPart, aDrop, aTup, aLst, rd_dat, rd_new, mod_lst, le_int', lt_int', aI_int, add_int', add_lst', eq_int', eq_str', tru_bl, tru_lst, tru_tup, true_and, aIsi, aLen, see_int', see_str', see_bl', see_non', see_tup', see_lst', see_stc', see_scr', List.getElem?_cons_zero, List.getElem?_cons_succ, List.set_cons_zero, List.set_cons_succ, Option.some.injEq, exists_eq_left', List.cons.injEq, and_true, D.ty.injEq, D.bl.injEq, D.int.injEq, D.str.injEq, and_assoc, exists_and_left, exists_eq_left, exists_and_right, ret_bl, ret_int, Bool.false_eq_true, if_true, if_false, Bool.not_true, Bool.not_false]
            refine loop_by (fun rest δ S3 => ∃ (qm rm : List Mv) (ks1 ws1 : List Nat) (v6 v7 : Option D), rest = rm.map pD ∧ qm ++ rm = mv.filter (fun m => decide (m.1 = a)) ∧ δ = [some (nearO n mv).d, some (.tup (nL qs)), some (.lst (ms.map D.str)), some (.loc S'.length), some (.loc (S'.length + 1)), some (.int a), v6, v7] ∧ S3 = S' ++ [some (fO ks1), some (.lst (nL ws1))] ∧ n - ks1.length + ws1.length = n - ks.length + ws'.length ∧
              ks1.Nodup ∧ (∀ s ∈ qs, s ∈ ks1) ∧ (∀ k ∈ ks1, Reach mv ms qs k) ∧ (∀ k ∈ ws1, k ∈ ks1) ∧ (∀ m ∈ mv, m.1 ∈ ks1 → m.1 ∉ ws1 → m.1 ≠ a → hold m.2.1 ms = true → m.2.2 ∈ ks1) ∧ (∀ m ∈ qm, hold m.2.1 ms = true → m.2.2 ∈ ks1) ∧ ws1.length ≤ ks1.length ∧ a ∈ ks1) ?_ ?_ _ _ _ ⟨[], mv.filter (fun m => decide (m.1 = a)), ks, ws', v6, v7, rfl, rfl, rfl, rfl, rfl, hn, h1, h2, fun k hk => h3 k (by simp [hk]), fun m hm g1 g2 g3 => h4 m hm g1 (by simp [g2, g3]), by simp, by simp at h5; omega, ha⟩
            · rintro δ S3 ⟨qm, rm, ks1, ws1, v6, v7, hr, he, rfl, rfl, hm, g1, g2, g3, g4, g5, g6, g7, g8⟩
              have : rm = [] := by cases rm with
                | nil => rfl
                | cons _ _ => simp at hr
              subst this
              rw [List.append_nil] at he
              refine ⟨trivial, ?_⟩
              rw [hN]
              refine ⟨ks1, ws1, _, _, _, rfl, rfl, by rw [List.length_append]; show _ < _ + (_ + 1); omega, g1, g2, g3, g4, fun m hm' k1 k2 k3 => ?_, g7⟩
              by_cases e : m.1 = a
              · exact g6 m (by rw [he]; exact List.mem_filter.mpr ⟨hm', decide_eq_true e⟩) k3
              · exact g5 m hm' k1 k2 e k3
            · rintro x rest δ S3 N' ⟨qm, rm, ks1, ws1, v6, v7, hr, he, rfl, rfl, hm, g1, g2, g3, g4, g5, g6, g7, g8⟩ hN'
              cases rm with
              | nil => simp at hr
              | cons r rm =>
                rw [List.map_cons] at hr
                injection hr with e1 e2
                subst e1; subst e2
                have hr : r ∈ mv.filter (fun m => decide (m.1 = a)) := by rw [← he]; simp
                have hrm := (List.mem_filter.mp hr).1
                have hra : r.1 = a := of_decide_eq_true (List.mem_filter.mp hr).2
                have ok := hmv r hrm
                have he' : (qm ++ [r]) ++ rm = mv.filter (fun m => decide (m.1 = a)) := by rw [List.append_assoc]; exact he
                refine ⟨trivial, _, rfl, rfl, _, _, rfl, _, _, rfl, rfl, ?_⟩
                simp only [aInD, see3, fO_d, aRet, aRetN, aAndV, aOrV, aNotV, aCall, aCons, aNil, aVar, aC, aOp, aUn, aB, aTru, aIf, aSeq, aIfS, aNot, aAnd, aOr, aAsg, agName, aNext, aChain, aSl, aPart, aNoPart, aDrop, aTup, aLst, rd_dat, rd_new, mod_lst, le_int', lt_int', aI_int, add_int', add_lst', eq_int', eq_str', tru_bl, tru_lst, tru_tup, true_and, aIsi, aLen, see_int', see_str', see_bl', see_non', see_tup', see_lst', see_stc', see_scr', List.getElem?_cons_zero, List.getElem?_cons_succ, List.set_cons_zero, List.set_cons_succ, Option.some.injEq, exists_eq_left', List.cons.injEq, and_true, D.ty.injEq, D.bl.injEq, D.int.injEq, D.str.injEq, and_assoc, exists_and_left, exists_eq_left, exists_and_right, ret_bl, ret_int, Bool.false_eq_true, if_true, if_false, Bool.not_true, Bool.not_false]
                refine ⟨_, rfl, ?_⟩
                rw [has_fks]
                refine ite2 (fun hb => ?_) (fun hb => ?_)
                · have hb : r.2.2 ∉ ks1 := by simpa using hb
                  refine ⟨r.2.1, ms, rfl, ok.2.1, hms, _, rfl, ite2 (fun hh => ?_) (fun hh => ?_)⟩
                  · simp only [aDPutK, aDrop, aBM, aRet, aRetN, aAndV, aOrV, aNotV, aCall, aCons, aNil, aVar, aC, aOp, aUn, aB, aTru, aIf, aSeq, aIfS, aNot, aAnd, aOr, aAsg, agName, aNext, aChain, aSl, aPart, aNoPart, aDrop, aTup, aLst, rd_dat, rd_new, mod_lst, le_int', lt_int', aI_int, add_int', add_lst', eq_int', eq_str', tru_bl, tru_lst, tru_tup, true_and, aIsi, aLen, see_int', see_str', see_bl', see_non', see_tup', see_lst', see_stc', see_scr', List.getElem?_cons_zero, List.getElem?_cons_succ, List.set_cons_zero, List.set_cons_succ, Option.some.injEq, exists_eq_left', List.cons.injEq, and_true, D.ty.injEq, D.bl.injEq, D.int.injEq, D.str.injEq, and_assoc, exists_and_left, exists_eq_left, exists_and_right, ret_bl, ret_int, Bool.false_eq_true, if_true, if_false, Bool.not_true, Bool.not_false]
                    refine ⟨_, rfl, fks ks1, fvs ks1, _, rfl, at3 _ _, ?_, ?_⟩
                    · show (fvs ks1).length < 1000
                      rw [fvs, List.length_map]
                      have := nodup_lt n ks1 g1 fun k hk => (g3 k hk).lt hmv hst
                      omega
                    · rw [set3, put_fO, show ins ks1 r.2.2 = ks1 ++ [r.2.2] from if_neg hb]
                      have nd : (ks1 ++ [r.2.2]).Nodup := by
                        have := nodup_ins (k := r.2.2) g1
                        rwa [show ins ks1 r.2.2 = ks1 ++ [r.2.2] from if_neg hb] at this
                      have rc : ∀ k ∈ ks1 ++ [r.2.2], Reach mv ms qs k := fun k hk => by
                        rcases List.mem_append.mp hk with h | h
                        · exact g3 k h
                        · rw [List.mem_singleton.mp h]
                          exact .go (hra ▸ g3 a g8) hrm hh
                      have hk1 := nodup_lt n _ nd fun k hk => (rc k hk).lt hmv hst
                      rw [List.length_append] at hk1
                      have hk1 : ks1.length + 1 ≤ n := hk1
                      refine ⟨by rw [see4]; rfl, _, nL ws1, _, rfl, rfl, at4 _ _, by rw [nL, List.length_map, sizeLine_eq]; omega, ?_⟩
                      rw [set4, show nL ws1 ++ [D.int (r.2.2 : Int)] = nL (ws1 ++ [r.2.2]) by simp [nL]]
                      refine hN' _ _ ⟨qm ++ [r], rm, ks1 ++ [r.2.2], ws1 ++ [r.2.2], _, _, rfl, he', rfl, rfl, by rw [List.length_append, List.length_append]; show n - (ks1.length + 1) + (ws1.length + 1) = _; omega, nd, fun s hs => List.mem_append_left _ (g2 s hs), rc, fun k hk => ?_, fun m hm' k1 k2 k3 k4 => ?_, fun m hm' k => ?_, by rw [List.length_append, List.length_append]; omega, List.mem_append_left _ g8⟩
                      · rcases List.mem_append.mp hk with h | h
                        · exact List.mem_append_left _ (g4 k h)
                        · exact List.mem_append_right _ h
                      · rcases List.mem_append.mp k1 with h | h
                        · exact List.mem_append_left _ (g5 m hm' h (fun h' => k2 (List.mem_append_left _ h')) k3 k4)
                        · exact absurd (List.mem_append_right _ h) k2
                      · rcases List.mem_append.mp hm' with h | h
                        · exact List.mem_append_left _ (g6 m h k)
                        · rw [List.mem_singleton.mp h]; simp
                  · exact hN' _ _ ⟨qm ++ [r], rm, ks1, ws1, _, _, rfl, he', rfl, rfl, hm, g1, g2, g3, g4, g5, fun m hm' k => by
                      rcases List.mem_append.mp hm' with h | h
                      · exact g6 m h k
                      · rw [List.mem_singleton.mp h] at k; exact absurd k hh, g7, g8⟩
                · have hb : r.2.2 ∈ ks1 := by simpa using hb
                  exact hN' _ _ ⟨qm ++ [r], rm, ks1, ws1, _, _, rfl, he', rfl, rfl, hm, g1, g2, g3, g4, g5, fun m hm' k => by
                    rcases List.mem_append.mp hm' with h | h
                    · exact g6 m h k
                    · rw [List.mem_singleton.mp h]; exact hb, g7, g8⟩
        · have : ws = [] := by simpa using hw
          subst this
          refine ⟨_, rfl, _, fvs ks, ks.map (fun k : Nat => (k : Int)), rfl, ?_, by rw [List.length_map]; omega, fun ns' hp hs => ?_⟩
          · show see _ (.loc S'.length) = _; rw [see3]; show D.dct (fks ks) (fvs ks) = _; unfold fks; rw [List.map_map]; rfl
          · obtain ⟨rs, p1, p2, p3⟩ := sort_fks hp hs
            rw [p3]
            refine ret_newE (bel_nL _ _) (q rs p2 (p1.symm.nodup hn) fun x => ?_)
            rw [p1.mem_iff]
            exact ⟨h2 x, fun hx => hx.closed h1 fun m hm hk hh => h4 m hm hk (by simp) hh⟩
    · rintro x rest acc δ S' N' ⟨qs, rs, v, hr, he, rfl, rfl, rfl⟩ hN'
      cases rs with
      | nil => simp [nL] at hr
      | cons r rs =>
        rw [nL, List.map_cons] at hr
        injection hr with h1 h2
        subst h1; subst h2
        refine ⟨trivial, ?_⟩
        simp only [aYes, if_true, aRet, aRetN, aAndV, aOrV, aNotV, aCall, aCons, aNil, aVar, aC, aOp, aUn, aB, aTru, aIf, aSeq, aIfS, aNot, aAnd, aOr, aAsg, agName, aNext, aChain, aSl, aPart, aNoPart, aDrop, aTup, aLst, rd_dat, rd_new, mod_lst, le_int', lt_int', aI_int, add_int', add_lst', eq_int', eq_str', tru_bl, tru_lst, tru_tup, true_and, aIsi, aLen, see_int', see_str', see_bl', see_non', see_tup', see_lst', see_stc', see_scr', List.getElem?_cons_zero, List.getElem?_cons_succ, List.set_cons_zero, List.set_cons_succ, Option.some.injEq, exists_eq_left', List.cons.injEq, and_true, D.ty.injEq, D.bl.injEq, D.int.injEq, D.str.injEq, and_assoc, exists_and_left, exists_eq_left, exists_and_right, ret_bl, ret_int, Bool.false_eq_true, if_true, if_false, Bool.not_true, Bool.not_false]
        refine ⟨sz rfl, by rw [List.length_map, sizeLine_eq]; have := congrArg List.length he; simp at this; omega, hN' _ _ _ ⟨qs ++ [r], rs, _, rfl, by rw [List.append_assoc]; exact he, by rw [List.map_append]; rfl, rfl, rfl⟩⟩
end
end K31
set_option Elab.async false
set_option linter.all false
set_option maxRecDepth 100000
set_option maxHeartbeats 4000000
namespace K31
open PySem L2 M M6
section
variable {P : Program} {w : World} {K : PySem.W.Frag} {mg : Str → Option Value} {base : Heap}
noncomputable def spGoBy : AN := fun ds S Q => ∃ (n : Nat) (mv : List Mv) (st : List Nat) (sd wd : Str), ds = [(nearO n mv).d, .tup (nL st), .str sd, .str wd] ∧ n ≤ 6 ∧ (∀ m ∈ mv, MOk n m) ∧ mv.length ≤ 17 ∧ (∀ s ∈ st, s < n) ∧ okS wd = true ∧
  ∀ rs : List Nat, rs.Pairwise (· ≤ ·) → rs.Nodup → (∀ x, x ∈ rs ↔ Stp mv st sd wd x) → Q (.new (.lst (nL rs))) S
theorem stp_snoc {mv : List Mv} {st : List Nat} {a : Nat} {sd wd : Str} {x : Nat} : Stp mv (st ++ [a]) sd wd x ↔ Stp mv st sd wd x ∨ ∃ m ∈ mv.filter (fun m => decide (m.1 = a)), take m.2.1 sd wd = true ∧ m.2.2 = x := by
  constructor
  · rintro ⟨m, h1, h2, h3⟩
    rcases List.mem_append.mp h2 with h | h
    · exact .inl ⟨m, h1, h, h3⟩
    · exact .inr ⟨m, List.mem_filter.mpr ⟨h1, decide_eq_true (List.mem_singleton.mp h)⟩, h3⟩
  · rintro (⟨m, h1, h2, h3⟩ | ⟨m, h1, h2⟩)
    · exact ⟨m, h1, List.mem_append_left _ h2, h3⟩
    · obtain ⟨h1, h3⟩ := List.mem_filter.mp h1
      exact ⟨m, h1, List.mem_append_right _ (by rw [of_decide_eq_true h3]; simp), h2⟩
theorem d_GoBy (T : Txt K mg) (F : Src K mg "gone_by_step" PscGoBy sGoBy) (D_takes : Def P w K mg base 1 "takes" PscTakes (conSp K spTakes)) : Def P w K mg base 2 "gone_by_step" PscGoBy (conSp K spGoBy) := by
  refine defA F scGoBy (fun ds S Q h => ?_) (fun f cdv A outer s H E hr => ?_)
  · obtain ⟨n, mv, st, sd, wd, rfl, _⟩ := h; rfl
  · refine ⟨_, (M.pss_cons (M.ps_set (i := 4) scGoBy.nd rfl (Or.inl rfl) (M.alo M.pe_dnewK))
      (M.pss_cons (M.ps_for PassesOwn.never rfl (M.pi_any (M.pv 1)) (M.pg_name (i := 5) scGoBy.nd rfl (Or.inl rfl))
        (M.pss_one (M.ps_for PassesOwn.never rfl (M.pi_any (M.pe_dgetK (hu_of hr) (M.pv 0) (M.pv 5) (fun _ _ => rfl))) (M.pg_tup (n := 2) rfl (M.pgs_cons (M.pg_name (i := 6) scGoBy.nd rfl (Or.inl rfl)) (M.pgs_cons (M.pg_name (i := 7) scGoBy.nd rfl (Or.inl rfl)) M.pgs_nil)))
          (M.pss_one (M.ps_if (M.pt_val (M.pe_own D_takes (hr.mono (by decide)) (by rfl) (M.pac (M.pv 6) (M.pac (M.pv 2) (M.pac (M.pv 3) M.pa_nil)))))
            (M.pss_one (M.ps_dputK (hu_of hr) (M.pv 4) (M.pv 7) M.pe_bl rfl))
            M.pss_nil)))))
      (M.pss_one (M.ps_ret (M.pcb (M.o_sortD hr) (by rfl) T.sorted (by decide +kernel) (M.pac (M.pv 4) M.pa_nil)))))), fun ds S Q h => ?_⟩
    obtain ⟨n, mv, st, sd, wd, rfl, n6, hmv, hl, hst, hwd, q⟩ := h
    have e0 : startA NscGoBy [(nearO n mv).d, .tup (nL st), .str sd, .str wd] = [some (nearO n mv).d, some (.tup (nL st)), some (.str sd), some (.str wd), none, none, none, none] := rfl
    rw [e0]
    have at4 : ∀ a : MO, (S ++ [some a])[S.length]? = some (some a) := fun a => by simp
    have set4 : ∀ a c : MO, (S ++ [some a]).set S.length (some c) = S ++ [some c] := fun a c => by rw [List.set_append_right _ _ (Nat.le_refl _)]; simp
    have see4 : ∀ a : MO, see (S ++ [some a]) (.loc S.length) = a.d := fun a => by simp only [see, at4]
    simp only [aFor, iAny, iAnyD, aAlloc, aDNewK, aRet, aRetN, aAndV, aOrV, aNotV, aCall, aCons, aNil, aVar, aC, aOp, aUn, aB, aTru, aIf, aSeq, aIfS, aNot, aAnd, aOr, aAsg, agName, aNext, aChain, aSl, aPart, aNoPart, aDrop, aTup, aLst, rd_dat, rd_new, mod_lst, le_int', lt_int', aI_int, add_int', add_lst', eq_int', eq_str', tru_bl, tru_lst, tru_tup, true_and, aIsi, aLen, see_int', see_str', see_bl', see_non', see_tup', see_lst', see_stc', see_scr', List.getElem?_cons_zero, List.getElem?_cons_succ, List.set_cons_zero, List.set_cons_succ, Option.some.injEq, exists_eq_left', List.cons.injEq, and_true, D.ty.injEq, D.bl.injEq, D.int.injEq, D.str.injEq, and_assoc, exists_and_left, exists_eq_left, exists_and_right, ret_bl, ret_int, Bool.false_eq_true, if_true, if_false, Bool.not_true, Bool.not_false]
    refine loop_by (fun rest δ S2 => ∃ (s1 s2 ks : List Nat) (v5 v6 v7 : Option D), rest = nL s2 ∧ s1 ++ s2 = st ∧ δ = [some (nearO n mv).d, some (.tup (nL st)), some (.str sd), some (.str wd), some (.loc S.length), v5, v6, v7] ∧ S2 = S ++ [some (fO ks)] ∧ ks.Nodup ∧ (∀ k ∈ ks, k < n) ∧ ∀ x, x ∈ ks ↔ Stp mv s1 sd wd x) ?_ ?_ _ _ _
      ⟨[], st, [], none, none, none, rfl, rfl, rfl, rfl, .nil, by simp, fun x => ⟨fun h => by simp at h, fun ⟨m, _, h, _⟩ => by simp at h⟩⟩
    · rintro δ S2 ⟨s1, s2, ks, v5, v6, v7, hr, he, rfl, rfl, hn, hlt, hx⟩
      have : s2 = [] := by cases s2 with
        | nil => rfl
        | cons _ _ => simp [nL] at hr
      subst this
      rw [List.append_nil] at he
      subst he
      have hkl := nodup_lt n ks hn hlt
      refine ⟨trivial, ?_⟩
      simp only [aRet, aRetN, aAndV, aOrV, aNotV, aCall, aCons, aNil, aVar, aC, aOp, aUn, aB, aTru, aIf, aSeq, aIfS, aNot, aAnd, aOr, aAsg, agName, aNext, aChain, aSl, aPart, aNoPart, aDrop, aTup, aLst, rd_dat, rd_new, mod_lst, le_int', lt_int', aI_int, add_int', add_lst', eq_int', eq_str', tru_bl, tru_lst, tru_tup, true_and, aIsi, aLen, see_int', see_str', see_bl', see_non', see_tup', see_lst', see_stc', see_scr', List.getElem?_cons_zero, List.getElem?_cons_succ, List.set_cons_zero, List.set_cons_succ, Option.some.injEq, exists_eq_left', List.cons.injEq, and_true, D.ty.injEq, D.bl.injEq, D.int.injEq, D.str.injEq, and_assoc, exists_and_left, exists_eq_left, exists_and_right, ret_bl, ret_int, Bool.false_eq_true, if_true, if_false, Bool.not_true, Bool.not_false]
      refine ⟨_, fvs ks, ks.map (fun k : Nat => (k : Int)), rfl, ?_, by rw [List.length_map]; omega, fun ns' hp hs => ?_⟩
      · rw [see4, fO_d]; unfold fks; rw [List.map_map]; rfl
      · obtain ⟨rs, p1, p2, p3⟩ := sort_fks hp hs
        rw [p3]
        refine ret_newE (bel_nL _ _) (q rs p2 (p1.symm.nodup hn) fun x => ?_)
        rw [p1.mem_iff, hx]
    · rintro x rest δ S2 N' ⟨s1, s2, ks, v5, v6, v7, hr, he, rfl, rfl, hn, hlt, hx⟩ hN'
      cases s2 with
      | nil => simp [nL] at hr
      | cons a s2 =>
        rw [nL, List.map_cons] at hr
        injection hr with e1 e2
        subst e1; subst e2
        have ha : a < n := hst a (by rw [← he]; simp)
        refine ⟨trivial, ?_⟩
        simp only [aFor, iAny, aDGetK, aRet, aRetN, aAndV, aOrV, aNotV, aCall, aCons, aNil, aVar, aC, aOp, aUn, aB, aTru, aIf, aSeq, aIfS, aNot, aAnd, aOr, aAsg, agName, aNext, aChain, aSl, aPart, aNoPart, aDrop, aTup, aLst, rd_dat, rd_new, mod_lst, le_int', lt_int', aI_int, add_int', add_lst', eq_int', eq_str', tru_bl, tru_lst, tru_tup, true_and, aIsi, aLen, see_int', see_str', see_bl', see_non', see_tup', see_lst', see_stc', see_scr', List.getElem?_cons_zero, List.getElem?_cons_succ, List.set_cons_zero, List.set_cons_succ, Option.some.injEq, exists_eq_left', List.cons.injEq, and_true, D.ty.injEq, D.bl.injEq, D.int.injEq, D.str.injEq, and_assoc, exists_and_left, exists_eq_left, exists_and_right, ret_bl, ret_int, Bool.false_eq_true, if_true, if_false, Bool.not_true, Bool.not_false]
        refine ⟨kN n, _, rfl, _, rfl, _, dGet_kN ha, ?_⟩
        simp only [iAnyD, aRet, aRetN, aAndV, aOrV, aNotV, aCall, aCons, aNil, aVar, aC, aOp, aUn, aB, aTru, aIf, aSeq, aIfS, aNot, aAnd, aOr, aAsg, agName, aNext, aChain, aSl, aPart, aNoPart, aDrop, aTup, aLst, rd_dat, rd_new, mod_lst, le_int', lt_int', aI_int, add_int', add_lst', eq_int', eq_str', tru_bl, tru_lst, tru_tup, true_and, aIsi, aLen, see_int', see_str', see_bl', see_non', see_tup', see_lst', see_stc', see_scr', List.getElem?_cons_zero, List.getElem?_cons_succ, List.set_cons_zero, List.set_cons_succ, Option.some.injEq, exists_eq_left', List.cons.injEq, and_true, D.ty.injEq, D.bl.injEq, D.int.injEq, D.str.injEq, and_assoc, exists_and_left, exists_eq_left, exists_and_right, ret_bl, ret_int, Bool.false_eq_true, if_true, if_false, Bool.not_true, Bool.not_false]
        refine loop_by (fun rest δ S3 => ∃ (qm rm : List Mv) (ks1 : List Nat) (v6 v7 : Option D), rest = rm.map pD ∧ qm ++ rm = mv.filter (fun m => decide (m.1 = a)) ∧ δ = [some (nearO n mv).d, some (.tup (nL st)), some (.str sd), some (.str wd), some (.loc S.length), some (.int a), v6, v7] ∧ S3 = S ++ [some (fO ks1)] ∧
            ks1.Nodup ∧ (∀ k ∈ ks1, k < n) ∧ ∀ x, x ∈ ks1 ↔ Stp mv s1 sd wd x ∨ ∃ m ∈ qm, take m.2.1 sd wd = true ∧ m.2.2 = x) ?_ ?_ _ _ _ ⟨[], mv.filter (fun m => decide (m.1 = a)), ks, v6, v7, rfl, rfl, rfl, rfl, hn, hlt, fun x => by rw [hx]; simp⟩
        · rintro δ S3 ⟨qm, rm, ks1, v6, v7, hr, he1, rfl, rfl, hn1, hlt1, hx1⟩
          have : rm = [] := by cases rm with
            | nil => rfl
            | cons _ _ => simp at hr
          subst this
          rw [List.append_nil] at he1
          subst he1
          exact ⟨trivial, hN' _ _ ⟨s1 ++ [a], s2, ks1, _, _, _, rfl, by rw [List.append_assoc]; exact he, rfl, rfl, hn1, hlt1, fun x => by rw [hx1, stp_snoc]⟩⟩
        · rintro x rest δ S3 N2 ⟨qm, rm, ks1, v6, v7, hr, he1, rfl, rfl, hn1, hlt1, hx1⟩ hN2
          cases rm with
          | nil => simp at hr
          | cons r rm =>
            rw [List.map_cons] at hr
            injection hr with e1 e2
            subst e1; subst e2
            have hr : r ∈ mv.filter (fun m => decide (m.1 = a)) := by rw [← he1]; simp
            have hrm := (List.mem_filter.mp hr).1
            have ok := hmv r hrm
            have he' : (qm ++ [r]) ++ rm = mv.filter (fun m => decide (m.1 = a)) := by rw [List.append_assoc]; exact he1
            refine ⟨trivial, _, rfl, rfl, _, _, rfl, _, _, rfl, rfl, ?_⟩
            simp only [aRet, aRetN, aAndV, aOrV, aNotV, aCall, aCons, aNil, aVar, aC, aOp, aUn, aB, aTru, aIf, aSeq, aIfS, aNot, aAnd, aOr, aAsg, agName, aNext, aChain, aSl, aPart, aNoPart, aDrop, aTup, aLst, rd_dat, rd_new, mod_lst, le_int', lt_int', aI_int, add_int', add_lst', eq_int', eq_str', tru_bl, tru_lst, tru_tup, true_and, aIsi, aLen, see_int', see_str', see_bl', see_non', see_tup', see_lst', see_stc', see_scr', List.getElem?_cons_zero, List.getElem?_cons_succ, List.set_cons_zero, List.set_cons_succ, Option.some.injEq, exists_eq_left', List.cons.injEq, and_true, D.ty.injEq, D.bl.injEq, D.int.injEq, D.str.injEq, and_assoc, exists_and_left, exists_eq_left, exists_and_right, ret_bl, ret_int, Bool.false_eq_true, if_true, if_false, Bool.not_true, Bool.not_false]
            refine ⟨r.2.1, sd, wd, rfl, ok.2.1, hwd, _, rfl, ite2 (fun hh => ?_) (fun hh => ?_)⟩
            · simp only [aDPutK, aRet, aRetN, aAndV, aOrV, aNotV, aCall, aCons, aNil, aVar, aC, aOp, aUn, aB, aTru, aIf, aSeq, aIfS, aNot, aAnd, aOr, aAsg, agName, aNext, aChain, aSl, aPart, aNoPart, aDrop, aTup, aLst, rd_dat, rd_new, mod_lst, le_int', lt_int', aI_int, add_int', add_lst', eq_int', eq_str', tru_bl, tru_lst, tru_tup, true_and, aIsi, aLen, see_int', see_str', see_bl', see_non', see_tup', see_lst', see_stc', see_scr', List.getElem?_cons_zero, List.getElem?_cons_succ, List.set_cons_zero, List.set_cons_succ, Option.some.injEq, exists_eq_left', List.cons.injEq, and_true, D.ty.injEq, D.bl.injEq, D.int.injEq, D.str.injEq, and_assoc, exists_and_left, exists_eq_left, exists_and_right, ret_bl, ret_int, Bool.false_eq_true, if_true, if_false, Bool.not_true, Bool.not_false]
              refine ⟨_, rfl, fks ks1, fvs ks1, _, rfl, at4 _, ?_, ?_⟩
              · show (fvs ks1).length < 1000
                rw [fvs, List.length_map]
                have := nodup_lt n ks1 hn1 hlt1
                omega
              · rw [set4, put_fO]
                refine hN2 _ _ ⟨qm ++ [r], rm, _, _, _, rfl, he', rfl, rfl, nodup_ins hn1, fun k hk => ?_, fun x => ?_⟩
                · rcases mem_ins.mp hk with h | h
                  · exact hlt1 k h
                  · rw [h]; exact ok.2.2
                · rw [mem_ins, hx1, or_assoc]
                  refine or_congr Iff.rfl ⟨?_, ?_⟩
                  · rintro (⟨m, h1, h2⟩ | rfl)
                    · exact ⟨m, List.mem_append_left _ h1, h2⟩
                    · exact ⟨r, by simp, hh, rfl⟩
                  · rintro ⟨m, h1, h2⟩
                    rcases List.mem_append.mp h1 with h | h
                    · exact .inl ⟨m, h, h2⟩
                    · rw [List.mem_singleton.mp h] at h2; exact .inr h2.2.symm
            · refine hN2 _ _ ⟨qm ++ [r], rm, ks1, _, _, rfl, he', rfl, rfl, hn1, hlt1, fun x => ?_⟩
              rw [hx1]
              refine or_congr Iff.rfl ⟨?_, ?_⟩
              · rintro ⟨m, h1, h2⟩
                exact ⟨m, List.mem_append_left _ h1, h2⟩
              · rintro ⟨m, h1, h2⟩
                rcases List.mem_append.mp h1 with h | h
                · exact ⟨m, h, h2⟩
                · rw [List.mem_singleton.mp h] at h2; exact absurd h2.1 hh
noncomputable def spCome : AN := fun ds S Q => ∃ (n b : Nat) (es : List Nat) (mv : List Mv) (st : List Nat) (ms : List Str), ds = [mD n b es mv, .tup (nL st), .lst (ms.map D.str)] ∧ n ≤ 6 ∧ (∀ m ∈ mv, MOk n m) ∧ mv.length ≤ 17 ∧ (∀ s ∈ st, s < n) ∧ st.length ≤ 10 ∧ texts ms ∧
  ∀ rs : List Nat, rs.Pairwise (· ≤ ·) → rs.Nodup → (∀ x, x ∈ rs ↔ Reach mv ms st x) → Q (.dat (.tup (nL rs))) S
theorem pur_tL (ns : List Nat) : pur (.tup (nL ns)) = true := by simp only [pur, purs_nL]
theorem d_Come (T : Txt K mg) (F : Src K mg "come_to" PscCome sCome) (D_moves_near : Def P w K mg base 2 "moves_near" PscNear (conSp K spNear)) (D_gone_without_steps : Def P w K mg base 2 "gone_without_steps" PscGone (conSp K spGone)) : Def P w K mg base 3 "come_to" PscCome (conSp K spCome) := by
  refine defA F scCome (fun ds S Q h => ?_) (fun f cdv A outer s H E hr => ?_)
  · obtain ⟨n, b, es, mv, st, ms, rfl, _⟩ := h; rfl
  · refine ⟨_, (M.pss_one (M.ps_ret (M.pct M.o_tupleOf (by rfl) T.tuple (by decide +kernel) (M.pac (M.pe_own D_gone_without_steps (hr.mono (by decide)) (by rfl) (M.pac (M.pe_own D_moves_near (hr.mono (by decide)) (by rfl) (M.pac (M.pv 0) M.pa_nil)) (M.pac (M.pv 1) (M.pac (M.pv 2) M.pa_nil)))) M.pa_nil)))), fun ds S Q h => ?_⟩
    obtain ⟨n, b, es, mv, st, ms, rfl, n6, hmv, hl, hst, hsl, hms, q⟩ := h
    have e0 : startA NscCome [mD n b es mv, .tup (nL st), .lst (ms.map D.str)] = [some (mD n b es mv), some (.tup (nL st)), some (.lst (ms.map D.str))] := rfl
    rw [e0]
    simp only [aRet, aRetN, aAndV, aOrV, aNotV, aCall, aCons, aNil, aVar, aC, aOp, aUn, aB, aTru, aIf, aSeq, aIfS, aNot, aAnd, aOr, aAsg, agName, aNext, aChain, aSl, aPart, aNoPart, aDrop, aTup, aLst, rd_dat, rd_new, mod_lst, le_int', lt_int', aI_int, add_int', add_lst', eq_int', eq_str', tru_bl, tru_lst, tru_tup, true_and, aIsi, aLen, see_int', see_str', see_bl', see_non', see_tup', see_lst', see_stc', see_scr', List.getElem?_cons_zero, List.getElem?_cons_succ, List.set_cons_zero, List.set_cons_succ, Option.some.injEq, exists_eq_left', List.cons.injEq, and_true, D.ty.injEq, D.bl.injEq, D.int.injEq, D.str.injEq, and_assoc, exists_and_left, exists_eq_left, exists_and_right, ret_bl, ret_int, Bool.false_eq_true, if_true, if_false, Bool.not_true, Bool.not_false]
    refine ⟨n, b, es, mv, rfl, n6, hmv, hl, n, mv, st, ms, rfl, n6, hmv, hl, hst, hsl, hms, fun rs h1 h2 h3 => ?_⟩
    exact ⟨_, rfl, ret_pur (pur_tL rs) (q rs h1 h2 h3)⟩
noncomputable def spStp : AN := fun ds S Q => ∃ (n b : Nat) (es : List Nat) (mv : List Mv) (st : List Nat) (sd wd : Str), ds = [mD n b es mv, .tup (nL st), .str sd, .str wd] ∧ n ≤ 6 ∧ (∀ m ∈ mv, MOk n m) ∧ mv.length ≤ 17 ∧ (∀ s ∈ st, s < n) ∧ okS wd = true ∧
  ∀ rs : List Nat, rs.Pairwise (· ≤ ·) → rs.Nodup → (∀ x, x ∈ rs ↔ Stp mv st sd wd x) → Q (.dat (.tup (nL rs))) S
theorem d_Stp (T : Txt K mg) (F : Src K mg "stepped" PscStp sStp) (D_moves_near : Def P w K mg base 2 "moves_near" PscNear (conSp K spNear)) (D_gone_by_step : Def P w K mg base 2 "gone_by_step" PscGoBy (conSp K spGoBy)) : Def P w K mg base 3 "stepped" PscStp (conSp K spStp) := by
  refine defA F scStp (fun ds S Q h => ?_) (fun f cdv A outer s H E hr => ?_)
  · obtain ⟨n, b, es, mv, st, sd, wd, rfl, _⟩ := h; rfl
  · refine ⟨_, (M.pss_one (M.ps_ret (M.pct M.o_tupleOf (by rfl) T.tuple (by decide +kernel) (M.pac (M.pe_own D_gone_by_step (hr.mono (by decide)) (by rfl) (M.pac (M.pe_own D_moves_near (hr.mono (by decide)) (by rfl) (M.pac (M.pv 0) M.pa_nil)) (M.pac (M.pv 1) (M.pac (M.pv 2) (M.pac (M.pv 3) M.pa_nil))))) M.pa_nil)))), fun ds S Q h => ?_⟩
    obtain ⟨n, b, es, mv, st, sd, wd, rfl, n6, hmv, hl, hst, hwd, q⟩ := h
    have e0 : startA NscStp [mD n b es mv, .tup (nL st), .str sd, .str wd] = [some (mD n b es mv), some (.tup (nL st)), some (.str sd), some (.str wd)] := rfl
    rw [e0]
    simp only [aRet, aRetN, aAndV, aOrV, aNotV, aCall, aCons, aNil, aVar, aC, aOp, aUn, aB, aTru, aIf, aSeq, aIfS, aNot, aAnd, aOr, aAsg, agName, aNext, aChain, aSl, aPart, aNoPart, aDrop, aTup, aLst, rd_dat, rd_new, mod_lst, le_int', lt_int', aI_int, add_int', add_lst', eq_int', eq_str', tru_bl, tru_lst, tru_tup, true_and, aIsi, aLen, see_int', see_str', see_bl', see_non', see_tup', see_lst', see_stc', see_scr', List.getElem?_cons_zero, List.getElem?_cons_succ, List.set_cons_zero, List.set_cons_succ, Option.some.injEq, exists_eq_left', List.cons.injEq, and_true, D.ty.injEq, D.bl.injEq, D.int.injEq, D.str.injEq, and_assoc, exists_and_left, exists_eq_left, exists_and_right, ret_bl, ret_int, Bool.false_eq_true, if_true, if_false, Bool.not_true, Bool.not_false]
    refine ⟨n, b, es, mv, rfl, n6, hmv, hl, n, mv, st, sd, wd, rfl, n6, hmv, hl, hst, hwd, fun rs h1 h2 h3 => ?_⟩
    exact ⟨_, rfl, ret_pur (pur_tL rs) (q rs h1 h2 h3)⟩
end
end K31
set_option Elab.async false
set_option linter.all false
set_option maxRecDepth 100000
set_option maxHeartbeats 4000000
namespace K31
open PySem L2 M M6
noncomputable abbrev sStill : Stmt := top 19
noncomputable abbrev NscStill : List Str := ["_law_machine_here", "_law_stands", "_law_marks_here", "_law_found", "_law_at", "_law_one", "_law_leaf_here", "_law_other"]
noncomputable abbrev PscStill : List Str := ["_law_machine_here", "_law_stands", "_law_marks_here"]
theorem scStill : FnScope NscStill PscStill (defScope sStill) := ⟨rfl, rfl, rfl, by decide +kernel, rfl, by decide +kernel, by decide +kernel⟩
noncomputable abbrev sLBy : Stmt := top 20
noncomputable abbrev NscLBy : List Str := ["_law_machine_here", "_law_stands", "_law_side", "_law_word", "_law_found", "_law_one", "_law_leaf_here", "_law_other"]
noncomputable abbrev PscLBy : List Str := ["_law_machine_here", "_law_stands", "_law_side", "_law_word"]
theorem scLBy : FnScope NscLBy PscLBy (defScope sLBy) := ⟨rfl, rfl, rfl, by decide +kernel, rfl, by decide +kernel, by decide +kernel⟩
noncomputable abbrev sRight : Stmt := top 21
noncomputable abbrev NscRight : List Str := ["_law_found", "_law_due"]
noncomputable abbrev PscRight : List Str := ["_law_found", "_law_due"]
theorem scRight : FnScope NscRight PscRight (defScope sRight) := ⟨rfl, rfl, rfl, by decide +kernel, rfl, by decide +kernel, by decide +kernel⟩
theorem th_nL {ns : List Nat} (h : ns.length ≤ 100) : thB 1 (.lst (nL ns)) = true ∧ thB 1 (.tup (nL ns)) = true := by
  have : (nL ns).all (thB 0) = true := by
    rw [List.all_eq_true]
    intro x hx
    obtain ⟨k, _, rfl⟩ := List.mem_map.mp hx
    rfl
  simp only [thB, this, Bool.and_true, decide_eq_true_eq]
  rw [nL, List.length_map]
  exact ⟨h, h⟩
theorem inD_nL {k : Nat} : ∀ ns : List Nat, inD (.int (k : Int)) (nL ns) = decide (k ∈ ns)
  | [] => rfl
  | n :: ns => by
    have ih := inD_nL (k := k) ns
    unfold inD nL at ih ⊢
    rw [List.map_cons, List.any_cons, ih]
    have e : PyData.eqv (py (.int (n : Int))) (py (.int (k : Int))) = decide (k = n) := by
      simp only [py, PyData.eqv]
      by_cases h : k = n
      · subst h; simp
      · rw [decide_eq_false h]; simp; omega
    rw [e]
    by_cases h1 : k = n <;> by_cases h2 : k ∈ ns <;> simp [h1, h2]
theorem in_nat {y : D} {k : Nat} {ns : List Nat} {neg : Bool} {S : Sto} {Q : AK} (e : see S y = .lst (nL ns) ∨ see S y = .tup (nL ns)) (hl : ns.length ≤ 100) (q : Q (.dat (.bl (neg != decide (k ∈ ns)))) S) : aIn neg (.int (k : Int)) y S Q := by
  unfold aIn
  rcases e with e | e <;> rw [e]
  · exact ⟨th_fit (n := 0) (d := .int (k : Int)) rfl (by decide), th_fit (th_nL hl).1 (by decide), by rw [show see S (.int (k : Int)) = .int k from rfl, inD_nL]; exact q⟩
  · exact ⟨th_fit (n := 0) (d := .int (k : Int)) rfl (by decide), th_fit (th_nL hl).2 (by decide), by rw [show see S (.int (k : Int)) = .int k from rfl, inD_nL]; exact q⟩
theorem ix_see {y : D} {ns : List Nat} {i a : Nat} {S : Sto} {Q : AK} (e : see S y = .lst (nL ns)) (h : ns[i]? = some a) (q : Q (.dat (.int a)) S) : aIx y (.int (i : Int)) S Q := by
  unfold aIx
  rw [e]
  exact ⟨_, at_nL h, q⟩
theorem ne_str' {i j : Str} {S : Sto} {Q : AK} : aNe (.str i) (.str j) S Q = Q (.dat (.bl (!decide (i = j)))) S := rfl
theorem eq_bl' {i j : Bool} {S : Sto} {Q : AK} : aEq (.bl i) (.bl j) S Q = Q (.dat (.bl (decide (i = j)))) S := rfl
theorem eqv_nL : ∀ ns : List Nat, PyData.eqvAll (pys (nL ns)) (pys (nL ns)) = true
  | [] => rfl
  | n :: ns => by
    have := eqv_nL ns
    unfold nL at this ⊢
    simp only [List.map_cons, pys, py, PyData.eqvAll, PyData.eqv, this, Bool.and_true, beq_self_eq_true, decide_true]
section
variable {P : Program} {w : World} {K : PySem.W.Frag} {mg : Str → Option Value} {base : Heap}
noncomputable def spStill : AN := fun ds S Q => ∃ (n b : Nat) (es : List Nat) (mv : List Mv) (st : List Nat) (ms : List Str), ds = [mD n b es mv, .lst (nL st), .lst (ms.map D.str)] ∧ n ≤ 6 ∧ (∀ m ∈ mv, MOk n m) ∧ mv.length ≤ 17 ∧ (∀ s ∈ st, s < n) ∧ st.Nodup ∧ texts ms ∧
  ∀ rs : List Nat, rs.Nodup → (∀ x, x ∈ rs ↔ Reach mv ms st x) → Q (.new (.lst (nL rs))) S
theorem d_Still (T : Txt K mg) (F : Src K mg "_law_still" PscStill sStill) : Def P w K mg base 1 "_law_still" PscStill (conSp K spStill) := by
  refine defA F scStill (fun ds S Q h => ?_) (fun f cdv A outer s H E hr => ?_)
  · obtain ⟨n, b, es, mv, st, ms, rfl, _⟩ := h; rfl
  · refine ⟨_, (M.pss_cons (M.ps_set (i := 3) scStill.nd rfl (Or.inl rfl) (M.alo (M.pct M.o_listOf (by rfl) T.list (by decide +kernel) (M.pac (M.pv 1) M.pa_nil))))
      (M.pss_cons (M.ps_set (i := 4) scStill.nd rfl (Or.inl rfl) M.pe_int)
      (M.pss_cons (M.ps_while PassesOwn.never (M.pt_cmpR M.o_lt (M.pv 4) (M.pcb M.o_len (by rfl) T.len (by decide +kernel) (M.pac (M.pv 3) M.pa_nil)) (nomark _))
        (M.pss_cons (M.ps_for PassesOwn.never rfl (M.pi_any (M.pe_ix M.o_ix (M.pv 0) M.pe_int (fun _ _ => rfl))) (M.pg_tup (n := 3) rfl (M.pgs_cons (M.pg_name (i := 5) scStill.nd rfl (Or.inl rfl)) (M.pgs_cons (M.pg_name (i := 6) scStill.nd rfl (Or.inl rfl)) (M.pgs_cons (M.pg_name (i := 7) scStill.nd rfl (Or.inl rfl)) M.pgs_nil))))
          (M.pss_one (M.ps_if (M.pw_pt (M.pw_and (M.pt_cmpR (M.o_eq hr) (M.pv 5) (M.pe_ix M.o_ix (M.pv 3) (M.pv 4) (fun _ _ => rfl)) (nomark _)) (M.pw_and (M.pt_cmpR (M.o_notIn hr) (M.pv 7) (M.pv 3) rfl) (M.pw_and1 (M.pt_cmpR (M.o_ne hr) (M.pe_ix M.o_ix (M.pv 6) M.pe_int (fun _ _ => rfl)) M.pe_str (nomark _))))))
            (M.pss_one (M.ps_if (M.pw_pt (M.pw_or (M.pt_cmpR (M.o_eq hr) (M.pe_ix M.o_ix (M.pv 6) M.pe_int (fun _ _ => rfl)) M.pe_str (nomark _)) (M.pw_or1 (M.pt_cmpR (M.o_eq hr) (M.pe_cmpR (M.o_in hr) (M.pe_ix M.o_ix (M.pv 6) M.pe_int (fun _ _ => rfl)) (M.pv 2) rfl) (M.pe_cmpR (M.o_eq hr) (M.pe_ix M.o_ix (M.pv 6) M.pe_int (fun _ _ => rfl)) M.pe_str (nomark _)) (nomark _)))))
              (M.pss_one (M.ps_expr (M.pe_bm PySem.F.plainAttrs_list PySem.F.slot_list_append PySem.F.type_list_append M.m_append (M.pv 3) (M.pac (M.pv 7) M.pa_nil))))
              M.pss_nil))
            M.pss_nil)))
        (M.pss_one (M.ps_set (i := 4) scStill.nd rfl (Or.inl rfl) (M.pe_op M.o_add (M.pv 4) M.pe_int)))))
      (M.pss_one (M.ps_ret (M.pv 3)))))), fun ds S Q h => ?_⟩
    obtain ⟨n, b, es, mv, st, ms, rfl, n6, hmv, hl, hst, hsn, hms, q⟩ := h
    have e0 : startA NscStill [mD n b es mv, .lst (nL st), .lst (ms.map D.str)] = [some (mD n b es mv), some (.lst (nL st)), some (.lst (ms.map D.str)), none, none, none, none, none] := rfl
    rw [e0]
    simp only [aAlloc, aListOf, aRet, aRetN, aAndV, aOrV, aNotV, aCall, aCons, aNil, aVar, aC, aOp, aUn, aB, aTru, aIf, aSeq, aIfS, aNot, aAnd, aOr, aAsg, agName, aNext, aChain, aSl, aPart, aNoPart, aDrop, aTup, aLst, rd_dat, rd_new, mod_lst, le_int', lt_int', aI_int, add_int', add_lst', eq_int', eq_str', tru_bl, tru_lst, tru_tup, true_and, aIsi, aLen, see_int', see_str', see_bl', see_non', see_tup', see_lst', see_stc', see_scr', List.getElem?_cons_zero, List.getElem?_cons_succ, List.set_cons_zero, List.set_cons_succ, Option.some.injEq, exists_eq_left', List.cons.injEq, and_true, D.ty.injEq, D.bl.injEq, D.int.injEq, D.str.injEq, and_assoc, exists_and_left, exists_eq_left, exists_and_right, ret_bl, ret_int, Bool.false_eq_true, if_true, if_false, Bool.not_true, Bool.not_false]
    have at3 : ∀ a : MO, (S ++ [some a])[S.length]? = some (some a) := fun a => by simp
    have set3 : ∀ a c : MO, (S ++ [some a]).set S.length (some c) = S ++ [some c] := fun a c => by rw [List.set_append_right _ _ (Nat.le_refl _)]; simp
    have see3 : ∀ ds : List D, see (S ++ [some (.lst ds)]) (.loc S.length) = .lst ds := fun a => by simp only [see, at3]; rfl
    obtain ⟨W, hW⟩ : ∃ W : Nat → AEnv → Sto → Prop, W = fun μ δ S2 => ∃ (i : Nat) (ks : List Nat) (v5 v6 v7 : Option D), δ = [some (mD n b es mv), some (.lst (nL st)), some (.lst (ms.map D.str)), some (.loc S.length), some (.int i), v5, v6, v7] ∧ S2 = S ++ [some (.lst (nL ks))] ∧ μ = n - i ∧ i ≤ ks.length ∧
            ks.Nodup ∧ (∀ s ∈ st, s ∈ ks) ∧ (∀ k ∈ ks, Reach mv ms st k) ∧ (∀ m ∈ mv, m.1 ∈ ks.take i → hold m.2.1 ms = true → m.2.2 ∈ ks) := ⟨_, rfl⟩
    refine ⟨W, ⟨n - 0, by rw [hW]; exact ⟨0, st, none, none, none, rfl, rfl, rfl, Nat.zero_le _, hsn, fun s hs => hs, fun k hk => .base hk, fun m hm h1 => by simp at h1⟩⟩, ?_⟩
    intro μ δ S2 hw
    rw [hW] at hw
    obtain ⟨i, ks, v5, v6, v7, rfl, rfl, rfl, hi, hn, h1, h2, h3⟩ := hw
    have hlt : ∀ k ∈ ks, k < n := fun k hk => (h2 k hk).lt hmv hst
    have hkl := nodup_lt n ks hn hlt
    simp only [aRet, aRetN, aAndV, aOrV, aNotV, aCall, aCons, aNil, aVar, aC, aOp, aUn, aB, aTru, aIf, aSeq, aIfS, aNot, aAnd, aOr, aAsg, agName, aNext, aChain, aSl, aPart, aNoPart, aDrop, aTup, aLst, rd_dat, rd_new, mod_lst, le_int', lt_int', aI_int, add_int', add_lst', eq_int', eq_str', tru_bl, tru_lst, tru_tup, true_and, aIsi, aLen, see_int', see_str', see_bl', see_non', see_tup', see_lst', see_stc', see_scr', List.getElem?_cons_zero, List.getElem?_cons_succ, List.set_cons_zero, List.set_cons_succ, Option.some.injEq, exists_eq_left', List.cons.injEq, and_true, D.ty.injEq, D.bl.injEq, D.int.injEq, D.str.injEq, and_assoc, exists_and_left, exists_eq_left, exists_and_right, ret_bl, ret_int, Bool.false_eq_true, if_true, if_false, Bool.not_true, Bool.not_false]
    refine ⟨ks.length, by rw [see3]; simp [lenD, nL], ite2 (fun hw => ?_) (fun hw => ?_)⟩
    · have hw : i < ks.length := by have := of_decide_eq_true hw; omega
      obtain ⟨a, ea⟩ : ∃ a, ks[i]? = some a := ⟨_, List.getElem?_eq_getElem hw⟩
      obtain ⟨N, hN⟩ : ∃ N : AEnv → Sto → Prop, N = fun δ S2 => ∃ (ks1 : List Nat) (v5 v6 v7 : Option D), δ = [some (mD n b es mv), some (.lst (nL st)), some (.lst (ms.map D.str)), some (.loc S.length), some (.int ((i + 1 : Nat) : Int)), v5, v6, v7] ∧ S2 = S ++ [some (.lst (nL ks1))] ∧ i + 1 ≤ ks1.length ∧
            ks1.Nodup ∧ (∀ s ∈ st, s ∈ ks1) ∧ (∀ k ∈ ks1, Reach mv ms st k) ∧ (∀ m ∈ mv, m.1 ∈ ks1.take (i + 1) → hold m.2.1 ms = true → m.2.2 ∈ ks1) := ⟨_, rfl⟩
      refine ⟨N, ?_, ?_⟩
      · rw [hN, hW]
        rintro δ' S3 ⟨ks1, w5, w6, w7, g1, g2, g3, g4⟩
        exact ⟨n - (i + 1), by omega, i + 1, ks1, w5, w6, w7, g1, g2, rfl, g3, g4⟩
      · simp only [aFor, iAny, mD, ix_tup, K31.at3, iAnyD, aRet, aRetN, aAndV, aOrV, aNotV, aCall, aCons, aNil, aVar, aC, aOp, aUn, aB, aTru, aIf, aSeq, aIfS, aNot, aAnd, aOr, aAsg, agName, aNext, aChain, aSl, aPart, aNoPart, aDrop, aTup, aLst, rd_dat, rd_new, mod_lst, le_int', lt_int', aI_int, add_int', add_lst', eq_int', eq_str', tru_bl, tru_lst, tru_tup, true_and, aIsi, aLen, see_int', see_str', see_bl', see_non', see_tup', see_lst', see_stc', see_scr', List.getElem?_cons_zero, List.getElem?_cons_succ, List.set_cons_zero, List.set_cons_succ, Option.some.injEq, exists_eq_left', List.cons.injEq, and_true, D.ty.injEq, D.bl.injEq, D.int.injEq, D.str.injEq, and_assoc, exists_and_left, exists_eq_left, exists_and_right, ret_bl, ret_int, Bool.false_eq_true, if_true, if_false, Bool.not_true, Bool.not_false]
        refine loop_by (fun rest δ S3 => ∃ (qm rm : List Mv) (ex : List Nat) (v5 v6 v7 : Option D), rest = rm.map vD ∧ qm ++ rm = mv ∧ δ = [some (mD n b es mv), some (.lst (nL st)), some (.lst (ms.map D.str)), some (.loc S.length), some (.int i), v5, v6, v7] ∧ S3 = S ++ [some (.lst (nL (ks ++ ex)))] ∧
              (ks ++ ex).Nodup ∧ (∀ k ∈ ks ++ ex, Reach mv ms st k) ∧ (∀ m ∈ qm, m.1 = a → hold m.2.1 ms = true → m.2.2 ∈ ks ++ ex)) ?_ ?_ _ _ _ ⟨[], mv, [], v5, v6, v7, rfl, rfl, rfl, by rw [List.append_nil], by rw [List.append_nil]; exact hn, by rw [List.append_nil]; exact h2, by simp⟩
        · rintro δ S3 ⟨qm, rm, ex, v5, v6, v7, hr, he, rfl, rfl, g1, g2, g3⟩
          have : rm = [] := by cases rm with
            | nil => rfl
            | cons _ _ => simp at hr
          subst this
          rw [List.append_nil] at he
          subst he
          refine ⟨trivial, ?_⟩
          simp only [aRet, aRetN, aAndV, aOrV, aNotV, aCall, aCons, aNil, aVar, aC, aOp, aUn, aB, aTru, aIf, aSeq, aIfS, aNot, aAnd, aOr, aAsg, agName, aNext, aChain, aSl, aPart, aNoPart, aDrop, aTup, aLst, rd_dat, rd_new, mod_lst, le_int', lt_int', aI_int, add_int', add_lst', eq_int', eq_str', tru_bl, tru_lst, tru_tup, true_and, aIsi, aLen, see_int', see_str', see_bl', see_non', see_tup', see_lst', see_stc', see_scr', List.getElem?_cons_zero, List.getElem?_cons_succ, List.set_cons_zero, List.set_cons_succ, Option.some.injEq, exists_eq_left', List.cons.injEq, and_true, D.ty.injEq, D.bl.injEq, D.int.injEq, D.str.injEq, and_assoc, exists_and_left, exists_eq_left, exists_and_right, ret_bl, ret_int, Bool.false_eq_true, if_true, if_false, Bool.not_true, Bool.not_false]
          rw [hN]
          refine ⟨ks ++ ex, _, _, _, rfl, rfl, by rw [List.length_append]; omega, g1, fun s hs => List.mem_append_left _ (h1 s hs), g2, fun m hm k1 k2 => ?_⟩
          rw [List.take_append_of_le_length (by omega), List.take_succ, ea] at k1
          rcases List.mem_append.mp k1 with h | h
          · exact List.mem_append_left _ (h3 m hm h k2)
          · exact g3 m hm (by simpa using h) k2
        · rintro x rest δ S3 N' ⟨qm, rm, ex, v5, v6, v7, hr, he, rfl, rfl, g1, g2, g3⟩ hN'
          cases rm with
          | nil => simp at hr
          | cons r rm =>
            rw [List.map_cons] at hr
            injection hr with e1 e2
            subst e1; subst e2
            have hrm : r ∈ mv := by rw [← he]; simp
            have ok := hmv r hrm
            have he' : (qm ++ [r]) ++ rm = mv := by rw [List.append_assoc]; exact he
            have hkl1 := nodup_lt n _ g1 fun k hk => (g2 k hk).lt hmv hst
            have skip : (r.1 = a → hold r.2.1 ms = true → r.2.2 ∈ ks ++ ex) → ∀ v5 v6 v7, N' [some (mD n b es mv), some (.lst (nL st)), some (.lst (ms.map D.str)), some (.loc S.length), some (.int i), v5, v6, v7] (S ++ [some (.lst (nL (ks ++ ex)))]) := fun hh v5 v6 v7 =>
              hN' _ _ ⟨qm ++ [r], rm, ex, _, _, _, rfl, he', rfl, rfl, g1, g2, fun m hm => by
                rcases List.mem_append.mp hm with h | h
                · exact g3 m h
                · rw [List.mem_singleton.mp h]; exact hh⟩
            have add : r.1 = a → hold r.2.1 ms = true → r.2.2 ∉ ks ++ ex → ∀ v5 v6, aBM "list" aAppend (aVar 3) (aCons (aVar 7) aNil) [some (mD n b es mv), some (.lst (nL st)), some (.lst (ms.map D.str)), some (.loc S.length), some (.int i), v5, v6, some (.int r.2.2)] (S ++ [some (.lst (nL (ks ++ ex)))]) fun x S1 => N' [some (mD n b es mv), some (.lst (nL st)), some (.lst (ms.map D.str)), some (.loc S.length), some (.int i), v5, v6, some (.int r.2.2)] S1 := fun k1 k2 k3 v5 v6 => by
              simp only [aBM, aRet, aRetN, aAndV, aOrV, aNotV, aCall, aCons, aNil, aVar, aC, aOp, aUn, aB, aTru, aIf, aSeq, aIfS, aNot, aAnd, aOr, aAsg, agName, aNext, aChain, aSl, aPart, aNoPart, aDrop, aTup, aLst, rd_dat, rd_new, mod_lst, le_int', lt_int', aI_int, add_int', add_lst', eq_int', eq_str', tru_bl, tru_lst, tru_tup, true_and, aIsi, aLen, see_int', see_str', see_bl', see_non', see_tup', see_lst', see_stc', see_scr', List.getElem?_cons_zero, List.getElem?_cons_succ, List.set_cons_zero, List.set_cons_succ, Option.some.injEq, exists_eq_left', List.cons.injEq, and_true, D.ty.injEq, D.bl.injEq, D.int.injEq, D.str.injEq, and_assoc, exists_and_left, exists_eq_left, exists_and_right, ret_bl, ret_int, Bool.false_eq_true, if_true, if_false, Bool.not_true, Bool.not_false]
              refine ⟨by rw [see3]; rfl, S.length, _, _, rfl, rfl, at3 _, by rw [nL, List.length_map, sizeLine_eq]; omega, ?_⟩
              rw [set3, show nL (ks ++ ex) ++ [D.int (r.2.2 : Int)] = nL (ks ++ (ex ++ [r.2.2])) by simp [nL]]
              refine hN' _ _ ⟨qm ++ [r], rm, ex ++ [r.2.2], _, _, _, rfl, he', rfl, rfl, ?_, fun k hk => ?_, fun m hm e1 e2 => ?_⟩
              · rw [← List.append_assoc]
                have := nodup_ins (k := r.2.2) g1
                rwa [show ins (ks ++ ex) r.2.2 = ks ++ ex ++ [r.2.2] from if_neg k3] at this
              · rw [← List.append_assoc] at hk
                rcases List.mem_append.mp hk with h | h
                · exact g2 k h
                · rw [List.mem_singleton.mp h]
                  exact .go (k1 ▸ g2 a (List.mem_append_left _ (List.mem_of_getElem? ea))) hrm k2
              · rw [← List.append_assoc]
                rcases List.mem_append.mp hm with h | h
                · exact List.mem_append_left _ (g3 m h e1 e2)
                · rw [List.mem_singleton.mp h]; simp
            refine ⟨trivial, _, rfl, rfl, _, _, rfl, _, _, rfl, _, _, rfl, rfl, ?_⟩
            simp only [aRet, aRetN, aAndV, aOrV, aNotV, aCall, aCons, aNil, aVar, aC, aOp, aUn, aB, aTru, aIf, aSeq, aIfS, aNot, aAnd, aOr, aAsg, agName, aNext, aChain, aSl, aPart, aNoPart, aDrop, aTup, aLst, rd_dat, rd_new, mod_lst, le_int', lt_int', aI_int, add_int', add_lst', eq_int', eq_str', tru_bl, tru_lst, tru_tup, true_and, aIsi, aLen, see_int', see_str', see_bl', see_non', see_tup', see_lst', see_stc', see_scr', List.getElem?_cons_zero, List.getElem?_cons_succ, List.set_cons_zero, List.set_cons_succ, Option.some.injEq, exists_eq_left', List.cons.injEq, and_true, D.ty.injEq, D.bl.injEq, D.int.injEq, D.str.injEq, and_assoc, exists_and_left, exists_eq_left, exists_and_right, ret_bl, ret_int, Bool.false_eq_true, if_true, if_false, Bool.not_true, Bool.not_false]
            refine ix_see (see3 _) (show (ks ++ ex)[i]? = some a by rw [List.getElem?_append_left hw]; exact ea) ?_
            show aEq (D.int (r.1 : Int)) (D.int (a : Int)) _ _
            rw [eq_int']
            refine ⟨_, rfl, ite2 (fun c1 => ?_) (fun c1 => skip (fun e => absurd (decide_eq_true (by rw [e])) c1) _ _ _)⟩
            have c1 : r.1 = a := by have := of_decide_eq_true c1; omega
            refine in_nat (.inl (see3 _)) (by omega) ⟨_, rfl, ite2 (fun c2 => ?_) (fun c2 => skip (fun _ _ => Decidable.byContradiction fun h => c2 (by rw [decide_eq_false h]; rfl)) _ _ _)⟩
            have c2 : r.2.2 ∉ ks ++ ex := by simpa using c2
            have lok := ok.2.1
            cases hlf : r.2.1 with
            | stay =>
              rw [hlf] at skip add lok
              simp only [lD, ix_tup, K31.at0, K31.at1, ne_str', aRet, aRetN, aAndV, aOrV, aNotV, aCall, aCons, aNil, aVar, aC, aOp, aUn, aB, aTru, aIf, aSeq, aIfS, aNot, aAnd, aOr, aAsg, agName, aNext, aChain, aSl, aPart, aNoPart, aDrop, aTup, aLst, rd_dat, rd_new, mod_lst, le_int', lt_int', aI_int, add_int', add_lst', eq_int', eq_str', tru_bl, tru_lst, tru_tup, true_and, aIsi, aLen, see_int', see_str', see_bl', see_non', see_tup', see_lst', see_stc', see_scr', List.getElem?_cons_zero, List.getElem?_cons_succ, List.set_cons_zero, List.set_cons_succ, Option.some.injEq, exists_eq_left', List.cons.injEq, and_true, D.ty.injEq, D.bl.injEq, D.int.injEq, D.str.injEq, and_assoc, exists_and_left, exists_eq_left, exists_and_right, ret_bl, ret_int, Bool.false_eq_true, if_true, if_false, Bool.not_true, Bool.not_false]
              rw [if_pos (by decide), if_pos (by decide)]
              exact add c1 rfl c2 _ _
            | step c x =>
              rw [hlf] at skip add lok
              simp only [lD, ix_tup, K31.at0, K31.at1, ne_str', aRet, aRetN, aAndV, aOrV, aNotV, aCall, aCons, aNil, aVar, aC, aOp, aUn, aB, aTru, aIf, aSeq, aIfS, aNot, aAnd, aOr, aAsg, agName, aNext, aChain, aSl, aPart, aNoPart, aDrop, aTup, aLst, rd_dat, rd_new, mod_lst, le_int', lt_int', aI_int, add_int', add_lst', eq_int', eq_str', tru_bl, tru_lst, tru_tup, true_and, aIsi, aLen, see_int', see_str', see_bl', see_non', see_tup', see_lst', see_stc', see_scr', List.getElem?_cons_zero, List.getElem?_cons_succ, List.set_cons_zero, List.set_cons_succ, Option.some.injEq, exists_eq_left', List.cons.injEq, and_true, D.ty.injEq, D.bl.injEq, D.int.injEq, D.str.injEq, and_assoc, exists_and_left, exists_eq_left, exists_and_right, ret_bl, ret_int, Bool.false_eq_true, if_true, if_false, Bool.not_true, Bool.not_false]
              rw [if_neg (by decide)]
              exact skip (fun _ h => by cases h) _ _ _
            | mk c m =>
              rw [hlf] at skip add lok
              simp only [lD, ix_tup, K31.at0, K31.at1, ne_str', aRet, aRetN, aAndV, aOrV, aNotV, aCall, aCons, aNil, aVar, aC, aOp, aUn, aB, aTru, aIf, aSeq, aIfS, aNot, aAnd, aOr, aAsg, agName, aNext, aChain, aSl, aPart, aNoPart, aDrop, aTup, aLst, rd_dat, rd_new, mod_lst, le_int', lt_int', aI_int, add_int', add_lst', eq_int', eq_str', tru_bl, tru_lst, tru_tup, true_and, aIsi, aLen, see_int', see_str', see_bl', see_non', see_tup', see_lst', see_stc', see_scr', List.getElem?_cons_zero, List.getElem?_cons_succ, List.set_cons_zero, List.set_cons_succ, Option.some.injEq, exists_eq_left', List.cons.injEq, and_true, D.ty.injEq, D.bl.injEq, D.int.injEq, D.str.injEq, and_assoc, exists_and_left, exists_eq_left, exists_and_right, ret_bl, ret_int, Bool.false_eq_true, if_true, if_false, Bool.not_true, Bool.not_false]
              rw [if_pos (by cases c <;> decide), if_neg (by cases c <;> decide)]
              refine in_textsL (n := 0) (ss := ms) (mk_ok lok) (by decide) (List.all_eq_true.mpr hms.2) ?_ (by have := hms.1; omega)
              rw [inS_mem]
              show aEq (.bl _) (.bl _) _ _
              rw [eq_bl']
              refine ⟨_, rfl, ite2 (fun c3 => add c1 ?_ c2 _ _) (fun c3 => skip (fun _ h => absurd ?_ c3) _ _ _)⟩
              · simp only [hold]
                cases c <;> cases hd : decide (m ∈ ms) <;> rw [hd] at c3 <;> first | rfl | (exact absurd c3 (by decide))
              · simp only [hold] at h
                cases c <;> cases hd : decide (m ∈ ms) <;> rw [hd] at h <;> first | decide | (exact absurd h (by decide))
    · have hw : i = ks.length := by
        have : ¬ ((i : Int) < (ks.length : Int)) := fun h => hw (decide_eq_true h)
        omega
      subst hw
      rw [List.take_length] at h3
      refine ret_loc (n := S.length) (Nat.le_refl _) (purs_nL ks) (at3 _) (by simp) (q ks hn fun x => ⟨h2 x, fun hx => hx.closed h1 h3⟩)
noncomputable def spLBy : AN := fun ds S Q => ∃ (n b : Nat) (es : List Nat) (mv : List Mv) (st : List Nat) (sd wd : Str), ds = [mD n b es mv, .tup (nL st), .str sd, .str wd] ∧ n ≤ 6 ∧ (∀ m ∈ mv, MOk n m) ∧ mv.length ≤ 17 ∧ (∀ s ∈ st, s < n) ∧ st.length ≤ 10 ∧ okS wd = true ∧
  ∀ rs : List Nat, rs.Nodup → (∀ x, x ∈ rs ↔ Stp mv st sd wd x) → Q (.new (.lst (nL rs))) S
theorem d_LBy (T : Txt K mg) (F : Src K mg "_law_by" PscLBy sLBy) : Def P w K mg base 1 "_law_by" PscLBy (conSp K spLBy) := by
  refine defA F scLBy (fun ds S Q h => ?_) (fun f cdv A outer s H E hr => ?_)
  · obtain ⟨n, b, es, mv, st, sd, wd, rfl, _⟩ := h; rfl
  · refine ⟨_, (M.pss_cons (M.ps_set (i := 4) scLBy.nd rfl (Or.inl rfl) (M.alo (M.pe_lst M.pa_nil)))
      (M.pss_cons (M.ps_for PassesOwn.never rfl (M.pi_any (M.pe_ix M.o_ix (M.pv 0) M.pe_int (fun _ _ => rfl))) (M.pg_tup (n := 3) rfl (M.pgs_cons (M.pg_name (i := 5) scLBy.nd rfl (Or.inl rfl)) (M.pgs_cons (M.pg_name (i := 6) scLBy.nd rfl (Or.inl rfl)) (M.pgs_cons (M.pg_name (i := 7) scLBy.nd rfl (Or.inl rfl)) M.pgs_nil))))
        (M.pss_one (M.ps_if (M.pw_pt (M.pw_and (M.pt_cmpR (M.o_in hr) (M.pv 5) (M.pv 1) rfl) (M.pw_and (M.pt_cmpR (M.o_eq hr) (M.pe_ix M.o_ix (M.pv 6) M.pe_int (fun _ _ => rfl)) M.pe_str (nomark _)) (M.pw_and (M.pt_cmpR (M.o_eq hr) (M.pe_ix M.o_ix (M.pv 6) M.pe_int (fun _ _ => rfl)) (M.pv 2) (nomark _)) (M.pw_and1 (M.pt_cmpR (M.o_in hr) (M.pe_ix M.o_ix (M.pv 6) M.pe_int (fun _ _ => rfl)) (M.pe_tup (M.pac M.pe_str (M.pac (M.pv 3) M.pa_nil))) rfl))))))
          (M.pss_one (M.ps_if (M.pt_cmpR (M.o_notIn hr) (M.pv 7) (M.pv 4) rfl)
            (M.pss_one (M.ps_expr (M.pe_bm PySem.F.plainAttrs_list PySem.F.slot_list_append PySem.F.type_list_append M.m_append (M.pv 4) (M.pac (M.pv 7) M.pa_nil))))
            M.pss_nil))
          M.pss_nil)))
      (M.pss_one (M.ps_ret (M.pv 4))))), fun ds S Q h => ?_⟩
    obtain ⟨n, b, es, mv, st, sd, wd, rfl, n6, hmv, hl, hst, hsl, hwd, q⟩ := h
    have e0 : startA NscLBy [mD n b es mv, .tup (nL st), .str sd, .str wd] = [some (mD n b es mv), some (.tup (nL st)), some (.str sd), some (.str wd), none, none, none, none] := rfl
    rw [e0]
    simp only [aAlloc, aFor, iAny, mD, ix_tup, K31.at3, iAnyD, aRet, aRetN, aAndV, aOrV, aNotV, aCall, aCons, aNil, aVar, aC, aOp, aUn, aB, aTru, aIf, aSeq, aIfS, aNot, aAnd, aOr, aAsg, agName, aNext, aChain, aSl, aPart, aNoPart, aDrop, aTup, aLst, rd_dat, rd_new, mod_lst, le_int', lt_int', aI_int, add_int', add_lst', eq_int', eq_str', tru_bl, tru_lst, tru_tup, true_and, aIsi, aLen, see_int', see_str', see_bl', see_non', see_tup', see_lst', see_stc', see_scr', List.getElem?_cons_zero, List.getElem?_cons_succ, List.set_cons_zero, List.set_cons_succ, Option.some.injEq, exists_eq_left', List.cons.injEq, and_true, D.ty.injEq, D.bl.injEq, D.int.injEq, D.str.injEq, and_assoc, exists_and_left, exists_eq_left, exists_and_right, ret_bl, ret_int, Bool.false_eq_true, if_true, if_false, Bool.not_true, Bool.not_false]
    have at4 : ∀ a : MO, (S ++ [some a])[S.length]? = some (some a) := fun a => by simp
    have set4 : ∀ a c : MO, (S ++ [some a]).set S.length (some c) = S ++ [some c] := fun a c => by rw [List.set_append_right _ _ (Nat.le_refl _)]; simp
    have see4 : ∀ ds : List D, see (S ++ [some (.lst ds)]) (.loc S.length) = .lst ds := fun a => by simp only [see, at4]; rfl
    refine ⟨Nat.zero_le _, loop_by (fun rest δ S3 => ∃ (qm rm : List Mv) (ks : List Nat) (v5 v6 v7 : Option D), rest = rm.map vD ∧ qm ++ rm = mv ∧ δ = [some (mD n b es mv), some (.tup (nL st)), some (.str sd), some (.str wd), some (.loc S.length), v5, v6, v7] ∧ S3 = S ++ [some (.lst (nL ks))] ∧
              ks.Nodup ∧ (∀ k ∈ ks, k < n) ∧ ∀ x, x ∈ ks ↔ ∃ m ∈ qm, m.1 ∈ st ∧ take m.2.1 sd wd = true ∧ m.2.2 = x) ?_ ?_ _ _ _ ⟨[], mv, [], none, none, none, rfl, rfl, rfl, rfl, .nil, by simp, by simp⟩⟩
    · rintro δ S3 ⟨qm, rm, ks, v5, v6, v7, hr, he, rfl, rfl, hn, hlt, hx⟩
      have : rm = [] := by cases rm with
        | nil => rfl
        | cons _ _ => simp at hr
      subst this
      rw [List.append_nil] at he
      subst he
      refine ⟨trivial, ?_⟩
      simp only [aRet, aRetN, aAndV, aOrV, aNotV, aCall, aCons, aNil, aVar, aC, aOp, aUn, aB, aTru, aIf, aSeq, aIfS, aNot, aAnd, aOr, aAsg, agName, aNext, aChain, aSl, aPart, aNoPart, aDrop, aTup, aLst, rd_dat, rd_new, mod_lst, le_int', lt_int', aI_int, add_int', add_lst', eq_int', eq_str', tru_bl, tru_lst, tru_tup, true_and, aIsi, aLen, see_int', see_str', see_bl', see_non', see_tup', see_lst', see_stc', see_scr', List.getElem?_cons_zero, List.getElem?_cons_succ, List.set_cons_zero, List.set_cons_succ, Option.some.injEq, exists_eq_left', List.cons.injEq, and_true, D.ty.injEq, D.bl.injEq, D.int.injEq, D.str.injEq, and_assoc, exists_and_left, exists_eq_left, exists_and_right, ret_bl, ret_int, Bool.false_eq_true, if_true, if_false, Bool.not_true, Bool.not_false]
      exact ret_loc (n := S.length) (Nat.le_refl _) (purs_nL ks) (at4 _) (by simp) (q ks hn hx)
    · rintro x rest δ S3 N' ⟨qm, rm, ks, v5, v6, v7, hr, he, rfl, rfl, hn, hlt, hx⟩ hN'
      cases rm with
      | nil => simp at hr
      | cons r rm =>
        rw [List.map_cons] at hr
        injection hr with e1 e2
        subst e1; subst e2
        have hrm : r ∈ mv := by rw [← he]; simp
        have ok := hmv r hrm
        have he' : (qm ++ [r]) ++ rm = mv := by rw [List.append_assoc]; exact he
        have hkl := nodup_lt n ks hn hlt
        have skip : ((r.1 ∈ st ∧ take r.2.1 sd wd = true) → r.2.2 ∈ ks) → ∀ v5 v6 v7, N' [some (mD n b es mv), some (.tup (nL st)), some (.str sd), some (.str wd), some (.loc S.length), v5, v6, v7] (S ++ [some (.lst (nL ks))]) := fun hh v5 v6 v7 =>
          hN' _ _ ⟨qm ++ [r], rm, ks, _, _, _, rfl, he', rfl, rfl, hn, hlt, fun x => ⟨fun h => by
              obtain ⟨m, h1, h2⟩ := (hx x).mp h
              exact ⟨m, List.mem_append_left _ h1, h2⟩, fun ⟨m, h1, h2, h3, h4⟩ => by
              rcases List.mem_append.mp h1 with h | h
              · exact (hx x).mpr ⟨m, h, h2, h3, h4⟩
              · rw [List.mem_singleton.mp h] at h2 h3 h4
                rw [← h4]; exact hh ⟨h2, h3⟩⟩⟩
        have add : r.1 ∈ st → take r.2.1 sd wd = true → r.2.2 ∉ ks → ∀ v5 v6, aBM "list" aAppend (aVar 4) (aCons (aVar 7) aNil) [some (mD n b es mv), some (.tup (nL st)), some (.str sd), some (.str wd), some (.loc S.length), v5, v6, some (.int r.2.2)] (S ++ [some (.lst (nL ks))]) fun x S1 => N' [some (mD n b es mv), some (.tup (nL st)), some (.str sd), some (.str wd), some (.loc S.length), v5, v6, some (.int r.2.2)] S1 := fun k1 k2 k3 v5 v6 => by
          simp only [aBM, aRet, aRetN, aAndV, aOrV, aNotV, aCall, aCons, aNil, aVar, aC, aOp, aUn, aB, aTru, aIf, aSeq, aIfS, aNot, aAnd, aOr, aAsg, agName, aNext, aChain, aSl, aPart, aNoPart, aDrop, aTup, aLst, rd_dat, rd_new, mod_lst, le_int', lt_int', aI_int, add_int', add_lst', eq_int', eq_str', tru_bl, tru_lst, tru_tup, true_and, aIsi, aLen, see_int', see_str', see_bl', see_non', see_tup', see_lst', see_stc', see_scr', List.getElem?_cons_zero, List.getElem?_cons_succ, List.set_cons_zero, List.set_cons_succ, Option.some.injEq, exists_eq_left', List.cons.injEq, and_true, D.ty.injEq, D.bl.injEq, D.int.injEq, D.str.injEq, and_assoc, exists_and_left, exists_eq_left, exists_and_right, ret_bl, ret_int, Bool.false_eq_true, if_true, if_false, Bool.not_true, Bool.not_false]
          refine ⟨by rw [see4]; rfl, S.length, _, _, rfl, rfl, at4 _, by rw [nL, List.length_map, sizeLine_eq]; omega, ?_⟩
          rw [set4, show nL ks ++ [D.int (r.2.2 : Int)] = nL (ks ++ [r.2.2]) by simp [nL]]
          have ei : ins ks r.2.2 = ks ++ [r.2.2] := if_neg k3
          refine hN' _ _ ⟨qm ++ [r], rm, ks ++ [r.2.2], _, _, _, rfl, he', rfl, rfl, ei ▸ nodup_ins hn, fun k hk => ?_, fun x => ⟨fun h => ?_, fun ⟨m, h1, h2, h3, h4⟩ => ?_⟩⟩
          · rcases List.mem_append.mp hk with h | h
            · exact hlt k h
            · rw [List.mem_singleton.mp h]; exact ok.2.2
          · rcases List.mem_append.mp h with h | h
            · obtain ⟨m, h1, h2⟩ := (hx x).mp h
              exact ⟨m, List.mem_append_left _ h1, h2⟩
            · exact ⟨r, by simp, k1, k2, (List.mem_singleton.mp h).symm⟩
          · rcases List.mem_append.mp h1 with h | h
            · exact List.mem_append_left _ ((hx x).mpr ⟨m, h, h2, h3, h4⟩)
            · rw [List.mem_singleton.mp h] at h4
              rw [← h4]; simp
        refine ⟨trivial, _, rfl, rfl, _, _, rfl, _, _, rfl, _, _, rfl, rfl, ?_⟩
        simp only [aRet, aRetN, aAndV, aOrV, aNotV, aCall, aCons, aNil, aVar, aC, aOp, aUn, aB, aTru, aIf, aSeq, aIfS, aNot, aAnd, aOr, aAsg, agName, aNext, aChain, aSl, aPart, aNoPart, aDrop, aTup, aLst, rd_dat, rd_new, mod_lst, le_int', lt_int', aI_int, add_int', add_lst', eq_int', eq_str', tru_bl, tru_lst, tru_tup, true_and, aIsi, aLen, see_int', see_str', see_bl', see_non', see_tup', see_lst', see_stc', see_scr', List.getElem?_cons_zero, List.getElem?_cons_succ, List.set_cons_zero, List.set_cons_succ, Option.some.injEq, exists_eq_left', List.cons.injEq, and_true, D.ty.injEq, D.bl.injEq, D.int.injEq, D.str.injEq, and_assoc, exists_and_left, exists_eq_left, exists_and_right, ret_bl, ret_int, Bool.false_eq_true, if_true, if_false, Bool.not_true, Bool.not_false]
        refine in_nat (.inr rfl) (by omega) ⟨_, rfl, ite2 (fun c1 => ?_) (fun c1 => skip (fun h => absurd (by rw [decide_eq_true h.1]; rfl) c1) _ _ _)⟩
        have c1 : r.1 ∈ st := by simpa using c1
        have lok := ok.2.1
        cases hlf : r.2.1 with
        | stay =>
          rw [hlf] at skip add lok
          simp only [lD, ix_tup, K31.at0, K31.at1, K31.at2, aRet, aRetN, aAndV, aOrV, aNotV, aCall, aCons, aNil, aVar, aC, aOp, aUn, aB, aTru, aIf, aSeq, aIfS, aNot, aAnd, aOr, aAsg, agName, aNext, aChain, aSl, aPart, aNoPart, aDrop, aTup, aLst, rd_dat, rd_new, mod_lst, le_int', lt_int', aI_int, add_int', add_lst', eq_int', eq_str', tru_bl, tru_lst, tru_tup, true_and, aIsi, aLen, see_int', see_str', see_bl', see_non', see_tup', see_lst', see_stc', see_scr', List.getElem?_cons_zero, List.getElem?_cons_succ, List.set_cons_zero, List.set_cons_succ, Option.some.injEq, exists_eq_left', List.cons.injEq, and_true, D.ty.injEq, D.bl.injEq, D.int.injEq, D.str.injEq, and_assoc, exists_and_left, exists_eq_left, exists_and_right, ret_bl, ret_int, Bool.false_eq_true, if_true, if_false, Bool.not_true, Bool.not_false]
          rw [if_neg (by decide)]
          exact skip (fun h => by cases h.2) _ _ _
        | mk c m =>
          rw [hlf] at skip add lok
          simp only [lD, ix_tup, K31.at0, K31.at1, K31.at2, aRet, aRetN, aAndV, aOrV, aNotV, aCall, aCons, aNil, aVar, aC, aOp, aUn, aB, aTru, aIf, aSeq, aIfS, aNot, aAnd, aOr, aAsg, agName, aNext, aChain, aSl, aPart, aNoPart, aDrop, aTup, aLst, rd_dat, rd_new, mod_lst, le_int', lt_int', aI_int, add_int', add_lst', eq_int', eq_str', tru_bl, tru_lst, tru_tup, true_and, aIsi, aLen, see_int', see_str', see_bl', see_non', see_tup', see_lst', see_stc', see_scr', List.getElem?_cons_zero, List.getElem?_cons_succ, List.set_cons_zero, List.set_cons_succ, Option.some.injEq, exists_eq_left', List.cons.injEq, and_true, D.ty.injEq, D.bl.injEq, D.int.injEq, D.str.injEq, and_assoc, exists_and_left, exists_eq_left, exists_and_right, ret_bl, ret_int, Bool.false_eq_true, if_true, if_false, Bool.not_true, Bool.not_false]
          rw [if_neg (by cases c <;> decide)]
          exact skip (fun h => by cases h.2) _ _ _
        | step c x =>
          rw [hlf] at skip add lok
          simp only [lD, ix_tup, K31.at0, K31.at1, K31.at2, aRet, aRetN, aAndV, aOrV, aNotV, aCall, aCons, aNil, aVar, aC, aOp, aUn, aB, aTru, aIf, aSeq, aIfS, aNot, aAnd, aOr, aAsg, agName, aNext, aChain, aSl, aPart, aNoPart, aDrop, aTup, aLst, rd_dat, rd_new, mod_lst, le_int', lt_int', aI_int, add_int', add_lst', eq_int', eq_str', tru_bl, tru_lst, tru_tup, true_and, aIsi, aLen, see_int', see_str', see_bl', see_non', see_tup', see_lst', see_stc', see_scr', List.getElem?_cons_zero, List.getElem?_cons_succ, List.set_cons_zero, List.set_cons_succ, Option.some.injEq, exists_eq_left', List.cons.injEq, and_true, D.ty.injEq, D.bl.injEq, D.int.injEq, D.str.injEq, and_assoc, exists_and_left, exists_eq_left, exists_and_right, ret_bl, ret_int, Bool.false_eq_true, if_true, if_false, Bool.not_true, Bool.not_false]
          rw [if_pos (by decide)]
          refine ite2 (fun c2 => ?_) (fun c2 => skip (fun h => absurd ?_ c2) _ _ _)
          · refine ⟨sz rfl, in_texts (n := 0) (ss := ["*", wd]) (wd_ok lok) (by decide) (by simp only [List.all_cons, List.all_nil, hwd, Bool.and_true]; decide +kernel) ⟨_, rfl, ite2 (fun c3 => ?_) (fun c3 => skip (fun h => absurd ?_ c3) _ _ _)⟩ (by simp)⟩
            · have ht : take (.step c x) sd wd = true := by
                simp only [inS, List.any_cons, List.any_nil, Bool.or_false, isS, Bool.false_bne] at c3
                simp only [take, c2, Bool.true_and]
                rw [Bool.or_comm]; exact c3
              refine in_nat (.inl (see4 _)) (by omega) ⟨_, rfl, ite2 (fun c4 => ?_) (fun c4 => skip (fun _ => Decidable.byContradiction fun h => c4 (by rw [decide_eq_false h]; rfl)) _ _ _)⟩
              exact add c1 ht (by simpa using c4) _ _
            · have h := h.2
              simp only [take, Bool.and_eq_true] at h
              simp only [inS, List.any_cons, List.any_nil, Bool.or_false, isS, Bool.false_bne]
              rw [Bool.or_comm]; exact h.2
          · have h := h.2
            simp only [take, Bool.and_eq_true] at h
            exact h.1
noncomputable def spRight : AN := fun ds S Q => ∃ (rs ts : List Nat), ds = [.tup (nL rs), .lst (nL ts)] ∧ rs.Pairwise (· ≤ ·) ∧ rs.Perm ts ∧ rs.length ≤ 6 ∧ Q (.dat (.bl true)) S
theorem d_Right (T : Txt K mg) (F : Src K mg "_law_right" PscRight sRight) : Def P w K mg base 1 "_law_right" PscRight (conSp K spRight) := by
  refine defA F scRight (fun ds S Q h => ?_) (fun f cdv A outer s H E hr => ?_)
  · obtain ⟨rs, ts, rfl, _⟩ := h; rfl
  · refine ⟨_, (M.pss_cons (M.ps_if (M.pw_pt (M.pw_or (M.pt_not (M.pt_val (M.pcb M.o_isi (by rfl) T.isinstance (by decide +kernel) (M.pac (M.pv 0) (M.pac (M.pe_ty "tuple" (by rfl) T.tuple (by decide +kernel)) M.pa_nil))))) (M.pw_or1 (M.pt_cmpR (M.o_ne hr) (M.pct M.o_listOf (by rfl) T.list (by decide +kernel) (M.pac (M.pv 0) M.pa_nil)) (M.pcb M.o_sorted (by rfl) T.sorted (by decide +kernel) (M.pac (M.pv 1) M.pa_nil)) (nomark _)))))
        (M.pss_one (M.ps_ret M.pe_bl))
        M.pss_nil)
      (M.pss_one (M.ps_ret (M.pe_cmpR (M.o_eq hr) (M.pe_comp (N := ["_law_stand"]) (caps := [none]) (bs_mk (by decide +kernel)) (by rfl) (by rfl) rfl (M.pi_any (M.pv 0)) (fun _ _ _ _ => (M.pg_name (i := 0) (by decide +kernel : List.Nodup (["_law_stand"] : List Str)) rfl (Or.inl rfl))) (fun _ _ _ _ => (M.pts_one (M.pt_val (M.pcb M.o_isi (by rfl) T.isinstance (by decide +kernel) (M.pac (M.pv 0) (M.pac (M.pe_ty "bool" (by rfl) T.bool (by decide +kernel)) M.pa_nil)))))) (fun _ _ _ _ => (M.pv 0))) (M.pe_lst M.pa_nil) (nomark _))))), fun ds S Q h => ?_⟩
    obtain ⟨rs, ts, rfl, h1, h2, h3, q⟩ := h
    have e0 : startA NscRight [.tup (nL rs), .lst (nL ts)] = [some (.tup (nL rs)), some (.lst (nL ts))] := rfl
    rw [e0]
    simp only [aComp, iAny, iAnyD, aRet, aRetN, aAndV, aOrV, aNotV, aCall, aCons, aNil, aVar, aC, aOp, aUn, aB, aTru, aIf, aSeq, aIfS, aNot, aAnd, aOr, aAsg, agName, aNext, aChain, aSl, aPart, aNoPart, aDrop, aTup, aLst, rd_dat, rd_new, mod_lst, le_int', lt_int', aI_int, add_int', add_lst', eq_int', eq_str', tru_bl, tru_lst, tru_tup, true_and, aIsi, aLen, see_int', see_str', see_bl', see_non', see_tup', see_lst', see_stc', see_scr', List.getElem?_cons_zero, List.getElem?_cons_succ, List.set_cons_zero, List.set_cons_succ, Option.some.injEq, exists_eq_left', List.cons.injEq, and_true, D.ty.injEq, D.bl.injEq, D.int.injEq, D.str.injEq, and_assoc, exists_and_left, exists_eq_left, exists_and_right, ret_bl, ret_int, Bool.false_eq_true, if_true, if_false, Bool.not_true, Bool.not_false]
    refine ⟨true, rfl, ?_⟩
    rw [if_neg (by decide)]
    refine ⟨_, rfl, ?_⟩
    show aSorted [D.lst (nL ts)] S _
    refine ⟨_, rfl, .inr ⟨ts.map fun k : Nat => (k : Int), by rw [see_lst', nL, List.map_map]; rfl, by rw [List.length_map]; have := h2.length_eq; omega, fun ns' hp hs => ?_⟩⟩
    obtain ⟨rs', p1, p2, p3⟩ := sort_fks hp hs
    have e : rs' = rs := List.Perm.eq_of_pairwise (le := (· ≤ ·)) (fun a b _ _ h h' => Nat.le_antisymm h h') p2 h1 (p1.trans h2.symm)
    rw [p3, e]
    have hl : rs.length ≤ 100 := by omega
    show aNe (.lst (nL rs)) (.lst (nL rs)) S _
    refine ⟨th_fit (th_nL hl).1 (by decide), th_fit (th_nL hl).1 (by decide), ?_⟩
    rw [see_lst', show PyData.eqv (py (.lst (nL rs))) (py (.lst (nL rs))) = true by simp only [py, PyData.eqv, eqv_nL]]
    refine ⟨_, rfl, ?_⟩
    rw [if_neg (by decide)]
    refine comp_by (fun rest acc δ S' => ∃ (ks : List Nat) (v : Option D), rest = nL ks ∧ acc = [] ∧ S' = S ∧ δ = [v]) ?_ ?_ _ [] _ _ ⟨rs, none, rfl, rfl, rfl, rfl⟩
    · rintro acc δ S' ⟨ks, v, _, rfl, rfl, rfl⟩
      exact ⟨trivial, Nat.zero_le _, th_fit (n := 1) rfl (by decide), th_fit (n := 1) rfl (by decide), ret_pur rfl q⟩
    · rintro x rest acc δ S' N' ⟨ks, v, hr, rfl, rfl, rfl⟩ hN'
      cases ks with
      | nil => simp [nL] at hr
      | cons k ks =>
        rw [nL, List.map_cons] at hr
        injection hr with e1 e2
        subst e1; subst e2
        refine ⟨trivial, ?_⟩
        simp only [aRet, aRetN, aAndV, aOrV, aNotV, aCall, aCons, aNil, aVar, aC, aOp, aUn, aB, aTru, aIf, aSeq, aIfS, aNot, aAnd, aOr, aAsg, agName, aNext, aChain, aSl, aPart, aNoPart, aDrop, aTup, aLst, rd_dat, rd_new, mod_lst, le_int', lt_int', aI_int, add_int', add_lst', eq_int', eq_str', tru_bl, tru_lst, tru_tup, true_and, aIsi, aLen, see_int', see_str', see_bl', see_non', see_tup', see_lst', see_stc', see_scr', List.getElem?_cons_zero, List.getElem?_cons_succ, List.set_cons_zero, List.set_cons_succ, Option.some.injEq, exists_eq_left', List.cons.injEq, and_true, D.ty.injEq, D.bl.injEq, D.int.injEq, D.str.injEq, and_assoc, exists_and_left, exists_eq_left, exists_and_right, ret_bl, ret_int, Bool.false_eq_true, if_true, if_false, Bool.not_true, Bool.not_false]
        refine ⟨false, rfl, ?_⟩
        rw [if_neg (by decide)]
        exact hN' _ _ _ ⟨ks, _, rfl, rfl, rfl, rfl⟩
end
end K31
set_option Elab.async false
set_option linter.all false
set_option maxRecDepth 100000
set_option maxHeartbeats 4000000
namespace K31
open PySem L2 M M6
noncomputable abbrev sLaw : Stmt := top 22
noncomputable abbrev NscLaw : List Str := ["_law_script", "_law_k", "_law_cell", "_law_machine_here", "_law_ds", "_law_stands", "_law_marks_here", "_law_handed", "_law_word", "_law_side"]
noncomputable abbrev PscLaw : List Str := ["_law_script"]
theorem scLaw : FnScope NscLaw PscLaw (defScope sLaw) := ⟨rfl, rfl, rfl, by decide +kernel, rfl, by decide +kernel, by decide +kernel⟩
theorem cutD_map {α β : Type} {f : α → β} {xs : List α} {lo hi : Option Int} : cutD (xs.map f) lo hi = (cutD xs lo hi).map f := by
  unfold cutD
  rw [List.length_map, ← List.map_drop, ← List.map_take]
theorem cutD_len {α : Type} {xs : List α} {lo hi : Option Int} : (cutD xs lo hi).length ≤ xs.length := by
  unfold cutD
  rw [List.length_take, List.length_drop]; omega
theorem cutD_14 {α : Type} {xs : List α} : (cutD xs none (some 14)).length ≤ 14 := by
  unfold cutD
  rw [List.length_take]
  have : HT.sIx xs.length xs.length (some ((14 : Nat) : Int)) ≤ 14 := by rw [HT.sIx_nat]; omega
  have : HT.sIx xs.length xs.length (some (14 : Int)) ≤ 14 := this
  omega
theorem nats_of : ∀ {l : List Int}, (∀ y ∈ l, ∃ k : Nat, y = k) → ∃ l' : List Nat, l = l'.map fun k : Nat => (k : Int)
  | [], _ => ⟨[], rfl⟩
  | y :: l, h => by
    obtain ⟨k, rfl⟩ := h y (by simp)
    obtain ⟨l', rfl⟩ := nats_of fun z hz => h z (List.mem_cons_of_mem _ hz)
    exact ⟨k :: l', rfl⟩
theorem Reach.mono {mv : List Mv} {ms : List Str} {st st' : List Nat} (h : ∀ x ∈ st, x ∈ st') {x : Nat} (r : Reach mv ms st x) : Reach mv ms st' x := by
  induction r with
  | base g => exact .base (h _ g)
  | go _ g1 g2 ih => exact .go ih g1 g2
theorem perm_of {l l' : List Nat} (h : l.Nodup) (h' : l'.Nodup) (e : ∀ x, x ∈ l ↔ x ∈ l') : l.Perm l' := by
  rw [List.perm_iff_count]
  intro a
  rw [h.count, h'.count]
  simp only [e]
theorem eqv_strs : ∀ ss : List Str, PyData.eqvAll (pys (ss.map D.str)) (pys (ss.map D.str)) = true
  | [] => rfl
  | n :: ns => by simp [pys, py, PyData.eqvAll, PyData.eqv, eqv_strs ns]
theorem fit_strs {ss : List Str} (h : texts ss) : fit (.lst (ss.map D.str)) = true := by
  refine th_fit (n := 1) ?_ (by decide)
  simp only [thB, List.all_map, List.length_map, Bool.and_eq_true, decide_eq_true_eq]
  exact ⟨by have := h.1; omega, List.all_eq_true.mpr h.2⟩
section
variable {P : Program} {w : World} {K : PySem.W.Frag} {mg : Str → Option Value} {base : Heap}
noncomputable def spLawA : AN := fun ds S Q => ∃ ns : List Int, ds = [.scr ns] ∧ S = [] ∧ Q (.dat (.bl true)) []
theorem d_LawA {f : Addr} {fd : FuncData} (T : Txt K mg) (F : Fun K "law" "law" sLaw f fd) (D_law_cell_at : Def P w K mg base 1 "_law_cell_at" PscCell (conSp K spCell)) (D_law_draws : Def P w K mg base 1 "_law_draws" PscDraws (conSp K spDraws)) (D_law_machine : Def P w K mg base 3 "_law_machine" PscMach (conSp K spMach)) (D_law_words : Def P w K mg base 1 "_law_words" PscWords (conSp K spWords))
    (D_law_still : Def P w K mg base 1 "_law_still" PscStill (conSp K spStill)) (D_law_by : Def P w K mg base 1 "_law_by" PscLBy (conSp K spLBy)) (D_law_right : Def P w K mg base 1 "_law_right" PscRight (conSp K spRight)) (D_come_to : Def P w K mg base 3 "come_to" PscCome (conSp K spCome)) (D_stepped : Def P w K mg base 3 "stepped" PscStp (conSp K spStp)) :
    FnOk P w K mg base CX0 4 f fd PscLaw (conSp K spLawA) := by
  refine okB F scLaw (fun ds S Q h => ?_) (fun f cdv A outer s H E hr => ?_)
  · obtain ⟨ns, rfl, _⟩ := h; rfl
  · refine ⟨_, (M.pss_cons (M.ps_for PassesOwn.never rfl (M.pi_range1 (by rfl) T.range (M.pac (M.pe_op M.o_add M.pe_int (M.pcb M.o_len (by rfl) T.len (by decide +kernel) (M.pac (M.pe_slice M.o_slc (M.pv 0) M.po_none (M.po_some M.pe_int)) M.pa_nil))) M.pa_nil)) (M.pg_name (i := 1) scLaw.nd rfl (Or.inl rfl))
        (M.pss_cons (M.ps_set (i := 2) scLaw.nd rfl (Or.inl rfl) (M.pe_own D_law_cell_at (hr.mono (by decide)) (by rfl) (M.pac (M.pv 0) (M.pac (M.pv 1) M.pa_nil))))
        (M.pss_cons (M.ps_set (i := 3) scLaw.nd rfl (Or.inr rfl) (M.pe_own D_law_machine (hr.mono (by decide)) (by rfl) (M.pac (M.pv 2) (M.pac M.pe_int M.pa_nil))))
        (M.pss_cons (M.ps_set (i := 4) scLaw.nd rfl (Or.inl rfl) (M.pe_own D_law_draws (hr.mono (by decide)) (by rfl) (M.pac (M.pe_op M.o_fdiv (M.pv 2) M.pe_int) (M.pac (M.pe_op M.o_add (M.pe_lst (M.pac M.pe_int M.pa_nil)) (M.pe_op M.o_mul (M.pe_lst (M.pac M.pe_int M.pa_nil)) M.pe_int)) M.pa_nil))))
        (M.pss_cons (M.ps_set (i := 5) scLaw.nd rfl (Or.inl rfl) (M.pct M.o_tupleOf (by rfl) T.tuple (by decide +kernel) (M.pac (M.pe_comp (N := ["_law_place", "_law_machine_here"]) (caps := [none, some 3]) (bs_mk (by decide +kernel)) (by rfl) (by rfl) rfl (M.pi_any (M.pe_slice M.o_slc (M.pv 4) (M.po_some M.pe_int) (M.po_some (M.pe_op M.o_add M.pe_int (M.pe_ix M.o_ix (M.pv 4) M.pe_int (fun _ _ => rfl)))))) (fun _ _ _ _ => (M.pg_name (i := 0) (by decide +kernel : List.Nodup (["_law_place", "_law_machine_here"] : List Str)) rfl (Or.inl rfl))) (fun _ _ _ _ => M.pts_nil) (fun _ _ _ _ => (M.pe_op M.o_mod (M.pv 0) (M.pe_ix M.o_ix (M.pv 1) M.pe_int (fun _ _ => rfl))))) M.pa_nil)))
        (M.pss_cons (M.ps_for PassesOwn.never rfl (M.pi_any (M.pe_lst (M.pac (M.pe_lst M.pa_nil) (M.pac (M.pe_lst (M.pac M.pe_str M.pa_nil)) (M.pac (M.pe_lst (M.pac M.pe_str M.pa_nil)) (M.pac (M.pe_lst (M.pac M.pe_str (M.pac M.pe_str M.pa_nil))) (M.pac (M.pe_lst (M.pac M.pe_str (M.pac M.pe_str M.pa_nil))) M.pa_nil))))))) (M.pg_name (i := 6) scLaw.nd rfl (Or.inl rfl))
          (M.pss_cons (M.ps_set (i := 7) scLaw.nd rfl (Or.inl rfl) (M.pct M.o_listOf (by rfl) T.list (by decide +kernel) (M.pac (M.pv 6) M.pa_nil)))
          (M.pss_cons (M.ps_if (M.pt_not (M.pt_val (M.pe_own D_law_right (hr.mono (by decide)) (by rfl) (M.pac (M.pe_own D_come_to (hr.mono (by decide)) (by rfl) (M.pac (M.pv 3) (M.pac (M.pv 5) (M.pac (M.pv 7) M.pa_nil)))) (M.pac (M.pe_own D_law_still (hr.mono (by decide)) (by rfl) (M.pac (M.pv 3) (M.pac (M.pe_sortSetI rfl (by rfl) T.sorted (by rfl) T.set (M.pv 5)) (M.pac (M.pv 6) M.pa_nil)))) M.pa_nil)))))
            (M.pss_one (M.ps_ret M.pe_bl))
            M.pss_nil)
          (M.pss_one (M.ps_if (M.pt_cmpR (M.o_ne hr) (M.pv 7) (M.pv 6) (nomark _))
            (M.pss_one (M.ps_ret M.pe_bl))
            M.pss_nil)))))
        (M.pss_one (M.ps_for PassesOwn.never rfl (M.pi_any (M.pe_op M.o_add (M.pe_own0 D_law_words (hr.mono (by decide)) (by rfl)) (M.pe_lst (M.pac M.pe_str (M.pac M.pe_str M.pa_nil))))) (M.pg_name (i := 8) scLaw.nd rfl (Or.inl rfl))
          (M.pss_one (M.ps_for PassesOwn.never rfl (M.pi_any (M.pe_lst (M.pac M.pe_str (M.pac M.pe_str M.pa_nil)))) (M.pg_name (i := 9) scLaw.nd rfl (Or.inl rfl))
            (M.pss_one (M.ps_if (M.pt_not (M.pt_val (M.pe_own D_law_right (hr.mono (by decide)) (by rfl) (M.pac (M.pe_own D_stepped (hr.mono (by decide)) (by rfl) (M.pac (M.pv 3) (M.pac (M.pv 5) (M.pac (M.pv 9) (M.pac (M.pv 8) M.pa_nil))))) (M.pac (M.pe_own D_law_by (hr.mono (by decide)) (by rfl) (M.pac (M.pv 3) (M.pac (M.pv 5) (M.pac (M.pv 9) (M.pac (M.pv 8) M.pa_nil))))) M.pa_nil)))))
              (M.pss_one (M.ps_ret M.pe_bl))
              M.pss_nil))))))))))))
      (M.pss_one (M.ps_ret M.pe_bl))), fun ds S Q h => ?_⟩
    obtain ⟨ns, rfl, rfl, q⟩ := h
    have e0 : startA NscLaw [.scr ns] = [some (.scr ns), none, none, none, none, none, none, none, none, none] := rfl
    rw [e0]
    simp only [aFor, iRng, aRet, aRetN, aAndV, aOrV, aNotV, aCall, aCons, aNil, aVar, aC, aOp, aUn, aB, aTru, aIf, aSeq, aIfS, aNot, aAnd, aOr, aAsg, agName, aNext, aChain, aSl, aPart, aNoPart, aDrop, aTup, aLst, rd_dat, rd_new, mod_lst, le_int', lt_int', aI_int, add_int', add_lst', eq_int', eq_str', tru_bl, tru_lst, tru_tup, true_and, aIsi, aLen, see_int', see_str', see_bl', see_non', see_tup', see_lst', see_stc', see_scr', List.getElem?_cons_zero, List.getElem?_cons_succ, List.set_cons_zero, List.set_cons_succ, Option.some.injEq, exists_eq_left', List.cons.injEq, and_true, D.ty.injEq, D.bl.injEq, D.int.injEq, D.str.injEq, and_assoc, exists_and_left, exists_eq_left, exists_and_right, ret_bl, ret_int, Bool.false_eq_true, if_true, if_false, Bool.not_true, Bool.not_false]
    show ∃ x, _
    have h14 := cutD_14 (xs := ns)
    refine ⟨((cutD ns none (some 14)).map D.int).length, rfl, by omega, by rw [List.length_map]; omega, ?_⟩
    refine loop_by (fun rest δ S' => ∃ v1 v2 v3 v4 v5 v6 v7 v8 v9 : Option D, δ = [some (.scr ns), v1, v2, v3, v4, v5, v6, v7, v8, v9] ∧ S' = [] ∧ ∀ x ∈ rest, ∃ k : Nat, x = .int k) ?_ ?_ _ _ _ ⟨none, none, none, none, none, none, none, none, none, rfl, rfl, fun x hx => ?_⟩
    · rintro δ S' ⟨v1, v2, v3, v4, v5, v6, v7, v8, v9, rfl, rfl, _⟩
      refine ⟨trivial, ?_⟩
      simp only [aRet, aRetN, aAndV, aOrV, aNotV, aCall, aCons, aNil, aVar, aC, aOp, aUn, aB, aTru, aIf, aSeq, aIfS, aNot, aAnd, aOr, aAsg, agName, aNext, aChain, aSl, aPart, aNoPart, aDrop, aTup, aLst, rd_dat, rd_new, mod_lst, le_int', lt_int', aI_int, add_int', add_lst', eq_int', eq_str', tru_bl, tru_lst, tru_tup, true_and, aIsi, aLen, see_int', see_str', see_bl', see_non', see_tup', see_lst', see_stc', see_scr', List.getElem?_cons_zero, List.getElem?_cons_succ, List.set_cons_zero, List.set_cons_succ, Option.some.injEq, exists_eq_left', List.cons.injEq, and_true, D.ty.injEq, D.bl.injEq, D.int.injEq, D.str.injEq, and_assoc, exists_and_left, exists_eq_left, exists_and_right, ret_bl, ret_int, Bool.false_eq_true, if_true, if_false, Bool.not_true, Bool.not_false]
      first | exact q | exact ret_pur rfl q
    · rintro x rest δ S' N' ⟨v1, v2, v3, v4, v5, v6, v7, v8, v9, rfl, rfl, hx⟩ hN'
      obtain ⟨k, rfl⟩ := hx x (by simp)
      refine ⟨trivial, ?_⟩
      simp only [aRet, aRetN, aAndV, aOrV, aNotV, aCall, aCons, aNil, aVar, aC, aOp, aUn, aB, aTru, aIf, aSeq, aIfS, aNot, aAnd, aOr, aAsg, agName, aNext, aChain, aSl, aPart, aNoPart, aDrop, aTup, aLst, rd_dat, rd_new, mod_lst, le_int', lt_int', aI_int, add_int', add_lst', eq_int', eq_str', tru_bl, tru_lst, tru_tup, true_and, aIsi, aLen, see_int', see_str', see_bl', see_non', see_tup', see_lst', see_stc', see_scr', List.getElem?_cons_zero, List.getElem?_cons_succ, List.set_cons_zero, List.set_cons_succ, Option.some.injEq, exists_eq_left', List.cons.injEq, and_true, D.ty.injEq, D.bl.injEq, D.int.injEq, D.str.injEq, and_assoc, exists_and_left, exists_eq_left, exists_and_right, ret_bl, ret_int, Bool.false_eq_true, if_true, if_false, Bool.not_true, Bool.not_false]
      refine ⟨ns, k, rfl, fun z => ?_⟩
      simp only [aRet, aRetN, aAndV, aOrV, aNotV, aCall, aCons, aNil, aVar, aC, aOp, aUn, aB, aTru, aIf, aSeq, aIfS, aNot, aAnd, aOr, aAsg, agName, aNext, aChain, aSl, aPart, aNoPart, aDrop, aTup, aLst, rd_dat, rd_new, mod_lst, le_int', lt_int', aI_int, add_int', add_lst', eq_int', eq_str', tru_bl, tru_lst, tru_tup, true_and, aIsi, aLen, see_int', see_str', see_bl', see_non', see_tup', see_lst', see_stc', see_scr', List.getElem?_cons_zero, List.getElem?_cons_succ, List.set_cons_zero, List.set_cons_succ, Option.some.injEq, exists_eq_left', List.cons.injEq, and_true, D.ty.injEq, D.bl.injEq, D.int.injEq, D.str.injEq, and_assoc, exists_and_left, exists_eq_left, exists_and_right, ret_bl, ret_int, Bool.false_eq_true, if_true, if_false, Bool.not_true, Bool.not_false]
      refine ⟨z, rfl, fun n b es mv n1 n6 hb hes hmv hl => ?_⟩
      simp only [aRet, aRetN, aAndV, aOrV, aNotV, aCall, aCons, aNil, aVar, aC, aOp, aUn, aB, aTru, aIf, aSeq, aIfS, aNot, aAnd, aOr, aAsg, agName, aNext, aChain, aSl, aPart, aNoPart, aDrop, aTup, aLst, rd_dat, rd_new, mod_lst, le_int', lt_int', aI_int, add_int', add_lst', eq_int', eq_str', tru_bl, tru_lst, tru_tup, true_and, aIsi, aLen, see_int', see_str', see_bl', see_non', see_tup', see_lst', see_stc', see_scr', List.getElem?_cons_zero, List.getElem?_cons_succ, List.set_cons_zero, List.set_cons_succ, Option.some.injEq, exists_eq_left', List.cons.injEq, and_true, D.ty.injEq, D.bl.injEq, D.int.injEq, D.str.injEq, and_assoc, exists_and_left, exists_eq_left, exists_and_right, ret_bl, ret_int, Bool.false_eq_true, if_true, if_false, Bool.not_true, Bool.not_false]
      refine ⟨⟨by decide, by omega⟩, sz rfl, sz rfl, ⟨by decide, by decide⟩, sz rfl, sz rfl, z / 3, [7, 6, 6, 6, 6, 6, 6, 6], rfl, by decide, by decide, fun ys hyl hlt => ?_⟩
      obtain ⟨y0, hy0⟩ : ∃ y0, ys[0]? = some y0 := ⟨_, List.getElem?_eq_getElem (by rw [hyl]; decide)⟩
      have hy7 : y0 < 7 := hlt 0 y0 7 hy0 rfl
      have a0 : atI (nL ys) (0 : Int) = some (.int (y0 : Int)) := at_nL hy0
      simp only [aComp, iAny, aSl, aPart, aRet, aRetN, aAndV, aOrV, aNotV, aCall, aCons, aNil, aVar, aC, aOp, aUn, aB, aTru, aIf, aSeq, aIfS, aNot, aAnd, aOr, aAsg, agName, aNext, aChain, aSl, aPart, aNoPart, aDrop, aTup, aLst, rd_dat, rd_new, mod_lst, le_int', lt_int', aI_int, add_int', add_lst', eq_int', eq_str', tru_bl, tru_lst, tru_tup, true_and, aIsi, aLen, see_int', see_str', see_bl', see_non', see_tup', see_lst', see_stc', see_scr', List.getElem?_cons_zero, List.getElem?_cons_succ, List.set_cons_zero, List.set_cons_succ, Option.some.injEq, exists_eq_left', List.cons.injEq, and_true, D.ty.injEq, D.bl.injEq, D.int.injEq, D.str.injEq, and_assoc, exists_and_left, exists_eq_left, exists_and_right, ret_bl, ret_int, Bool.false_eq_true, if_true, if_false, Bool.not_true, Bool.not_false]
      refine ⟨_, a0, ?_⟩
      simp only [aRet, aRetN, aAndV, aOrV, aNotV, aCall, aCons, aNil, aVar, aC, aOp, aUn, aB, aTru, aIf, aSeq, aIfS, aNot, aAnd, aOr, aAsg, agName, aNext, aChain, aSl, aPart, aNoPart, aDrop, aTup, aLst, rd_dat, rd_new, mod_lst, le_int', lt_int', aI_int, add_int', add_lst', eq_int', eq_str', tru_bl, tru_lst, tru_tup, true_and, aIsi, aLen, see_int', see_str', see_bl', see_non', see_tup', see_lst', see_stc', see_scr', List.getElem?_cons_zero, List.getElem?_cons_succ, List.set_cons_zero, List.set_cons_succ, Option.some.injEq, exists_eq_left', List.cons.injEq, and_true, D.ty.injEq, D.bl.injEq, D.int.injEq, D.str.injEq, and_assoc, exists_and_left, exists_eq_left, exists_and_right, ret_bl, ret_int, Bool.false_eq_true, if_true, if_false, Bool.not_true, Bool.not_false]
      unfold aSlc
      rw [see_lst']
      dsimp only
      unfold nL
      rw [cutD_map]
      obtain ⟨cs, hcs⟩ : ∃ cs, cs = cutD ys (some 1) (some (1 + (y0 : Int))) := ⟨_, rfl⟩
      have hcl : cs.length ≤ 8 := by rw [hcs, ← show ys.length = 8 from hyl]; exact cutD_len
      rw [← hcs]
      simp only [iAnyD, aRet, aRetN, aAndV, aOrV, aNotV, aCall, aCons, aNil, aVar, aC, aOp, aUn, aB, aTru, aIf, aSeq, aIfS, aNot, aAnd, aOr, aAsg, agName, aNext, aChain, aSl, aPart, aNoPart, aDrop, aTup, aLst, rd_dat, rd_new, mod_lst, le_int', lt_int', aI_int, add_int', add_lst', eq_int', eq_str', tru_bl, tru_lst, tru_tup, true_and, aIsi, aLen, see_int', see_str', see_bl', see_non', see_tup', see_lst', see_stc', see_scr', List.getElem?_cons_zero, List.getElem?_cons_succ, List.set_cons_zero, List.set_cons_succ, Option.some.injEq, exists_eq_left', List.cons.injEq, and_true, D.ty.injEq, D.bl.injEq, D.int.injEq, D.str.injEq, and_assoc, exists_and_left, exists_eq_left, exists_and_right, ret_bl, ret_int, Bool.false_eq_true, if_true, if_false, Bool.not_true, Bool.not_false]
      refine comp_by (fun rest acc δ S' => ∃ (c1 c2 st : List Nat) (v : Option D), rest = nL c2 ∧ c1 ++ c2 = cs ∧ acc = nL st ∧ st.length = c1.length ∧ (∀ s ∈ st, s < n) ∧ S' = [] ∧ δ = [v, some (mD n b es mv)]) ?_ ?_ _ [] _ _ ⟨[], cs, [], none, rfl, rfl, rfl, rfl, by simp, rfl, rfl⟩
      · rintro acc δ S' ⟨c1, c2, st, v, hr, he, rfl, hsl, hst, rfl, rfl⟩
        have hsl : st.length ≤ 8 := by have := congrArg List.length he; simp at this; omega
        refine ⟨trivial, _, rfl, ?_⟩
        rw [see_lst']
        dsimp only
        simp only [aFor, iAny, iAnyD, aRet, aRetN, aAndV, aOrV, aNotV, aCall, aCons, aNil, aVar, aC, aOp, aUn, aB, aTru, aIf, aSeq, aIfS, aNot, aAnd, aOr, aAsg, agName, aNext, aChain, aSl, aPart, aNoPart, aDrop, aTup, aLst, rd_dat, rd_new, mod_lst, le_int', lt_int', aI_int, add_int', add_lst', eq_int', eq_str', tru_bl, tru_lst, tru_tup, true_and, aIsi, aLen, see_int', see_str', see_bl', see_non', see_tup', see_lst', see_stc', see_scr', List.getElem?_cons_zero, List.getElem?_cons_succ, List.set_cons_zero, List.set_cons_succ, Option.some.injEq, exists_eq_left', List.cons.injEq, and_true, D.ty.injEq, D.bl.injEq, D.int.injEq, D.str.injEq, and_assoc, exists_and_left, exists_eq_left, exists_and_right, ret_bl, ret_int, Bool.false_eq_true, if_true, if_false, Bool.not_true, Bool.not_false]
        generalize (D.lst (List.map (fun n : Nat => D.int ↑n) ys)) = dy
        refine ⟨sz rfl, sz rfl, sz rfl, sz rfl, sz rfl, sz rfl, ?_⟩
        have tx : ∀ ms : List Str, ms.length ≤ 2 → ms.all okS = true → texts ms := fun ms h1 h2 => ⟨by omega, List.all_eq_true.mp h2⟩
        refine loop_by (fun rest δ S' => ∃ v6 v7 v8 v9 : Option D, δ = [some (.scr ns), some (.int k), some (.int z), some (mD n b es mv), some dy, some (.tup (nL st)), v6, v7, v8, v9] ∧ S' = [] ∧ ∀ x ∈ rest, ∃ ms : List Str, texts ms ∧ x = .lst (ms.map D.str)) ?_ ?_ _ _ _ ⟨v6, v7, v8, v9, rfl, rfl, fun x hx => ?_⟩
        · rintro δ S' ⟨v6, v7, v8, v9, rfl, rfl, _⟩
          refine ⟨trivial, ?_⟩
          simp only [aFor, iAny, iAnyD, aRet, aRetN, aAndV, aOrV, aNotV, aCall, aCons, aNil, aVar, aC, aOp, aUn, aB, aTru, aIf, aSeq, aIfS, aNot, aAnd, aOr, aAsg, agName, aNext, aChain, aSl, aPart, aNoPart, aDrop, aTup, aLst, rd_dat, rd_new, mod_lst, le_int', lt_int', aI_int, add_int', add_lst', eq_int', eq_str', tru_bl, tru_lst, tru_tup, true_and, aIsi, aLen, see_int', see_str', see_bl', see_non', see_tup', see_lst', see_stc', see_scr', List.getElem?_cons_zero, List.getElem?_cons_succ, List.set_cons_zero, List.set_cons_succ, Option.some.injEq, exists_eq_left', List.cons.injEq, and_true, D.ty.injEq, D.bl.injEq, D.int.injEq, D.str.injEq, and_assoc, exists_and_left, exists_eq_left, exists_and_right, ret_bl, ret_int, Bool.false_eq_true, if_true, if_false, Bool.not_true, Bool.not_false]
          refine ⟨rfl, ?_⟩
          simp only [iAnyD, aRet, aRetN, aAndV, aOrV, aNotV, aCall, aCons, aNil, aVar, aC, aOp, aUn, aB, aTru, aIf, aSeq, aIfS, aNot, aAnd, aOr, aAsg, agName, aNext, aChain, aSl, aPart, aNoPart, aDrop, aTup, aLst, rd_dat, rd_new, mod_lst, le_int', lt_int', aI_int, add_int', add_lst', eq_int', eq_str', tru_bl, tru_lst, tru_tup, true_and, aIsi, aLen, see_int', see_str', see_bl', see_non', see_tup', see_lst', see_stc', see_scr', List.getElem?_cons_zero, List.getElem?_cons_succ, List.set_cons_zero, List.set_cons_succ, Option.some.injEq, exists_eq_left', List.cons.injEq, and_true, D.ty.injEq, D.bl.injEq, D.int.injEq, D.str.injEq, and_assoc, exists_and_left, exists_eq_left, exists_and_right, ret_bl, ret_int, Bool.false_eq_true, if_true, if_false, Bool.not_true, Bool.not_false]
          refine ⟨sz rfl, sz rfl, ?_⟩
          refine loop_by (fun rest δ S' => ∃ v6 v7 v8 v9 : Option D, δ = [some (.scr ns), some (.int k), some (.int z), some (mD n b es mv), some dy, some (.tup (nL st)), v6, v7, v8, v9] ∧ S' = [] ∧ ∀ x ∈ rest, ∃ wd : Str, okS wd = true ∧ x = .str wd) ?_ ?_ _ _ _ ⟨v6, v7, v8, v9, rfl, rfl, fun x hx => ?_⟩
          · rintro δ S' ⟨v6, v7, v8, v9, rfl, rfl, _⟩
            exact ⟨trivial, hN' _ _ ⟨_, _, _, _, _, _, _, _, _, rfl, rfl, fun x h => hx x (List.mem_cons_of_mem _ h)⟩⟩
          · rintro x rest δ S' N2 ⟨v6, v7, v8, v9, rfl, rfl, hx2⟩ hN2
            obtain ⟨wd, hwd, rfl⟩ := hx2 x (by simp)
            refine ⟨trivial, ?_⟩
            simp only [aFor, iAny, iAnyD, aRet, aRetN, aAndV, aOrV, aNotV, aCall, aCons, aNil, aVar, aC, aOp, aUn, aB, aTru, aIf, aSeq, aIfS, aNot, aAnd, aOr, aAsg, agName, aNext, aChain, aSl, aPart, aNoPart, aDrop, aTup, aLst, rd_dat, rd_new, mod_lst, le_int', lt_int', aI_int, add_int', add_lst', eq_int', eq_str', tru_bl, tru_lst, tru_tup, true_and, aIsi, aLen, see_int', see_str', see_bl', see_non', see_tup', see_lst', see_stc', see_scr', List.getElem?_cons_zero, List.getElem?_cons_succ, List.set_cons_zero, List.set_cons_succ, Option.some.injEq, exists_eq_left', List.cons.injEq, and_true, D.ty.injEq, D.bl.injEq, D.int.injEq, D.str.injEq, and_assoc, exists_and_left, exists_eq_left, exists_and_right, ret_bl, ret_int, Bool.false_eq_true, if_true, if_false, Bool.not_true, Bool.not_false]
            refine ⟨sz rfl, ?_⟩
            refine loop_by (fun rest δ S' => ∃ v6 v7 v9 : Option D, δ = [some (.scr ns), some (.int k), some (.int z), some (mD n b es mv), some dy, some (.tup (nL st)), v6, v7, some (.str wd), v9] ∧ S' = [] ∧ ∀ x ∈ rest, ∃ sd : Str, x = .str sd) ?_ ?_ _ _ _ ⟨v6, v7, v9, rfl, rfl, fun x hx => ?_⟩
            · rintro δ S' ⟨v6, v7, v9, rfl, rfl, _⟩
              exact ⟨trivial, hN2 _ _ ⟨_, _, _, _, rfl, rfl, fun x h => hx2 x (List.mem_cons_of_mem _ h)⟩⟩
            · rintro x rest δ S' N3 ⟨v6, v7, v9, rfl, rfl, hx3⟩ hN3
              obtain ⟨sd, rfl⟩ := hx3 x (by simp)
              refine ⟨trivial, ?_⟩
              simp only [aRet, aRetN, aAndV, aOrV, aNotV, aCall, aCons, aNil, aVar, aC, aOp, aUn, aB, aTru, aIf, aSeq, aIfS, aNot, aAnd, aOr, aAsg, agName, aNext, aChain, aSl, aPart, aNoPart, aDrop, aTup, aLst, rd_dat, rd_new, mod_lst, le_int', lt_int', aI_int, add_int', add_lst', eq_int', eq_str', tru_bl, tru_lst, tru_tup, true_and, aIsi, aLen, see_int', see_str', see_bl', see_non', see_tup', see_lst', see_stc', see_scr', List.getElem?_cons_zero, List.getElem?_cons_succ, List.set_cons_zero, List.set_cons_succ, Option.some.injEq, exists_eq_left', List.cons.injEq, and_true, D.ty.injEq, D.bl.injEq, D.int.injEq, D.str.injEq, and_assoc, exists_and_left, exists_eq_left, exists_and_right, ret_bl, ret_int, Bool.false_eq_true, if_true, if_false, Bool.not_true, Bool.not_false]
              refine ⟨n, b, es, mv, st, sd, wd, rfl, n6, hmv, hl, hst, hwd, fun rs h1 h2 h3 => ?_⟩
              refine ⟨n, b, es, mv, st, sd, wd, rfl, n6, hmv, hl, hst, by omega, hwd, fun ts g1 g2 => ?_⟩
              refine ⟨rs, ts, rfl, h1, perm_of h2 g1 fun x => by rw [h3, g2], nodup_lt 6 rs h2 fun x hx => ?_, true, rfl, ?_⟩
              · obtain ⟨m, hm, _, _, rfl⟩ := (h3 x).mp hx
                have := (hmv m hm).2.2
                omega
              · rw [if_neg (by decide)]
                exact hN3 _ _ ⟨_, _, _, rfl, rfl, fun x h => hx3 x (List.mem_cons_of_mem _ h)⟩
            · simp only [List.mem_cons, List.not_mem_nil, or_false] at hx
              rcases hx with rfl | rfl <;> exact ⟨_, rfl⟩
          · simp only [List.cons_append, List.nil_append, List.mem_cons, List.not_mem_nil, or_false] at hx
            rcases hx with rfl | rfl | rfl | rfl | rfl <;> exact ⟨_, by decide +kernel, rfl⟩
        · rintro x rest δ S' N2 ⟨v6, v7, v8, v9, rfl, rfl, hx2⟩ hN2
          obtain ⟨ms, hms, rfl⟩ := hx2 x (by simp)
          refine ⟨trivial, ?_⟩
          simp only [aListOf, aSortSetI, aRet, aRetN, aAndV, aOrV, aNotV, aCall, aCons, aNil, aVar, aC, aOp, aUn, aB, aTru, aIf, aSeq, aIfS, aNot, aAnd, aOr, aAsg, agName, aNext, aChain, aSl, aPart, aNoPart, aDrop, aTup, aLst, rd_dat, rd_new, mod_lst, le_int', lt_int', aI_int, add_int', add_lst', eq_int', eq_str', tru_bl, tru_lst, tru_tup, true_and, aIsi, aLen, see_int', see_str', see_bl', see_non', see_tup', see_lst', see_stc', see_scr', List.getElem?_cons_zero, List.getElem?_cons_succ, List.set_cons_zero, List.set_cons_succ, Option.some.injEq, exists_eq_left', List.cons.injEq, and_true, D.ty.injEq, D.bl.injEq, D.int.injEq, D.str.injEq, and_assoc, exists_and_left, exists_eq_left, exists_and_right, ret_bl, ret_int, Bool.false_eq_true, if_true, if_false, Bool.not_true, Bool.not_false]
          refine ⟨n, b, es, mv, st, ms, rfl, n6, hmv, hl, hst, by omega, hms, fun rs h1 h2 h3 => ?_⟩
          refine ⟨st.map fun k : Nat => (k : Int), .inl (by rw [List.map_map]; rfl), by rw [List.length_map]; omega, fun ss' g1 g2 g3 => ?_⟩
          obtain ⟨st', rfl⟩ := nats_of (l := ss') fun y hy => by
            obtain ⟨k, _, rfl⟩ := List.mem_map.mp ((g2 y).mp hy)
            exact ⟨k, rfl⟩
          have hs : ∀ x, x ∈ st' ↔ x ∈ st := fun x => by
            have e : ∀ l : List Nat, (x : Int) ∈ l.map (fun k : Nat => (k : Int)) ↔ x ∈ l := fun l => by
              rw [List.mem_map]
              exact ⟨fun ⟨a, h, e⟩ => by rw [← show a = x by omega]; exact h, fun h => ⟨x, h, rfl⟩⟩
            rw [← e, ← e]
            exact g2 (x : Int)
          have hn : st'.Nodup := by
            unfold List.Nodup at g1 ⊢
            rw [List.pairwise_map] at g1
            exact g1.imp fun h e => h (by rw [e])
          refine ⟨n, b, es, mv, st', ms, by rw [List.map_map]; rfl, n6, hmv, hl, fun s h => hst s ((hs s).mp h), hn, hms, fun ts k1 k2 => ?_⟩
          refine ⟨rs, ts, rfl, h1, perm_of h2 k1 fun x => by rw [h3, k2]; exact ⟨.mono fun x h => (hs x).mpr h, .mono fun x h => (hs x).mp h⟩, nodup_lt 6 rs h2 fun x hx => ?_, true, rfl, ?_⟩
          · have := ((h3 x).mp hx).lt hmv hst
            omega
          · rw [if_neg (by decide)]
            refine ⟨fit_strs hms, fit_strs hms, ?_⟩
            rw [see_lst', show PyData.eqv (py (.lst (ms.map D.str))) (py (.lst (ms.map D.str))) = true by simp only [py, PyData.eqv, eqv_strs]]
            refine ⟨_, rfl, ?_⟩
            rw [if_neg (by decide)]
            exact hN2 _ _ ⟨_, _, _, _, rfl, rfl, fun x h => hx2 x (List.mem_cons_of_mem _ h)⟩
        · simp only [List.mem_cons, List.not_mem_nil, or_false] at hx
          rcases hx with rfl | rfl | rfl | rfl | rfl
          · exact ⟨[], tx _ (by decide) rfl, rfl⟩
          · exact ⟨["a"], tx _ (by decide) (by decide +kernel), rfl⟩
          · exact ⟨["many"], tx _ (by decide) (by decide +kernel), rfl⟩
          · exact ⟨["many", "a"], tx _ (by decide) (by decide +kernel), rfl⟩
          · exact ⟨["on", "a"], tx _ (by decide) (by decide +kernel), rfl⟩
      · rintro x rest acc δ S' N2 ⟨c1, c2, st, v, hr, he, rfl, hsl, hst, rfl, rfl⟩ hN2
        cases c2 with
        | nil => simp [nL] at hr
        | cons c c2 =>
          rw [nL, List.map_cons] at hr
          injection hr with e1 e2
          subst e1; subst e2
          refine ⟨trivial, ?_⟩
          simp only [aYes, if_true, mD, ix_tup, K31.at0, aRet, aRetN, aAndV, aOrV, aNotV, aCall, aCons, aNil, aVar, aC, aOp, aUn, aB, aTru, aIf, aSeq, aIfS, aNot, aAnd, aOr, aAsg, agName, aNext, aChain, aSl, aPart, aNoPart, aDrop, aTup, aLst, rd_dat, rd_new, mod_lst, le_int', lt_int', aI_int, add_int', add_lst', eq_int', eq_str', tru_bl, tru_lst, tru_tup, true_and, aIsi, aLen, see_int', see_str', see_bl', see_non', see_tup', see_lst', see_stc', see_scr', List.getElem?_cons_zero, List.getElem?_cons_succ, List.set_cons_zero, List.set_cons_succ, Option.some.injEq, exists_eq_left', List.cons.injEq, and_true, D.ty.injEq, D.bl.injEq, D.int.injEq, D.str.injEq, and_assoc, exists_and_left, exists_eq_left, exists_and_right, ret_bl, ret_int, Bool.false_eq_true, if_true, if_false, Bool.not_true, Bool.not_false]
          rw [show ((c : Int) % (n : Int)) = ((c % n : Nat) : Int) by simp]
          refine ⟨by omega, by rw [nL, List.length_map, sizeLine_eq]; have := congrArg List.length he; simp at this; omega, hN2 _ _ _ ⟨c1 ++ [c], c2, st ++ [c % n], _, rfl, by rw [List.append_assoc]; exact he, by simp [nL], by simp [hsl], fun s hs => ?_, rfl, rfl⟩⟩
          rcases List.mem_append.mp hs with h | h
          · exact hst s h
          · rw [List.mem_singleton.mp h]; exact Nat.mod_lt _ (by omega)
    · simp only [iRngD, List.mem_map, List.mem_range] at hx
      obtain ⟨a, ha, rfl⟩ := hx
      exact ⟨a, by simp⟩
noncomputable def spLaw (K : PySem.W.Frag) : Sp := fun vs H Q _ => ∃ (a : Addr) (ns : List Int), vs = [.ref a] ∧ SqL K H a (ns.map V.int) ∧ ns.length ≤ 63 ∧ ∀ H', Q (.bl true) H'
theorem top_of {f : Addr} {fd : FuncData} {k : Nat} (h : FnOk P w K mg base CX0 k f fd PscLaw (conSp K spLawA)) : FnOk P w K mg base CX0 k f fd PscLaw (spLaw K) := h.imp fun vs H Q E z => by
  obtain ⟨a, ns, rfl, hS, _, q⟩ := z
  refine ⟨⟨H, fun _ => none⟩, [.scr ns], [], fun r S => r = .dat (.bl true), ⟨Same.refl _, fun n o e => by simp at e, fun n m o o' e => by simp at e, fun _ _ => rfl⟩, ?_, ⟨ns, rfl, rfl, rfl⟩, fun r S' v w' H' _ _ rep e => ?_⟩
  · simp only [Reps, Rep]; exact ⟨_, _, rfl, ⟨a, rfl, hS⟩, rfl⟩
  · subst e
    have : v = .bl true := rep_bl rep rfl
    subst this
    exact q H'
end
end K31
set_option Elab.async false
set_option linter.all false
set_option maxRecDepth 100000
set_option maxHeartbeats 4000000
namespace K31
open PySem L2
theorem all_mk {l : PySem.W.OpenLaw} {w : World} {K : PySem.W.Frag} {h : Heap} {mg : Str → Option Value} {fa : Addr} (X : K.In h) (G : h.Ns mainGlobals mg) (hfa : mg "law" = some (.ref fa))
    {f_scHolds : Addr} {oc_scHolds kV_scHolds dc_scHolds pm_scHolds cd_scHolds ct_scHolds : Value} {od_scHolds an_scHolds : Option Addr} {sl_scHolds : Array (Option Value)}
    {f_scTakes : Addr} {oc_scTakes kV_scTakes dc_scTakes pm_scTakes cd_scTakes ct_scTakes : Value} {od_scTakes an_scTakes : Option Addr} {sl_scTakes : Array (Option Value)}
    {f_scBy : Addr} {oc_scBy kV_scBy dc_scBy pm_scBy cd_scBy ct_scBy : Value} {od_scBy an_scBy : Option Addr} {sl_scBy : Array (Option Value)}
    {f_scGone : Addr} {oc_scGone kV_scGone dc_scGone pm_scGone cd_scGone ct_scGone : Value} {od_scGone an_scGone : Option Addr} {sl_scGone : Array (Option Value)}
    {f_scGoBy : Addr} {oc_scGoBy kV_scGoBy dc_scGoBy pm_scGoBy cd_scGoBy ct_scGoBy : Value} {od_scGoBy an_scGoBy : Option Addr} {sl_scGoBy : Array (Option Value)}
    {f_scCome : Addr} {oc_scCome kV_scCome dc_scCome pm_scCome cd_scCome ct_scCome : Value} {od_scCome an_scCome : Option Addr} {sl_scCome : Array (Option Value)}
    {f_scStp : Addr} {oc_scStp kV_scStp dc_scStp pm_scStp cd_scStp ct_scStp : Value} {od_scStp an_scStp : Option Addr} {sl_scStp : Array (Option Value)}
    {f_scNear : Addr} {oc_scNear kV_scNear dc_scNear pm_scNear cd_scNear ct_scNear : Value} {od_scNear an_scNear : Option Addr} {sl_scNear : Array (Option Value)}
    {f_scCell : Addr} {oc_scCell kV_scCell dc_scCell pm_scCell cd_scCell ct_scCell : Value} {od_scCell an_scCell : Option Addr} {sl_scCell : Array (Option Value)}
    {f_scDraws : Addr} {oc_scDraws kV_scDraws dc_scDraws pm_scDraws cd_scDraws ct_scDraws : Value} {od_scDraws an_scDraws : Option Addr} {sl_scDraws : Array (Option Value)}
    {f_scWords : Addr} {oc_scWords kV_scWords dc_scWords pm_scWords cd_scWords ct_scWords : Value} {od_scWords an_scWords : Option Addr} {sl_scWords : Array (Option Value)}
    {f_scMarks : Addr} {oc_scMarks kV_scMarks dc_scMarks pm_scMarks cd_scMarks ct_scMarks : Value} {od_scMarks an_scMarks : Option Addr} {sl_scMarks : Array (Option Value)}
    {f_scLeaf : Addr} {oc_scLeaf kV_scLeaf dc_scLeaf pm_scLeaf cd_scLeaf ct_scLeaf : Value} {od_scLeaf an_scLeaf : Option Addr} {sl_scLeaf : Array (Option Value)}
    {f_scMach : Addr} {oc_scMach kV_scMach dc_scMach pm_scMach cd_scMach ct_scMach : Value} {od_scMach an_scMach : Option Addr} {sl_scMach : Array (Option Value)}
    {f_scStill : Addr} {oc_scStill kV_scStill dc_scStill pm_scStill cd_scStill ct_scStill : Value} {od_scStill an_scStill : Option Addr} {sl_scStill : Array (Option Value)}
    {f_scLBy : Addr} {oc_scLBy kV_scLBy dc_scLBy pm_scLBy cd_scLBy ct_scLBy : Value} {od_scLBy an_scLBy : Option Addr} {sl_scLBy : Array (Option Value)}
    {f_scRight : Addr} {oc_scRight kV_scRight dc_scRight pm_scRight cd_scRight ct_scRight : Value} {od_scRight an_scRight : Option Addr} {sl_scRight : Array (Option Value)}
    {f_scLaw : Addr} {oc_scLaw kV_scLaw dc_scLaw pm_scLaw cd_scLaw ct_scLaw : Value} {od_scLaw an_scLaw : Option Addr} {sl_scLaw : Array (Option Value)}
    {t_ANY : Tok}
    (a_scHolds : PySem.W.nsIn K mainGlobals "holds" = some (some (.ref f_scHolds))) (l_scHolds : K.lookup f_scHolds = some ⟨oc_scHolds, od_scHolds, .func (PySem.W.fnOf "holds" "holds" (defArgs sHolds) (defBody sHolds) (defScope sHolds) .none kV_scHolds dc_scHolds pm_scHolds an_scHolds cd_scHolds ct_scHolds), sl_scHolds⟩) (c_scHolds : PySem.W.codeIn K cd_scHolds "holds" = true) (k_scHolds : PySem.W.keepIn K (.ref f_scHolds) = true)
    (a_scTakes : PySem.W.nsIn K mainGlobals "takes" = some (some (.ref f_scTakes))) (l_scTakes : K.lookup f_scTakes = some ⟨oc_scTakes, od_scTakes, .func (PySem.W.fnOf "takes" "takes" (defArgs sTakes) (defBody sTakes) (defScope sTakes) .none kV_scTakes dc_scTakes pm_scTakes an_scTakes cd_scTakes ct_scTakes), sl_scTakes⟩) (c_scTakes : PySem.W.codeIn K cd_scTakes "takes" = true) (k_scTakes : PySem.W.keepIn K (.ref f_scTakes) = true)
    (a_scBy : PySem.W.nsIn K mainGlobals "by_stand" = some (some (.ref f_scBy))) (l_scBy : K.lookup f_scBy = some ⟨oc_scBy, od_scBy, .func (PySem.W.fnOf "by_stand" "by_stand" (defArgs sBy) (defBody sBy) (defScope sBy) .none kV_scBy dc_scBy pm_scBy an_scBy cd_scBy ct_scBy), sl_scBy⟩) (c_scBy : PySem.W.codeIn K cd_scBy "by_stand" = true) (k_scBy : PySem.W.keepIn K (.ref f_scBy) = true)
    (a_scGone : PySem.W.nsIn K mainGlobals "gone_without_steps" = some (some (.ref f_scGone))) (l_scGone : K.lookup f_scGone = some ⟨oc_scGone, od_scGone, .func (PySem.W.fnOf "gone_without_steps" "gone_without_steps" (defArgs sGone) (defBody sGone) (defScope sGone) .none kV_scGone dc_scGone pm_scGone an_scGone cd_scGone ct_scGone), sl_scGone⟩) (c_scGone : PySem.W.codeIn K cd_scGone "gone_without_steps" = true) (k_scGone : PySem.W.keepIn K (.ref f_scGone) = true)
    (a_scGoBy : PySem.W.nsIn K mainGlobals "gone_by_step" = some (some (.ref f_scGoBy))) (l_scGoBy : K.lookup f_scGoBy = some ⟨oc_scGoBy, od_scGoBy, .func (PySem.W.fnOf "gone_by_step" "gone_by_step" (defArgs sGoBy) (defBody sGoBy) (defScope sGoBy) .none kV_scGoBy dc_scGoBy pm_scGoBy an_scGoBy cd_scGoBy ct_scGoBy), sl_scGoBy⟩) (c_scGoBy : PySem.W.codeIn K cd_scGoBy "gone_by_step" = true) (k_scGoBy : PySem.W.keepIn K (.ref f_scGoBy) = true)
    (a_scCome : PySem.W.nsIn K mainGlobals "come_to" = some (some (.ref f_scCome))) (l_scCome : K.lookup f_scCome = some ⟨oc_scCome, od_scCome, .func (PySem.W.fnOf "come_to" "come_to" (defArgs sCome) (defBody sCome) (defScope sCome) .none kV_scCome dc_scCome pm_scCome an_scCome cd_scCome ct_scCome), sl_scCome⟩) (c_scCome : PySem.W.codeIn K cd_scCome "come_to" = true) (k_scCome : PySem.W.keepIn K (.ref f_scCome) = true)
    (a_scStp : PySem.W.nsIn K mainGlobals "stepped" = some (some (.ref f_scStp))) (l_scStp : K.lookup f_scStp = some ⟨oc_scStp, od_scStp, .func (PySem.W.fnOf "stepped" "stepped" (defArgs sStp) (defBody sStp) (defScope sStp) .none kV_scStp dc_scStp pm_scStp an_scStp cd_scStp ct_scStp), sl_scStp⟩) (c_scStp : PySem.W.codeIn K cd_scStp "stepped" = true) (k_scStp : PySem.W.keepIn K (.ref f_scStp) = true)
    (a_scNear : PySem.W.nsIn K mainGlobals "moves_near" = some (some (.ref f_scNear))) (l_scNear : K.lookup f_scNear = some ⟨oc_scNear, od_scNear, .func (PySem.W.fnOf "moves_near" "moves_near" (defArgs sNear) (defBody sNear) (defScope sNear) .none kV_scNear dc_scNear pm_scNear an_scNear cd_scNear ct_scNear), sl_scNear⟩) (c_scNear : PySem.W.codeIn K cd_scNear "moves_near" = true) (k_scNear : PySem.W.keepIn K (.ref f_scNear) = true)
    (a_scCell : PySem.W.nsIn K mainGlobals "_law_cell_at" = some (some (.ref f_scCell))) (l_scCell : K.lookup f_scCell = some ⟨oc_scCell, od_scCell, .func (PySem.W.fnOf "_law_cell_at" "_law_cell_at" (defArgs sCell) (defBody sCell) (defScope sCell) .none kV_scCell dc_scCell pm_scCell an_scCell cd_scCell ct_scCell), sl_scCell⟩) (c_scCell : PySem.W.codeIn K cd_scCell "_law_cell_at" = true) (k_scCell : PySem.W.keepIn K (.ref f_scCell) = true)
    (a_scDraws : PySem.W.nsIn K mainGlobals "_law_draws" = some (some (.ref f_scDraws))) (l_scDraws : K.lookup f_scDraws = some ⟨oc_scDraws, od_scDraws, .func (PySem.W.fnOf "_law_draws" "_law_draws" (defArgs sDraws) (defBody sDraws) (defScope sDraws) .none kV_scDraws dc_scDraws pm_scDraws an_scDraws cd_scDraws ct_scDraws), sl_scDraws⟩) (c_scDraws : PySem.W.codeIn K cd_scDraws "_law_draws" = true) (k_scDraws : PySem.W.keepIn K (.ref f_scDraws) = true)
    (a_scWords : PySem.W.nsIn K mainGlobals "_law_words" = some (some (.ref f_scWords))) (l_scWords : K.lookup f_scWords = some ⟨oc_scWords, od_scWords, .func (PySem.W.fnOf "_law_words" "_law_words" (defArgs sWords) (defBody sWords) (defScope sWords) .none kV_scWords dc_scWords pm_scWords an_scWords cd_scWords ct_scWords), sl_scWords⟩) (c_scWords : PySem.W.codeIn K cd_scWords "_law_words" = true) (k_scWords : PySem.W.keepIn K (.ref f_scWords) = true)
    (a_scMarks : PySem.W.nsIn K mainGlobals "_law_marks" = some (some (.ref f_scMarks))) (l_scMarks : K.lookup f_scMarks = some ⟨oc_scMarks, od_scMarks, .func (PySem.W.fnOf "_law_marks" "_law_marks" (defArgs sMarks) (defBody sMarks) (defScope sMarks) .none kV_scMarks dc_scMarks pm_scMarks an_scMarks cd_scMarks ct_scMarks), sl_scMarks⟩) (c_scMarks : PySem.W.codeIn K cd_scMarks "_law_marks" = true) (k_scMarks : PySem.W.keepIn K (.ref f_scMarks) = true)
    (a_scLeaf : PySem.W.nsIn K mainGlobals "_law_leaf" = some (some (.ref f_scLeaf))) (l_scLeaf : K.lookup f_scLeaf = some ⟨oc_scLeaf, od_scLeaf, .func (PySem.W.fnOf "_law_leaf" "_law_leaf" (defArgs sLeaf) (defBody sLeaf) (defScope sLeaf) .none kV_scLeaf dc_scLeaf pm_scLeaf an_scLeaf cd_scLeaf ct_scLeaf), sl_scLeaf⟩) (c_scLeaf : PySem.W.codeIn K cd_scLeaf "_law_leaf" = true) (k_scLeaf : PySem.W.keepIn K (.ref f_scLeaf) = true)
    (a_scMach : PySem.W.nsIn K mainGlobals "_law_machine" = some (some (.ref f_scMach))) (l_scMach : K.lookup f_scMach = some ⟨oc_scMach, od_scMach, .func (PySem.W.fnOf "_law_machine" "_law_machine" (defArgs sMach) (defBody sMach) (defScope sMach) .none kV_scMach dc_scMach pm_scMach an_scMach cd_scMach ct_scMach), sl_scMach⟩) (c_scMach : PySem.W.codeIn K cd_scMach "_law_machine" = true) (k_scMach : PySem.W.keepIn K (.ref f_scMach) = true)
    (a_scStill : PySem.W.nsIn K mainGlobals "_law_still" = some (some (.ref f_scStill))) (l_scStill : K.lookup f_scStill = some ⟨oc_scStill, od_scStill, .func (PySem.W.fnOf "_law_still" "_law_still" (defArgs sStill) (defBody sStill) (defScope sStill) .none kV_scStill dc_scStill pm_scStill an_scStill cd_scStill ct_scStill), sl_scStill⟩) (c_scStill : PySem.W.codeIn K cd_scStill "_law_still" = true) (k_scStill : PySem.W.keepIn K (.ref f_scStill) = true)
    (a_scLBy : PySem.W.nsIn K mainGlobals "_law_by" = some (some (.ref f_scLBy))) (l_scLBy : K.lookup f_scLBy = some ⟨oc_scLBy, od_scLBy, .func (PySem.W.fnOf "_law_by" "_law_by" (defArgs sLBy) (defBody sLBy) (defScope sLBy) .none kV_scLBy dc_scLBy pm_scLBy an_scLBy cd_scLBy ct_scLBy), sl_scLBy⟩) (c_scLBy : PySem.W.codeIn K cd_scLBy "_law_by" = true) (k_scLBy : PySem.W.keepIn K (.ref f_scLBy) = true)
    (a_scRight : PySem.W.nsIn K mainGlobals "_law_right" = some (some (.ref f_scRight))) (l_scRight : K.lookup f_scRight = some ⟨oc_scRight, od_scRight, .func (PySem.W.fnOf "_law_right" "_law_right" (defArgs sRight) (defBody sRight) (defScope sRight) .none kV_scRight dc_scRight pm_scRight an_scRight cd_scRight ct_scRight), sl_scRight⟩) (c_scRight : PySem.W.codeIn K cd_scRight "_law_right" = true) (k_scRight : PySem.W.keepIn K (.ref f_scRight) = true)
    (a_scLaw : PySem.W.nsIn K mainGlobals "law" = some (some (.ref f_scLaw))) (l_scLaw : K.lookup f_scLaw = some ⟨oc_scLaw, od_scLaw, .func (PySem.W.fnOf "law" "law" (defArgs sLaw) (defBody sLaw) (defScope sLaw) .none kV_scLaw dc_scLaw pm_scLaw an_scLaw cd_scLaw ct_scLaw), sl_scLaw⟩) (c_scLaw : PySem.W.codeIn K cd_scLaw "law" = true) (k_scLaw : PySem.W.keepIn K (.ref f_scLaw) = true)
    (z_len : PySem.W.nsIn K mainGlobals "len" = some none)
    (z_isinstance : PySem.W.nsIn K mainGlobals "isinstance" = some none)
    (z_tuple : PySem.W.nsIn K mainGlobals "tuple" = some none)
    (z_list : PySem.W.nsIn K mainGlobals "list" = some none)
    (z_dict : PySem.W.nsIn K mainGlobals "dict" = some none)
    (z_bool : PySem.W.nsIn K mainGlobals "bool" = some none)
    (z_range : PySem.W.nsIn K mainGlobals "range" = some none)
    (z_sorted : PySem.W.nsIn K mainGlobals "sorted" = some none)
    (z_set : PySem.W.nsIn K mainGlobals "set" = some none)
    (m_ANY : PySem.W.nsIn K mainGlobals "ANY" = some (some (.str "*" t_ANY))) :
    ∃ fd : FuncData, (∀ (s : Shared) (v : Value), BindsTo s fd ⟨[v], []⟩ [("_law_script", v)]) ∧ ∀ base : Heap, K.In base → base.Ns mainGlobals mg → FnOk l.prog w K mg base CX0 4 fa fd ["_law_script"] (spLaw K) := by
  have e := hfa.symm.trans (PySem.W.mg_of X G a_scLaw)
  cases e
  have S_scHolds : Src K mg "holds" PscHolds sHolds := J.src_mk X G a_scHolds l_scHolds c_scHolds k_scHolds fun _ _ _ _ _ _ => J.by2 (fun _ _ => rfl)
  have S_scTakes : Src K mg "takes" PscTakes sTakes := J.src_mk X G a_scTakes l_scTakes c_scTakes k_scTakes fun _ _ _ _ _ _ => J.by3 (fun _ _ _ => rfl)
  have S_scBy : Src K mg "by_stand" PscBy sBy := J.src_mk X G a_scBy l_scBy c_scBy k_scBy fun _ _ _ _ _ _ => J.by2 (fun _ _ => rfl)
  have S_scGone : Src K mg "gone_without_steps" PscGone sGone := J.src_mk X G a_scGone l_scGone c_scGone k_scGone fun _ _ _ _ _ _ => J.by3 (fun _ _ _ => rfl)
  have S_scGoBy : Src K mg "gone_by_step" PscGoBy sGoBy := J.src_mk X G a_scGoBy l_scGoBy c_scGoBy k_scGoBy fun _ _ _ _ _ _ => J.by4 (fun _ _ _ _ => rfl)
  have S_scCome : Src K mg "come_to" PscCome sCome := J.src_mk X G a_scCome l_scCome c_scCome k_scCome fun _ _ _ _ _ _ => J.by3 (fun _ _ _ => rfl)
  have S_scStp : Src K mg "stepped" PscStp sStp := J.src_mk X G a_scStp l_scStp c_scStp k_scStp fun _ _ _ _ _ _ => J.by4 (fun _ _ _ _ => rfl)
  have S_scNear : Src K mg "moves_near" PscNear sNear := J.src_mk X G a_scNear l_scNear c_scNear k_scNear fun _ _ _ _ _ _ => J.by1 (fun _ => rfl)
  have S_scCell : Src K mg "_law_cell_at" PscCell sCell := J.src_mk X G a_scCell l_scCell c_scCell k_scCell fun _ _ _ _ _ _ => J.by2 (fun _ _ => rfl)
  have S_scDraws : Src K mg "_law_draws" PscDraws sDraws := J.src_mk X G a_scDraws l_scDraws c_scDraws k_scDraws fun _ _ _ _ _ _ => J.by2 (fun _ _ => rfl)
  have S_scWords : Src K mg "_law_words" PscWords sWords := J.src_mk X G a_scWords l_scWords c_scWords k_scWords fun _ _ _ _ _ _ => fun us e => by cases us with | nil => rfl | cons _ _ => cases e
  have S_scMarks : Src K mg "_law_marks" PscMarks sMarks := J.src_mk X G a_scMarks l_scMarks c_scMarks k_scMarks fun _ _ _ _ _ _ => fun us e => by cases us with | nil => rfl | cons _ _ => cases e
  have S_scLeaf : Src K mg "_law_leaf" PscLeaf sLeaf := J.src_mk X G a_scLeaf l_scLeaf c_scLeaf k_scLeaf fun _ _ _ _ _ _ => J.by2 (fun _ _ => rfl)
  have S_scMach : Src K mg "_law_machine" PscMach sMach := J.src_mk X G a_scMach l_scMach c_scMach k_scMach fun _ _ _ _ _ _ => J.by2 (fun _ _ => rfl)
  have S_scStill : Src K mg "_law_still" PscStill sStill := J.src_mk X G a_scStill l_scStill c_scStill k_scStill fun _ _ _ _ _ _ => J.by3 (fun _ _ _ => rfl)
  have S_scLBy : Src K mg "_law_by" PscLBy sLBy := J.src_mk X G a_scLBy l_scLBy c_scLBy k_scLBy fun _ _ _ _ _ _ => J.by4 (fun _ _ _ _ => rfl)
  have S_scRight : Src K mg "_law_right" PscRight sRight := J.src_mk X G a_scRight l_scRight c_scRight k_scRight fun _ _ _ _ _ _ => J.by2 (fun _ _ => rfl)
  have F := fun_mk (st := sLaw) l_scLaw c_scLaw k_scLaw
  have T : Txt K mg := ⟨PySem.W.mg_none_of X G z_len, PySem.W.mg_none_of X G z_isinstance, PySem.W.mg_none_of X G z_tuple, PySem.W.mg_none_of X G z_list, PySem.W.mg_none_of X G z_dict, PySem.W.mg_none_of X G z_bool, PySem.W.mg_none_of X G z_range, PySem.W.mg_none_of X G z_sorted, PySem.W.mg_none_of X G z_set, ⟨_, PySem.W.mg_of X G m_ANY⟩⟩
  refine ⟨PySem.W.fnOf "law" "law" (defArgs sLaw) (defBody sLaw) (defScope sLaw) .none kV_scLaw dc_scLaw pm_scLaw an_scLaw cd_scLaw ct_scLaw, fun s v => .of_eq rfl, fun base _ _ => ?_⟩
  have D_holds := d_Holds (P := l.prog) (w := w) (base := base) T S_scHolds
  have D_takes := d_Takes (P := l.prog) (w := w) (base := base) T S_scTakes
  have D_draws := d_Draws (P := l.prog) (w := w) (base := base) T S_scDraws
  have D_words := d_Words (P := l.prog) (w := w) (base := base) T S_scWords
  have D_near := d_Near T S_scNear (d_By (P := l.prog) (w := w) (base := base) T S_scBy)
  exact top_of (d_LawA T F (d_Cell T S_scCell) D_draws (d_Mach T S_scMach D_draws (d_Leaf T S_scLeaf D_words (d_Marks T S_scMarks))) D_words (d_Still T S_scStill) (d_LBy T S_scLBy) (d_Right T S_scRight) (d_Come T S_scCome D_near (d_Gone T S_scGone D_holds)) (d_Stp T S_scStp D_near (d_GoBy T S_scGoBy D_takes)))
theorem walk {l : PySem.W.OpenLaw} {q : Program} {loose : List Str} {XP : (Str → Option Value) → Heap → Prop} {YP : World → Heap → Prop} {d : DefRec} {K : Params → PySem.W.Frag} (hn : l.most = some 63) (hdf : d.params.defaults = [])
    (hY : ∀ (w : World) (h : Heap), YP w h → (K w.params).In h)
    (F : ∀ (w : World) (mg : Str → Option Value) (fa : Addr) (h : Heap), (K w.params).In h → h.Ns mainGlobals mg → mg d.name = some (.ref fa) →
      ∃ fd : FuncData, (∀ (s : Shared) (u : Value), BindsTo s fd ⟨[u], []⟩ [("_law_script", u)]) ∧ ∀ base : Heap, (K w.params).In base → base.Ns mainGlobals mg → FnOk l.prog w (K w.params) mg base CX0 4 fa fd ["_law_script"] (spLaw (K w.params))) :
    PySem.W.WalkO q loose XP YP l.row.toRowW d [] (fun f vs => PySem.call f vs) :=
  L2.walk_of (n := 63) (k := 4) (x := "_law_script") (CX := fun _ => CX0) (sp := fun w => spLaw (K w.params)) hn (by decide) hdf ⟨rfl, by decide, by decide, rfl⟩ hY F (fun _ _ a ns hl _ hS => ⟨a, ns, rfl, hS, hl, fun _ => rfl⟩) fun _ _ _ _ _ z => z
end K31
open PySem PySem.W PyProof.Rows
set_option maxRecDepth 100000 in
set_option maxHeartbeats 0 in
theorem PySem.Challenge.cw_pathask_k31_stands_come_to_holds : PySem.Challenge.rw_pathask_k31_stands_come_to.Holds := by
  w_on; o_law; k_head; (case hw => w_witness2)
  k_fill
  refine K31.walk (l := PySem.Challenge.rw_pathask_k31_stands_come_to) rfl rfl (fun w h Y => PySem.W.kIn_of Y) ?F
  case F =>
    intro w mg fa h KX G hmg
    refine' K31.all_mk KX G hmg ?a_scHolds ?l_scHolds ?c_scHolds ?k_scHolds ?a_scTakes ?l_scTakes ?c_scTakes ?k_scTakes ?a_scBy ?l_scBy ?c_scBy ?k_scBy ?a_scGone ?l_scGone ?c_scGone ?k_scGone ?a_scGoBy ?l_scGoBy ?c_scGoBy ?k_scGoBy ?a_scCome ?l_scCome ?c_scCome ?k_scCome ?a_scStp ?l_scStp ?c_scStp ?k_scStp ?a_scNear ?l_scNear ?c_scNear ?k_scNear ?a_scCell ?l_scCell ?c_scCell ?k_scCell ?a_scDraws ?l_scDraws ?c_scDraws ?k_scDraws ?a_scWords ?l_scWords ?c_scWords ?k_scWords ?a_scMarks ?l_scMarks ?c_scMarks ?k_scMarks ?a_scLeaf ?l_scLeaf ?c_scLeaf ?k_scLeaf ?a_scMach ?l_scMach ?c_scMach ?k_scMach ?a_scStill ?l_scStill ?c_scStill ?k_scStill ?a_scLBy ?l_scLBy ?c_scLBy ?k_scLBy ?a_scRight ?l_scRight ?c_scRight ?k_scRight ?a_scLaw ?l_scLaw ?c_scLaw ?k_scLaw ?z_len ?z_isinstance ?z_tuple ?z_list ?z_dict ?z_bool ?z_range ?z_sorted ?z_set ?m_ANY
    (case a_scHolds => k_is)
    (case l_scHolds => k_is)
    (case c_scHolds => k_is)
    (case k_scHolds => k_is)
    (case a_scTakes => k_is)
    (case l_scTakes => k_is)
    (case c_scTakes => k_is)
    (case k_scTakes => k_is)
    (case a_scBy => k_is)
    (case l_scBy => k_is)
    (case c_scBy => k_is)
    (case k_scBy => k_is)
    (case a_scGone => k_is)
    (case l_scGone => k_is)
    (case c_scGone => k_is)
    (case k_scGone => k_is)
    (case a_scGoBy => k_is)
    (case l_scGoBy => k_is)
    (case c_scGoBy => k_is)
    (case k_scGoBy => k_is)
    (case a_scCome => k_is)
    (case l_scCome => k_is)
    (case c_scCome => k_is)
    (case k_scCome => k_is)
    (case a_scStp => k_is)
    (case l_scStp => k_is)
    (case c_scStp => k_is)
    (case k_scStp => k_is)
    (case a_scNear => k_is)
    (case l_scNear => k_is)
    (case c_scNear => k_is)
    (case k_scNear => k_is)
    (case a_scCell => k_is)
    (case l_scCell => k_is)
    (case c_scCell => k_is)
    (case k_scCell => k_is)
    (case a_scDraws => k_is)
    (case l_scDraws => k_is)
    (case c_scDraws => k_is)
    (case k_scDraws => k_is)
    (case a_scWords => k_is)
    (case l_scWords => k_is)
    (case c_scWords => k_is)
    (case k_scWords => k_is)
    (case a_scMarks => k_is)
    (case l_scMarks => k_is)
    (case c_scMarks => k_is)
    (case k_scMarks => k_is)
    (case a_scLeaf => k_is)
    (case l_scLeaf => k_is)
    (case c_scLeaf => k_is)
    (case k_scLeaf => k_is)
    (case a_scMach => k_is)
    (case l_scMach => k_is)
    (case c_scMach => k_is)
    (case k_scMach => k_is)
    (case a_scStill => k_is)
    (case l_scStill => k_is)
    (case c_scStill => k_is)
    (case k_scStill => k_is)
    (case a_scLBy => k_is)
    (case l_scLBy => k_is)
    (case c_scLBy => k_is)
    (case k_scLBy => k_is)
    (case a_scRight => k_is)
    (case l_scRight => k_is)
    (case c_scRight => k_is)
    (case k_scRight => k_is)
    (case a_scLaw => k_is)
    (case l_scLaw => k_is)
    (case c_scLaw => k_is)
    (case k_scLaw => k_is)
    (case z_len => k_is)
    (case z_isinstance => k_is)
    (case z_tuple => k_is)
    (case z_list => k_is)
    (case z_dict => k_is)
    (case z_bool => k_is)
    (case z_range => k_is)
    (case z_sorted => k_is)
    (case z_set => k_is)
    (case m_ANY => k_is)
