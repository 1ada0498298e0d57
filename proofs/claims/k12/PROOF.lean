import PyProof.Rows.All
import Wide.All
import OpenK.AllK
import Wide.FinOn
import Lean
import PyProof.EqAt
import PyProof.EqKinds
import PyProof.TupleCall
import KE.KRevIter
import KE.KIntText
import PyProof.Rows.StrNews
import KE.KSortTup
import PyProof.Rows.SetFrom
import PyProof.WalksMore
import KE.KRevSl
import PyProof.ZipIter
import PyProof.TupleIter
import PyProof.Rows.SortRuns
import PySem.Challenge.RW_pathask_k12_ways_written_and_read
set_option Elab.async false
set_option linter.all false
set_option maxRecDepth 100000
namespace L2
open PySem PySem.Spec PyProof.Rows
noncomputable abbrev Key := Sum Int Str
noncomputable def keyIs : Key → Value → Bool
 | .inl k, v => Value.isInt k v
 | .inr x, v => Value.isStrOf x v
noncomputable def keyH (w : World) : Key → Int
 | .inl k => hashInt k
 | .inr x => hashStr w x
theorem keyIs_shape : ∀ {k : Key} {v : Value}, keyIs k v = true → (∃ i t, k = Sum.inl i ∧ v = Value.int i t) ∨ (∃ x t, k = Sum.inr x ∧ v = Value.str x t)
 | .inl i, v, h => by
  obtain ⟨t, e⟩ := Value.isInt_shape (k := i) (v := v) h
  exact .inl ⟨i, t, rfl, e⟩
 | .inr x, v, h => by
  obtain ⟨t, e⟩ := Value.isStrOf_shape (x := x) (v := v) h
  exact .inr ⟨x, t, rfl, e⟩
theorem keyIs_int (i : Int) (t : Tok) : keyIs (.inl i) (.int i t) = true := by simp [keyIs, Value.isInt]
theorem keyIs_str (x : Str) (t : Tok) : keyIs (.inr x) (.str x t) = true := by simp [keyIs, Value.isStrOf]
theorem key_ll (a b : Int) : decide ((Sum.inl a : Key) = Sum.inl b) = (a == b) := by
 by_cases e : a = b
 ·subst e; simp
 ·have h : ¬ (Sum.inl a : Key) = Sum.inl b := fun q => e (Sum.inl.inj q)
  rw [decide_eq_false h]
  exact (beq_eq_false_iff_ne.mpr e).symm
theorem key_rr (a b : Str) : decide ((Sum.inr a : Key) = Sum.inr b) = decide (a = b) := by
 by_cases e : a = b
 ·subst e; simp
 ·have h : ¬ (Sum.inr a : Key) = Sum.inr b := fun q => e (Sum.inr.inj q)
  rw [decide_eq_false h, decide_eq_false e]
theorem key_lr (a : Int) (b : Str) : decide ((Sum.inl a : Key) = Sum.inr b) = false := decide_eq_false (fun q => nomatch q)
theorem key_rl (a : Str) (b : Int) : decide ((Sum.inr a : Key) = Sum.inl b) = false := decide_eq_false (fun q => nomatch q)
noncomputable def mixKind (prog : Program) (w : World) : PySem.KeyKind prog w Key where
 is := keyIs
 hash := keyH w
 inj := fun v a b ha hb => by
  rcases keyIs_shape ha with ⟨i, t, rfl, rfl⟩ | ⟨x, t, rfl, rfl⟩
  ·rcases keyIs_shape hb with ⟨j, u, rfl, e⟩ | ⟨y, u, rfl, e⟩
   ·injection e with e1 _; rw [e1]
   ·exact nomatch e
  ·rcases keyIs_shape hb with ⟨j, u, rfl, e⟩ | ⟨y, u, rfl, e⟩
   ·exact nomatch e
   ·injection e with e1 _; rw [e1]
 byValue := fun k v h => by
  rcases keyIs_shape h with ⟨i, t, rfl, rfl⟩ | ⟨x, t, rfl, rfl⟩ <;> rfl
 pyHash := fun hv h => by
  rcases keyIs_shape hv with ⟨i, t, rfl, rfl⟩ | ⟨x, t, rfl, rfl⟩
  ·exact wpAny_pyHash_int h
  ·exact wpAny_pyHash_str h
 eqBool := fun hu hv h => by
  rcases keyIs_shape hu with ⟨i, t, rfl, rfl⟩ | ⟨x, t, rfl, rfl⟩
  ·rcases keyIs_shape hv with ⟨j, u, rfl, rfl⟩ | ⟨y, u, rfl, rfl⟩
   ·rw [key_ll] at h; exact wpAny_eqBool_int h
   ·rw [key_lr] at h; exact SeqAt.EqAt.int_str i t y u _ _ _ _ h
  ·rcases keyIs_shape hv with ⟨j, u, rfl, rfl⟩ | ⟨y, u, rfl, rfl⟩
   ·rw [key_rl] at h; exact SeqAt.EqAt.str_int x t j u _ _ _ _ h
   ·rw [key_rr] at h; exact wpAny_eqBool_str h
 «strs» := fun k x t v h => by
  rcases keyIs_shape h with ⟨i, u, rfl, e⟩ | ⟨y, u, rfl, e⟩
  ·exact nomatch e
  ·injection e with e1 _
   subst e1
   cases v <;> rfl
theorem mixKind_int (prog : Program) (w : World) (i : Int) (t : Tok) : (mixKind prog w).is (.inl i) (.int i t) = true := keyIs_int i t
theorem mixKind_str (prog : Program) (w : World) (x : Str) (t : Tok) : (mixKind prog w).is (.inr x) (.str x t) = true := keyIs_str x t
end L2
namespace L2
open PySem PySem.Spec PyProof.Rows
inductive V where
 | non | bl (b : Bool) | int (i : Int) | str (x : Str) | byt (b : Array UInt8) | flt (b : UInt64) | ref (a : Addr) | ty (n : String)
 deriving DecidableEq
noncomputable def RelV : V → Value → Prop
 | .non, u => u = Value.none
 | .bl b, u => u = Value.bool b
 | .int i, u => ∃ t, u = Value.int i t
 | .str x, u => ∃ t, u = Value.str x t
 | .byt b, u => ∃ t, u = Value.bytes b t
 | .flt b, u => ∃ t, u = Value.float b t
 | .ref a, u => u = Value.ref a
 | .ty n, u => u = Value.type n
noncomputable abbrev Vals : List V → List Value → Prop := Paired RelV
theorem Vals.length {xs : List V} {us : List Value} (r : Vals xs us) : xs.length = us.length := Paired.length r
theorem Vals.get : ∀ {xs : List V} {us : List Value} {i : Nat} {x : V}, Vals xs us → xs[i]? = some x → ∃ u, us[i]? = some u ∧ RelV x u
 | _, _, _, _, .nil, e => by simp at e
 | _, _, 0, _, .cons r _, e => by simp at e; subst e; exact ⟨_, rfl, r⟩
 | _, _, i + 1, x, .cons _ t, e => by
  obtain ⟨u, h1, h2⟩ := Vals.get (i := i) (x := x) t (by simpa using e)
  exact ⟨u, by simpa using h1, h2⟩
theorem Vals.append : ∀ {xs ys : List V} {us ws : List Value}, Vals xs us → Vals ys ws → Vals (xs ++ ys) (us ++ ws)
 | _, _, _, _, .nil, s => s
 | _, _, _, _, .cons r t, s => .cons r (Vals.append t s)
theorem Vals.take : ∀ {xs : List V} {us : List Value} (n : Nat), Vals xs us → Vals (xs.take n) (us.take n)
 | _, _, 0, _ => .nil
 | _, _, _ + 1, .nil => .nil
 | _, _, n + 1, .cons r t => .cons r (Vals.take n t)
theorem Vals.drop : ∀ {xs : List V} {us : List Value} (n : Nat), Vals xs us → Vals (xs.drop n) (us.drop n)
 | _, _, 0, r => r
 | _, _, _ + 1, .nil => .nil
 | _, _, n + 1, .cons _ t => Vals.drop n t
noncomputable def RelO : Option V → Option Value → Prop
 | some v, some u => RelV v u
 | none, none => True
 | _, _ => False
noncomputable def KV {κ : Type} : List (κ × V) → List (κ × Value) → Prop := Paired fun (p : κ × V) (q : κ × Value) => p.1 = q.1 ∧ RelV p.2 q.2
noncomputable def kV : Key → V
 | .inl i => .int i
 | .inr x => .str x
inductive HO where
 | lst (xs : List V)
 | tup (xs : List V)
 | dK (kvs : List (Key × V)) | dT (kvs : List (List Key × V))
 | set (S : Int → Bool) (n : Nat)
 | ins (C dx : Addr) (fs : List (Str × V))
 | own (x : Addr)
 | xd (fs : List (Str × V))
 | met (f x : Addr)
 | rng (lo hi : Int)
 | frz (o : Obj) (u : HO)
 | tbl (ps : Array Value)
 | ext (φ : Heap → Prop)
noncomputable abbrev Hp := Addr → Option HO
noncomputable def upd (H : Hp) (a : Addr) (o : HO) : Hp := fun b => if b = a then some o else H b
theorem upd_same {H : Hp} {a : Addr} {o : HO} : upd H a o a = some o := by unfold upd; rw [if_pos rfl]
theorem upd_ne {H : Hp} {a b : Addr} {o : HO} (h : b ≠ a) : upd H a o b = H b := by unfold upd; rw [if_neg h]
theorem ne_of {H : Hp} {a b : Addr} {o u : HO} (h : H a = some o) (h' : H b = some u) (d : o ≠ u) : a ≠ b := by
 intro e; subst e; rw [h] at h'; exact d (Option.some.inj h')
theorem ne_of_none {H : Hp} {a b : Addr} {o : HO} (h : H a = some o) (h' : H b = none) : a ≠ b := by
 intro e; subst e; rw [h] at h'; cases h'
section
variable (P : Program) (w : World)
noncomputable def ObjOk (H : Hp) (h : Heap) (a : Addr) : HO → Prop
 | .lst xs => xs.length ≤ sizeLine ∧ ∃ (its : List Value) (n : Nat), Vals xs its ∧ h.get? a = some { cls := .type "list", data := .seq its.toArray n }
 | .tup xs => xs.length ≤ sizeLine ∧ ∃ its : List Value, Vals xs its ∧ IsTup h a its.toArray
 | .dK kvs => kvs.length ≤ sizeLine ∧ (a == sysModules) = false ∧ ∃ vs, KV kvs vs ∧ h.DictOf (mixKind P w) a vs
 | .dT kvs => kvs.length ≤ sizeLine ∧ (a == sysModules) = false ∧ ∃ xs : List (List Key × Addr × Value),
   Paired (fun (p : List Key × V) (q : List Key × Addr × Value) => p.1 = q.1 ∧ H q.2.1 = some (.tup (p.1.map kV)) ∧ RelV p.2 q.2.2) kvs xs ∧
   ∃ o es ep, h.get? a = some o ∧ o.ExactDict ∧ o.data = .dict es ep ∧ es.toList = xs.map (entryOfKey (tupleKind (mixKind P w))) ∧ (xs.map (·.1)).Nodup
 | .set S n => h.SetOf (intKind P w) a S n
 | .ins C dx fs => H dx = some (.own a) ∧ fs.length ≤ 1000 ∧ dx ≠ a ∧ h.get? a = some (PySem.W.instObj C dx) ∧
   ∃ mA, h.Ns1 dx mA ∧ (∀ f, RelO (fs.lookup f) (mA f)) ∧ PySem.Within mA (fs.map (·.1))
 | .own _ => ∃ o, h.get? a = some o
 | .xd fs => ∃ mA, h.Ns1 a mA ∧ ∀ f, RelO (fs.lookup f) (mA f)
 | .rng lo hi => ∃ t u v, h.get? a = some { cls := .type "range", data := .fields #[.int lo t, .int hi u, .int 1 v] }
 | .frz o u => h.get? a = some o ∧ ObjOk H h a u
 | .tbl ps => h.get? a = some { cls := .none, data := .fields ps }
 | .met f x => h.get? a = some (PySem.W.methodObj (.ref f) (.ref x))
 | .ext φ => φ h ∧ (∃ o, h.get? a = some o) ∧ ∀ h1 h2 : Heap, φ h1 → (∀ o, h1.get? a = some o → h2.get? a = some o) → φ h2
noncomputable def HOk (H : Hp) (h : Heap) : Prop := ∀ a o, H a = some o → ObjOk P w H h a o
end
section
variable {P : Program} {w : World} {H H' : Hp} {h h' : Heap} {a : Addr} {o : HO}
theorem ObjOk.lt (x : ObjOk P w H h a o) : a < h.objs.size := by
 cases o with
 | lst xs => obtain ⟨_, _, _, _, e⟩ := x; exact Heap.lt_size e
 | tup xs => obtain ⟨_, _, _, p⟩ := x; exact p.lt
 | dK kvs => obtain ⟨_, _, _, _, o, _, _, e, _⟩ := x; exact Heap.lt_size e
 | dT kvs => obtain ⟨_, _, _, _, o, _, _, e, _⟩ := x; exact Heap.lt_size e
 | set S n => obtain ⟨o, _, _, _, e, _⟩ := x; exact Heap.lt_size e
 | ins C dx fs => obtain ⟨_, _, _, e, _⟩ := x; exact Heap.lt_size e
 | own y => obtain ⟨_, e⟩ := x; exact Heap.lt_size e
 | xd fs => obtain ⟨_, ⟨_, _, _, e, _⟩, _⟩ := x; exact Heap.lt_size e
 | rng lo hi => obtain ⟨_, _, _, e⟩ := x; exact Heap.lt_size e
 | frz ob u => obtain ⟨e, _⟩ := x; exact Heap.lt_size e
 | tbl ps => exact Heap.lt_size (show h.get? a = some _ from x)
 | met f y => exact Heap.lt_size (show h.get? a = some _ from x)
 | ext φ => obtain ⟨_, ⟨_, e⟩, _⟩ := x; exact Heap.lt_size e
theorem Paired.mapP {α β : Type} {F G : α → β → Prop} : ∀ {l₁ : List α} {l₂ : List β}, Paired F l₁ l₂ → (∀ a b, F a b → G a b) → Paired G l₁ l₂
 | _, _, .nil, _ => .nil
 | _, _, .cons r t, f => .cons (f _ _ r) (Paired.mapP t f)
theorem ObjOk.stay (x : ObjOk P w H h a o) (k : ∀ b u, (b = a ∨ H b = some (.own a)) → h.get? b = some u → h'.get? b = some u)
  (ho : ∀ b, H b = some (.own a) → H' b = some (.own a)) (ht : ∀ b xs, H b = some (.tup xs) → H' b = some (.tup xs)) : ObjOk P w H' h' a o := by
 induction o with
 | lst xs => obtain ⟨z, its, n, r, e⟩ := x; exact ⟨z, its, n, r, k _ _ (.inl rfl) e⟩
 | tup xs => obtain ⟨z, its, r, ob, e, c⟩ := x; exact ⟨z, its, r, ob, k _ _ (.inl rfl) e, c⟩
 | dK kvs => obtain ⟨z, y, vs, r, ob, es, ep, e, c⟩ := x; exact ⟨z, y, vs, r, ob, es, ep, k _ _ (.inl rfl) e, c⟩
 | dT kvs =>
  obtain ⟨z, y, xs, r, ob, es, ep, e, c⟩ := x
  exact ⟨z, y, xs, Paired.mapP r fun p q z => ⟨z.1, ht _ _ z.2.1, z.2.2⟩, ob, es, ep, k _ _ (.inl rfl) e, c⟩
 | set S n => obtain ⟨ob, es, ep, t, e, c⟩ := x; exact ⟨ob, es, ep, t, k _ _ (.inl rfl) e, c⟩
 | ins C dx fs =>
  obtain ⟨d, z, ne, e, mA, ⟨od, es, ep, e2, c⟩, r⟩ := x
  exact ⟨ho _ d, z, ne, k _ _ (.inl rfl) e, mA, ⟨od, es, ep, k _ _ (.inr d) e2, c⟩, r⟩
 | own y => obtain ⟨ob, e⟩ := x; exact ⟨ob, k _ _ (.inl rfl) e⟩
 | xd fs => obtain ⟨mA, ⟨od, es, ep, e, c⟩, r⟩ := x; exact ⟨mA, ⟨od, es, ep, k _ _ (.inl rfl) e, c⟩, r⟩
 | rng lo hi => obtain ⟨t, u, v, e⟩ := x; exact ⟨t, u, v, k _ _ (.inl rfl) e⟩
 | frz ob u ih => obtain ⟨e, q⟩ := x; exact ⟨k _ _ (.inl rfl) e, ih q⟩
 | tbl ps =>
  have e : h.get? a = some { cls := .none, data := .fields ps } := x
  show h'.get? a = some { cls := .none, data := .fields ps }
  exact k a _ (.inl rfl) e
 | met f y =>
  have e : h.get? a = some (PySem.W.methodObj (.ref f) (.ref y)) := x
  show h'.get? a = some (PySem.W.methodObj (.ref f) (.ref y))
  exact k a _ (.inl rfl) e
 | ext φ => obtain ⟨p, ⟨o, e⟩, st⟩ := x; exact ⟨st _ _ p fun o q => k _ _ (.inl rfl) q, ⟨o, k _ _ (.inl rfl) e⟩, st⟩
theorem HOk.lt (x : HOk P w H h) (e : H a = some o) : a < h.objs.size := (x a o e).lt
theorem HOk.fresh (x : HOk P w H h) (e : h.objs.size ≤ a) : H a = none := by
 cases q : H a with
 | none => rfl
 | some u => exact absurd (Nat.lt_of_lt_of_le (x.lt q) e) (Nat.lt_irrefl _)
theorem HOk.kept (x : HOk P w H h) (k : ∀ b u, h.get? b = some u → h'.get? b = some u) : HOk P w H h' := fun a o e =>
 (x a o e).stay (fun b u _ q => k b u q) (fun _ q => q) fun _ _ q => q
theorem HOk.laid (x : HOk P w H h) (k : ∀ b u, h.get? b = some u → h'.get? b = some u) (hp : h.objs.size ≤ a) (new : ObjOk P w (upd H a o) h' a o) : HOk P w (upd H a o) h' := fun b u e => by
 have hn := x.fresh hp
 by_cases hb : b = a
 ·subst hb; rw [upd_same] at e; cases e; exact new
 ·rw [upd_ne hb] at e
  exact (x b u e).stay (fun c v _ q => k c v q) (fun c q => by rw [upd_ne (ne_of_none q hn)]; exact q) fun c xs q => by rw [upd_ne (ne_of_none q hn)]; exact q
end
noncomputable def Rd (H : Hp) (a : Addr) (u : HO) : Prop := H a = some u ∨ ∃ o, H a = some (.frz o u)
theorem Rd.ok {P : Program} {w : World} {H : Hp} {h : Heap} {a : Addr} {u : HO} (r : Rd H a u) (x : HOk P w H h) : ObjOk P w H h a u := by
 rcases r with r | ⟨o, r⟩
 ·exact x a u r
 ·obtain ⟨_, q⟩ := x a _ r
  exact q
noncomputable def Mut : Option HO → Prop
 | some (.lst _) => True
 | some (.dK _) => True
 | some (.dT _) => True
 | some (.set _ _) => True
 | some (.ins _ _ _) => True
 | some (.ext _) => True
 | _ => False
section
variable {P : Program} {w : World} {H : Hp} {h h' : Heap} {x e : Addr} {o' : HO}
theorem HOk.write (ok : HOk P w H h) (mu : Mut (H x)) (he : e = x ∨ H e = some (.own x)) (k : ∀ b u, b ≠ e → h.get? b = some u → h'.get? b = some u) (heo : ∃ u, h'.get? e = some u)
  (new : ObjOk P w (upd H x o') h' x o') : HOk P w (upd H x o') h' := fun b u q => by
 have nown : ∀ c y, H c = some (.own y) → c ≠ x := fun c y r z => by subst z; rw [r] at mu; exact mu
 have ntup : ∀ c xs, H c = some (.tup xs) → c ≠ x := fun c xs r z => by subst z; rw [r] at mu; exact mu
 by_cases hb : b = x
 ·subst hb; rw [upd_same] at q; cases q; exact new
 ·rw [upd_ne hb] at q
  by_cases hbe : b = e
  ·have q' : H b = some (.own x) := by
    rcases he with z | z
    ·exact absurd (hbe.trans z) hb
    ·rw [hbe]; exact z
   rw [q] at q'; cases q'
   obtain ⟨v, hv⟩ := heo
   exact ⟨v, by rw [hbe]; exact hv⟩
  ·refine (ok b u q).stay (fun c v hc r => k c v ?_ r) (fun c r => by rw [upd_ne (nown c b r)]; exact r) fun c xs r => by rw [upd_ne (ntup c xs r)]; exact r
   rcases hc with rfl | hc
   ·exact hbe
   ·rintro rfl
    rcases he with z | z
    ·exact nown c b hc z
    ·rw [hc] at z; cases z; exact hb rfl
end
structure Un (fs ex : List Addr) (H H' : Hp) (h h' : Heap) : Prop where
 keep : ∀ b o, h.get? b = some o → H b = none → b ∉ fs → b ∉ ex → h'.get? b = some o
 slot : ∀ b o, h.get? b = some o → H b = none → b ∈ fs → b ∉ ex → ∃ sl, h'.get? b = some { o with slots := sl }
 free : ∀ b o, h.get? b = some o → H b = none → b ∉ ex → H' b = none
 there : ∀ b o, h.get? b = some o → b ∉ ex → ∃ o', h'.get? b = some o'
 tups : ∀ b xs, H b = some (.tup xs) → H' b = some (.tup xs)
 frzs : ∀ b o u, H b = some (.frz o u) → H' b = some (.frz o u)
 tbls : ∀ b ps, H b = some (.tbl ps) → ∃ more, H' b = some (.tbl (ps ++ more))
section
variable {fs fs' ex ex' : List Addr} {H H1 H2 : Hp} {h h1 h2 h' : Heap} {a x e : Addr} {o : HO}
theorem Un.any (u : Un fs ex H H1 h h1) {b : Addr} {ob : Obj} (q : h.get? b = some ob) (n : H b = none) (hx : b ∉ ex) : ∃ sl, h1.get? b = some { ob with slots := sl } := by
 by_cases hb : b ∈ fs
 ·exact u.slot b ob q n hb hx
 ·exact ⟨ob.slots, u.keep b ob q n hb hx⟩
theorem Un.kept (k : ∀ b u, h.get? b = some u → h'.get? b = some u) : Un fs ex H H h h' :=
 ⟨fun b ob q _ _ _ => k b ob q, fun b ob q _ _ _ => ⟨ob.slots, k b ob q⟩, fun _ _ _ n _ => n, fun b ob q _ => ⟨ob, k b ob q⟩, fun _ _ q => q, fun _ _ _ q => q, fun _ ps q => ⟨#[], by rw [q]; simp⟩⟩
theorem Un.refl : Un fs ex H H h h := Un.kept fun _ _ q => q
theorem Un.laid (k : ∀ b u, h.get? b = some u → h'.get? b = some u) (hp : h.objs.size ≤ a) (hn : H a = none) : Un fs ex H (upd H a o) h h' where
 keep := fun b u q _ _ _ => k b u q
 slot := fun b u q _ _ _ => ⟨u.slots, k b u q⟩
 free := fun b u q n _ => by rw [upd_ne (Nat.ne_of_lt (Nat.lt_of_lt_of_le (Heap.lt_size q) hp))]; exact n
 there := fun b u q _ => ⟨u, k b u q⟩
 tups := fun b xs q => by rw [upd_ne (ne_of_none q hn)]; exact q
 frzs := fun b u xs q => by rw [upd_ne (ne_of_none q hn)]; exact q
 tbls := fun b ps q => ⟨#[], by rw [upd_ne (ne_of_none q hn), q]; simp⟩
theorem Un.write (mu : Mut (H x)) (he : e = x ∨ H e = some (.own x)) (k : ∀ b u, b ≠ e → h.get? b = some u → h'.get? b = some u) (heo : ∃ u, h'.get? e = some u) : Un fs ex H (upd H x o) h h' := by
 have hx : ∀ b, H b = none → b ≠ x := fun b n z => by subst z; rw [n] at mu; exact mu
 have hb : ∀ b, H b = none → b ≠ e := fun b n z => by
  subst z
  rcases he with r | r
  ·exact hx b n r
  ·rw [n] at r; cases r
 have hm : ∀ b u, H b = some u → ¬ Mut (some u) → b ≠ x := fun b u q nm z => by subst z; rw [q] at mu; exact nm mu
 refine ⟨fun b u q n _ _ => k b u (hb b n) q, fun b u q n _ _ => ⟨u.slots, k b u (hb b n) q⟩, fun b u q n _ => by rw [upd_ne (hx b n)]; exact n, fun b u q _ => ?_,
  fun b xs q => by rw [upd_ne (hm b _ q fun z => z)]; exact q, fun b u xs q => by rw [upd_ne (hm b _ q fun z => z)]; exact q, fun b ps q => ⟨#[], by rw [upd_ne (hm b _ q fun z => z), q]; simp⟩⟩
 by_cases hbe : b = e
 ·subst hbe; exact heo
 ·exact ⟨u, k b u hbe q⟩
end
noncomputable def trk (h : Heap) (H : Hp) : List Addr := (List.range h.objs.size).filter fun a => (H a).isSome
noncomputable def hidT (h : Heap) (H : Hp) : Heap := PySem.W.hideAll h (trk h H)
theorem hidT_size (h : Heap) (H : Hp) : (hidT h H).objs.size = h.objs.size := PySem.W.hideAll_size _ _
theorem hidT_get {h : Heap} {H : Hp} {b : Addr} {o : Obj} (e : h.get? b = some o) (n : H b = none) : (hidT h H).get? b = some o :=
 PySem.W.hideAll_get _ e fun hm => by
  have q : (H b).isSome = true := (List.mem_filter.mp hm).2
  rw [n] at q; simp at q
theorem of_hidT {h : Heap} {H : Hp} {b : Addr} {o : Obj} (e : (hidT h H).get? b = some o) : h.get? b = some o ∧ H b = none := by
 have e' : h.get? b = some o := PySem.W.of_hideAll (trk h H) e
 refine ⟨e', ?_⟩
 cases q : H b with
 | none => rfl
 | some x =>
  have hm : b ∈ trk h H := List.mem_filter.mpr ⟨List.mem_range.mpr (Heap.lt_size e'), by simp [q]⟩
  have z : (hidT h H).get? b = none := PySem.W.hideAll_none (trk h H) hm
  rw [z] at e; cases e
noncomputable def allNews (g h : Heap) (L : Addr) : List (Addr × Obj) := (List.range h.objs.size).filterMap fun a => if a = L ∨ (g.get? a).isSome = true then none else (h.get? a).map fun o => (a, o)
noncomputable def rest (g h : Heap) (L d : Addr) : List (Addr × Obj) := (allNews g h L).filter fun p => decide (p.1 ≠ d)
end L2
namespace L2
open PySem PySem.Spec PyProof.Rows
structure Mod (K : PySem.W.Frag) (mg : Str → Option Value) (base : Heap) : Prop where
 kin : K.In base
 glob : base.Ns mainGlobals mg
 blt : ∃ mb, base.Ns builtinsNs mb ∧ ∀ x : Str, x ≠ "__name__" → mb x = bootBuiltins x
 nolimit : base.NoLimit
structure Cx where
 prog : Program
 w : World
 K : PySem.W.Frag
 mg : Str → Option Value
 base : Heap
 A : Around
 N : List Str
 s₀ : Shared
 H₀ : Hp
 env : Env
 outer : List Env
 stack : List Env
 ex : List Addr
 fn : Str → Bool
 calm : Bool
 pn : List (Addr × Obj)
 xe : Value → Shared → Prop
noncomputable def frs (l : List Env) : List Addr := l.filterMap (·.frame)
noncomputable abbrev Cx.fs (X : Cx) : List Addr := frs X.outer
noncomputable def Vis (sc : Scope) (x : Str) : Prop := sc.names.lookup x = some .local ∨ sc.names.lookup x = some .cell ∨ sc.names.lookup x = some .free
noncomputable def Loc (sc : Scope) (x : Str) : Prop := sc.names.lookup x = some .local ∨ sc.names.lookup x = some .cell
noncomputable def Look (env : Env) (h : Heap) (m : Str → Option Value) (x : Str) (u : Value) : Prop :=
 (env.kindOf x = some .local ∧ m x = some u) ∨ ((env.kindOf x = some .cell ∨ env.kindOf x = some .free) ∧ ∃ c, env.cells.lookup x = some c ∧ h.IsCell c (some u))
structure Cx.Ok (X : Cx) : Prop where
 mod : Mod X.K X.mg X.base
 kind : X.env.scope.kind = .function
 glob : X.env.globals = mainGlobals
 blt : X.env.builtins = builtinsNs
 above : X.s₀.heap.objs.size ≤ X.env.locals
 inj : ∀ x y c, X.env.cells.lookup x = some c → X.env.cells.lookup y = some c → x = y
 has : ∀ x, (X.env.kindOf x = some .cell ∨ X.env.kindOf x = some .free) → ∃ c, X.env.cells.lookup x = some c
 cab : ∀ x c, X.fn x = true → X.env.cells.lookup x = some c → X.s₀.heap.objs.size ≤ c
 hd : X.calm = true → X.A.handled = none
 frames : X.A.frames = some X.stack
 stk : X.stack = X.outer ∨ (X.stack = X.env :: X.outer ∧ X.env.frame = some X.env.locals)
 exf : ∀ b ∈ X.ex, b ≠ X.env.locals ∧ ∀ x c, X.env.cells.lookup x = some c → c ≠ b
 bs : ∀ b o, X.base.get? b = some o → X.s₀.heap.get? b = some o ∧ X.H₀ b = none
 bsz : X.base.objs.size ≤ X.s₀.heap.objs.size
 noex : ∀ b o, X.base.get? b = some o → b ∉ X.ex
 exfs : ∀ b ∈ X.ex, b ∉ X.fs
 funs : X.s₀.heap.FunFrames X.base X.outer
 frf : ∀ b ∈ X.fs, X.H₀ b = none
structure Inv (X : Cx) (pins : List (Addr × Obj)) (σ : List (Option V)) (H : Hp) (s : Shared) : Prop where
 ok : X.Ok
 os : s.os = X.s₀.os
 bare : AllBare s.gens
 base : Un X.fs X.ex X.H₀ H X.s₀.heap s.heap
 loc : ∃ m, s.heap.Ns X.env.locals m ∧ ∀ (i : Nat) (x : Str) (v : V), X.N[i]? = some x → σ[i]? = some (some v) → Vis X.env.scope x → ∃ u, RelV v u ∧ Look X.env s.heap m x u
 cell : ∀ x c, X.env.cells.lookup x = some c → ∃ v, s.heap.IsCell c v
 free : H X.env.locals = none
 freeC : ∀ x c, X.env.cells.lookup x = some c → H c = none
 pin : ∀ p ∈ X.pn ++ pins, s.heap.get? p.1 = some p.2 ∧ H p.1 = none ∧ p.1 ≠ X.env.locals ∧ p.1 ∉ X.fs ∧ ∀ v, p.2.data ≠ .cell v
 hok : HOk X.prog X.w H s.heap
 len : σ.length = X.N.length
section
variable {X : Cx} {pins : List (Addr × Obj)} {σ : List (Option V)} {H H' : Hp} {s : Shared} {h' : Heap}
theorem Cx.Ok.nofr (ok : X.Ok) {b : Addr} {o : Obj} (e : X.base.get? b = some o) : b ∉ X.fs := fun hb => by
 have := (ok.funs.mem hb).1
 rw [e] at this; cases this
theorem Inv.bs (I : Inv X pins σ H s) : ∀ b o, X.base.get? b = some o → s.heap.get? b = some o ∧ H b = none := fun b o e =>
 ⟨I.base.keep b o (I.ok.bs b o e).1 (I.ok.bs b o e).2 (I.ok.nofr e) (I.ok.noex b o e), I.base.free b o (I.ok.bs b o e).1 (I.ok.bs b o e).2 (I.ok.noex b o e)⟩
theorem Inv.bk (I : Inv X pins σ H s) : ∀ b o, X.base.get? b = some o → s.heap.get? b = some o := fun b o e => (I.bs b o e).1
theorem Inv.mod (I : Inv X pins σ H s) : Mod X.K X.mg X.base := I.ok.mod
theorem Inv.kIn (I : Inv X pins σ H s) : X.K.In s.heap := I.ok.mod.kin.keeps I.bk
theorem Inv.lt (I : Inv X pins σ H s) : X.env.locals < s.heap.objs.size := let ⟨_, hn, _⟩ := I.loc; hn.lt
theorem Inv.sz (I : Inv X pins σ H s) : X.s₀.heap.objs.size ≤ s.heap.objs.size := Nat.le_trans I.ok.above (Nat.le_of_lt I.lt)
theorem Inv.nofs (I : Inv X pins σ H s) {a : Addr} (h : s.heap.objs.size ≤ a) : a ∉ X.fs := fun hb => by
 obtain ⟨_, o, ho, _⟩ := I.ok.funs.mem hb
 exact absurd (Nat.lt_of_lt_of_le (Heap.lt_size ho) (Nat.le_trans I.sz h)) (Nat.lt_irrefl _)
theorem Inv.cne (I : Inv X pins σ H s) : ∀ x c, X.env.cells.lookup x = some c → c ≠ X.env.locals := fun x c e z => by
 obtain ⟨v, o, ho, hd⟩ := I.cell x c e
 obtain ⟨m, ⟨o', es, ep, ho', hd', _⟩, _⟩ := I.loc
 rw [z, ho'] at ho; cases ho; rw [hd'] at hd; cases hd
theorem Inv.funs (I : Inv X pins σ H s) : s.heap.FunFrames X.base X.outer := by
 have all : ∀ (l : List Env), (∀ b ∈ frs l, b ∈ X.fs) → X.s₀.heap.FunFrames X.base l → s.heap.FunFrames X.base l := by
  intro l
  induction l with
  | nil => intro _ _; trivial
  | cons env r ih =>
   intro hs hl
   obtain ⟨hk, ⟨L, o, hf, hn, ho, hd⟩, hr⟩ := hl
   have hL : L ∈ X.fs := hs L (by unfold frs; rw [List.filterMap_cons, hf]; exact List.mem_cons_self)
   obtain ⟨sl, e⟩ := I.base.slot L o ho (I.ok.frf L hL) hL fun z => I.ok.exfs L z hL
   exact ⟨hk, ⟨L, _, hf, hn, e, hd⟩, ih (fun b hb => hs b (by unfold frs; rw [List.filterMap_cons, hf]; exact List.mem_cons_of_mem _ hb)) hr⟩
 exact all X.outer (fun _ hb => hb) I.ok.funs
theorem Inv.stack (I : Inv X pins σ H s) : s.heap.FunFrames X.base X.stack := by
 rcases I.ok.stk with e | ⟨e, hf⟩
 ·rw [e]; exact I.funs
 ·rw [e]
  obtain ⟨m, hn, _⟩ := I.loc
  refine .cons (by rw [I.ok.kind]; decide) hf hn ?_ I.funs
  exact Heap.get?_none_of_le (Nat.le_trans I.ok.bsz I.ok.above)
theorem Inv.stkSub (I : Inv X pins σ H s) : ∀ b ∈ frs X.stack, b ∈ X.env.locals :: X.fs := fun b hb => by
 rcases I.ok.stk with e | ⟨e, hf⟩
 ·rw [e] at hb; exact List.mem_cons_of_mem _ hb
 ·rw [e] at hb
  unfold frs at hb
  rw [List.filterMap_cons, hf] at hb
  exact hb
theorem Inv.stkFree (I : Inv X pins σ H s) : ∀ b ∈ frs X.stack, H b = none := fun b hb => by
 rcases List.mem_cons.mp (I.stkSub b hb) with e | hb
 ·rw [e]; exact I.free
 ·obtain ⟨_, o, ho, _⟩ := I.ok.funs.mem hb
  exact I.base.free b o ho (I.ok.frf b hb) fun z => I.ok.exfs b z hb
theorem Inv.step {g' : Array GenState} {t' : Nat} {d' : Drawn} {ch : List Addr} (I : Inv X pins σ H s)
  (hch : ∀ b ∈ ch, (b ∈ X.ex ∨ X.s₀.heap.objs.size ≤ b) ∧ b ≠ X.env.locals ∧ (∀ x c, X.env.cells.lookup x = some c → c ≠ b) ∧ ∀ p ∈ X.pn ++ pins, p.1 ≠ b)
  (keep : ∀ b o, b ≠ X.env.locals → b ∉ X.fs → b ∉ ch → s.heap.get? b = some o → H b = none → h'.get? b = some o)
  (slot : ∀ b o, b ≠ X.env.locals → b ∈ X.fs → b ∉ ch → s.heap.get? b = some o → H b = none → ∃ sl, h'.get? b = some { o with slots := sl }) (free : ∀ b o, b ∉ ch → s.heap.get? b = some o → H b = none → H' b = none)
  (there : ∀ b o, b ∉ ch → s.heap.get? b = some o → ∃ o', h'.get? b = some o')
  (tups : ∀ b xs, H b = some (.tup xs) → H' b = some (.tup xs)) (frzs : ∀ b o u, H b = some (.frz o u) → H' b = some (.frz o u)) (tbls : ∀ b ps, H b = some (.tbl ps) → ∃ more, H' b = some (.tbl (ps ++ more)))
  (ns : ∀ m, s.heap.Ns X.env.locals m → h'.Ns X.env.locals m) (hok : HOk X.prog X.w H' h') (hg : AllBare g') :
  Inv X pins σ H' { s with heap := h', gens := g', drawn := d', toks := t' } := by
 have neL : ∀ b o, X.s₀.heap.get? b = some o → b ≠ X.env.locals := fun b o e => Nat.ne_of_lt (Nat.lt_of_lt_of_le (Heap.lt_size e) I.ok.above)
 have neC : ∀ b o, X.s₀.heap.get? b = some o → b ∉ X.ex → b ∉ ch := fun b o e hx hb => by
  rcases (hch b hb).1 with z | z
  ·exact hx z
  ·exact absurd (Nat.lt_of_lt_of_le (Heap.lt_size e) z) (Nat.lt_irrefl _)
 have cellK : ∀ x c, X.env.cells.lookup x = some c → ∀ v, s.heap.IsCell c v → h'.IsCell c v := fun x c e v ⟨o, ho, hd⟩ => by
  have nch : c ∉ ch := fun z => (hch c z).2.2.1 x c e rfl
  by_cases hc : c ∈ X.fs
  ·obtain ⟨sl, q⟩ := slot c o (I.cne x c e) hc nch ho (I.freeC x c e)
   exact ⟨_, q, hd⟩
  ·exact ⟨o, keep c o (I.cne x c e) hc nch ho (I.freeC x c e), hd⟩
 refine ⟨I.ok, I.os, hg, ⟨fun b o e n hb hx => ?_, fun b o e n hb hx => ?_, fun b o e n hx => ?_, fun b o e hx => ?_, fun b xs e => tups b xs (I.base.tups b xs e), fun b o xs e => frzs b o xs (I.base.frzs b o xs e), fun b ps e => ?_⟩, ?_, fun x c e => ?_, ?_, fun x c e => ?_, fun p hp => ?_, hok, I.len⟩
 ·exact keep b o (neL b o e) hb (neC b o e hx) (I.base.keep b o e n hb hx) (I.base.free b o e n hx)
 ·obtain ⟨sl, e1⟩ := I.base.slot b o e n hb hx
  obtain ⟨sl', e2⟩ := slot b _ (neL b o e) hb (neC b o e hx) e1 (I.base.free b o e n hx)
  exact ⟨sl', e2⟩
 ·obtain ⟨o', e1⟩ := I.base.there b o e hx
  exact free b o' (neC b o e hx) e1 (I.base.free b o e n hx)
 ·obtain ⟨o', e1⟩ := I.base.there b o e hx
  exact there b o' (neC b o e hx) e1
 ·obtain ⟨m1, e1⟩ := I.base.tbls b ps e
  obtain ⟨m2, e2⟩ := tbls b _ e1
  exact ⟨m1 ++ m2, by rw [e2, Array.append_assoc]⟩
 ·obtain ⟨m, hn, hl⟩ := I.loc
  refine ⟨m, ns m hn, fun i x v e1 e2 e3 => ?_⟩
  obtain ⟨u, r, l⟩ := hl i x v e1 e2 e3
  refine ⟨u, r, ?_⟩
  rcases l with l | ⟨k, c, e, z⟩
  ·exact .inl l
  ·exact .inr ⟨k, c, e, cellK x c e _ z⟩
 ·obtain ⟨v, z⟩ := I.cell x c e
  exact ⟨v, cellK x c e v z⟩
 ·obtain ⟨m, ⟨o, _, _, ho, _⟩, _⟩ := I.loc
  exact free _ o (fun z => (hch _ z).2.1 rfl) ho I.free
 ·obtain ⟨v, o, ho, hd⟩ := I.cell x c e
  exact free c o (fun z => (hch c z).2.2.1 x c e rfl) ho (I.freeC x c e)
 ·obtain ⟨e, n, ne, nf, d⟩ := I.pin p hp
  have nch : p.1 ∉ ch := fun z => (hch p.1 z).2.2.2 p hp rfl
  exact ⟨keep p.1 p.2 ne nf nch e n, free p.1 p.2 nch e n, ne, nf, d⟩
theorem Inv.un {t' : Nat} (I : Inv X pins σ H s) (u : Un X.fs [] H H' s.heap h') (hok : HOk X.prog X.w H' h') : Inv X pins σ H' { s with heap := h', toks := t' } := by
 obtain ⟨m, ⟨o, es, ep, ho, r⟩, _⟩ := id I.loc
 obtain ⟨sl, hL⟩ := u.any ho I.free (by simp)
 exact I.step (g' := s.gens) (d' := s.drawn) (ch := []) (fun _ z => nomatch z) (fun b o _ hb _ e n => u.keep b o e n hb (by simp)) (fun b o _ hb _ e n => u.slot b o e n hb (by simp)) (fun b o _ e n => u.free b o e n (by simp)) (fun b o _ e => u.there b o e (by simp)) u.tups u.frzs u.tbls (fun m' hm => by
  obtain ⟨o', es', ep', ho', r'⟩ := hm
  rw [ho] at ho'; cases ho'
  exact ⟨_, es', ep', hL, r'⟩) hok I.bare
theorem Inv.call {g' : Array GenState} {t' : Nat} {d' : Drawn} {ch : List Addr} (I : Inv X pins σ H s) (u : Un (frs X.stack) ch H H' s.heap h') (hok : HOk X.prog X.w H' h') (hg : AllBare g')
  (hch : ∀ b ∈ ch, (b ∈ X.ex ∨ X.s₀.heap.objs.size ≤ b) ∧ b ≠ X.env.locals ∧ (∀ x c, X.env.cells.lookup x = some c → c ≠ b) ∧ ∀ p ∈ X.pn ++ pins, p.1 ≠ b) :
  Inv X pins σ H' { s with heap := h', gens := g', drawn := d', toks := t' } := by
 obtain ⟨m, ⟨o, es, ep, ho, r⟩, _⟩ := id I.loc
 obtain ⟨sl, hL⟩ := u.any ho I.free fun z => (hch _ z).2.1 rfl
 exact I.step (ch := ch) hch (fun b o hL hb hc e n => u.keep b o e n (fun z => (List.mem_cons.mp (I.stkSub b z)).elim hL hb) hc) (fun b o _ _ hc e n => u.any e n hc) (fun b o hc e n => u.free b o e n hc) (fun b o hc e => u.there b o e hc) u.tups u.frzs u.tbls (fun m' hm => by
  obtain ⟨o', es', ep', ho', r'⟩ := hm
  rw [ho] at ho'; cases ho'
  exact ⟨_, es', ep', hL, r'⟩) hok hg
theorem Inv.turned {t' : Nat} {it : Addr} (I : Inv X pins σ H s) (k : ∀ b o, b ≠ it → s.heap.get? b = some o → h'.get? b = some o) (hn : H it = none) (hL : it ≠ X.env.locals)
  (h1 : it ∈ X.ex ∨ X.s₀.heap.objs.size ≤ it) (h2 : ∀ x c, X.env.cells.lookup x = some c → c ≠ it) (h3 : ∀ p ∈ X.pn ++ pins, p.1 ≠ it) : Inv X pins σ H { s with heap := h', toks := t' } := by
 have nit : ∀ b u, H b = some u → b ≠ it := fun b u e z => by rw [z, hn] at e; cases e
 refine I.step (g' := s.gens) (d' := s.drawn) (ch := [it]) (fun b hb => ?_) (fun b o _ _ hc e _ => k b o (fun z => hc (by simp [z])) e) (fun b o _ _ hc e _ => ⟨o.slots, k b o (fun z => hc (by simp [z])) e⟩) (fun _ _ _ _ n => n)
  (fun b o hc e => ⟨o, k b o (fun z => hc (by simp [z])) e⟩) (fun _ _ e => e) (fun _ _ _ e => e) (fun b ps e => ⟨#[], by rw [e]; simp⟩) (fun m hm => ?_) (fun b u e => ?_) I.bare
 ·have e : b = it := by simpa using hb
  subst e
  exact ⟨h1, hL, h2, h3⟩
 ·obtain ⟨o, es, ep, ho, r⟩ := hm
  exact ⟨o, es, ep, k _ o (Ne.symm hL) ho, r⟩
 ·refine (I.hok b u e).stay (fun c v hc q => k c v ?_ q) (fun _ q => q) fun _ _ q => q
  rcases hc with z | z
  ·rw [z]; exact nit b u e
  ·exact nit c _ z
theorem Inv.tok (I : Inv X pins σ H s) (t : Nat) : Inv X pins σ H { s with toks := t } := I.un (h' := s.heap) (t' := t) Un.refl I.hok
theorem Inv.kept {t' : Nat} (I : Inv X pins σ H s) (k : ∀ b u, s.heap.get? b = some u → h'.get? b = some u) : Inv X pins σ H { s with heap := h', toks := t' } := I.un (Un.kept k) (I.hok.kept k)
theorem Inv.laid {a : Addr} {o : HO} {t' : Nat} (I : Inv X pins σ H s) (k : ∀ b u, s.heap.get? b = some u → h'.get? b = some u) (hp : s.heap.objs.size ≤ a) (new : ObjOk X.prog X.w (upd H a o) h' a o) :
  Inv X pins σ (upd H a o) { s with heap := h', toks := t' } := I.un (Un.laid k hp (I.hok.fresh hp)) (I.hok.laid k hp new)
theorem Inv.write {x e : Addr} {o : HO} {t' : Nat} (I : Inv X pins σ H s) (mu : Mut (H x)) (he : e = x ∨ H e = some (.own x)) (k : ∀ b u, b ≠ e → s.heap.get? b = some u → h'.get? b = some u) (heo : ∃ u, h'.get? e = some u)
  (new : ObjOk X.prog X.w (upd H x o) h' x o) : Inv X pins σ (upd H x o) { s with heap := h', toks := t' } := I.un (Un.write mu he k heo) (I.hok.write mu he k heo new)
theorem Inv.weak {σ' : List (Option V)} (I : Inv X pins σ H s) (hl : σ'.length = σ.length) (w : ∀ (i : Nat) v, σ'[i]? = some (some v) → σ[i]? = some (some v)) : Inv X pins σ' H s :=
 ⟨I.ok, I.os, I.bare, I.base, let ⟨m, hn, hl'⟩ := I.loc; ⟨m, hn, fun i x v e1 e2 e3 => hl' i x v e1 (w i v e2) e3⟩, I.cell, I.free, I.freeC, I.pin, I.hok, hl.trans I.len⟩
theorem Inv.pins_of {pins' : List (Addr × Obj)} (I : Inv X pins σ H s) (h : ∀ p ∈ pins', s.heap.get? p.1 = some p.2 ∧ H p.1 = none ∧ p.1 ≠ X.env.locals ∧ p.1 ∉ X.fs ∧ ∀ v, p.2.data ≠ .cell v) : Inv X pins' σ H s :=
 ⟨I.ok, I.os, I.bare, I.base, I.loc, I.cell, I.free, I.freeC, fun p hp => (List.mem_append.mp hp).elim (fun z => I.pin p (List.mem_append_left _ z)) (h p), I.hok, I.len⟩
theorem nodup_ix {N : List Str} (hN : N.Nodup) {i j : Nat} {x : Str} (a : N[i]? = some x) (b : N[j]? = some x) : i = j := by
 obtain ⟨h1, e1⟩ := List.getElem?_eq_some_iff.mp a
 obtain ⟨h2, e2⟩ := List.getElem?_eq_some_iff.mp b
 exact (List.getElem_inj hN).mp (e1.trans e2.symm)
theorem store_ok2 {M : Model} {A : Around} {E : Value → Shared → Prop} {i : Nat} {x : Str} {v : V} {u : Value} {Q : Unit → Shared → Prop} (I : Inv X pins σ H s) (hN : X.N.Nodup) (hi : X.N[i]? = some x) (hx : Loc X.env.scope x) (r : RelV v u)
  (h : ∀ s', Inv X pins (σ.set i (some v)) H s' → (∃ a, Heap.SameBut a s.heap s'.heap ∧ (a = X.env.locals ∨ X.env.cells.lookup x = some a)) → Q () s') (hf : X.fn x = true ∨ X.env.scope.names.lookup x = some .local := by first | exact .inl rfl | exact .inr rfl | assumption) : wpAny M A (storeName X.env x u) Q E s := by
 obtain ⟨m, hn, hl⟩ := id I.loc
 have hcls : (X.env.scope.kind == .class || (X.env.scope.kind == .module && X.env.locals != X.env.globals)) = false := by rw [I.ok.kind]; rfl
 have hiσ : i < σ.length := by rw [I.len]; exact (List.getElem?_eq_some_iff.mp hi).1
 have cne := I.cne
 have tracked : ∀ {a : Addr} {h' : Heap}, (∃ o, s.heap.get? a = some o ∧ H a = none) → Heap.SameBut a s.heap h' → HOk X.prog X.w H h' := fun {a h'} ha hs b ob e => by
  obtain ⟨_, _, hfree⟩ := ha
  refine (I.hok b ob e).stay (fun c w' hc q => (hs.2 c ?_).trans q) (fun _ q => q) fun _ _ q => q
  rintro rfl
  rcases hc with rfl | hc
  ·rw [hfree] at e; cases e
  ·rw [hfree] at hc; cases hc
 rcases hx with hk | hk
 ·refine wpAny_storeName_local hk hn (fun h' hn' hs => ?_) hcls
  obtain ⟨oL, _, _, hoL, _⟩ := id hn
  refine h _ ⟨I.ok, I.os, I.bare, ⟨fun b o e n hb hx => ?_, fun b o e n hb hx => ?_, I.base.free, fun b o e hx => ?_, I.base.tups, I.base.frzs, I.base.tbls⟩, ⟨_, hn', fun j y v' e1 e2 e3 => ?_⟩, fun y c e => ?_, I.free, I.freeC, fun p hp => ?_, tracked ⟨oL, hoL, I.free⟩ hs, by simpa using I.len⟩ ⟨_, hs, .inl rfl⟩
  ·exact (hs.2 b (Nat.ne_of_lt (Nat.lt_of_lt_of_le (Heap.lt_size e) I.ok.above))).trans (I.base.keep b o e n hb hx)
  ·obtain ⟨sl, e1⟩ := I.base.slot b o e n hb hx
   exact ⟨sl, (hs.2 b (Nat.ne_of_lt (Nat.lt_of_lt_of_le (Heap.lt_size e) I.ok.above))).trans e1⟩
  ·obtain ⟨o', e1⟩ := I.base.there b o e hx
   exact ⟨o', (hs.2 b (Nat.ne_of_lt (Nat.lt_of_lt_of_le (Heap.lt_size e) I.ok.above))).trans e1⟩
  ·by_cases hj : j = i
   ·subst hj
    rw [hi] at e1; cases e1
    rw [List.getElem?_set_self hiσ] at e2
    cases e2
    exact ⟨u, r, .inl ⟨hk, by simp⟩⟩
   ·rw [List.getElem?_set_ne (Ne.symm hj)] at e2
    obtain ⟨u', r', q⟩ := hl j y v' e1 e2 e3
    refine ⟨u', r', ?_⟩
    rcases q with ⟨k, e⟩ | ⟨k, c, e, z⟩
    ·refine .inl ⟨k, ?_⟩
     have : y ≠ x := fun e => hj (nodup_ix hN e1 (e ▸ hi))
     simp [this, e]
    ·exact .inr ⟨k, c, e, z.sameBut hs (cne y c e)⟩
  ·obtain ⟨w', z⟩ := I.cell y c e
   exact ⟨w', z.sameBut hs (cne y c e)⟩
  ·obtain ⟨e, n, ne, nf, d⟩ := I.pin p hp
   exact ⟨(hs.2 p.1 ne).trans e, n, ne, nf, d⟩
 ·have hfn : X.fn x = true := by
   rcases hf with z | z
   ·exact z
   ·rw [z] at hk; cases hk
  obtain ⟨c, hc⟩ := I.ok.has x (.inl hk)
  obtain ⟨w', z⟩ := I.cell x c hc
  refine wpAny_storeName_cell I.ok.kind hk hc z (fun h' hc' hs => ?_)
  obtain ⟨oc, hoc, hocd⟩ := id z
  refine h { s with heap := h' } ⟨I.ok, I.os, I.bare, ⟨fun b o e n hb hx => ?_, fun b o e n hb hx => ?_, I.base.free, fun b o e hx => ?_, I.base.tups, I.base.frzs, I.base.tbls⟩, ⟨m, hn.sameBut hs (Ne.symm (cne x c hc)), fun j y v' e1 e2 e3 => ?_⟩, fun y c' e => ?_, I.free, I.freeC, fun p hp => ?_, tracked ⟨oc, hoc, I.freeC x c hc⟩ hs, by simpa using I.len⟩ ⟨c, hs, .inr hc⟩
  ·exact (hs.2 b (Nat.ne_of_lt (Nat.lt_of_lt_of_le (Heap.lt_size e) (I.ok.cab x c hfn hc)))).trans (I.base.keep b o e n hb hx)
  ·obtain ⟨sl, e1⟩ := I.base.slot b o e n hb hx
   exact ⟨sl, (hs.2 b (Nat.ne_of_lt (Nat.lt_of_lt_of_le (Heap.lt_size e) (I.ok.cab x c hfn hc)))).trans e1⟩
  ·obtain ⟨o', e1⟩ := I.base.there b o e hx
   exact ⟨o', (hs.2 b (Nat.ne_of_lt (Nat.lt_of_lt_of_le (Heap.lt_size e) (I.ok.cab x c hfn hc)))).trans e1⟩
  ·by_cases hj : j = i
   ·subst hj
    rw [hi] at e1; cases e1
    rw [List.getElem?_set_self hiσ] at e2
    cases e2
    exact ⟨u, r, .inr ⟨.inl hk, c, hc, hc'⟩⟩
   ·rw [List.getElem?_set_ne (Ne.symm hj)] at e2
    obtain ⟨u', r', q⟩ := hl j y v' e1 e2 e3
    refine ⟨u', r', ?_⟩
    rcases q with q | ⟨k, c', e, z'⟩
    ·exact .inl q
    ·refine .inr ⟨k, c', e, z'.sameBut hs ?_⟩
     rintro rfl
     exact hj (nodup_ix hN e1 (I.ok.inj _ _ _ e hc ▸ hi))
  ·by_cases hcc : c' = c
   ·subst hcc; exact ⟨_, hc'⟩
   ·obtain ⟨w2, z2⟩ := I.cell y c' e
    exact ⟨w2, z2.sameBut hs hcc⟩
  ·obtain ⟨e, n, ne, nf, d⟩ := I.pin p hp
   refine ⟨(hs.2 p.1 ?_).trans e, n, ne, nf, d⟩
   intro q
   rw [q, hoc] at e
   have q' : oc = p.2 := Option.some.inj e
   exact d w' (by rw [← q']; exact hocd)
theorem store_ok {M : Model} {A : Around} {E : Value → Shared → Prop} {i : Nat} {x : Str} {v : V} {u : Value} {Q : Unit → Shared → Prop} (I : Inv X pins σ H s) (hN : X.N.Nodup) (hi : X.N[i]? = some x) (hx : Loc X.env.scope x) (r : RelV v u)
  (h : ∀ s', Inv X pins (σ.set i (some v)) H s' → Q () s') (hf : X.fn x = true ∨ X.env.scope.names.lookup x = some .local := by first | exact .inl rfl | exact .inr rfl | assumption) : wpAny M A (storeName X.env x u) Q E s :=
 store_ok2 I hN hi hx r (fun s' I' _ => h s' I') hf
theorem Inv.call' {s' : Shared} {ch : List Addr} (I : Inv X pins σ H s) (ho : s'.os = s.os) (u : Un (frs X.stack) ch H H' s.heap s'.heap) (hok : HOk X.prog X.w H' s'.heap) (hg : AllBare s'.gens)
  (hch : ∀ b ∈ ch, (b ∈ X.ex ∨ X.s₀.heap.objs.size ≤ b) ∧ b ≠ X.env.locals ∧ (∀ x c, X.env.cells.lookup x = some c → c ≠ b) ∧ ∀ p ∈ X.pn ++ pins, p.1 ≠ b) : Inv X pins σ H' s' := by
 obtain ⟨h', g', d', t', o'⟩ := s'
 have e : o' = s.os := ho
 subst e
 exact I.call (g' := g') (t' := t') (d' := d') u hok hg hch
end
noncomputable abbrev XK := Value → Option Addr → Hp → Prop
noncomputable abbrev St := List (Option V)
noncomputable abbrev VK := V → Hp → Prop
noncomputable abbrev TE := St → Hp → VK → Prop
noncomputable abbrev TT := St → Hp → (Bool → Hp → Prop) → Prop
noncomputable abbrev TA := St → Hp → (List V → Hp → Prop) → Prop
structure Ends where
 nx : St → Hp → Prop
 rt : VK
 bk : St → Hp → Prop := fun _ _ => False
 ct : St → Hp → Prop := fun _ _ => False
noncomputable abbrev TS := Ends → St → Hp → Prop
noncomputable def EP (X : Cx) (pins : List (Addr × Obj)) (σ : St) (Q : VK) (u : Value) (s' : Shared) : Prop := ∃ v H', Inv X pins σ H' s' ∧ RelV v u ∧ Q v H'
noncomputable def TP (X : Cx) (pins : List (Addr × Obj)) (σ : St) (Q : Bool → Hp → Prop) (b : Bool) (s' : Shared) : Prop := ∃ H', Inv X pins σ H' s' ∧ Q b H'
noncomputable def AP (X : Cx) (pins : List (Addr × Obj)) (σ : St) (Q : List V → Hp → Prop) (us : List Value) (s' : Shared) : Prop := ∃ vs H', Inv X pins σ H' s' ∧ Vals vs us ∧ Q vs H'
noncomputable def SP (X : Cx) (pins : List (Addr × Obj)) (D : Ends) (f : Flow) (s' : Shared) : Prop :=
 match f with
 | .next => ∃ σ' H', Inv X pins σ' H' s' ∧ D.nx σ' H'
 | .brk => ∃ σ' H', Inv X pins σ' H' s' ∧ D.bk σ' H'
 | .cont => ∃ σ' H', Inv X pins σ' H' s' ∧ D.ct σ' H'
 | .ret u => ∃ v σ' H', Inv X pins σ' H' s' ∧ RelV v u ∧ D.rt v H'
noncomputable def PE (X : Cx) (e : Expr) (t : TE) : Prop :=
 ∀ (pins : List (Addr × Obj)) (s : Shared) (σ : St) (H : Hp) (Q : VK), Inv X pins σ H s → t σ H Q → wpAny (model X.prog X.w) X.A (eval e X.env) (EP X pins σ Q) X.xe s
noncomputable def PT (X : Cx) (e : Expr) (t : TT) : Prop :=
 ∀ (pins : List (Addr × Obj)) (s : Shared) (σ : St) (H : Hp) (Q : Bool → Hp → Prop), Inv X pins σ H s → t σ H Q → wpAny (model X.prog X.w) X.A (isTrue e X.env (eval e X.env)) (TP X pins σ Q) X.xe s
noncomputable def PW (X : Cx) (e : Expr) (t : TT) : Prop :=
 ∀ (whole : Sem Value) (pins : List (Addr × Obj)) (s : Shared) (σ : St) (H : Hp) (Q : Bool → Hp → Prop), Inv X pins σ H s → t σ H Q → wpAny (model X.prog X.w) X.A (isTrue e X.env whole) (TP X pins σ Q) X.xe s
theorem PW.pt {X : Cx} {e : Expr} {t : TT} (h : PW X e t) : PT X e t := h _
noncomputable def PA (X : Cx) (es : List Expr) (t : TA) : Prop :=
 ∀ (pos : Pos) (pins : List (Addr × Obj)) (s : Shared) (σ : St) (H : Hp) (Q : List V → Hp → Prop), Inv X pins σ H s → t σ H Q → wpAny (model X.prog X.w) X.A (spliced (backTo pos (starEach es X.env))) (AP X pins σ Q) X.xe s
noncomputable def PS (X : Cx) (st : Stmt) (t : TS) : Prop :=
 ∀ (pins : List (Addr × Obj)) (s : Shared) (σ : St) (H : Hp) (D : Ends), Inv X pins σ H s → t D σ H → wpAny (model X.prog X.w) X.A (exec st X.env) (SP X pins D) X.xe s
noncomputable def PSs (X : Cx) (st : List Stmt) (t : TS) : Prop :=
 ∀ (pins : List (Addr × Obj)) (s : Shared) (σ : St) (H : Hp) (D : Ends), Inv X pins σ H s → t D σ H → wpAny (model X.prog X.w) X.A (execs st X.env) (SP X pins D) X.xe s
theorem thn {α : Type} {t : Sem α} {Q Q' : α → Shared → Prop} {M : Model} {A : Around} {E : Value → Shared → Prop} {s : Shared} (h : wpAny M A t Q E s) (hQ : ∀ a s, Q a s → Q' a s) : wpAny M A t Q' E s := wpAny_mono h hQ fun _ _ x => x
end L2
namespace L2
open PySem PySem.Spec PyProof.Rows
section
variable {X : Cx}
noncomputable def tVar (i : Nat) : TE := fun σ H Q => ∃ v, σ[i]? = some (some v) ∧ Q v H
noncomputable def tC (v : V) : TE := fun _ H Q => Q v H
theorem pe_var {i : Nat} {x : Str} {pos : Pos} (hN : X.N[i]? = some x) (hv : Vis X.env.scope x) (hd : (x == ("__debug__" : Str)) = false := by decide) (hcd : (x == ("__classdict__" : Str)) = false := by decide) : PE X (.Name x pos) (tVar i) := by
 intro pins s σ H Q I h
 obtain ⟨v, e, h⟩ := h
 obtain ⟨m, hn, hl⟩ := I.loc
 obtain ⟨u, r, l⟩ := hl i x v hN e hv
 have fin : EP X pins σ Q u s := ⟨v, H, I, r, h⟩
 rcases l with ⟨hk, hm⟩ | ⟨hk, c, hc, hcell⟩
 ·exact wpAny_Name (wpAny_loadName_local I.ok.kind hk hn hm fin) hd
 ·rcases hk with hk | hk
  ·exact wpAny_Name (wpAny_loadName_cell I.ok.kind hk hc hcell fin) hd
  ·exact wpAny_Name (wpAny_loadName_free I.ok.kind hk hc hcell fin hcd) hd
theorem pe_int {i j pos} : PE X (.Constant (.int i) j pos) (tC (.int i)) := fun _ _ _ H _ I h => wpAny_Constant_int ⟨.int i, H, I.tok _, ⟨_, rfl⟩, h⟩
theorem pe_bl {b j pos} : PE X (.Constant (.bool b) j pos) (tC (.bl b)) := fun _ _ _ H _ I h => Constant_bool ⟨.bl b, H, I, rfl, h⟩
theorem pe_non {j pos} : PE X (.Constant .none j pos) (tC .non) := fun _ _ _ H _ I h => Constant_none ⟨.non, H, I, rfl, h⟩
theorem pe_str {x j pos} : PE X (.Constant (.str x) j pos) (tC (.str x)) := fun _ _ _ H _ I h => Calls.Constant_str ⟨.str x, H, I.tok _, ⟨_, rfl⟩, h⟩
noncomputable def Gl (X : Cx) (x : Str) : Prop := X.env.kindOf x = some .globalImplicit
theorem ld_glob {E : Value → Shared → Prop} {pins : List (Addr × Obj)} {s : Shared} {σ : St} {H : Hp} {x : Str} {u : Value} {pos : Pos} {Q : Value → Shared → Prop} (I : Inv X pins σ H s) (hg : Gl X x) (hm : X.mg x = some u) (h : Q u s)
  (hd : (x == ("__debug__" : Str)) = false := by decide) : wpAny (model X.prog X.w) X.A (eval (.Name x pos) X.env) Q E s :=
 Calls.Name_function_global I.ok.kind hg (Calls.loadGlobal_global (by rw [I.ok.glob]; exact I.mod.glob.keeps I.bk) hm h) hd
theorem ld_blt {E : Value → Shared → Prop} {pins : List (Addr × Obj)} {s : Shared} {σ : St} {H : Hp} {x : Str} {u : Value} {pos : Pos} {Q : Value → Shared → Prop} (I : Inv X pins σ H s) (hg : Gl X x) (hm : X.mg x = none) (hv : bootBuiltins x = some u) (h : Q u s)
  (hn : x ≠ "__name__" := by decide) (hd : (x == ("__debug__" : Str)) = false := by decide) : wpAny (model X.prog X.w) X.A (eval (.Name x pos) X.env) Q E s := by
 obtain ⟨mb, h1, h2⟩ := I.mod.blt
 exact Calls.Name_function_global I.ok.kind hg (Calls.loadGlobal_builtin (by rw [I.ok.glob]; exact I.mod.glob.keeps I.bk) hm (by rw [I.ok.blt]; exact h1.keeps I.bk) ((h2 x hn).trans hv) h) hd
theorem pe_glob {x : Str} {v : V} {u : Value} {pos : Pos} (hg : Gl X x) (hm : X.mg x = some u) (r : RelV v u) (hd : (x == ("__debug__" : Str)) = false := by decide) : PE X (.Name x pos) (tC v) :=
 fun _ _ _ H _ I h => ld_glob I hg hm ⟨v, H, I, r, h⟩ hd
theorem pe_bltn {x : Str} {v : V} {u : Value} {pos : Pos} (hg : Gl X x) (hm : X.mg x = none) (hv : bootBuiltins x = some u) (r : RelV v u) (hn : x ≠ "__name__" := by decide) (hd : (x == ("__debug__" : Str)) = false := by decide) : PE X (.Name x pos) (tC v) :=
 fun _ _ _ H _ I h => ld_blt I hg hm hv ⟨v, H, I, r, h⟩ hn hd
variable {a b : Expr} {ta tb : TE} {pos : Pos}
noncomputable def tB (t : TE) : TT := fun σ H Q => t σ H fun x H1 => ∃ c, x = .bl c ∧ Q c H1
theorem pt_val {e : Expr} {t : TE} (h : PE X e t) (he : ∀ whole, isTrue e X.env whole = (do let v ← whole; standAt e.pos; holding [v] (truthy v)) := by intro _; rfl) : PT X e (tB t) := by
 intro pins s σ H Q I hw
 refine isTrue_plain (thn (h pins s σ H _ I hw) fun v s1 ⟨x, H1, I1, r1, q1⟩ => ?_) (he _)
 obtain ⟨d, rfl, q⟩ := q1
 cases r1
 exact wpAny_truthy_bool ⟨H1, I1, q⟩
variable {tA tB' : TT} {rest : List Expr}
noncomputable def tAnd (t u : TT) : TT := fun σ H Q => t σ H fun c H1 => if c = true then u σ H1 Q else Q false H1
noncomputable def tOr (t u : TT) : TT := fun σ H Q => t σ H fun c H1 => if c = true then Q true H1 else u σ H1 Q
noncomputable def tNot (t : TT) : TT := fun σ H Q => t σ H fun c H1 => Q (!c) H1
theorem pw_and1 (ha : PT X a tA) : PW X (.BoolOp .And [a] pos) tA := by
 intro wh pins s σ H Q I h
 refine isTrue_and (thn (ha pins s σ H Q I h) fun c s1 e => ?_)
 cases c with
 | true => exact isTrue_and_nil e
 | false => exact e
theorem pw_or1 (ha : PT X a tA) : PW X (.BoolOp .Or [a] pos) tA := by
 intro wh pins s σ H Q I h
 refine isTrue_or (thn (ha pins s σ H Q I h) fun c s1 e => ?_)
 cases c with
 | false => exact isTrue_or_nil e
 | true => exact e
theorem pw_and (ha : PT X a tA) (hb : PW X (.BoolOp .And (b :: rest) pos) tB') : PW X (.BoolOp .And (a :: b :: rest) pos) (tAnd tA tB') := by
 intro wh pins s σ H Q I h
 refine isTrue_and (thn (ha pins s σ H _ I h) fun c s1 ⟨H1, I1, q1⟩ => ?_)
 cases c with
 | true => exact hb wh pins s1 σ H1 Q I1 q1
 | false => exact ⟨H1, I1, q1⟩
theorem pw_or (ha : PT X a tA) (hb : PW X (.BoolOp .Or (b :: rest) pos) tB') : PW X (.BoolOp .Or (a :: b :: rest) pos) (tOr tA tB') := by
 intro wh pins s σ H Q I h
 refine isTrue_or (thn (ha pins s σ H _ I h) fun c s1 ⟨H1, I1, q1⟩ => ?_)
 cases c with
 | true => exact ⟨H1, I1, q1⟩
 | false => exact hb wh pins s1 σ H1 Q I1 q1
theorem pt_not (ha : PT X a tA) : PT X (.UnaryOp .Not a pos) (tNot tA) := by
 intro pins s σ H Q I h
 exact isTrue_not (ha pins s σ H (fun c H1 => Q (!c) H1) I h)
noncomputable def tAndV (ta tb : TE) : TE := fun σ H Q => ta σ H fun x H1 => ∃ c, x = .bl c ∧ if c = true then tb σ H1 Q else Q (.bl false) H1
theorem pe_one {op} {t : TE} (h : PE X a t) : PE X (.BoolOp op [a] pos) t := fun pins s σ H Q I hw => BoolOp_one (h pins s σ H Q I hw)
theorem pe_and (ha : PE X a ta) (hb : PE X (.BoolOp .And (b :: rest) pos) tb) : PE X (.BoolOp .And (a :: b :: rest) pos) (tAndV ta tb) := by
 intro pins s σ H Q I h
 refine BoolOp_and (thn (ha pins s σ H _ I h) fun v s1 ⟨x, H1, I1, r1, q1⟩ => ?_)
 obtain ⟨c, rfl, q1⟩ := q1
 cases r1
 refine wpAny_truthy_bool ?_
 cases c with
 | true => exact hb pins s1 σ H1 Q I1 q1
 | false => exact ⟨.bl false, H1, I1, rfl, q1⟩
end
end L2
namespace L2
open PySem PySem.Spec PyProof.Rows
noncomputable def SqL (K : PySem.W.Frag) (H : Hp) (a : Addr) (xs : List V) : Prop :=
 Rd H a (.lst xs) ∨
  ∃ (o : Obj) (its : Array Value) (n : Nat), K.lookup a = some o ∧ o.cls = .type "list" ∧ o.dict = none ∧ o.data = .seq its n ∧ its.size ≤ sizeLine ∧ Vals xs its.toList
noncomputable def SqT (K : PySem.W.Frag) (H : Hp) (a : Addr) (xs : List V) : Prop :=
 Rd H a (.tup xs) ∨
  ∃ (o : Obj) (its : Array Value) (n : Nat), K.lookup a = some o ∧ o.cls = .type "tuple" ∧ o.data = .seq its n ∧ its.size ≤ sizeLine ∧ Vals xs its.toList
noncomputable def absV : Value → Option V
 | .none => some .non
 | .bool b => some (.bl b)
 | .int i _ => some (.int i)
 | .str x _ => some (.str x)
 | .bytes b _ => some (.byt b)
 | .float b _ => some (.flt b)
 | .ref a => some (.ref a)
 | .type n => some (.ty n)
 | _ => none
theorem RelV.abs {x : V} {u : Value} (r : RelV x u) : absV u = some x := by
 cases x with
 | non => cases r; rfl
 | bl _ => cases r; rfl
 | int _ => obtain ⟨t, rfl⟩ := r; rfl
 | str _ => obtain ⟨t, rfl⟩ := r; rfl
 | byt _ => obtain ⟨t, rfl⟩ := r; rfl
 | flt _ => obtain ⟨t, rfl⟩ := r; rfl
 | ref _ => cases r; rfl
 | ty _ => cases r; rfl
theorem RelV.inj {x y : V} {u : Value} (r : RelV x u) (q : RelV y u) : x = y := Option.some.inj (r.abs.symm.trans q.abs)
theorem Vals.inj : ∀ {xs ys : List V} {us : List Value}, Vals xs us → Vals ys us → xs = ys
 | _, _, _, .nil, .nil => rfl
 | _, _, _, .cons r t, .cons r' t' => by rw [r.inj r', Vals.inj t t']
section
variable {X : Cx} {pins : List (Addr × Obj)} {σ : St} {H : Hp} {s : Shared} {a : Addr} {xs ys : List V}
theorem SqL.of {K : PySem.W.Frag} (h : H a = some (.lst xs)) : SqL K H a xs := .inl (.inl h)
theorem SqT.of {K : PySem.W.Frag} (h : H a = some (.tup xs)) : SqT K H a xs := .inl (.inl h)
theorem Inv.list (I : Inv X pins σ H s) (h : SqL X.K H a xs) : ∃ its : List Value, Vals xs its ∧ PlainL s.heap a its.toArray ∧ xs.length ≤ sizeLine := by
 rcases h with h | ⟨o, its, n, hk, hc, hd, hs, hz, r⟩
 ·obtain ⟨z, its, n, r, e⟩ := h.ok I.hok
  exact ⟨its, r, ⟨_, n, e, rfl, rfl, rfl⟩, z⟩
 ·refine ⟨its.toList, r, ⟨o, n, I.kIn a o hk, hc, hd, by simpa using hs⟩, ?_⟩
  have e := r.length
  simp only [Array.length_toList] at e
  omega
theorem Inv.tuple (I : Inv X pins σ H s) (h : SqT X.K H a xs) : ∃ its : List Value, Vals xs its ∧ IsTup s.heap a its.toArray ∧ xs.length ≤ sizeLine := by
 rcases h with h | ⟨o, its, n, hk, hc, hs, hz, r⟩
 ·obtain ⟨z, its, r, p⟩ := h.ok I.hok
  exact ⟨its, r, p, z⟩
 ·refine ⟨its.toList, r, ⟨o, I.kIn a o hk, hc, n, by simpa using hs⟩, ?_⟩
  have e := r.length
  simp only [Array.length_toList] at e
  omega
theorem Inv.list_inj (I : Inv X pins σ H s) (h : SqL X.K H a xs) (h' : SqL X.K H a ys) : xs = ys := by
 obtain ⟨its, r, ⟨o, n, e, _, _, d⟩, _⟩ := I.list h
 obtain ⟨its', r', ⟨o', n', e', _, _, d'⟩, _⟩ := I.list h'
 rw [e] at e'; cases e'
 rw [d] at d'
 injection d' with d1 _
 have : its = its' := by simpa using congrArg Array.toList d1
 subst this
 exact r.inj r'
theorem Inv.tuple_inj (I : Inv X pins σ H s) (h : SqT X.K H a xs) (h' : SqT X.K H a ys) : xs = ys := by
 obtain ⟨its, r, ⟨o, e, _, n, d⟩, _⟩ := I.tuple h
 obtain ⟨its', r', ⟨o', e', _, n', d'⟩, _⟩ := I.tuple h'
 rw [e] at e'; cases e'
 rw [d] at d'
 injection d' with d1 _
 have : its = its' := by simpa using congrArg Array.toList d1
 subst this
 exact r.inj r'
end
noncomputable abbrev Cx.wish (X : Cx) (E : Value → Shared → Prop) : Cx := { X with xe := E }
noncomputable abbrev Cx.nox (X : Cx) : Cx := X.wish fun _ _ => False
theorem Cx.Ok.wish {X : Cx} (ok : X.Ok) (E : Value → Shared → Prop) : (X.wish E).Ok :=
 ⟨ok.mod, ok.kind, ok.glob, ok.blt, ok.above, ok.inj, ok.has, ok.cab, ok.hd, ok.frames, ok.stk, ok.exf, ok.bs, ok.bsz, ok.noex, ok.exfs, ok.funs, ok.frf⟩
theorem Cx.Ok.unwish {X : Cx} {E : Value → Shared → Prop} (ok : (X.wish E).Ok) : X.Ok :=
 ⟨ok.mod, ok.kind, ok.glob, ok.blt, ok.above, ok.inj, ok.has, ok.cab, ok.hd, ok.frames, ok.stk, ok.exf, ok.bs, ok.bsz, ok.noex, ok.exfs, ok.funs, ok.frf⟩
section
variable {X : Cx} {pins : List (Addr × Obj)} {σ : St} {H : Hp} {s : Shared} {E : Value → Shared → Prop}
theorem Inv.wish (I : Inv X pins σ H s) (E : Value → Shared → Prop) : Inv (X.wish E) pins σ H s := ⟨I.ok.wish E, I.os, I.bare, I.base, I.loc, I.cell, I.free, I.freeC, I.pin, I.hok, I.len⟩
theorem Inv.unwish (I : Inv (X.wish E) pins σ H s) : Inv X pins σ H s := ⟨I.ok.unwish, I.os, I.bare, I.base, I.loc, I.cell, I.free, I.freeC, I.pin, I.hok, I.len⟩
theorem SP.unwish {D : Ends} {f : Flow} {s' : Shared} (h : SP (X.wish E) pins D f s') : SP X pins D f s' := by
 cases f with
 | next => obtain ⟨σ', H', I, q⟩ := h; exact ⟨σ', H', I.unwish, q⟩
 | brk => obtain ⟨σ', H', I, q⟩ := h; exact ⟨σ', H', I.unwish, q⟩
 | cont => obtain ⟨σ', H', I, q⟩ := h; exact ⟨σ', H', I.unwish, q⟩
 | ret u => obtain ⟨v, σ', H', I, r, q⟩ := h; exact ⟨v, σ', H', I.unwish, r, q⟩
theorem PSs.nox {st : List Stmt} {t : TS} (h : PSs X.nox st t) : PSs X st t := fun pins s σ H D I hw =>
 wpAny_mono (h pins s σ H D (I.wish _) hw) (fun _ _ q => q.unwish) fun _ _ z => False.elim z
end
section
variable {X : Cx} {st : Stmt} {rest : List Stmt} {t u : TS} {e : Expr} {te : TE} {pos : Pos}
noncomputable def tNext : TS := fun D σ H => D.nx σ H
noncomputable def tSeq (t u : TS) : TS := fun D σ H => t { D with nx := u D } σ H
theorem pss_nil : PSs X [] tNext := fun _ _ σ H _ I h => wpAny_execs_nil ⟨σ, H, I, h⟩
theorem pss_cons (h1 : PS X st t) (h2 : PSs X rest u) : PSs X (st :: rest) (tSeq t u) := by
 intro pins s σ H D I h
 refine wpAny_execs_cons (thn (h1 pins s σ H { D with nx := u D } I h) fun f s1 q => ?_)
 cases f with
 | next =>
  obtain ⟨σ', H', I', q⟩ := q
  exact h2 pins s1 σ' H' D I' q
 | ret v => exact q
 | brk => exact q
 | cont => exact q
theorem pss_one (h1 : PS X st t) : PSs X [st] t := by
 intro pins s σ H D I h
 refine wpAny_execs_cons (thn (h1 pins s σ H D I h) fun f s1 q => ?_)
 cases f with
 | next => exact wpAny_execs_nil q
 | ret v => exact q
 | brk => exact q
 | cont => exact q
theorem Inv.quiet {pins : List (Addr × Obj)} {σ : St} {H : Hp} {s : Shared} (I : Inv X pins σ H s) : interactive X.env = false := by simp [interactive, I.ok.kind]
noncomputable def tDrop (te : TE) : TS := fun D σ H => te σ H fun _ H1 => D.nx σ H1
theorem ps_expr (he : PE X e te) (hs : swapsWith e none pos.line X.env = pure false := by rfl) : PS X (.Expr e pos) (tDrop te) := by
 intro pins s σ H D I h
 exact wpAny_Expr_any (thn (he pins s σ H _ I h) fun v s1 ⟨x, H1, I1, r1, q1⟩ => ⟨σ, H1, I1, q1⟩) I.quiet hs
noncomputable def tRet (te : TE) : TS := fun D σ H => te σ H D.rt
theorem ps_ret (he : PE X e te) : PS X (.Return (some e) pos) (tRet te) := by
 intro pins s σ H D I h
 exact wpAny_Return_some (thn (he pins s σ H _ I h) fun v s1 ⟨x, H1, I1, r1, q1⟩ => ⟨x, σ, H1, I1, r1, q1⟩)
noncomputable def tIfS (c : TT) (t u : TS) : TS := fun D σ H => c σ H fun b H1 => if b = true then t D σ H1 else u D σ H1
theorem ps_if {c : Expr} {a b : List Stmt} {tc : TT} (hc : PT X c tc) (ha : PSs X a t) (hb : PSs X b u) : PS X (.If c a b pos) (tIfS tc t u) := by
 intro pins s σ H D I h
 refine wpAny_If (thn (hc pins s σ H _ I h) fun d s1 ⟨H1, I1, q1⟩ => ?_)
 cases d with
 | true => exact ha pins s1 σ H1 D I1 q1
 | false => exact hb pins s1 σ H1 D I1 q1
noncomputable def tNever : TS := fun _ _ _ => False
theorem ps_never : PS X st tNever := fun _ _ _ _ _ _ h => h.elim
theorem pss_never {sts : List Stmt} : PSs X sts tNever := fun _ _ _ _ _ _ h => h.elim
end
noncomputable abbrev TG := V → St → Hp → (St → Hp → Prop) → Prop
noncomputable def PG (X : Cx) (target : Expr) (t : TG) : Prop :=
 ∀ (pins : List (Addr × Obj)) (s : Shared) (σ : St) (H : Hp) (v : V) (u : Value) (Q : St → Hp → Prop), Inv X pins σ H s → RelV v u → t v σ H Q →
  wpAny (model X.prog X.w) X.A (assign target X.env u) (fun _ s' => ∃ σ' H', Inv X pins σ' H' s' ∧ Q σ' H') X.xe s
section
variable {X : Cx} {pos : Pos}
noncomputable def gName (i : Nat) : TG := fun v σ H Q => Q (σ.set i (some v)) H
theorem pg_name {i : Nat} {x : Str} (hN : X.N.Nodup) (hi : X.N[i]? = some x) (hx : Loc X.env.scope x) (hf : X.fn x = true ∨ X.env.scope.names.lookup x = some .local := by first | exact .inl rfl | exact .inr rfl | assumption) : PG X (.Name x pos) (gName i) := by
 intro pins s σ H v u Q I r h
 exact wpAny_assign_Name (store_ok I hN hi hx r (fun s' I' => ⟨_, H, I', h⟩) hf)
noncomputable def tAsg (te : TE) (g : TG) : TS := fun D σ H => te σ H fun x H1 => g x σ H1 D.nx
theorem ps_set {i : Nat} {x : Str} {e : Expr} {te : TE} {pos' : Pos} (hN : X.N.Nodup) (hi : X.N[i]? = some x) (hx : Loc X.env.scope x) (he : PE X e te) (hs : swapsWith e (some (.Name x pos')) pos.line X.env = pure false := by rfl) (hf : X.fn x = true ∨ X.env.scope.names.lookup x = some .local := by first | exact .inl rfl | exact .inr rfl | assumption) :
  PS X (.Assign [.Name x pos'] e pos) (tAsg te (gName i)) := by
 intro pins s σ H D I h
 refine wpAny_Assign_Name (thn (he pins s σ H _ I h) fun v s1 ⟨y, H1, I1, r1, q1⟩ => ?_) hs
 exact store_ok I1 hN hi hx r1 (fun s2 I2 => ⟨_, H1, I2, q1⟩) hf
end
section
variable {X : Cx} {pos : Pos}
noncomputable def tWhile (c : TT) (tb : TS) : TS := fun D σ H => ∃ W : Nat → St → Hp → Prop, (∃ m, W m σ H) ∧ ∀ m σ H, W m σ H →
 c σ H fun b H1 => if b = true then ∃ N : St → Hp → Prop, (∀ σ' H', N σ' H' → ∃ m', m' < m ∧ W m' σ' H') ∧ tb { D with nx := N, ct := N, bk := D.nx } σ H1 else D.nx σ H1
theorem ps_while {c : Expr} {body : List Stmt} {tc : TT} {tb : TS} (hp : PassesOwn (model X.prog X.w) X.A X.env X.xe) (hc : PT X c tc) (hb : PSs X body tb) : PS X (.While c body [] pos) (tWhile tc tb) := by
 intro pins s σ H D I h
 obtain ⟨W, ⟨m0, w0⟩, turn⟩ := h
 refine wpAny_While (codeAny_whileLoop (fun n s' => ∃ σ' H', Inv X pins σ' H' s' ∧ W n σ' H') ?_ m0 ⟨σ, H, I, w0⟩)
 rintro n s1 ⟨σ1, H1, I1, w1⟩
 refine wpAny_passesOwn hp (thn (hc pins s1 σ1 H1 _ I1 (turn n σ1 H1 w1)) fun b s2 ⟨H2, I2, q2⟩ => ?_)
 cases b with
 | true =>
  obtain ⟨N, hN, q2⟩ := q2
  rw [if_pos rfl]
  refine wpAny_passesOwn hp (thn (hb pins s2 σ1 H2 _ I2 q2) fun f s3 q3 => ?_)
  cases f with
  | next =>
   obtain ⟨σ3, H3, I3, n3⟩ := q3
   obtain ⟨m', hm, w3⟩ := hN σ3 H3 n3
   exact ⟨m', hm, σ3, H3, I3, w3⟩
  | cont =>
   obtain ⟨σ3, H3, I3, n3⟩ := q3
   obtain ⟨m', hm, w3⟩ := hN σ3 H3 n3
   exact ⟨m', hm, σ3, H3, I3, w3⟩
  | brk => exact q3
  | ret v => exact q3
 | false =>
  rw [if_neg Bool.false_ne_true]
  exact wpAny_execs_nil ⟨σ1, H2, I2, q2⟩
end
structure It where
 go : Nat → Hp → Prop
 yld : Nat → Hp → V → Hp → Prop
 stop : Nat → Hp → Prop
noncomputable def FpOk (X : Cx) (pins : List (Addr × Obj)) (H : Hp) (b : Addr) : Prop :=
 H b = none ∧ b ≠ X.env.locals ∧ b ∉ X.fs ∧ (b ∈ X.ex ∨ X.s₀.heap.objs.size ≤ b) ∧ (∀ x c, X.env.cells.lookup x = some c → c ≠ b) ∧ ∀ p ∈ X.pn ++ pins, p.1 ≠ b
theorem Inv.fpOk {X : Cx} {pins : List (Addr × Obj)} {σ : St} {H H' : Hp} {s : Shared} {b : Addr} (I : Inv X pins σ H s) (hb : s.heap.objs.size ≤ b) (hn : H' b = none) : FpOk X pins H' b := by
 refine ⟨hn, Nat.ne_of_gt (Nat.lt_of_lt_of_le I.lt hb), I.nofs hb, .inr (Nat.le_trans I.sz hb), fun x c e z => ?_, fun p hp z => ?_⟩
 ·obtain ⟨v, q⟩ := I.cell x c e
  exact absurd (Nat.lt_of_lt_of_le q.lt (by rw [z]; exact hb)) (Nat.lt_irrefl _)
 ·exact absurd (Nat.lt_of_lt_of_le (Heap.lt_size (I.pin p hp).1) (by rw [z]; exact hb)) (Nat.lt_irrefl _)
structure Turn (P : Program) (w : World) (K : PySem.W.Frag) (tg : Expr) (J : It) (fp : List Addr) (it : Addr) (tn : Nat → Heap → Prop) : Prop where
 mem : it ∈ fp
 obj : ∀ i h, tn i h → ∀ b ∈ fp, ∃ o, h.get? b = some o ∧ ∀ v, o.data ≠ .cell v
 keep : ∀ i h h', tn i h → (∀ b ∈ fp, ∀ o, h.get? b = some o → h'.get? b = some o) → tn i h'
 item : ∀ (X : Cx), X.prog = P → X.w = w → X.K = K → X.calm = true → ∀ (i : Nat) (pins : List (Addr × Obj)) (s : Shared) (σ : St) (H : Hp) (E : Value → Shared → Prop), Inv X pins σ H s → (∀ b ∈ fp, FpOk X pins H b) → tn i s.heap → J.go i H →
  wpAny (model P w) X.A (pyNext (.ref it)) (fun r s1 => ∃ u, r = some u ∧
   wpAny (model P w) X.A (letOwnedTupleGo tg (.ref it) u) (fun _ s2 => ∃ x H', Inv X pins σ H' s2 ∧ RelV x u ∧ J.yld i H x H' ∧ tn (i + 1) s2.heap ∧ ∀ b ∈ fp, H' b = none) E s1) E s
 done : ∀ (X : Cx), X.prog = P → X.w = w → X.K = K → X.calm = true → ∀ (i : Nat) (pins : List (Addr × Obj)) (s : Shared) (σ : St) (H : Hp) (E : Value → Shared → Prop), Inv X pins σ H s → (∀ b ∈ fp, FpOk X pins H b) → tn i s.heap → J.stop i H →
  wpAny (model P w) X.A (pyNext (.ref it)) (fun r s1 => r = none ∧ Inv X pins σ H s1) E s
 self : ∀ (A : Around) (i : Nat) (s : Shared) (Q : Value → Shared → Prop) (E : Value → Shared → Prop), tn i s.heap → Q (.ref it) s → wpAny (model P w) A (pyIter (.ref it)) Q E s
noncomputable abbrev TI := St → Hp → (It → Hp → Prop) → Prop
noncomputable def PIE (X : Cx) (pins : List (Addr × Obj)) (σ : St) (tg : Expr) (R : It → Hp → Prop) (itv : Value) (s2 : Shared) : Prop :=
 ∃ (it : Addr) (fp : List Addr) (tn : Nat → Heap → Prop) (J : It) (H' : Hp), itv = .ref it ∧ Inv X pins σ H' s2 ∧ Turn X.prog X.w X.K tg J fp it tn ∧ tn 0 s2.heap ∧ (∀ b ∈ fp, FpOk X pins H' b) ∧ R J H'
noncomputable def PI (X : Cx) (tg iter : Expr) (wi : TI) : Prop :=
 ∀ (pins : List (Addr × Obj)) (s : Shared) (σ : St) (H : Hp) (R : It → Hp → Prop), Inv X pins σ H s → wi σ H R →
  wpAny (model X.prog X.w) X.A (eval iter X.env) (fun v s1 => wpAny (model X.prog X.w) X.A (pyIter v) (PIE X pins σ tg R) X.xe s1) X.xe s
theorem go_of {M : Model} {A : Around} {E : Value → Shared → Prop} {s : Shared} {tg : Expr} {it : Addr} {u : Value} {o : Obj} {n : String} {vs : Array Value} {Q : Unit → Shared → Prop} (ho : s.heap.get? it = some o) (hc : o.cls = .type n) (hd : o.data = .fields vs)
  (hn : ["enumerate", "zip", "dict_itemiterator", "dict_reverseitemiterator", "odict_iterator", "itertools.zip_longest", "itertools.pairwise"].contains n = false) (hQ : Q () s) : wpAny M A (letOwnedTupleGo tg (.ref it) u) Q E s := by
 unfold letOwnedTupleGo
 cases tg <;> first
  | exact wpAny_pure hQ
  | (cases u <;> first
    | exact wpAny_pure hQ
    | (refine wpAny_bind (wpAny_load ho ?_); rw [hc, hd]; show wpAny M A (if (["enumerate", "zip", "dict_itemiterator", "dict_reverseitemiterator", "odict_iterator", "itertools.zip_longest", "itertools.pairwise"].contains n && vs[0]? == some (rawInt _)) = true then _ else _) Q E s; rw [if_neg (by intro h; rw [hn, Bool.false_and] at h; cases h)]; exact wpAny_pure hQ))
noncomputable def Itl (K : PySem.W.Frag) (a : Addr) : It :=
 ⟨fun i H => ∃ xs x, SqL K H a xs ∧ xs[i]? = some x, fun i H x H' => H' = H ∧ ∀ xs, SqL K H a xs → xs[i]? = some x, fun i H => ∃ xs, SqL K H a xs ∧ xs.length ≤ i⟩
noncomputable def Itt (K : PySem.W.Frag) (a : Addr) : It :=
 ⟨fun i H => ∃ xs x, SqT K H a xs ∧ xs[i]? = some x, fun i H x H' => H' = H ∧ ∀ xs, SqT K H a xs → xs[i]? = some x, fun i H => ∃ xs, SqT K H a xs ∧ xs.length ≤ i⟩
noncomputable def Itr (lo : Int) (n : Nat) : It := ⟨fun i _ => i < n, fun i H x H' => H' = H ∧ x = .int (lo + i), fun i _ => n ≤ i⟩
theorem turn_list {P : Program} {w : World} {K : PySem.W.Frag} {tg : Expr} (a it : Addr) : Turn P w K tg (Itl K a) [it] it (fun i h => h.IsListIter it a i) where
 mem := by simp
 obj := fun i h st b hb => by
  have e : b = it := by simpa using hb
  subst e
  obtain ⟨o, e, c, d⟩ := st
  exact ⟨o, e, fun v z => by rw [d] at z; cases z⟩
 keep := fun i h h' st k => st.at fun o e => k it (by simp) o e
 item := by
  intro X hP hw hK hc i pins s σ H E I hf st hg
  subst hP hw hK
  obtain ⟨xs, x, hq, hx⟩ := hg
  obtain ⟨its, rv, p, hz⟩ := I.list hq
  obtain ⟨u, hu, ru⟩ := rv.get hx
  obtain ⟨f0, f1, f2, f3, f4, f5⟩ := hf it (by simp)
  refine wpAny_pyNext_list_item st p.isList (x := u) (by simpa using hu) fun h' st' sb => ?_
  have I1 : Inv X pins σ H { s with heap := h' } := I.turned (t' := s.toks) (fun b o hb e => (sb.2 b hb).trans e) f0 f1 f3 f4 f5
  obtain ⟨o, e, c, d⟩ := id st'
  exact ⟨u, rfl, go_of (s := { s with heap := h' }) e c d (by decide) ⟨x, H, I1, ru, ⟨rfl, fun ys hy => by rw [I.list_inj hy hq]; exact hx⟩, st', fun b hb => (hf b hb).1⟩⟩
 done := by
  intro X hP hw hK hc i pins s σ H E I hf st hg
  subst hP hw hK
  obtain ⟨xs, hq, hx⟩ := hg
  obtain ⟨its, rv, p, hz⟩ := I.list hq
  obtain ⟨f0, f1, f2, f3, f4, f5⟩ := hf it (by simp)
  have hl := rv.length
  exact wpAny_pyNext_list_end (I.ok.hd hc) st p.isList (by simp; omega) fun h' eb => ⟨rfl, I.turned (t' := s.toks) (fun b o hb e => eb b o hb e) f0 f1 f3 f4 f5⟩
 self := fun _ _ _ _ _ st h => wpAny_pyIter_listiter st h
theorem turn_tuple {P : Program} {w : World} {K : PySem.W.Frag} {tg : Expr} (a it : Addr) : Turn P w K tg (Itt K a) [it] it (fun i h => h.IsTupleIter it a i) where
 mem := by simp
 obj := fun i h st b hb => by
  have e : b = it := by simpa using hb
  subst e
  obtain ⟨o, e, c, d⟩ := st
  exact ⟨o, e, fun v z => by rw [d] at z; cases z⟩
 keep := fun i h h' st k => st.at fun o e => k it (by simp) o e
 item := by
  intro X hP hw hK hc i pins s σ H E I hf st hg
  subst hP hw hK
  obtain ⟨xs, x, hq, hx⟩ := hg
  obtain ⟨its, rv, p, hz⟩ := I.tuple hq
  obtain ⟨u, hu, ru⟩ := rv.get hx
  obtain ⟨f0, f1, f2, f3, f4, f5⟩ := hf it (by simp)
  refine wpAny_pyNext_tuple_item st (show s.heap.IsTuple a its.toArray from p) (x := u) (by simpa using hu) fun h' st' sb => ?_
  have I1 : Inv X pins σ H { s with heap := h' } := I.turned (t' := s.toks) (fun b o hb e => (sb.2 b hb).trans e) f0 f1 f3 f4 f5
  obtain ⟨o, e, c, d⟩ := id st'
  exact ⟨u, rfl, go_of (s := { s with heap := h' }) e c d (by decide) ⟨x, H, I1, ru, ⟨rfl, fun ys hy => by rw [I.tuple_inj hy hq]; exact hx⟩, st', fun b hb => (hf b hb).1⟩⟩
 done := by
  intro X hP hw hK hc i pins s σ H E I hf st hg
  subst hP hw hK
  obtain ⟨xs, hq, hx⟩ := hg
  obtain ⟨its, rv, p, hz⟩ := I.tuple hq
  obtain ⟨f0, f1, f2, f3, f4, f5⟩ := hf it (by simp)
  have hl := rv.length
  exact wpAny_pyNext_tuple_end (I.ok.hd hc) st (show s.heap.IsTuple a its.toArray from p) (by simp; omega) fun h' eb => ⟨rfl, I.turned (t' := s.toks) (fun b o hb e => eb b o hb e) f0 f1 f3 f4 f5⟩
 self := fun _ _ _ _ _ st h => wpAny_pyIter_tupleiter st h
theorem turn_range {P : Program} {w : World} {K : PySem.W.Frag} {tg : Expr} (it : Addr) (lo : Int) (n : Nat) : Turn P w K tg (Itr lo n) [it] it (fun i h => IsRangeIter h it (lo + (i : Nat) * 1) ((n : Int) - (i : Nat)) 1) where
 mem := by simp
 obj := fun i h st b hb => by
  have e : b = it := by simpa using hb
  subst e
  exact ⟨_, st, fun v z => by
   have z' : Data.fields _ = Data.cell v := z
   cases z'⟩
 keep := fun i h h' st k => k it (by simp) _ st
 item := by
  intro X hP hw hK hc i pins s σ H E I hf st hg
  subst hP hw hK
  obtain ⟨f0, f1, f2, f3, f4, f5⟩ := hf it (by simp)
  have W := Walks.range (prog := X.prog) (w := X.w) (I.ok.hd hc) it lo 1 n
  refine W.item i s _ _ hg st fun v h' tk hv st' kk => ?_
  obtain ⟨t, rfl⟩ := hv
  have I1 : Inv X pins σ H { s with heap := h', toks := tk } := I.turned (fun b o hb e => kk b o (by simpa using hb) e) f0 f1 f3 f4 f5
  refine ⟨_, rfl, go_of (s := { s with heap := h', toks := tk }) (n := "range_iterator") st' rfl rfl (by decide) ⟨.int (lo + i), H, I1, ⟨t, ?_⟩, ⟨rfl, rfl⟩, st', fun b hb => (hf b hb).1⟩⟩
  rw [Int.mul_one]
 done := by
  intro X hP hw hK hc i pins s σ H E I hf st hg
  subst hP hw hK
  obtain ⟨f0, f1, f2, f3, f4, f5⟩ := hf it (by simp)
  exact wpAny_pyNext_range_end (I.ok.hd hc) st (by have : n ≤ i := hg; omega) fun h' eb => ⟨rfl, I.turned (t' := s.toks) (fun b o hb e => eb b o hb e) f0 f1 f3 f4 f5⟩
 self := fun _ _ _ _ _ st h => wpAny_pyIter_rangeiter st h
end L2
namespace L2
open PySem PySem.Spec PyProof.Rows
section
variable {X : Cx} {tg : Expr}
theorem range_it {pins : List (Addr × Obj)} {σ : St} {H : Hp} {s : Shared} {R : It → Hp → Prop} {E : Value → Shared → Prop} {lo hi : Int} {t u v : Tok} {tk : Nat} (I : Inv X pins σ H s) (h1 : -(2 ^ 62) ≤ lo) (h2 : lo < 2 ^ 62) (h3 : -(2 ^ 62) ≤ hi) (h4 : hi < 2 ^ 62)
  (q : R (Itr lo (hi - lo).toNat) H) : wpAny (model X.prog X.w) X.A (pyIter (.ref s.heap.objs.size)) (PIE X pins σ tg R) E { s with heap := s.heap.push { cls := .type "range", data := .fields #[.int lo t, .int hi u, .int 1 v] }, toks := tk } := by
 refine wpAny_pyIter_range (IsRange.new ..) (small_one h1 h2 h3 h4) ?_
 have I1 : Inv X pins σ H { s with heap := s.heap.push { cls := .type "range", data := .fields #[.int lo t, .int hi u, .int 1 v] }, toks := tk } := I.kept fun b o e => Heap.get?_push_of_some _ e
 refine ⟨(s.heap.push { cls := .type "range", data := .fields #[.int lo t, .int hi u, .int 1 v] }).objs.size, [(s.heap.push { cls := .type "range", data := .fields #[.int lo t, .int hi u, .int 1 v] }).objs.size], _, _, H, rfl,
  I1.kept (t' := tk) fun b o e => Heap.get?_push_of_some _ e, turn_range _ lo (hi - lo).toNat, ?_, fun b hb => ?_, q⟩
 ·have e1 : lo + ((0 : Nat) : Int) * 1 = lo := by simp
  have e2 : (((hi - lo).toNat : Nat) : Int) - ((0 : Nat) : Int) = Builtin.Range.rangeSize lo hi 1 := by rw [rangeSize_one]; split <;> omega
  show IsRangeIter _ _ (lo + ((0 : Nat) : Int) * 1) ((((hi - lo).toNat : Nat) : Int) - ((0 : Nat) : Int)) 1
  rw [e1, e2]
  exact Heap.get?_push_size _ rfl
 ·have e : b = (s.heap.push { cls := .type "range", data := .fields #[.int lo t, .int hi u, .int 1 v] }).objs.size := by simpa using hb
  subst e
  exact I1.fpOk (Nat.le_refl _) (I1.hok.fresh (Nat.le_refl _))
noncomputable def iRng1 (ta : TA) : TI := fun σ H R => ta σ H fun vs H1 => ∃ j : Int, vs = [.int j] ∧ -(2 ^ 62) ≤ j ∧ j < 2 ^ 62 ∧ R (Itr 0 j.toNat) H1
theorem pi_range1 {a : Expr} {ta : TA} {p pos : Pos} (hg : Gl X "range") (hm : X.mg "range" = none) (ha : PA X [a] ta) (hs : starEach [a] X.env = [(false, eval a X.env)] := by rfl) : PI X tg (.Call (.Name "range" p) [a] [] pos) (iRng1 ta) := by
 intro pins s σ H R I h
 refine Call_ (ld_blt I hg hm boot_range (PyProof.Rows.callWith_type1 (thn (ha pos pins s σ H _ I h) fun us s1 ⟨vs, H1, I1, r1, q1⟩ => ?_) hs rfl))
 obtain ⟨j, e, q1, q2, q⟩ := q1
 subst e
 cases r1 with
 | cons r rr =>
  cases rr
  obtain ⟨t, rfl⟩ := r
  exact call_range_1 (range_it I1 (by omega) (by omega) q1 q2 (by simpa using q))
noncomputable def tFor (wi : TI) (g : TG) (tb : TS) : TS := fun D σ H => wi σ H fun J H1 => ∃ W : Nat → Nat → St → Hp → Prop, (∃ m, W 0 m σ H1) ∧ ∀ i m σ H, W i m σ H →
 (J.stop i H ∧ D.nx σ H) ∨ (J.go i H ∧ ∃ N : St → Hp → Prop, (∀ σ' H', N σ' H' → ∃ m', m' < m ∧ W (i + 1) m' σ' H') ∧ ∀ x H', J.yld i H x H' → g x σ H' fun σ2 H2 => tb { D with nx := N, ct := N, bk := D.nx } σ2 H2)
noncomputable def pinsAt (fp : List Addr) (h : Heap) : List (Addr × Obj) := fp.filterMap fun b => (h.get? b).map fun o => (b, o)
theorem mem_pinsAt {fp : List Addr} {h : Heap} {b : Addr} {o : Obj} (hb : b ∈ fp) (e : h.get? b = some o) : (b, o) ∈ pinsAt fp h := List.mem_filterMap.mpr ⟨b, hb, by rw [e]; rfl⟩
theorem of_pinsAt {fp : List Addr} {h : Heap} {p : Addr × Obj} (hp : p ∈ pinsAt fp h) : p.1 ∈ fp ∧ h.get? p.1 = some p.2 := by
 obtain ⟨b, hb, e⟩ := List.mem_filterMap.mp hp
 cases q : h.get? b with
 | none => rw [q] at e; cases e
 | some o =>
  rw [q] at e
  have e' : (b, o) = p := Option.some.inj e
  subst e'
  exact ⟨hb, q⟩
theorem Inv.pinned {pins : List (Addr × Obj)} {σ : St} {H : Hp} {s : Shared} {fp : List Addr} (I : Inv X pins σ H s) (hf : ∀ b ∈ fp, FpOk X pins H b) (ho : ∀ b ∈ fp, ∃ o, s.heap.get? b = some o ∧ ∀ v, o.data ≠ .cell v) : Inv X (pins ++ pinsAt fp s.heap) σ H s :=
 I.pins_of fun p hp => (List.mem_append.mp hp).elim (fun z => I.pin p (List.mem_append_right _ z)) fun z => by
  obtain ⟨hb, e⟩ := of_pinsAt z
  obtain ⟨f0, f1, f2, _⟩ := hf p.1 hb
  obtain ⟨o, e', d⟩ := ho p.1 hb
  rw [e] at e'; cases e'
  exact ⟨e, f0, f1, f2, d⟩
theorem Inv.unpinned {pins pl : List (Addr × Obj)} {σ : St} {H : Hp} {s : Shared} (I : Inv X (pins ++ pl) σ H s) : Inv X pins σ H s := I.pins_of fun p hp => I.pin p (List.mem_append_right _ (List.mem_append_left _ hp))
theorem ps_for {iter : Expr} {body : List Stmt} {wi : TI} {g : TG} {tb : TS} {pos : Pos} (hp : PassesOwn (model X.prog X.w) X.A X.env X.xe) (hc : X.calm = true) (hi : PI X tg iter wi) (hg : PG X tg g) (hb : PSs X body tb)
  (hs : ∀ x, foldedSetIterable iter X.env x = pure x := by intro _; rfl) : PS X (.For tg iter body [] pos) (tFor wi g tb) := by
 intro pins s σ H D I h
 refine wpAny_For (thn (hi pins s σ H _ I h) fun v s1 h1 => thn h1 fun itv s2 h2 => ?_) hs
 obtain ⟨it, fp, tn, J, H2, e, I2, T, st2, f2, W, ⟨m0, w0⟩, turn⟩ := h2
 subst e
 have stat : ∀ {H' : Hp}, (∀ b ∈ fp, H' b = none) → ∀ b ∈ fp, FpOk X pins H' b := fun hn b hb => ⟨hn b hb, (f2 b hb).2⟩
 refine codeAny_forLoop_any (fun n s' => ∃ i σ' H', Inv X pins σ' H' s' ∧ tn i s'.heap ∧ (∀ b ∈ fp, H' b = none) ∧ W i n σ' H') ?_ m0 ⟨0, σ, H2, I2, st2, fun b hb => (f2 b hb).1, w0⟩
 rintro n s3 ⟨i, σ3, H3, I3, st3, fr3, w3⟩
 rcases turn i n σ3 H3 w3 with ⟨stop, qn⟩ | ⟨go, N, hN, step⟩
 ·refine wpAny_passesOwn hp (thn (T.done X rfl rfl rfl hc i pins s3 σ3 H3 X.xe I3 (stat fr3) st3 stop) fun r s4 ⟨hr, I4⟩ => ?_)
  subst hr
  exact wpAny_execs_nil ⟨σ3, H3, I4, qn⟩
 ·refine wpAny_passesOwn hp (thn (T.item X rfl rfl rfl hc i pins s3 σ3 H3 X.xe I3 (stat fr3) st3 go) fun r s4 ⟨u, hr, h4⟩ => ?_)
  subst hr
  refine wpAny_passesOwn hp (thn h4 fun _ s5 ⟨x, H5, I5, r5, y5, st5, fr5⟩ => ?_)
  have I5' := I5.pinned (stat fr5) (T.obj _ _ st5)
  refine wpAny_passesOwn hp (thn (hg _ s5 σ3 H5 x u _ I5' r5 (step x H5 y5)) fun _ s6 ⟨σ6, H6, I6, q6⟩ => ?_)
  refine wpAny_passesOwn hp (thn (hb _ s6 σ6 H6 _ I6 q6) fun f s7 q7 => ?_)
  have again : ∀ {σ7 : St} {H7 : Hp}, Inv X (pins ++ pinsAt fp s5.heap) σ7 H7 s7 → N σ7 H7 → ∃ m, m < n ∧ ∃ i σ' H', Inv X pins σ' H' s7 ∧ tn i s7.heap ∧ (∀ b ∈ fp, H' b = none) ∧ W i m σ' H' := fun {σ7 H7} I7 n7 => by
   obtain ⟨m', hm, w7⟩ := hN σ7 H7 n7
   refine ⟨m', hm, i + 1, σ7, H7, I7.unpinned, T.keep _ _ _ st5 fun b hb o e => (I7.pin (b, o) (List.mem_append_right _ (List.mem_append_right _ (mem_pinsAt hb e)))).1, fun b hb => ?_, w7⟩
   obtain ⟨o, e, d⟩ := T.obj _ _ st5 b hb
   exact (I7.pin (b, o) (List.mem_append_right _ (List.mem_append_right _ (mem_pinsAt hb e)))).2.1
  cases f with
  | next => obtain ⟨σ7, H7, I7, n7⟩ := q7; exact again I7 n7
  | cont => obtain ⟨σ7, H7, I7, n7⟩ := q7; exact again I7 n7
  | brk => obtain ⟨σ7, H7, I7, q7⟩ := q7; exact ⟨σ7, H7, I7.unpinned, q7⟩
  | ret v => obtain ⟨x7, σ7, H7, I7, r7, q7⟩ := q7; exact ⟨x7, σ7, H7, I7.unpinned, r7, q7⟩
end
theorem for_range {lo : Int} {n : Nat} {g : TG} {tb : TS} {D : Ends} {σ : St} {H : Hp} (Pv : Nat → St → Hp → Prop) (h0 : Pv 0 σ H)
  (hs : ∀ i σ H, i < n → Pv i σ H → g (.int (lo + i)) σ H fun σ2 H2 => tb { D with nx := Pv (i + 1), ct := Pv (i + 1), bk := D.nx } σ2 H2) (hd : ∀ σ H, Pv n σ H → D.nx σ H) :
  ∃ W : Nat → Nat → St → Hp → Prop, (∃ m, W 0 m σ H) ∧ ∀ i m σ H, W i m σ H →
   ((Itr lo n).stop i H ∧ D.nx σ H) ∨ ((Itr lo n).go i H ∧ ∃ N : St → Hp → Prop, (∀ σ' H', N σ' H' → ∃ m', m' < m ∧ W (i + 1) m' σ' H') ∧ ∀ x H', (Itr lo n).yld i H x H' → g x σ H' fun σ2 H2 => tb { D with nx := N, ct := N, bk := D.nx } σ2 H2) := by
 refine ⟨fun i m σ H => m = n - i ∧ i ≤ n ∧ Pv i σ H, ⟨n, by simp, Nat.zero_le _, h0⟩, ?_⟩
 rintro i m σ H ⟨rfl, hi, p⟩
 by_cases hlt : i < n
 ·refine .inr ⟨hlt, Pv (i + 1), fun σ' H' p' => ⟨n - (i + 1), by omega, rfl, hlt, p'⟩, fun x H' y => ?_⟩
  obtain ⟨e, y⟩ := y
  subst e y
  exact hs i σ _ hlt p
 ·have e : i = n := by omega
  subst e
  exact .inl ⟨Nat.le_refl _, hd σ H p⟩
end L2
namespace L2
open PySem PySem.Spec PyProof.Rows
noncomputable abbrev R2 := V → V → Hp → VK → Prop
noncomputable def OpR (X : Cx) (f : Value → Value → Sem Value) (r : R2) : Prop :=
 ∀ (pins : List (Addr × Obj)) (s : Shared) (σ : St) (H : Hp) (x y : V) (v u : Value) (Q : VK), Inv X pins σ H s → RelV x v → RelV y u → r x y H Q →
  wpAny (model X.prog X.w) X.A (f v u) (EP X pins σ Q) X.xe s
noncomputable def CallR (X : Cx) (f : Value) (r : List V → Hp → VK → Prop) : Prop :=
 ∀ (pins : List (Addr × Obj)) (s : Shared) (σ : St) (H : Hp) (xs : List V) (us : List Value) (Q : VK), Inv X pins σ H s → Vals xs us → r xs H Q →
  wpAny (model X.prog X.w) X.A (call f us) (EP X pins σ Q) X.xe s
noncomputable def TruR (X : Cx) (r : V → Hp → (Bool → Hp → Prop) → Prop) : Prop :=
 ∀ (pins : List (Addr × Obj)) (s : Shared) (σ : St) (H : Hp) (x : V) (v : Value) (Q : Bool → Hp → Prop), Inv X pins σ H s → RelV x v → r x H Q →
  wpAny (model X.prog X.w) X.A (truthy v) (TP X pins σ Q) X.xe s
noncomputable def tOp (r : R2) (ta tb : TE) : TE := fun σ H Q => ta σ H fun x H1 => tb σ H1 fun y H2 => r x y H2 Q
noncomputable def rI (C : Int → Int → Prop) (g : Int → Int → V) : R2 := fun x y H Q => ∃ i j, x = .int i ∧ y = .int j ∧ C i j ∧ Q (g i j) H
noncomputable def rI0 (g : Int → Int → V) : R2 := fun x y H Q => ∃ i j, x = .int i ∧ y = .int j ∧ Q (g i j) H
section
variable {X : Cx} {a b c : Expr} {ta tb tc : TE} {pos : Pos}
theorem binT (ha : PE X a ta) (hb : PE X b tb) {pins : List (Addr × Obj)} {s : Shared} {σ : St} {H : Hp} {R : V → V → Hp → Prop} (I : Inv X pins σ H s)
  (h : ta σ H fun x H1 => tb σ H1 fun y H2 => R x y H2) {Q : Value → Shared → Prop} {f : Value → Value → Sem Value}
  (hf : ∀ v u s2 x y H2, Inv X pins σ H2 s2 → RelV x v → RelV y u → R x y H2 → wpAny (model X.prog X.w) X.A (f v u) Q X.xe s2) :
  wpAny (model X.prog X.w) X.A (eval a X.env) (fun v s₁ => wpAny (model X.prog X.w) X.A (eval b X.env) (fun u s₂ => wpAny (model X.prog X.w) X.A (f v u) Q X.xe s₂) X.xe s₁) X.xe s := by
 refine thn (ha pins s σ H _ I h) fun v s1 ⟨x, H1, I1, r1, q1⟩ => ?_
 refine thn (hb pins s1 σ H1 _ I1 q1) fun u s2 ⟨y, H2, I2, r2, q2⟩ => ?_
 exact hf v u s2 x y H2 I2 r1 r2 q2
theorem pe_op {op : Operator} {r : R2} (ho : OpR X (binaryOp op) r) (ha : PE X a ta) (hb : PE X b tb) : PE X (.BinOp a op b pos) (tOp r ta tb) := by
 intro pins s σ H Q I h
 exact wpAny_BinOp (binT ha hb I h fun v u s2 x y H2 I2 rx ry q => ho pins s2 σ H2 x y v u Q I2 rx ry q)
theorem opI {f : Value → Value → Sem Value} {C : Int → Int → Prop} {g : Int → Int → Int}
  (rule : ∀ (i j : Int) (t u : Tok) (s : Shared) (Q : Value → Shared → Prop) (E : Value → Shared → Prop), C i j → Q (.int (g i j) s.toks) { s with toks := s.toks + 1 } → wpAny (model X.prog X.w) X.A (f (.int i t) (.int j u)) Q E s) :
  OpR X f (rI C fun i j => .int (g i j)) := by
 intro pins s σ H x y v u Q I rx ry h
 obtain ⟨i, j, rfl, rfl, hc, q⟩ := h
 obtain ⟨t, rfl⟩ := rx
 obtain ⟨t', rfl⟩ := ry
 exact rule i j t t' s _ _ hc ⟨.int (g i j), H, I.tok _, ⟨_, rfl⟩, q⟩
theorem opI0 {f : Value → Value → Sem Value} {g : Int → Int → Int}
  (rule : ∀ (i j : Int) (t u : Tok) (s : Shared) (Q : Value → Shared → Prop) (E : Value → Shared → Prop), Q (.int (g i j) s.toks) { s with toks := s.toks + 1 } → wpAny (model X.prog X.w) X.A (f (.int i t) (.int j u)) Q E s) :
  OpR X f (rI0 fun i j => .int (g i j)) := by
 intro pins s σ H x y v u Q I rx ry h
 obtain ⟨i, j, rfl, rfl, q⟩ := h
 obtain ⟨t, rfl⟩ := rx
 obtain ⟨t', rfl⟩ := ry
 exact rule i j t t' s _ _ ⟨.int (g i j), H, I.tok _, ⟨_, rfl⟩, q⟩
theorem opB0 {f : Value → Value → Sem Value} {g : Int → Int → Bool}
  (rule : ∀ (i j : Int) (t u : Tok) (s : Shared) (Q : Value → Shared → Prop) (E : Value → Shared → Prop), Q (.bool (g i j)) s → wpAny (model X.prog X.w) X.A (f (.int i t) (.int j u)) Q E s) :
  OpR X f (rI0 fun i j => .bl (g i j)) := by
 intro pins s σ H x y v u Q I rx ry h
 obtain ⟨i, j, rfl, rfl, q⟩ := h
 obtain ⟨t, rfl⟩ := rx
 obtain ⟨t', rfl⟩ := ry
 exact rule i j t t' s _ _ ⟨.bl (g i j), H, I, rfl, q⟩
noncomputable def CDiv (i j : Int) : Prop := 0 < j ∧ j < 1073741824
noncomputable def CPow (i j : Int) : Prop := 0 ≤ j ∧ j ≤ 1000000 ∧ i.natAbs < 2 ^ 64
noncomputable def CMul (i j : Int) : Prop := (-(2 ^ 64) < i ∧ i < 2 ^ 64) ∨ (-(2 ^ 64) < j ∧ j < 2 ^ 64)
theorem CMul.ok {i j : Int} (h : CMul i j) : IntMulOk i j := by
 rcases h with ⟨h1, h2⟩ | ⟨h1, h2⟩
 ·exact .of_left (intBits_le_64 h1 h2)
 ·exact .of_right (intBits_le_64 h1 h2)
theorem op_add : OpR X (binaryOp .Add) (rI0 fun i j => .int (i + j)) := opI0 fun _ _ _ _ _ _ _ q => add_int q
theorem op_sub : OpR X (binaryOp .Sub) (rI0 fun i j => .int (i - j)) := opI0 fun _ _ _ _ _ _ _ q => sub_int q
theorem op_mul : OpR X (binaryOp .Mult) (rI CMul fun i j => .int (i * j)) := opI fun _ _ _ _ _ _ _ hc q => mul_int q hc.ok
theorem op_fdiv : OpR X (binaryOp .FloorDiv) (rI CDiv fun i j => .int (i / j)) := opI fun i j _ _ _ _ _ hc q => by
 have h1 : (0 : Int) < j := hc.1
 have h2 : j < 1073741824 := hc.2
 exact floordiv_int (by omega) (by rw [Int.fdiv_eq_ediv_of_nonneg i (by omega)]; exact q) (.inl (PyProof.noPylong_small (by omega)))
theorem op_mod : OpR X (binaryOp .Mod) (rI (fun _ j => 0 < j) fun i j => .int (i % j)) := opI fun i j _ _ _ _ _ hc q => by
 have h1 : (0 : Int) < j := hc
 exact mod_int' (by omega) (by rw [Int.fmod_eq_emod_of_nonneg i (by omega)]; exact q)
theorem op_pow : OpR X (binaryOp .Pow) (rI CPow fun i j => .int (i ^ j.toNat)) := opI fun _ _ _ _ _ _ _ hc q => pow_int_small hc.1 hc.2.1 hc.2.2 q
end
noncomputable def scal : V → V → Bool
 | .non, .non => true | .non, .int _ => true | .int _, .non => true | .non, .bl _ => true | .bl _, .non => true | .non, .str _ => true | .str _, .non => true
 | .int _, .int _ => true | .bl _, .bl _ => true | .str _, .str _ => true | .byt _, .byt _ => true
 | .int _, .str _ => true | .str _, .int _ => true | .bl _, .str _ => true | .str _, .bl _ => true
 | _, _ => false
noncomputable def rEq : R2 := fun x y H Q => scal x y = true ∧ Q (.bl (decide (x = y))) H
noncomputable def rNe : R2 := fun x y H Q => scal x y = true ∧ Q (.bl (!decide (x = y))) H
theorem dec_int {i j : Int} : decide (V.int i = V.int j) = (i == j) := by
 rw [Bool.eq_iff_iff]
 simp
theorem dec_bl {i j : Bool} : decide (V.bl i = V.bl j) = (i == j) := by
 rw [Bool.eq_iff_iff]
 simp
theorem dec_str {i j : Str} : decide (V.str i = V.str j) = (i == j) := by
 rw [Bool.eq_iff_iff]
 simp
theorem dec_byt {i j : Array UInt8} : decide (V.byt i = V.byt j) = (i.toList == j.toList) := by
 rw [Bool.eq_iff_iff]
 cases i
 cases j
 simp
section
variable {X : Cx} {a b c : Expr} {ta tb tc : TE} {pos : Pos}
theorem fin_bl {pins : List (Addr × Obj)} {σ : St} {H : Hp} {s : Shared} {Q : VK} {k k' : Bool} (I : Inv X pins σ H s) (q : Q (.bl k) H) (e : k = k') : EP X pins σ Q (.bool k') s := by
 subst e
 exact ⟨.bl k, H, I, rfl, q⟩
theorem op_eq : OpR X (compareOp .Eq) rEq := by
 intro pins s σ H x y v u Q I rx ry h
 obtain ⟨hs, q⟩ := h
 cases x with
 | non =>
  cases rx
  cases y with
  | non => cases ry; exact PySem.EqNone.eq_none_none (fin_bl I q (by simp))
  | bl j => cases ry; exact PySem.EqNone.eq_none_bool (fin_bl I q (by simp))
  | int j => obtain ⟨t', rfl⟩ := ry; exact PySem.EqNone.eq_none_int (fin_bl I q (by simp))
  | str j => obtain ⟨t', rfl⟩ := ry; exact PySem.EqNone.eq_none_str (fin_bl I q (by simp))
  | _ => exact absurd (show false = true from hs) Bool.false_ne_true
 | bl i =>
  cases rx
  cases y with
  | non => cases ry; exact PySem.EqNone.eq_bool_none (fin_bl I q (by simp))
  | bl j => cases ry; exact eq_bool (fin_bl I q dec_bl)
  | str j => obtain ⟨t', rfl⟩ := ry; exact PySem.EqMixed.eq_bool_str (fin_bl I q (by simp))
  | _ => exact absurd (show false = true from hs) Bool.false_ne_true
 | int i =>
  obtain ⟨t, rfl⟩ := rx
  cases y with
  | non => cases ry; exact PySem.EqNone.eq_int_none (fin_bl I q (by simp))
  | int j => obtain ⟨t', rfl⟩ := ry; exact eq_int (fin_bl I q dec_int)
  | str j => obtain ⟨t', rfl⟩ := ry; exact PySem.EqMixed.eq_int_str (fin_bl I q (by simp))
  | _ => exact absurd (show false = true from hs) Bool.false_ne_true
 | str i =>
  obtain ⟨t, rfl⟩ := rx
  cases y with
  | non => cases ry; exact PySem.EqNone.eq_str_none (fin_bl I q (by simp))
  | bl j => cases ry; exact PySem.EqMixed.eq_str_bool (fin_bl I q (by simp))
  | int j => obtain ⟨t', rfl⟩ := ry; exact PySem.EqMixed.eq_str_int (fin_bl I q (by simp))
  | str j => obtain ⟨t', rfl⟩ := ry; exact eq_str (fin_bl I q dec_str)
  | _ => exact absurd (show false = true from hs) Bool.false_ne_true
 | byt i =>
  obtain ⟨t, rfl⟩ := rx
  cases y with
  | byt j => obtain ⟨t', rfl⟩ := ry; exact PySem.W.eq_bytes (fin_bl I q dec_byt)
  | _ => exact absurd (show false = true from hs) Bool.false_ne_true
 | _ => cases y <;> exact absurd (show false = true from hs) Bool.false_ne_true
theorem op_ne : OpR X (compareOp .NotEq) rNe := by
 intro pins s σ H x y v u Q I rx ry h
 obtain ⟨hs, q⟩ := h
 cases x with
 | non =>
  cases rx
  cases y with
  | non => cases ry; exact PySem.EqNone.ne_none_none (fin_bl I q (by simp))
  | bl j => cases ry; exact PySem.EqNone.ne_none_bool (fin_bl I q (by simp))
  | int j => obtain ⟨t', rfl⟩ := ry; exact PySem.EqNone.ne_none_int (fin_bl I q (by simp))
  | str j => obtain ⟨t', rfl⟩ := ry; exact PySem.EqNone.ne_none_str (fin_bl I q (by simp))
  | _ => exact absurd (show false = true from hs) Bool.false_ne_true
 | bl i =>
  cases rx
  cases y with
  | non => cases ry; exact PySem.EqNone.ne_bool_none (fin_bl I q (by simp))
  | bl j => cases ry; exact ne_bool (fin_bl I q (congrArg not dec_bl))
  | str j => obtain ⟨t', rfl⟩ := ry; exact PySem.EqMixed.ne_bool_str (fin_bl I q (by simp))
  | _ => exact absurd (show false = true from hs) Bool.false_ne_true
 | int i =>
  obtain ⟨t, rfl⟩ := rx
  cases y with
  | non => cases ry; exact PySem.EqNone.ne_int_none (fin_bl I q (by simp))
  | int j => obtain ⟨t', rfl⟩ := ry; exact ne_int (fin_bl I q (congrArg not dec_int))
  | str j => obtain ⟨t', rfl⟩ := ry; exact PySem.EqMixed.ne_int_str (fin_bl I q (by simp))
  | _ => exact absurd (show false = true from hs) Bool.false_ne_true
 | str i =>
  obtain ⟨t, rfl⟩ := rx
  cases y with
  | non => cases ry; exact PySem.EqNone.ne_str_none (fin_bl I q (by simp))
  | bl j => cases ry; exact PySem.EqMixed.ne_str_bool (fin_bl I q (by simp))
  | int j => obtain ⟨t', rfl⟩ := ry; exact PySem.EqMixed.ne_str_int (fin_bl I q (by simp))
  | str j => obtain ⟨t', rfl⟩ := ry; exact ne_str (fin_bl I q (congrArg not dec_str))
  | _ => exact absurd (show false = true from hs) Bool.false_ne_true
 | byt i =>
  obtain ⟨t, rfl⟩ := rx
  cases y with
  | byt j => obtain ⟨t', rfl⟩ := ry; exact PySem.W.ne_bytes (fin_bl I q (congrArg not dec_byt))
  | _ => exact absurd (show false = true from hs) Bool.false_ne_true
 | _ => cases y <;> exact absurd (show false = true from hs) Bool.false_ne_true
theorem op_lt : OpR X (compareOp .Lt) (rI0 fun i j => .bl (decide (i < j))) := opB0 fun _ _ _ _ _ _ _ q => lt_int q
theorem op_le : OpR X (compareOp .LtE) (rI0 fun i j => .bl (decide (i ≤ j))) := opB0 fun _ _ _ _ _ _ _ q => le_int q
theorem op_gt : OpR X (compareOp .Gt) (rI0 fun i j => .bl (decide (j < i))) := opB0 fun _ _ _ _ _ _ _ q => gt_int q
theorem op_ge : OpR X (compareOp .GtE) (rI0 fun i j => .bl (decide (j ≤ i))) := opB0 fun _ _ _ _ _ _ _ q => ge_int q
theorem op_lt_str : OpR X (compareOp .Lt) (fun x y H Q => ∃ i j, x = .str i ∧ y = .str j ∧ Q (.bl (decide (i.cps.toList < j.cps.toList))) H) := by
 intro pins s σ H x y v u Q I rx ry h
 obtain ⟨i, j, rfl, rfl, q⟩ := h
 obtain ⟨t, rfl⟩ := rx
 obtain ⟨t', rfl⟩ := ry
 exact lt_str (fin_bl I q rfl)
theorem op_isN : OpR X (compareOp .Is) (fun x y H Q => y = .non ∧ Q (.bl (decide (x = .non))) H) := by
 intro pins s σ H x y v u Q I rx ry h
 obtain ⟨rfl, q⟩ := h
 cases ry
 refine is_none_gen (fin_bl I q ?_)
 cases x <;> first
  | (cases rx; rfl)
  | (obtain ⟨t, rfl⟩ := rx; rfl)
theorem nomark (b : Expr) {op : CmpOp} (h : op ≠ .In := by decide) (h2 : op ≠ .NotIn := by decide) : behindInMarks op b = false := by
 have e1 : (op == CmpOp.In) = false := by cases op <;> first | rfl | exact absurd rfl h
 have e2 : (op == CmpOp.NotIn) = false := by cases op <;> first | rfl | exact absurd rfl h2
 cases b <;> simp [behindInMarks, e1, e2]
theorem pe_cmpR {op : CmpOp} {r : R2} (ho : OpR X (compareOp op) r) (ha : PE X a ta) (hb : PE X b tb) (hm : behindInMarks op b = false) : PE X (.Compare a [op] [b] pos) (tOp r ta tb) := by
 intro pins s σ H Q I h
 exact wpAny_Compare1 (binT ha hb I h fun v u s2 x y H2 I2 rx ry q => ho pins s2 σ H2 x y v u Q I2 rx ry q) hm
noncomputable def tTest (t : TE) : TT := fun σ H Q => t σ H fun x H' => ∃ k, x = .bl k ∧ Q k H'
theorem pt_cmpR {op : CmpOp} {r : R2} (ho : OpR X (compareOp op) r) (ha : PE X a ta) (hb : PE X b tb) (hm : behindInMarks op b = false) : PT X (.Compare a [op] [b] pos) (tTest (tOp r ta tb)) := by
 intro pins s σ H Q I h
 refine wpAny_isTrue_Compare1 (thn (ha pins s σ H _ I h) fun v s1 ⟨x, H1, I1, r1, q1⟩ => thn (hb pins s1 σ H1 _ I1 q1) fun u s2 ⟨y, H2, I2, r2, q2⟩ =>
  thn (ho pins s2 σ H2 x y v u _ I2 r1 r2 q2) fun c s3 ⟨z, H3, I3, r3, k, e, q3⟩ => ?_) hm
 subst e
 cases r3
 exact wpAny_truthy_bool ⟨H3, I3, q3⟩
noncomputable def tChain (r r' : R2) (ta tb tc : TE) : TE := fun σ H Q => ta σ H fun x H1 => tb σ H1 fun y H2 => r x y H2 fun z H3 => ∃ k, z = .bl k ∧
 (if k = true then tc σ H3 fun w' H4 => r' y w' H4 Q else Q (.bl false) H3)
theorem pe_chain {op op' : CmpOp} {r r' : R2} (ho : OpR X (compareOp op) r) (ho' : OpR X (compareOp op') r') (ha : PE X a ta) (hb : PE X b tb) (hc : PE X c tc)
  (hm : lastMarks [op, op'] [b, c] = false := by with_unfolding_all rfl) : PE X (.Compare a [op, op'] [b, c] pos) (tChain r r' ta tb tc) := by
 intro pins s σ H Q I h
 refine Compare_chain (thn (ha pins s σ H _ I h) fun v s1 ⟨x, H1, I1, r1, q1⟩ => chain_link (thn (hb pins s1 σ H1 _ I1 q1) fun u s2 ⟨y, H2, I2, r2, q2⟩ =>
  thn (ho pins s2 σ H2 x y v u _ I2 r1 r2 q2) fun d s3 ⟨z, H3, I3, r3, k, e, q3⟩ => ?_)) hm
 subst e
 cases r3
 refine wpAny_truthy_bool ?_
 cases k with
 | false => exact ite_ff ⟨.bl false, H3, I3, rfl, q3⟩
 | true => exact ite_tt (chain_last (thn (hc pins s3 σ H3 _ I3 q3) fun w' s4 ⟨z', H4, I4, r4, q4⟩ => ho' pins s4 σ H4 y z' u w' Q I4 r2 r4 q4))
theorem pt_chain {op op' : CmpOp} {r r' : R2} (ho : OpR X (compareOp op) r) (ho' : OpR X (compareOp op') r') (ha : PE X a ta) (hb : PE X b tb) (hc : PE X c tc)
  (hm : lastMarks [op, op'] [b, c] = false := by with_unfolding_all rfl) : PT X (.Compare a [op, op'] [b, c] pos) (tTest (tChain r r' ta tb tc)) := by
 intro pins s σ H Q I h
 refine isTrue_chain (thn (ha pins s σ H _ I h) fun v s1 ⟨x, H1, I1, r1, q1⟩ => test_link (thn (hb pins s1 σ H1 _ I1 q1) fun u s2 ⟨y, H2, I2, r2, q2⟩ =>
  thn (ho pins s2 σ H2 x y v u _ I2 r1 r2 q2) fun d s3 ⟨z, H3, I3, r3, k, e, q3⟩ => ?_)) hm
 subst e
 cases r3
 refine wpAny_truthy_bool ?_
 cases k with
 | false =>
  obtain ⟨k', e', q'⟩ := q3
  cases e'
  exact ite_ff ⟨H3, I3, q'⟩
 | true =>
  refine ite_tt (test_last (thn (hc pins s3 σ H3 _ I3 q3) fun w' s4 ⟨z', H4, I4, r4, q4⟩ => thn (ho' pins s4 σ H4 y z' u w' _ I4 r2 r4 q4) fun d' s5 ⟨z2, H5, I5, r5, k2, e2, q5⟩ => ?_))
  subst e2
  cases r5
  exact wpAny_truthy_bool ⟨H5, I5, q5⟩
noncomputable def TruV (K : PySem.W.Frag) (x : V) (H : Hp) (k : Bool) : Prop :=
 match x with
 | .non => k = false
 | .bl b => k = b
 | .int i => k = (i != 0)
 | .str y => y.length ≤ sizeLine ∧ k = ((y.length : Int) != 0)
 | .byt y => y.size ≤ sizeLine ∧ k = ((y.size : Int) != 0)
 | .ref p => (∃ xs, SqL K H p xs ∧ k = !xs.isEmpty) ∨ (∃ xs, SqT K H p xs ∧ k = !xs.isEmpty) ∨ ∃ kvs, H p = some (.dK kvs) ∧ k = !kvs.isEmpty
 | _ => False
theorem isEmpty_kv {κ : Type} {kvs : List (κ × V)} {vs : List (κ × Value)} (r : KV kvs vs) : (!vs.isEmpty) = !kvs.isEmpty := by
 cases r <;> rfl
theorem isEmpty_of {xs : List V} {its : List Value} (r : Vals xs its) : (!its.toArray.isEmpty) = !xs.isEmpty := by
 cases r <;> simp
theorem line63 : (sizeLine : Nat) < 2 ^ 63 := by rw [sizeLine_eq]; decide
theorem tru_ok : TruR X (fun x H Q => ∃ k, TruV X.K x H k ∧ Q k H) := by
 intro pins s σ H x v Q I rx h
 obtain ⟨k, e, q⟩ := h
 have hl := line63
 have hs : sizeLine = 16777216 := sizeLine_eq
 cases x with
 | non =>
  cases rx
  have e' : k = false := e
  subst e'
  exact truthy_none ⟨H, I, q⟩
 | bl b =>
  cases rx
  have e' : k = b := e
  subst e'
  exact wpAny_truthy_bool ⟨H, I, q⟩
 | int i =>
  obtain ⟨t, rfl⟩ := rx
  have e' : k = (i != 0) := e
  subst e'
  exact PySem.P.truthy_int ⟨H, I, q⟩
 | str y =>
  obtain ⟨t, rfl⟩ := rx
  obtain ⟨hy, e'⟩ : y.length ≤ sizeLine ∧ k = ((y.length : Int) != 0) := e
  subst e'
  exact PySem.P.truthy_str (by omega) ⟨H, I.tok _, q⟩
 | byt y =>
  obtain ⟨t, rfl⟩ := rx
  obtain ⟨hy, e'⟩ : y.size ≤ sizeLine ∧ k = ((y.size : Int) != 0) := e
  subst e'
  exact PySem.W.truthy_bytes (by omega) ⟨H, I.tok _, q⟩
 | ref p =>
  cases rx
  have e' : (∃ xs, SqL X.K H p xs ∧ k = !xs.isEmpty) ∨ (∃ xs, SqT X.K H p xs ∧ k = !xs.isEmpty) ∨ ∃ kvs, H p = some (.dK kvs) ∧ k = !kvs.isEmpty := e
  rcases e' with ⟨xs, hx, e'⟩ | ⟨xs, hx, e'⟩ | ⟨kvs, hx, e'⟩
  ·subst e'
   obtain ⟨its, r, pl, hz⟩ := I.list hx
   have hlen := r.length
   exact wpAny_truthy_list pl.isList (by simp only [List.size_toArray]; omega) ⟨H, I.tok _, by rw [isEmpty_of r]; exact q⟩
  ·subst e'
   obtain ⟨its, r, pl, hz⟩ := I.tuple hx
   have hlen := r.length
   exact truthy_tuple pl (by simp only [List.size_toArray]; omega) ⟨H, I.tok _, by rw [isEmpty_of r]; exact q⟩
  ·subst e'
   obtain ⟨hz, hS, vs, r, m⟩ : kvs.length ≤ sizeLine ∧ (p == sysModules) = false ∧ ∃ vs, KV kvs vs ∧ s.heap.DictOf (mixKind X.prog X.w) p vs := I.hok p _ hx
   have hlen : kvs.length = vs.length := Paired.length r
   exact wpAny_truthy_dict hS m (by omega) ⟨H, I.tok _, by rw [isEmpty_kv r]; exact q⟩
 | _ => exact (show False from e).elim
theorem pt_truth (ha : PE X a ta) (he : ∀ whole, isTrue a X.env whole = (do let v ← whole; standAt a.pos; holding [v] (truthy v))) :
  PT X a (fun σ H Q => ta σ H fun x H' => ∃ k, TruV X.K x H' k ∧ Q k H') := by
 intro pins s σ H Q I h
 exact isTrue_plain (thn (ha pins s σ H _ I h) fun v s1 ⟨x, H1, I1, r1, q1⟩ => tru_ok pins s1 σ H1 x v Q I1 r1 q1) (he _)
theorem op_add_str : OpR X (binaryOp .Add) (fun x y H Q => ∃ i j, x = .str i ∧ y = .str j ∧ i.length + j.length ≤ sizeLine ∧ Q (.str (i ++ j)) H) := by
 intro pins s σ H x y v u Q I rx ry h
 obtain ⟨i, j, rfl, rfl, hz, q⟩ := h
 obtain ⟨t, rfl⟩ := rx
 obtain ⟨t', rfl⟩ := ry
 exact add_str (fun t' tk => ⟨.str (i ++ j), H, I.tok _, ⟨_, rfl⟩, q⟩) hz
theorem vals1 {x : V} {us : List Value} (r : Vals [x] us) : ∃ u, us = [u] ∧ RelV x u := by
 cases r with
 | cons r1 r2 => cases r2; exact ⟨_, rfl, r1⟩
theorem vals2 {x y : V} {us : List Value} (r : Vals [x, y] us) : ∃ u w', us = [u, w'] ∧ RelV x u ∧ RelV y w' := by
 cases r with
 | cons r1 r2 =>
  cases r2 with
  | cons r3 r4 => cases r4; exact ⟨_, _, rfl, r1, r3⟩
theorem call_max2 (hc : X.calm = true) : CallR X (.builtin "max") (fun xs H Q => ∃ i j, xs = [.int i, .int j] ∧ Q (.int (if j > i then j else i)) H) := by
 intro pins s σ H xs us Q I r h
 obtain ⟨i, j, rfl, q⟩ := h
 obtain ⟨u, w', rfl, ⟨t, rfl⟩, ⟨t', rfl⟩⟩ := vals2 r
 refine max_two_ints (I.ok.hd hc) fun h' tk k => ⟨_, H, I.kept k, ?_, q⟩
 by_cases hj : j > i
 ·rw [if_pos hj, if_pos hj]; exact ⟨_, rfl⟩
 ·rw [if_neg hj, if_neg hj]; exact ⟨_, rfl⟩
theorem call_min2 (hc : X.calm = true) : CallR X (.builtin "min") (fun xs H Q => ∃ i j, xs = [.int i, .int j] ∧ Q (.int (if j < i then j else i)) H) := by
 intro pins s σ H xs us Q I r h
 obtain ⟨i, j, rfl, q⟩ := h
 obtain ⟨u, w', rfl, ⟨t, rfl⟩, ⟨t', rfl⟩⟩ := vals2 r
 refine min_two_ints (I.ok.hd hc) fun h' tk k => ⟨_, H, I.kept k, ?_, q⟩
 by_cases hj : j < i
 ·rw [if_pos hj, if_pos hj]; exact ⟨_, rfl⟩
 ·rw [if_neg hj, if_neg hj]; exact ⟨_, rfl⟩
theorem call_int1 : CallR X (.type "int") (fun xs H Q => (∃ i, xs = [.int i] ∧ Q (.int i) H) ∨ ∃ k, xs = [.bl k] ∧ Q (.int (if k then 1 else 0)) H) := by
 intro pins s σ H xs us Q I r h
 rcases h with ⟨i, rfl, q⟩ | ⟨k, rfl, q⟩
 ·obtain ⟨u, rfl, t, rfl⟩ := vals1 r
  exact call_int_int ⟨.int i, H, I, ⟨_, rfl⟩, q⟩
 ·obtain ⟨u, rfl, r1⟩ := vals1 r
  cases r1
  exact call_int_bool ⟨.int (if k then 1 else 0), H, I.tok _, ⟨_, rfl⟩, q⟩
noncomputable def LenV (K : PySem.W.Frag) (x : V) (H : Hp) (n : Nat) : Prop :=
 match x with
 | .str y => y.length ≤ sizeLine ∧ n = y.length
 | .byt y => y.size ≤ sizeLine ∧ n = y.size
 | .ref p => (∃ xs, SqL K H p xs ∧ n = xs.length) ∨ ∃ xs, SqT K H p xs ∧ n = xs.length
 | _ => False
theorem call_len : CallR X (.builtin "len") (fun xs H Q => ∃ x n, xs = [x] ∧ LenV X.K x H n ∧ Q (.int n) H) := by
 intro pins s σ H xs us Q I r h
 obtain ⟨x, n, rfl, e, q⟩ := h
 obtain ⟨u, rfl, rx⟩ := vals1 r
 have hl := line63
 have hs : sizeLine = 16777216 := sizeLine_eq
 cases x with
 | str y =>
  obtain ⟨t, rfl⟩ := rx
  obtain ⟨hy, e'⟩ : y.length ≤ sizeLine ∧ n = y.length := e
  subst e'
  exact len_str (by omega) ⟨.int _, H, I.tok _, ⟨_, rfl⟩, q⟩
 | byt y =>
  obtain ⟨t, rfl⟩ := rx
  obtain ⟨hy, e'⟩ : y.size ≤ sizeLine ∧ n = y.size := e
  subst e'
  exact PySem.W.len_bytes (by omega) ⟨.int _, H, I.tok _, ⟨_, rfl⟩, q⟩
 | ref p =>
  cases rx
  have e' : (∃ xs, SqL X.K H p xs ∧ n = xs.length) ∨ ∃ xs, SqT X.K H p xs ∧ n = xs.length := e
  rcases e' with ⟨xs, hx, e'⟩ | ⟨xs, hx, e'⟩
  ·subst e'
   obtain ⟨its, r', pl, hz⟩ := I.list hx
   have hlen := r'.length
   exact Calls.call_len_list pl.isList (by simp only [List.size_toArray]; omega) ⟨.int xs.length, H, I.tok _, ⟨_, by simp only [List.size_toArray]; rw [hlen]⟩, q⟩
  ·subst e'
   obtain ⟨its, r', pl, hz⟩ := I.tuple hx
   have hlen := r'.length
   exact len_tuple pl (by simp only [List.size_toArray]; omega) ⟨.int xs.length, H, I.tok _, ⟨_, by simp only [List.size_toArray]; rw [hlen]⟩, q⟩
 | _ => exact (show False from e).elim
end
end L2
namespace L2
open PySem PySem.Spec PyProof.Rows
structure ObjM (h : Heap) (x dx C : Addr) (mA : Str → Option Value) : Prop where
 obj : h.get? x = some (PySem.W.instObj C dx)
 ns : h.Ns1 dx mA
 ne : dx ≠ x
theorem lookIn_ns {h : Heap} {dx : Addr} {mA : Str → Option Value} (n : h.Ns1 dx mA) : ∃ od, h.get? dx = some od ∧ ∀ name, PySem.W.lookIn name od = some (mA name) := by
 obtain ⟨o, es, ep, ho, hd, hk, _, hm⟩ := n
 refine ⟨o, ho, fun name => ?_⟩
 have e := hm name
 unfold nsFind findBy at e
 rw [← Array.find?_toList] at e
 unfold PySem.W.lookIn
 rw [hd]
 dsimp only
 split
 ·rename_i y q
  rw [q] at e
  exact congrArg some e
 ·rename_i q
  rw [q] at e
  have a : es.toList.any (·.refKey) = false := by
   rw [List.any_eq_false]
   intro y hy
   obtain ⟨z, t, hkey⟩ := hk y (Array.mem_toList_iff.mp hy)
   simp [DictEntry.refKey, hkey]
  have a' : ¬ es.toList.any (·.refKey) = true := by rw [a]; exact Bool.false_ne_true
  rw [if_neg a']
  exact congrArg some e
theorem ObjM.look {h : Heap} {x dx C : Addr} {mA : Str → Option Value} (I : ObjM h x dx C mA) : ∃ od, PySem.W.InstAt h x (PySem.W.instObj C dx) C (some od) ∧ ∀ name, PySem.W.lookIn name od = some (mA name) :=
 let ⟨od, ho, hl⟩ := lookIn_ns I.ns
 ⟨od, ⟨I.obj, rfl, rfl, ho⟩, hl⟩
section
variable {prog : Program} {w : World} {A : Around} {E : Value → Shared → Prop} {s : Shared} {K : PySem.W.Frag} {x dx C f : Addr} {mA : Str → Option Value} {name : Str} {v : Value}
theorem get_map {expr : Bool} {Q : Value → Shared → Prop} (X : K.In s.heap) (I : ObjM s.heap x dx C mA) (hg : PySem.W.plainGet K C name = true) (hh : PySem.W.hasDictIn K C = true)
  (ha : PySem.W.findIn K (.ref C) name = some none) (hv : mA name = some v) (hv' : PySem.W.handedIn v = true) (h : Q v { s with toks := s.toks + 1 }) :
  wpAny (model prog w) A (getAttr (.ref x) name expr) Q E s := by
 obtain ⟨od, J, hl⟩ := I.look
 exact PySem.W.get_value X J (PySem.W.plainGet_of hg).1 (PySem.W.findObj_own hh ha rfl (by rw [hl, hv])) hv' h
theorem get_meth {pl : Sem Bool} {Q : Value × List Value → Shared → Prop} (X : K.In s.heap) (I : ObjM s.heap x dx C mA) (hg : PySem.W.plainGet K C name = true)
  (hf : PySem.W.findIn K (.ref C) name = some (some (.ref f))) (ht : PySem.W.isFn K (.ref f) = true) (hv : mA name = none) (h : Q (.ref f, [.ref x]) s) :
  wpAny (model prog w) A (getMethod (.ref x) name pl) Q E s := by
 obtain ⟨od, J, hl⟩ := I.look
 exact PySem.W.method_fn X J (PySem.W.plainGet_of hg).1 (PySem.W.plainGet_of hg).2 hf (beq_iff_eq.mp ht) (by show (PySem.W.lookIn name od).map (·.isSome) = some false; rw [hl, hv]; rfl) h
theorem set_map {ns : List Str} {Q : Unit → Shared → Prop} (X : K.In s.heap) (I : ObjM s.heap x dx C mA)
  (hs : PySem.W.findIn K (.ref C) "__setattr__" = some (some (.builtin "object.__setattr__"))) (hp : PySem.W.plainOver K C = true) (ht : PySem.W.takerIn K C name = some none) (hh : PySem.W.hasDictIn K C = true)
  (hw : PySem.Within mA ns) (hsz : ns.length ≤ sizeLine)
  (h : ∀ h', ObjM h' x dx C (fun y => if y = name then some v else mA y) → Heap.SameBut dx s.heap h' → Q () { s with heap := h', toks := s.toks + 2 }) :
  wpAny (model prog w) A (setAttr (.ref x) name v) Q E s := by
 obtain ⟨od, J, hl⟩ := I.look
 refine PySem.W.set_plain X J hs (PySem.W.osa_open (s := { s with toks := s.toks + 1 }) (r := none) X J hp ht fun b => ?_)
 obtain ⟨cd, hc, hd'⟩ := PySem.W.any_some hh
 have hx : s.heap.get? x = some ⟨.ref C, some dx, .plain, #[]⟩ := I.obj
 refine wpAny_bind (wpAny_pure (wpAny_bind (wpAny_bind (wpAny_loadPart hx (wpAny_bind (PySem.W.Looks.here (s := { s with toks := s.toks + 1 }) (PySem.W.looks_clsIn X hc) ?_))))))
 rw [hd']
 refine wpAny_pure (a := some dx) (wpAny_bind (wpAny_pure (wpAny_bind ?_)))
 refine wpAny_nsSet1 (s := { s with toks := s.toks + 1 }) I.ns fun h' hn2 hs2 => ?_
 obtain ⟨oD, esD, epD, hoD, hdD, hcD⟩ := hn2.count (PySem.Within.cons name v hw)
 refine wpAny_bind (wpAny_lookBehind hoD (by rw [hdD]; exact pastItsLine_dict (Nat.le_trans hcD (by rw [List.length_cons]; omega))) ?_)
 exact wpAny_pure (h _ ⟨(hs2.2 _ (Ne.symm I.ne)).trans I.obj, hn2, I.ne⟩ hs2)
theorem make_map {R : Result → Shared → Prop} {vs : List Value} {kw : List (Str × Value)} (X : K.In s.heap) (hm : PySem.W.makesIn K C = true)
  (hi : PySem.W.findIn K (.ref C) "__init__" = some (some (.ref f))) (hf : PySem.W.typeIn K (.ref f) = some (.type "function"))
  (h : codeAny (model prog w) (A.under (.builtin "type.__call__" ⟨.ref C :: vs, kw⟩)) (.call (.ref f) ⟨.ref (s.heap.objs.size + 1) :: vs, kw⟩) (PySem.W.InitBack (s.heap.objs.size + 1) R)
   { s with heap := (s.heap.push PySem.W.emptyDict).push (PySem.W.instObj C s.heap.objs.size) }) :
  codeAny (model prog w) A (.call (.ref C) ⟨vs, kw⟩) R s := by
 obtain ⟨hh, g, d, t, os⟩ := s
 exact PySem.W.make_core (PySem.W.makes_of X hm) (PySem.W.looks_findIn X hi) (fun self => PySem.W.bind_fn X self hf) (.inl rfl) h
end
noncomputable def putF (f : Str) (v : V) : List (Str × V) → List (Str × V)
 | [] => [(f, v)]
 | (g, x) :: r => if g = f then (g, v) :: r else (g, x) :: putF f v r
theorem lookup_putF (f g : Str) (v : V) : ∀ fs : List (Str × V), (putF f v fs).lookup g = if g = f then some v else fs.lookup g
 | [] => by
  show List.lookup g [(f, v)] = _
  by_cases h : g = f
  ·have hb : (g == f) = true := beq_iff_eq.mpr h
   simp only [List.lookup, hb, if_pos h]
  ·have hb : (g == f) = false := beq_eq_false_iff_ne.mpr h
   simp only [List.lookup, hb, if_neg h]
 | (k, x) :: r => by
  have ih := lookup_putF f g v r
  rw [show putF f v ((k, x) :: r) = (if k = f then (k, v) :: r else (k, x) :: putF f v r) from rfl]
  by_cases hk : k = f
  ·rw [if_pos hk]
   by_cases h : g = k
   ·have hb : (g == k) = true := beq_iff_eq.mpr h
    simp only [List.lookup, hb, if_pos (h.trans hk)]
   ·have hb : (g == k) = false := beq_eq_false_iff_ne.mpr h
    simp only [List.lookup, hb, if_neg (fun e : g = f => h (e.trans hk.symm))]
  ·rw [if_neg hk]
   by_cases h : g = k
   ·have hb : (g == k) = true := beq_iff_eq.mpr h
    simp only [List.lookup, hb, if_neg (fun e : g = f => hk (h.symm.trans e))]
   ·have hb : (g == k) = false := beq_eq_false_iff_ne.mpr h
    simp only [List.lookup, hb]
    exact ih
theorem keys_putF (f : Str) (v : V) : ∀ fs : List (Str × V), f ∈ (putF f v fs).map (·.1) ∧ ∀ g, g ∈ fs.map (·.1) → g ∈ (putF f v fs).map (·.1)
 | [] => ⟨by simp [putF], fun g h => by simp at h⟩
 | (k, x) :: r => by
  obtain ⟨i1, i2⟩ := keys_putF f v r
  rw [show putF f v ((k, x) :: r) = (if k = f then (k, v) :: r else (k, x) :: putF f v r) from rfl]
  by_cases hk : k = f
  ·rw [if_pos hk]
   subst hk
   exact ⟨by simp, fun g h => by simpa using h⟩
  ·rw [if_neg hk]
   refine ⟨?_, fun g h => ?_⟩
   ·rw [List.map_cons]
    exact List.mem_cons_of_mem _ i1
   ·rw [List.map_cons] at h ⊢
    rcases List.mem_cons.mp h with e | e
    ·exact List.mem_cons.mpr (.inl e)
    ·exact List.mem_cons_of_mem _ (i2 g e)
theorem length_putF (f : Str) (v : V) : ∀ fs : List (Str × V), (putF f v fs).length ≤ fs.length + 1
 | [] => by simp [putF]
 | (k, x) :: r => by
  have ih := length_putF f v r
  rw [show putF f v ((k, x) :: r) = (if k = f then (k, v) :: r else (k, x) :: putF f v r) from rfl]
  by_cases hk : k = f
  ·rw [if_pos hk, List.length_cons, List.length_cons]; omega
  ·rw [if_neg hk, List.length_cons, List.length_cons]; omega
theorem RelO.some_of {v : V} {o : Option Value} (r : RelO (some v) o) : ∃ u, o = some u ∧ RelV v u := by
 cases o with
 | none => exact (show False from r).elim
 | some u => exact ⟨u, rfl, r⟩
theorem RelO.none_of {o : Option Value} (r : RelO none o) : o = none := by
 cases o with
 | none => rfl
 | some u => exact (show False from r).elim
theorem handed_of {v : V} {u : Value} (r : RelV v u) : PySem.W.handedIn u = true := by
 cases v with
 | non => cases (show u = Value.none from r); rfl
 | bl b => cases (show u = Value.bool b from r); rfl
 | int i => obtain ⟨t, e⟩ := (show ∃ t, u = Value.int i t from r); cases e; rfl
 | str x => obtain ⟨t, e⟩ := (show ∃ t, u = Value.str x t from r); cases e; rfl
 | byt b => obtain ⟨t, e⟩ := (show ∃ t, u = Value.bytes b t from r); cases e; rfl
 | flt b => obtain ⟨t, e⟩ := (show ∃ t, u = Value.float b t from r); cases e; rfl
 | ref a => cases (show u = Value.ref a from r); rfl
 | ty n => cases (show u = Value.type n from r); rfl
section
variable {P : Program} {w : World} {H H' : Hp} {h h' : Heap} {a C dx : Addr} {fs fs' : List (Str × V)}
theorem ins_get (hok : HOk P w H h) (e : H a = some (.ins C dx fs)) : ∃ mA, ObjM h a dx C mA ∧ (∀ f, RelO (fs.lookup f) (mA f)) ∧ PySem.Within mA (fs.map (·.1)) ∧ fs.length ≤ 1000 ∧ H dx = some (.own a) := by
 obtain ⟨d, z, ne, ob, mA, n, r, q⟩ := (show ObjOk P w H h a (.ins C dx fs) from hok a _ e)
 exact ⟨mA, ⟨ob, n, ne⟩, r, q, z, d⟩
end
structure Cls (K : PySem.W.Frag) (C : Addr) : Prop where
 pg : PySem.W.plainGet K C Str.empty = true
 hd : PySem.W.hasDictIn K C = true
 po : PySem.W.plainOver K C = true
 sa : PySem.W.findIn K (.ref C) "__setattr__" = some (some (.builtin "object.__setattr__"))
theorem Cls.get {K : PySem.W.Frag} {C : Addr} (c : Cls K C) (f : Str) : PySem.W.plainGet K C f = true := c.pg
noncomputable def NoAttr (K : PySem.W.Frag) (C : Addr) (f : Str) : Prop := PySem.W.findIn K (.ref C) f = some none
theorem NoAttr.taker {K : PySem.W.Frag} {C : Addr} {f : Str} (n : NoAttr K C f) : PySem.W.takerIn K C f = some none := by
 unfold PySem.W.takerIn
 rw [show PySem.W.findIn K (.ref C) f = some none from n]
 rfl
structure Meth (K : PySem.W.Frag) (C : Addr) (m : Str) (f : Addr) : Prop where
 at_ : PySem.W.findIn K (.ref C) m = some (some (.ref f))
 fn : PySem.W.isFn K (.ref f) = true
 kp : PySem.W.keepIn K (.ref f) = true
section
variable {X : Cx} {pins : List (Addr × Obj)} {σ : St} {H : Hp} {s : Shared} {a C dx : Addr} {fs : List (Str × V)} {f : Str} {v : V} {A : Around} {E : Value → Shared → Prop}
theorem getattr_ok {b : Bool} {Q : Value → Shared → Prop} (I : Inv X pins σ H s) (e : H a = some (.ins C dx fs)) (c : Cls X.K C) (n : NoAttr X.K C f) (l : fs.lookup f = some v)
  (h : ∀ u s', Inv X pins σ H s' → RelV v u → Q u s') : wpAny (model X.prog X.w) A (getAttr (.ref a) f b) Q E s := by
 obtain ⟨mA, O, r, _, _, _⟩ := ins_get I.hok e
 obtain ⟨u, hu, ru⟩ := RelO.some_of (v := v) (o := mA f) (by rw [← l]; exact r f)
 exact get_map I.kIn O (c.get f) c.hd n hu (handed_of ru) (h u _ (I.tok _) ru)
theorem getmeth_ok {m : Str} {g : Addr} {pl : Sem Bool} {Q : Value × List Value → Shared → Prop} (I : Inv X pins σ H s) (e : H a = some (.ins C dx fs)) (c : Cls X.K C) (k : Meth X.K C m g) (l : fs.lookup m = none)
  (h : Q (.ref g, [.ref a]) s) : wpAny (model X.prog X.w) A (getMethod (.ref a) m pl) Q E s := by
 obtain ⟨mA, O, r, _, _, _⟩ := ins_get I.hok e
 have hn : mA m = none := RelO.none_of (by rw [← l]; exact r m)
 exact get_meth I.kIn O (c.get m) k.at_ k.fn hn h
theorem setattr_ok {y : V} {u : Value} {Q : Unit → Shared → Prop} (I : Inv X pins σ H s) (e : H a = some (.ins C dx fs)) (c : Cls X.K C) (n : NoAttr X.K C f) (hl : fs.length < 1000) (ry : RelV y u)
  (h : ∀ s', Inv X pins σ (upd H a (.ins C dx (putF f y fs))) s' → Q () s') : wpAny (model X.prog X.w) A (setAttr (.ref a) f u) Q E s := by
 obtain ⟨mA, O, r, wi, _, ho⟩ := ins_get I.hok e
 have hz : (fs.map (·.1)).length ≤ sizeLine := by rw [List.length_map, sizeLine_eq]; omega
 refine set_map I.kIn O c.sa c.po n.taker c.hd wi hz fun h' O' sb => h _ ?_
 have hd : ∃ o, h'.get? dx = some o := let ⟨o, _, _, e', _⟩ := O'.ns; ⟨o, e'⟩
 refine I.write (x := a) (e := dx) (by rw [e]; exact True.intro) (.inr ho) (fun b q hb z => (sb.2 b hb).trans z) hd ?_
 refine ⟨by rw [upd_ne O.ne]; exact ho, ?_, O.ne, O'.obj, _, O'.ns, fun g => ?_, fun g hg => ?_⟩
 ·have := length_putF f y fs; omega
 ·show RelO ((putF f y fs).lookup g) (if g = f then some u else mA g)
  rw [lookup_putF]
  by_cases q : g = f
  ·rw [if_pos q, if_pos q]; exact ry
  ·rw [if_neg q, if_neg q]; exact r g
 ·by_cases q : g = f
  ·rw [q]; exact (keys_putF f y fs).1
  ·refine (keys_putF f y fs).2 g (wi g fun z => hg ?_)
   show (if g = f then some u else mA g) = none
   rw [if_neg q]; exact z
theorem Inv.made (I : Inv X pins σ H s) : Inv X pins σ (upd (upd H s.heap.objs.size (.own (s.heap.objs.size + 1))) (s.heap.objs.size + 1) (.ins C s.heap.objs.size []))
  { s with heap := (s.heap.push PySem.W.emptyDict).push (PySem.W.instObj C s.heap.objs.size) } := by
 have e1 : (s.heap.push PySem.W.emptyDict).get? s.heap.objs.size = some PySem.W.emptyDict := Heap.get?_push_size s.heap rfl
 have e2 : ((s.heap.push PySem.W.emptyDict).push (PySem.W.instObj C s.heap.objs.size)).get? (s.heap.objs.size + 1) = some (PySem.W.instObj C s.heap.objs.size) := by
  have := Heap.get?_push_size (s.heap.push PySem.W.emptyDict) (o := PySem.W.instObj C s.heap.objs.size) rfl
  rwa [Heap.size_push] at this
 have e3 : (s.heap.push PySem.W.emptyDict).Ns s.heap.objs.size (fun _ => none) := ⟨PySem.W.emptyDict, #[], _, e1, rfl, (fun e he => absurd he (by simp)), fun _ => rfl⟩
 have I1 := I.laid (a := s.heap.objs.size) (o := .own (s.heap.objs.size + 1)) (h' := s.heap.push PySem.W.emptyDict) (t' := s.toks) (fun b u q => Heap.get?_push_of_some _ q) (Nat.le_refl _) ⟨_, e1⟩
 refine I1.laid (a := s.heap.objs.size + 1) (o := .ins C s.heap.objs.size []) (t' := s.toks) (fun b u q => Heap.get?_push_of_some _ q) (Nat.le_of_eq (Heap.size_push _ _)) ?_
 have ne : s.heap.objs.size ≠ s.heap.objs.size + 1 := Nat.ne_of_lt (Nat.lt_succ_self _)
 refine ⟨by rw [upd_ne ne, upd_same], Nat.zero_le _, ne, e2, fun _ => none, (Heap.Ns1.of_empty e3).at fun o q => Heap.get?_push_of_some _ q, fun _ => True.intro, fun y hy => absurd rfl hy⟩
theorem attr_of {prog : Program} {w : World} {env : Env} {e : Expr} {f : Str} {pos : Pos} {s : Shared} {Q : Value → Shared → Prop} (hb : attributeBase e f env (eval e env) = eval e env)
  (h : wpAny (model prog w) A (eval e env) (fun o s₁ => wpAny (model prog w) A (getAttr o f true) Q E s₁) E s) : wpAny (model prog w) A (eval (.Attribute e f pos) env) Q E s :=
 Attribute_any_ h (by rw [arm_eval_Attribute, hb])
end
noncomputable def tFld (K : PySem.W.Frag) (ta : TE) (f : Str) : TE := fun σ H Q => ta σ H fun x H1 => ∃ a C dx fs v, x = .ref a ∧ H1 a = some (.ins C dx fs) ∧ Cls K C ∧ NoAttr K C f ∧ fs.lookup f = some v ∧ Q v H1
noncomputable def sFld (K : PySem.W.Frag) (ta tv : TE) (f : Str) : TS := fun D σ H => tv σ H fun y H1 => ta σ H1 fun x H2 => ∃ a C dx fs, x = .ref a ∧ H2 a = some (.ins C dx fs) ∧ Cls K C ∧ NoAttr K C f ∧ fs.length < 1000 ∧
 D.nx σ (upd H2 a (.ins C dx (putF f y fs)))
noncomputable def InOp (X : Cx) (op : Operator) (rd : V → V → Hp → VK → Prop) : Prop :=
 ∀ (pins : List (Addr × Obj)) (s : Shared) (σ : St) (H : Hp) (x y : V) (u v : Value) (Q : VK), Inv X pins σ H s → RelV x u → RelV y v → rd x y H Q → wpAny (model X.prog X.w) X.A (inplaceOp op u v) (EP X pins σ Q) X.xe s
noncomputable def sFldAug (K : PySem.W.Frag) (ta tv : TE) (rd : V → V → Hp → VK → Prop) (f : Str) : TS := fun D σ H => ta σ H fun x H1 => ∃ a C dx fs v, x = .ref a ∧ H1 a = some (.ins C dx fs) ∧ Cls K C ∧ NoAttr K C f ∧ fs.lookup f = some v ∧
 tv σ H1 fun y H2 => rd v y H2 fun z H3 => ∃ dx' fs', H3 a = some (.ins C dx' fs') ∧ fs'.length < 1000 ∧ D.nx σ (upd H3 a (.ins C dx' (putF f z fs')))
section
variable {X : Cx} {o e value : Expr} {f : Str} {pos pos' tpos : Pos} {ta tv : TE}
theorem pe_fld (he : PE X e ta) (hb : attributeBase e f X.env (eval e X.env) = eval e X.env) : PE X (.Attribute e f pos) (tFld X.K ta f) := by
 intro pins s σ H Q I h
 refine attr_of hb (thn (he pins s σ H _ I h) fun u s1 ⟨x, H1, I1, rx, a, C, dx, fs, v, ex, ea, c, n, l, q⟩ => ?_)
 subst ex
 obtain rfl : u = Value.ref a := rx
 exact getattr_ok I1 ea c n l fun u' s2 I2 ru => ⟨v, H1, I2, ru, q⟩
theorem ps_fld (ha : PE X o ta) (hv : PE X value tv) (hs : swapsWith value (some (.Attribute o f pos')) pos.line X.env = pure false) : PS X (.Assign [.Attribute o f pos'] value pos) (sFld X.K ta tv f) := by
 intro pins s σ H D I h
 refine plainObj_wpAny_Assign_Attribute (thn (hv pins s σ H _ I h) fun u s1 ⟨y, H1, I1, ry, q⟩ => thn (ha pins s1 σ H1 _ I1 q) fun ov s2 ⟨x, H2, I2, rx, a, C, dx, fs, ex, ea, c, n, l, q2⟩ => ?_) hs
 subst ex
 obtain rfl : ov = Value.ref a := rx
 exact setattr_ok I2 ea c n l ry fun s3 I3 => ⟨σ, _, I3, q2⟩
theorem ps_fldaug {op : Operator} {rd : V → V → Hp → VK → Prop} (ha : PE X o ta) (hv : PE X value tv) (hop : InOp X op rd) : PS X (.AugAssign (.Attribute o f tpos) op value pos) (sFldAug X.K ta tv rd f) := by
 intro pins s σ H D I h
 refine wpAny_AugAssign_AttributeAny (thn (ha pins s σ H _ I h) fun ov s1 ⟨x, H1, I1, rx, a, C, dx, fs, v, ex, ea, c, n, l, q⟩ => ?_)
 subst ex
 obtain rfl : ov = Value.ref a := rx
 refine getattr_ok I1 ea c n l fun u s2 I2 ru => thn (hv pins s2 σ H1 _ I2 q) fun w3 s3 ⟨y, H2, I3, ry, q3⟩ => thn (hop pins s3 σ H2 v y u w3 _ I3 ru ry q3) fun w4 s4 ⟨z, H3, I4, rz, dx', fs', ea', l', q4⟩ => ?_
 exact setattr_ok I4 ea' c n l' rz fun s5 I5 => ⟨σ, _, I5, q4⟩
noncomputable def rAdd : V → V → Hp → VK → Prop := fun x y H Q => ∃ i j, x = .int i ∧ y = .int j ∧ Q (.int (i + j)) H
theorem in_add : InOp X .Add rAdd := by
 rintro pins s σ H x y u v Q I rx ry ⟨i, j, rfl, rfl, q⟩
 obtain ⟨t, rfl⟩ := (show ∃ t, u = Value.int i t from rx)
 obtain ⟨t', rfl⟩ := (show ∃ t', v = Value.int j t' from ry)
 exact PyProof.Rows.iadd_int ⟨.int (i + j), H, I.tok _, ⟨_, rfl⟩, q⟩
end
section
variable {X : Cx} {pins : List (Addr × Obj)} {σ : St} {H : Hp} {s : Shared} {A : Around} {E : Value → Shared → Prop} {Q : Value → Shared → Prop} {c : Value} {b : Bool}
inductive TyOf (K : PySem.W.Frag) (H : Hp) : V → Value → Prop where
 | non : TyOf K H .non (.type "NoneType")
 | bl (x : Bool) : TyOf K H (.bl x) (.type "bool")
 | int (i : Int) : TyOf K H (.int i) (.type "int")
 | str (x : Str) : TyOf K H (.str x) (.type "str")
 | flt (x : UInt64) : TyOf K H (.flt x) (.type "float")
 | lst {a : Addr} {xs : List V} (e : H a = some (.lst xs)) : TyOf K H (.ref a) (.type "list")
 | frz {a : Addr} {o : Obj} {xs : List V} (e : H a = some (.frz o (.lst xs))) : TyOf K H (.ref a) (.type "list")
 | tup {a : Addr} {xs : List V} (e : H a = some (.tup xs)) : TyOf K H (.ref a) (.type "tuple")
 | dK {a : Addr} {kvs : List (Key × V)} (e : H a = some (.dK kvs)) : TyOf K H (.ref a) (.type "dict")
 | dT {a : Addr} {kvs : List (List Key × V)} (e : H a = some (.dT kvs)) : TyOf K H (.ref a) (.type "dict")
 | ins {a C dx : Addr} {fs : List (Str × V)} (e : H a = some (.ins C dx fs)) (cl : Cls K C) (ha : PySem.W.findIn K (.ref C) "__class__" = some (some (.builtin "object.__class__")))
   (hn : PySem.W.specialIn K (.builtin "object.__class__") "__get__" = some (some (.builtin "getset_descriptor.__get__"))) (htk : PySem.W.takesIn K (.builtin "object.__class__") = some true)
   (hm : PySem.W.mroIn K C (.type "object") = some true) : TyOf K H (.ref a) (.ref C)
theorem isinst_ok {x : V} {u t : Value} (I : Inv X pins σ H s) (rx : RelV x u) (ty : TyOf X.K H x t) (e : PySem.W.kitOne X.K t c = some b) (h : ∀ tk, Q (.bool b) { s with toks := tk }) :
  wpAny (model X.prog X.w) A (call (.builtin "isinstance") [u, c]) Q E s := by
 cases ty with
 | non => cases (show u = Value.none from rx); exact PySem.W.kia_one PySem.W.kitx_none I.kIn True.intro e (fun z => nomatch z) h
 | bl y => cases (show u = Value.bool y from rx); exact PySem.W.kia_one PySem.W.kitx_bool I.kIn True.intro e (fun z => nomatch z) h
 | int i => obtain ⟨t, q⟩ := (show ∃ t, u = Value.int i t from rx); cases q; exact PySem.W.kia_one PySem.W.kitx_int I.kIn True.intro e (fun z => nomatch z) h
 | str y => obtain ⟨t, q⟩ := (show ∃ t, u = Value.str y t from rx); cases q; exact PySem.W.kia_one PySem.W.kitx_str I.kIn True.intro e (fun z => nomatch z) h
 | flt y => obtain ⟨t, q⟩ := (show ∃ t, u = Value.float y t from rx); cases q; exact PySem.W.kia_one PySem.W.kitx_float I.kIn True.intro e (fun z => nomatch z) h
 | @lst a xs ea =>
  cases (show u = Value.ref a from rx)
  obtain ⟨_, _, n, _, h1⟩ := (show ObjOk X.prog X.w H s.heap a (.lst xs) from I.hok a _ ea)
  exact PySem.W.kia_one PySem.W.kitx_list I.kIn ⟨_, h1, rfl⟩ e (fun z => nomatch z) h
 | @frz a ob xs ea =>
  cases (show u = Value.ref a from rx)
  obtain ⟨_, _, _, n, _, h1⟩ := (show ObjOk X.prog X.w H s.heap a (.frz ob (.lst xs)) from I.hok a _ ea)
  exact PySem.W.kia_one PySem.W.kitx_list I.kIn ⟨_, h1, rfl⟩ e (fun z => nomatch z) h
 | @tup a xs ea =>
  cases (show u = Value.ref a from rx)
  obtain ⟨_, _, _, p⟩ := (show ObjOk X.prog X.w H s.heap a (.tup xs) from I.hok a _ ea)
  obtain ⟨o, h1, h2, _⟩ := p
  exact PySem.W.kia_one PySem.W.kitx_tuple I.kIn ⟨o, h1, h2⟩ e (fun z => nomatch z) h
 | @dK a kvs ea =>
  cases (show u = Value.ref a from rx)
  obtain ⟨_, _, vs, _, p⟩ := (show ObjOk X.prog X.w H s.heap a (.dK kvs) from I.hok a _ ea)
  obtain ⟨o, es, ep, h1, h2, _⟩ := p
  exact PySem.W.kia_one PySem.W.kitx_dict I.kIn ⟨o, h1, h2.1⟩ e (fun z => nomatch z) h
 | @dT a kvs ea =>
  cases (show u = Value.ref a from rx)
  obtain ⟨_, _, xs, _, o, es, ep, h1, h2, _⟩ := (show ObjOk X.prog X.w H s.heap a (.dT kvs) from I.hok a _ ea)
  exact PySem.W.kia_one PySem.W.kitx_dict I.kIn ⟨o, h1, h2.1⟩ e (fun z => nomatch z) h
 | @ins a C dx fs ea cl ha hn htk hm =>
  cases (show u = Value.ref a from rx)
  obtain ⟨mA, O, _⟩ := ins_get I.hok ea
  obtain ⟨od, J, _⟩ := O.look
  exact PySem.W.kia_one (PySem.W.kitx_own (cl.get _) cl.hd ha hn htk hm) I.kIn J e (fun z => nomatch z) h
end
end L2
namespace L2
open PySem PySem.Spec PyProof.Rows
structure Room (k : Nat) (A : Around) : Prop where
 hd : A.handled = none
 dp : A.depth + 3 * k + 5 < recursionLimit
 un : A.units + 16 * k + 200 < cLine
 gd : A.guards = some []
theorem Room.mono {j k : Nat} {A : Around} (r : Room k A) (h : j ≤ k) : Room j A := ⟨r.hd, by have := r.dp; omega, by have := r.un; omega, r.gd⟩
theorem Room.deeper {k : Nat} {A : Around} (r : Room (k + 1) A) (env : Env) : Room k (A.deeper env) :=
 ⟨r.hd, by have := r.dp; show A.depth + 1 + 3 * k + 5 < _; omega, by have := r.un; show A.units + 3 + 16 * k + 200 < _; omega, r.gd⟩
theorem make_depth {A : Around} {C : Addr} {us : List Value} {kw : List (Str × Value)} : (A.under (.builtin "type.__call__" ⟨.ref C :: us, kw⟩)).depth = A.depth + 1 := by
 first | rfl | simp [Around.under, Code.weight, Code.isCreation, Code.isGuard, Code.isCaller, Code.frames, Code.isFrame, guardIds]
theorem make_units {A : Around} {C : Addr} {us : List Value} {kw : List (Str × Value)} : (A.under (.builtin "type.__call__" ⟨.ref C :: us, kw⟩)).units = A.units + 1 := by
 first | rfl | simp [Around.under, Code.cUnits, Code.frames, Code.isFrame]
theorem Room.make {k : Nat} {A : Around} (r : Room (k + 1) A) (C : Addr) (us : List Value) (kw : List (Str × Value)) : Room k (A.under (.builtin "type.__call__" ⟨.ref C :: us, kw⟩)) :=
 ⟨r.hd, by have := r.dp; rw [make_depth]; omega, by have := r.un; rw [make_units]; omega, r.gd⟩
theorem Room.depth {k : Nat} {A : Around} (r : Room k A) : A.depth < recursionLimit := by have := r.dp; omega
theorem Room.units {k : Nat} {A : Around} (r : Room k A) : A.units + 64 < cLine := by have := r.un; omega
noncomputable def tNil : TA := fun _ H Q => Q [] H
noncomputable def tCons (ta : TE) (tr : TA) : TA := fun σ H Q => ta σ H fun x H1 => tr σ H1 fun xs H2 => Q (x :: xs) H2
section
variable {X : Cx} {e : Expr} {es : List Expr} {te : TE} {t : TA} {pos : Pos}
theorem pa_nil : PA X [] tNil := fun _ _ _ _ H Q I h => Calls.spliced_nil ⟨[], H, I, .nil, h⟩
theorem pa_cons (ha : PE X e te) (hr : PA X es t) (hs : starEach (e :: es) X.env = (false, eval e X.env) :: starEach es X.env := by rfl) : PA X (e :: es) (tCons te t) := by
 intro pos pins s σ H Q I h
 rw [hs]
 show wpAny _ _ (spliced ((false, eval e X.env) :: backTo pos (starEach es X.env))) _ _ s
 refine Calls.spliced_cons (thn (ha pins s σ H _ I h) fun u s1 ⟨x, H1, I1, r1, q1⟩ => ?_)
 exact thn (hr pos pins s1 σ H1 _ I1 q1) fun us s2 ⟨xs, H2, I2, r2, q2⟩ => ⟨x :: xs, H2, I2, .cons r1 r2, q2⟩
noncomputable def tTup (t : TA) : TE := fun σ H Q => t σ H fun xs H1 => xs.length ≤ sizeLine ∧ ∀ p, H1 p = none → Q (.ref p) (upd H1 p (.tup xs))
noncomputable def tLst (t : TA) : TE := fun σ H Q => t σ H fun xs H1 => xs.length ≤ sizeLine ∧ ∀ p, H1 p = none → Q (.ref p) (upd H1 p (.lst xs))
theorem pe_tup {x1} (h : PA X es t) : PE X (.Tuple es x1 pos) (tTup t) := by
 intro pins s σ H Q I hq
 refine wpAny_Tuple_spliced (thn (h pos pins s σ H _ I hq) fun us s1 ⟨xs, H1, I1, r, z, q⟩ => ⟨by rw [← r.length]; exact z, ?_⟩)
 have hf : H1 s1.heap.objs.size = none := I1.hok.fresh (Nat.le_refl _)
 refine ⟨.ref s1.heap.objs.size, upd H1 s1.heap.objs.size (.tup xs), I1.laid (t' := s1.toks) (fun b u e => Heap.get?_push_of_some _ e) (Nat.le_refl _) ?_, rfl, q _ hf⟩
 exact ⟨z, us, r, ⟨_, Heap.get?_push_size _ rfl, rfl, _, rfl⟩⟩
theorem pe_lst (h : PA X es t) : PE X (.List es pos) (tLst t) := by
 intro pins s σ H Q I hq
 refine wpAny_List_spliced (thn (h pos pins s σ H _ I hq) fun us s1 ⟨xs, H1, I1, r, z, q⟩ => ⟨by rw [← r.length]; exact z, ?_⟩)
 have hf : H1 s1.heap.objs.size = none := I1.hok.fresh (Nat.le_refl _)
 refine ⟨.ref s1.heap.objs.size, upd H1 s1.heap.objs.size (.lst xs), I1.laid (t' := s1.toks) (fun b u e => Heap.get?_push_of_some _ e) (Nat.le_refl _) ?_, rfl, q _ hf⟩
 exact ⟨z, us, 0, r, Heap.get?_push_size _ rfl⟩
end
noncomputable abbrev Sp := List V → Hp → VK → XK → Prop
noncomputable abbrev CXT := List Env → Hp → Shared → XK → Value → Shared → Prop
structure Env0 (P : Program) (w : World) (K : PySem.W.Frag) (mg : Str → Option Value) (base : Heap) (A : Around) (outer : List Env) (s : Shared) (H : Hp) : Prop where
 frames : A.frames = some outer
 mod : Mod K mg base
 bs : ∀ b o, base.get? b = some o → s.heap.get? b = some o ∧ H b = none
 bsz : base.objs.size ≤ s.heap.objs.size
 funs : s.heap.FunFrames base outer
 frf : ∀ b ∈ frs outer, H b = none
 hok : HOk P w H s.heap
 bare : AllBare s.gens
noncomputable def CE (outer : List Env) (P : Program) (w : World) (H : Hp) (s : Shared) (Q : VK) (u : Value) (s' : Shared) : Prop :=
 ∃ v H', s'.os = s.os ∧ AllBare s'.gens ∧ Un (frs outer) [] H H' s.heap s'.heap ∧ HOk P w H' s'.heap ∧ RelV v u ∧ Q v H'
noncomputable def CR (CX : CXT) (outer : List Env) (P : Program) (w : World) (H : Hp) (s : Shared) (Q : VK) (E : XK) (r : Result) (s' : Shared) : Prop :=
 match r with
 | .ok (.ret u) => CE outer P w H s Q u s'
 | .ok _ => False
 | .error e => CX outer H s E e s'
structure FnOk (P : Program) (w : World) (K : PySem.W.Frag) (mg : Str → Option Value) (base : Heap) (CX : CXT) (k : Nat) (f : Addr) (fd : FuncData) (ps : List Str) (sp : Sp) : Prop where
 len : ∀ vs H Q E, sp vs H Q E → vs.length = ps.length
 run : ∀ (A : Around) (outer : List Env) (s : Shared) (H : Hp) (args : Args) (us : List Value) (vs : List V) (Q : VK) (E : XK), Room k A → Env0 P w K mg base A outer s H → BindsTo s fd args (ps.zip us) → Vals vs us → sp vs H Q E →
  codeAny (model P w) A (.call (.ref f) args) (CR CX outer P w H s Q E) s
theorem FnOk.mono {P : Program} {w : World} {K : PySem.W.Frag} {mg : Str → Option Value} {base : Heap} {CX : CXT} {j k : Nat} {f : Addr} {fd : FuncData} {ps : List Str} {sp : Sp} (F : FnOk P w K mg base CX j f fd ps sp) (h : j ≤ k) :
  FnOk P w K mg base CX k f fd ps sp := ⟨F.len, fun A outer s H args us vs Q E hr => F.run A outer s H args us vs Q E (hr.mono h)⟩
theorem FnOk.imp {P : Program} {w : World} {K : PySem.W.Frag} {mg : Str → Option Value} {base : Heap} {CX : CXT} {k : Nat} {f : Addr} {fd : FuncData} {ps : List Str} {sp sp' : Sp} (F : FnOk P w K mg base CX k f fd ps sp)
  (h : ∀ vs H Q E, sp' vs H Q E → sp vs H Q E) : FnOk P w K mg base CX k f fd ps sp' :=
 ⟨fun vs H Q E q => F.len vs H Q E (h _ _ _ _ q), fun A outer s H args us vs Q E hr he hb hv hs => F.run A outer s H args us vs Q E hr he hb hv (h _ _ _ _ hs)⟩
theorem Env0.make {P : Program} {w : World} {K : PySem.W.Frag} {mg : Str → Option Value} {base : Heap} {A : Around} {outer : List Env} {s : Shared} {H : Hp} (e : Env0 P w K mg base A outer s H) (C : Addr) (us : List Value) (kw : List (Str × Value)) :
  Env0 P w K mg base (A.under (.builtin "type.__call__" ⟨.ref C :: us, kw⟩)) outer s H := ⟨by first | exact e.frames | (simpa [Around.under, Code.envs, Code.isFrame, pushEnvs] using e.frames), e.mod, e.bs, e.bsz, e.funs, e.frf, e.hok, e.bare⟩
section
variable {X : Cx} {pins : List (Addr × Obj)} {σ : St} {H : Hp} {s s' : Shared}
theorem Inv.env0 (I : Inv X pins σ H s) : Env0 X.prog X.w X.K X.mg X.base X.A X.stack s H :=
 ⟨I.ok.frames, I.ok.mod, I.bs, Nat.le_trans I.ok.bsz I.sz, I.stack, I.stkFree, I.hok, I.bare⟩
theorem Inv.after {Q : VK} {u : Value} (I : Inv X pins σ H s) (h : CE X.stack X.prog X.w H s Q u s') : EP X pins σ Q u s' := by
 obtain ⟨v, H', os, bare, un, hok, r, q⟩ := h
 obtain ⟨hh, g, d, t, os'⟩ := s'
 obtain rfl : os' = s.os := os
 exact ⟨v, H', I.call (h' := hh) (g' := g) (d' := d) (t' := t) (ch := []) un hok bare (fun b z => absurd z (by simp)), r, q⟩
end
noncomputable def tCall (sp : Sp) (dvs : List V) (E : XK) (t : TA) : TE := fun σ H Q => t σ H fun vs H1 => sp (vs ++ dvs) H1 Q E
noncomputable def tMeth (C : Addr) (m : Str) (sp : Sp) (dvs : List V) (E : XK) (ta : TE) (t : TA) : TE := fun σ H Q => ta σ H fun x H1 => ∃ a dx fs, x = .ref a ∧ H1 a = some (.ins C dx fs) ∧ fs.lookup m = none ∧
 t σ H1 fun vs H2 => sp (x :: (vs ++ dvs)) H2 Q E
noncomputable def tMake (C : Addr) (sp : Sp) (dvs : List V) (E : XK) (t : TA) : TE := fun σ H Q => t σ H fun vs H1 => ∀ x dx, H1 x = none → H1 dx = none → dx ≠ x →
 sp (.ref x :: (vs ++ dvs)) (upd (upd H1 dx (.own x)) x (.ins C dx [])) (fun v H2 => v = .non ∧ Q (.ref x) H2) E
noncomputable def Binds (K : PySem.W.Frag) (fd : FuncData) (ps : List Str) (ds : List Value) : Prop :=
 ∀ (s : Shared) (us : List Value), K.In s.heap → (us ++ ds).length = ps.length → BindsTo s fd ⟨us, []⟩ (ps.zip (us ++ ds))
theorem Binds.all {K : PySem.W.Frag} {fd : FuncData} {ps : List Str} (h : ∀ us : List Value, us.length = ps.length → bindArgs fd ⟨us, []⟩ = pure (ps.zip us)) : Binds K fd ps [] := fun s us _ hl => by
 rw [List.append_nil] at hl ⊢
 exact .of_eq (h us hl)
noncomputable def Passes (CX : CXT) (X : Cx) (E : XK) : Prop := ∀ (pins : List (Addr × Obj)) (σ : St) (H : Hp) (s : Shared) (e : Value) (s' : Shared), Inv X pins σ H s → CX X.stack H s E e s' → X.xe e s'
section
variable {X : Cx} {CX : CXT} {k : Nat} {f C : Addr} {fd : FuncData} {ps : List Str} {sp : Sp} {dvs : List V} {ds : List Value} {E : XK} {x m : Str} {p pos apos : Pos} {e o : Expr} {es : List Expr} {ta : TE} {t : TA}
theorem run_fn {pins : List (Addr × Obj)} {σ : St} {H : Hp} {s : Shared} {Q : VK} {us : List Value} {vs : List V} (F : FnOk X.prog X.w X.K X.mg X.base CX k f fd ps sp) (hr : Room k X.A) (hb : Binds X.K fd ps ds) (hd : Vals dvs ds) (hx : Passes CX X E)
  (I : Inv X pins σ H s) (r : Vals vs us) (h : sp (vs ++ dvs) H Q E) : wpAny (model X.prog X.w) X.A (call (.ref f) us) (EP X pins σ Q) X.xe s := by
 have r2 : Vals (vs ++ dvs) (us ++ ds) := r.append hd
 have hl : (us ++ ds).length = ps.length := by rw [← r2.length]; exact F.len _ _ _ _ h
 refine wpAny_call (codeAny_mono (F.run X.A X.stack s H ⟨us, []⟩ (us ++ ds) (vs ++ dvs) Q E hr I.env0 (hb s us I.kIn hl) r2 h) fun r s' hq => ?_)
 cases r with
 | error e => exact hx pins σ H s e s' I hq
 | ok fl =>
  cases fl with
  | ret u => exact I.after hq
  | next => exact False.elim hq
  | brk => exact False.elim hq
  | cont => exact False.elim hq
theorem pe_call (F : FnOk X.prog X.w X.K X.mg X.base CX k f fd ps sp) (hr : Room k X.A) (hg : Gl X x) (hm : X.mg x = some (.ref f)) (hk : PySem.W.keepIn X.K (.ref f) = true) (hb : Binds X.K fd ps ds) (hd : Vals dvs ds) (hx : Passes CX X E)
  (ha : PA X (e :: es) t) (hdb : (x == ("__debug__" : Str)) = false := by decide) (he : starEach (e :: es) X.env = (false, eval e X.env) :: starEach es X.env := by rfl) (hpl : (backTo pos (starEach es X.env)).any (·.1) = false := by rfl) :
  PE X (.Call (.Name x p) (e :: es) [] pos) (tCall sp dvs E t) := by
 intro pins s σ H Q I h
 refine wpAny_Call_Name_kw (ld_glob I hg hm ?_ hdb)
 refine PySem.W.callWith_K (h₀ := X.base) I.ok.mod.kin hk (thn (ha pos pins s σ H _ I h) fun us s1 ⟨vs, H1, I1, r, q⟩ => ⟨I1.kIn, ?_⟩) he hpl
 exact run_fn F hr hb hd hx I1 r q
theorem pe_meth {pl : Sem Bool} (he : PE X o ta) (c : Cls X.K C) (hm : Meth X.K C m f) (F : FnOk X.prog X.w X.K X.mg X.base CX k f fd ps sp) (hr : Room k X.A) (hb : Binds X.K fd ps ds) (hd : Vals dvs ds) (hx : Passes CX X E) (ha : PA X (e :: es) t)
  (hst : starEach (e :: es) X.env = (false, eval e X.env) :: starEach es X.env := by rfl) (hpl : (backTo pos (starEach es X.env)).any (·.1) = false := by rfl)
  (ht : eval (.Call (.Attribute o m apos) (e :: es) [] pos) X.env = (do
   let ov ← eval o X.env
   standAt apos.atName
   let (f, first) ← holding [ov] (getMethod ov m pl)
   callWith pos f first (backTo pos (starEach (e :: es) X.env)) (backToKw pos (keywordEach [] X.env))) := by rfl) :
  PE X (.Call (.Attribute o m apos) (e :: es) [] pos) (tMeth C m sp dvs E ta t) := by
 intro pins s σ H Q I h
 refine PySem.W.methodCall_KW (pl := pl) (thn (he pins s σ H _ I h) fun u s1 ⟨x, H1, I1, rx, a, dx, fs, ex, ea, l, q⟩ => ?_) ht
 subst ex
 obtain rfl : u = Value.ref a := rx
 refine getmeth_ok I1 ea c hm l ?_
 refine PySem.W.callWith_K (first := [.ref a]) (h₀ := X.base) I.ok.mod.kin hm.kp (thn (ha pos pins s1 σ H1 _ I1 q) fun us s2 ⟨vs, H2, I2, r, q2⟩ => ⟨I2.kIn, ?_⟩) hst hpl
 exact run_fn (us := .ref a :: us) (vs := .ref a :: vs) F hr hb hd hx I2 (.cons rfl r) q2
theorem pe_meth0 {pl : Sem Bool} (he : PE X o ta) (c : Cls X.K C) (hm : Meth X.K C m f) (F : FnOk X.prog X.w X.K X.mg X.base CX k f fd ps sp) (hr : Room k X.A) (hb : Binds X.K fd ps ds) (hd : Vals dvs ds) (hx : Passes CX X E)
  (ht : eval (.Call (.Attribute o m apos) [] [] pos) X.env = (do
   let ov ← eval o X.env
   standAt apos.atName
   let (f, first) ← holding [ov] (getMethod ov m pl)
   callWith pos f first (backTo pos (starEach [] X.env)) (backToKw pos (keywordEach [] X.env))) := by rfl) :
  PE X (.Call (.Attribute o m apos) [] [] pos) (tMeth C m sp dvs E ta tNil) := by
 intro pins s σ H Q I h
 refine PySem.W.methodCall_KW (pl := pl) (thn (he pins s σ H _ I h) fun u s1 ⟨x, H1, I1, rx, a, dx, fs, ex, ea, l, q⟩ => ?_) ht
 subst ex
 obtain rfl : u = Value.ref a := rx
 refine getmeth_ok I1 ea c hm l ?_
 exact PySem.W.callWith_K0 (first := [.ref a]) I1.kIn hm.kp (run_fn (us := [.ref a]) (vs := [.ref a]) F hr hb hd hx I1 (.cons rfl .nil) q)
structure Mk (K : PySem.W.Frag) (C f : Addr) : Prop where
 makes : PySem.W.makesIn K C = true
 init : PySem.W.findIn K (.ref C) "__init__" = some (some (.ref f))
 fn : PySem.W.isFn K (.ref f) = true
 kp : PySem.W.keepIn K (.ref C) = true
theorem run_make {pins : List (Addr × Obj)} {σ : St} {H : Hp} {s : Shared} {Q : VK} {us : List Value} {vs : List V} (M : Mk X.K C f) (F : FnOk X.prog X.w X.K X.mg X.base CX k f fd ps sp) (hr : Room (k + 1) X.A) (hb : Binds X.K fd ps ds) (hd : Vals dvs ds)
  (hx : Passes CX X E) (I : Inv X pins σ H s) (r : Vals vs us)
  (h : ∀ x dx, H x = none → H dx = none → dx ≠ x → sp (.ref x :: (vs ++ dvs)) (upd (upd H dx (.own x)) x (.ins C dx [])) (fun v H2 => v = .non ∧ Q (.ref x) H2) E) :
  wpAny (model X.prog X.w) X.A (call (.ref C) us) (EP X pins σ Q) X.xe s := by
 have hq := h (s.heap.objs.size + 1) s.heap.objs.size (I.hok.fresh (Nat.le_succ _)) (I.hok.fresh (Nat.le_refl _)) (Nat.ne_of_lt (Nat.lt_succ_self _))
 have I2 := Inv.made (C := C) I
 have r2 : Vals (V.ref (s.heap.objs.size + 1) :: (vs ++ dvs)) (Value.ref (s.heap.objs.size + 1) :: (us ++ ds)) := .cons rfl (r.append hd)
 have hl : (Value.ref (s.heap.objs.size + 1) :: us ++ ds).length = ps.length := by
  have e := r2.length
  rw [F.len _ _ _ _ hq] at e
  exact e.symm
 refine wpAny_call (make_map (f := f) I.kIn M.makes M.init (beq_iff_eq.mp M.fn) (codeAny_mono (F.run _ X.stack _ _ ⟨Value.ref (s.heap.objs.size + 1) :: us, []⟩ (Value.ref (s.heap.objs.size + 1) :: (us ++ ds)) _ _ E (hr.make C us [])
  (I2.env0.make C us []) (hb _ (Value.ref (s.heap.objs.size + 1) :: us) I2.kIn hl) r2 hq) fun r s' hq' => ?_))
 cases r with
 | error e => exact hx pins σ _ _ e s' I2 hq'
 | ok fl =>
  cases fl with
  | ret u =>
   obtain ⟨v, H', I3, rv, ev, q3⟩ := I2.after hq'
   subst ev
   exact ⟨rv, ⟨V.ref (s.heap.objs.size + 1), H', I3, rfl, q3⟩⟩
  | next => exact False.elim hq'
  | brk => exact False.elim hq'
  | cont => exact False.elim hq'
theorem pe_make (M : Mk X.K C f) (F : FnOk X.prog X.w X.K X.mg X.base CX k f fd ps sp) (hr : Room (k + 1) X.A) (hg : Gl X x) (hm : X.mg x = some (.ref C)) (hb : Binds X.K fd ps ds) (hd : Vals dvs ds) (hx : Passes CX X E)
  (ha : PA X (e :: es) t) (hdb : (x == ("__debug__" : Str)) = false := by decide) (he : starEach (e :: es) X.env = (false, eval e X.env) :: starEach es X.env := by rfl) (hpl : (backTo pos (starEach es X.env)).any (·.1) = false := by rfl) :
  PE X (.Call (.Name x p) (e :: es) [] pos) (tMake C sp dvs E t) := by
 intro pins s σ H Q I h
 refine wpAny_Call_Name_kw (ld_glob I hg hm ?_ hdb)
 refine PySem.W.callWith_K (h₀ := X.base) I.ok.mod.kin M.kp (thn (ha pos pins s σ H _ I h) fun us s1 ⟨vs, H1, I1, r, q⟩ => ⟨I1.kIn, ?_⟩) he hpl
 exact run_make M F hr hb hd hx I1 r q
end
section
variable {X : Cx} {CX : CXT} {k : Nat} {f C : Addr} {fd : FuncData} {ps ks : List Str} {sp : Sp} {E : XK} {x m : Str} {p pos apos kpos : Pos} {e o : Expr} {es : List Expr} {kws : List Keyword} {te ta : TE} {t tk : TA} {nm : Option Str}
variable {g : List Value → List Value → List Value} {gV : List V → List V → List V}
end
structure FnScope (N P : List Str) (sc : Scope) : Prop where
 kind : sc.kind = .function
 co : sc.isCoroutine = false
 gen : sc.isGenerator = false
 nd : N.Nodup
 pre : N.take P.length = P
 par : ∀ x ∈ P, sc.names.lookup x = some .local ∨ sc.names.lookup x = some .cell
 nofree : ∀ y ∈ sc.names, y.2 ≠ .free
theorem bindL_out {kindOf : Str → Option NameKind} {x : Str} : ∀ {binds : List (Str × Value)} {m : Str → Option Value}, (∀ v, (x, v) ∉ binds) → bindL kindOf binds m x = m x
 | [], _, _ => rfl
 | (n, v) :: r, m, h => by
  unfold bindL
  rw [bindL_out fun w hw => h w (List.mem_cons_of_mem _ hw)]
  split
  ·have : x ≠ n := by rintro rfl; exact h v List.mem_cons_self
   simp [this]
  ·rfl
theorem bindC_out {kindOf : Str → Option NameKind} {x : Str} : ∀ {binds : List (Str × Value)} {m : Str → Option Value}, (∀ v, (x, v) ∉ binds) → bindC kindOf binds m x = m x
 | [], _, _ => rfl
 | (n, v) :: r, m, h => by
  unfold bindC
  rw [bindC_out fun w hw => h w (List.mem_cons_of_mem _ hw)]
  split
  ·rfl
  ·have : x ≠ n := by rintro rfl; exact h v List.mem_cons_self
   simp [this]
theorem bindL_get {kindOf : Str → Option NameKind} {x : Str} {v : Value} : ∀ {P : List Str} {vs : List Value} {i : Nat} {m : Str → Option Value}, P.Nodup → P[i]? = some x → vs[i]? = some v → kindOf x = some .local →
  bindL kindOf (P.zip vs) m x = some v
 | [], _, _, _, _, h, _, _ => by simp at h
 | _ :: _, [], _, _, _, _, h, _ => by simp at h
 | p :: P, w :: vs, 0, m, nd, h1, h2, hk => by
  simp at h1 h2; subst h1; subst h2
  show bindL kindOf ((p, w) :: P.zip vs) m p = _
  unfold bindL
  rw [bindL_out fun v hv => (List.nodup_cons.mp nd).1 (List.of_mem_zip hv).1, if_pos hk]
  simp
 | p :: P, w :: vs, i + 1, m, nd, h1, h2, hk => by
  show bindL kindOf ((p, w) :: P.zip vs) m x = _
  unfold bindL
  exact bindL_get (i := i) (List.nodup_cons.mp nd).2 (by simpa using h1) (by simpa using h2) hk
theorem bindC_get {kindOf : Str → Option NameKind} {x : Str} {v : Value} : ∀ {P : List Str} {vs : List Value} {i : Nat} {m : Str → Option Value}, P.Nodup → P[i]? = some x → vs[i]? = some v → kindOf x ≠ some .local →
  bindC kindOf (P.zip vs) m x = some v
 | [], _, _, _, _, h, _, _ => by simp at h
 | _ :: _, [], _, _, _, _, h, _ => by simp at h
 | p :: P, w :: vs, 0, m, nd, h1, h2, hk => by
  simp at h1 h2; subst h1; subst h2
  show bindC kindOf ((p, w) :: P.zip vs) m p = _
  unfold bindC
  rw [bindC_out fun v hv => (List.nodup_cons.mp nd).1 (List.of_mem_zip hv).1, if_neg hk]
  simp
 | p :: P, w :: vs, i + 1, m, nd, h1, h2, hk => by
  show bindC kindOf ((p, w) :: P.zip vs) m x = _
  unfold bindC
  exact bindC_get (i := i) (List.nodup_cons.mp nd).2 (by simpa using h1) (by simpa using h2) hk
noncomputable def start (N : List Str) (vs : List V) : St := vs.map some ++ List.replicate (N.length - vs.length) none
noncomputable def cxOf (CX : CXT) (P : Program) (w : World) (K : PySem.W.Frag) (mg : Str → Option Value) (base : Heap) (N : List Str) (qual : Str) (scope : Scope) (f : Addr) (cd : Value) (A : Around) (outer : List Env) (s : Shared) (H : Hp) (E : XK) : Cx where
 prog := P
 w := w
 K := K
 mg := mg
 base := base
 A := A.deeper (envOfC qual scope s.heap.objs.size f cd)
 N := N
 s₀ := s
 H₀ := H
 env := envOfC qual scope s.heap.objs.size f cd
 outer := outer
 stack := envOfC qual scope s.heap.objs.size f cd :: outer
 ex := []
 calm := true
 fn := fun _ => true
 pn := []
 xe := fun e s' => wpAny (model P w) (A.deeper (envOfC qual scope s.heap.objs.size f cd)) (leaving (envOfC qual scope s.heap.objs.size f cd) e) (fun _ s'' => CX outer H s E e s'') (fun e' s'' => CX outer H s E e' s'') s'
theorem cell_has {sc : Scope} {n : Nat} {x : Str} (h : sc.names.lookup x = some .cell) : ∃ c, (cellsFrom n sc.names []).lookup x = some c := by
 have q := PySem.W.cellsFrom_some sc.names n [] (.inl h)
 exact Option.isSome_iff_exists.mp q
theorem inv_start {CX : CXT} {P : Program} {w : World} {K : PySem.W.Frag} {mg : Str → Option Value} {base : Heap} {N ps : List Str} {qual : Str} {scope : Scope} {f : Addr} {cd : Value} {A : Around} {outer : List Env} {s s1 : Shared} {H : Hp} {E : XK} {us : List Value} {vs : List V}
  (S : FnScope N ps scope) (hd : A.handled = none) (e0 : Env0 P w K mg base A outer s H) (hl : vs.length = ps.length) (r : Vals vs us)
  (x : InCallC s s.heap.objs.size (bindL (envOfC qual scope s.heap.objs.size f cd).kindOf (ps.zip us) fun _ => none) (cellsFrom (s.heap.objs.size + 1) scope.names []) (bindC (envOfC qual scope s.heap.objs.size f cd).kindOf (ps.zip us) fun _ => none) s1) :
  Inv (cxOf CX P w K mg base N qual scope f cd A outer s H E) [] (start N vs) H s1 := by
 have hpl : ps.length ≤ N.length := by have := congrArg List.length S.pre; rw [List.length_take] at this; omega
 obtain ⟨h1, tk, rfl, hk⟩ := x.done
 have noA : ∀ b : Addr, b ∉ (cxOf CX P w K mg base N qual scope f cd A outer s H E).ex := fun b z => absurd (show b ∈ ([] : List Addr) from z) (by simp)
 refine ⟨⟨e0.mod, S.kind, rfl, rfl, Nat.le_refl _, fun y z c h1 h2 => ?_, fun y hy => ?_, fun y c _ h => ?_, fun _ => hd, Around.frames_deeper e0.frames, .inr ⟨rfl, rfl⟩, fun b z => absurd z (noA b), e0.bs, e0.bsz, fun b _ _ => noA b, fun b z => absurd z (noA b), e0.funs, e0.frf⟩,
  rfl, e0.bare, Un.kept hk, ⟨_, x.toInCall.ns, fun i y v h1 h2 h3 => ?_⟩, fun y c h => ⟨_, x.cell y c h⟩, e0.hok.fresh (Nat.le_refl _), fun y c h => ?_, fun p hp => absurd (show p ∈ ([] : List (Addr × Obj)) from hp) (by simp), e0.hok.kept hk, ?_⟩
 ·exact name_of_addr x.apart (PySem.mem_of_lookup h1) (PySem.mem_of_lookup h2)
 ·have hy : scope.names.lookup y = some .cell ∨ scope.names.lookup y = some .free := hy
  rcases hy with hy | hy
  ·exact cell_has hy
  ·exact absurd rfl (S.nofree _ (PySem.mem_of_lookup hy))
 ·exact Nat.le_of_lt (x.above y c (PySem.mem_of_lookup h))
 ·have hi : i < vs.length := by
   unfold start at h2
   by_cases hi : i < vs.length
   ·exact hi
   ·rw [List.getElem?_append_right (by simpa using hi)] at h2
    rw [List.getElem?_replicate] at h2
    split at h2 <;> cases h2
  have ha : vs[i]? = some v := by
   unfold start at h2
   rw [List.getElem?_append_left (by simpa using hi), List.getElem?_map] at h2
   cases e : vs[i]? with
   | none => rw [e] at h2; cases h2
   | some a => rw [e] at h2; cases h2; rfl
  obtain ⟨u, hu, rv⟩ := r.get ha
  have hp : ps[i]? = some y := by
   rw [← S.pre, List.getElem?_take_of_lt (by omega)]; exact h1
  have ndP : ps.Nodup := by rw [← S.pre]; exact S.nd.sublist (List.take_sublist _ _)
  refine ⟨u, rv, ?_⟩
  rcases S.par y (List.mem_of_getElem? hp) with k | k
  ·exact .inl ⟨k, bindL_get ndP hp hu k⟩
  ·obtain ⟨c, e⟩ := cell_has (n := s.heap.objs.size + 1) k
   refine .inr ⟨.inl k, c, e, ?_⟩
   have q := x.cell y c e
   rw [bindC_get ndP hp hu (by show scope.names.lookup y ≠ _; rw [k]; decide)] at q
   exact q
 ·exact e0.hok.fresh (Nat.le_of_lt (x.above y c (PySem.mem_of_lookup h)))
 ·unfold start
  show _ = N.length
  rw [List.length_append, List.length_map, List.length_replicate]
  omega
theorem fn_of {CX : CXT} {P : Program} {w : World} {K : PySem.W.Frag} {mg : Str → Option Value} {base : Heap} {k : Nat} {f : Addr} {name qual : Str} {params : Arguments} {body : List Stmt} {scope : Scope} {dV kV doc pm cdv ct oc : Value} {an od : Option Addr}
  {osl : Array (Option Value)} {N ps : List Str} {sp : Sp} (lk : K.lookup f = some ⟨oc, od, .func (PySem.W.fnOf name qual params body scope dV kV doc pm an cdv ct), osl⟩) (hcd : PySem.W.codeIn K cdv qual = true) (S : FnScope N ps scope)
  (len : ∀ vs H Q E, sp vs H Q E → vs.length = ps.length)
  (hbody : ∀ (A : Around) (outer : List Env) (s : Shared) (H : Hp) (vs : List V) (Q : VK) (E : XK), Room k (A.deeper (envOfC qual scope s.heap.objs.size f cdv)) → sp vs H Q E →
   ∃ t, PSs (cxOf CX P w K mg base N qual scope f cdv A outer s H E) body t ∧ t { nx := fun _ H' => Q .non H', rt := Q } (start N vs) H) :
  FnOk P w K mg base CX (k + 1) f (PySem.W.fnOf name qual params body scope dV kV doc pm an cdv ct) ps sp := by
 refine ⟨len, fun A outer s H args us vs Q E hr e0 hb r hsp => ?_⟩
 have hl := len _ _ _ _ hsp
 have KX : K.In s.heap := e0.mod.kin.keeps fun b o e => (e0.bs b o e).1
 have lim : s.heap.NoLimit := e0.mod.nolimit.keeps fun b o e => (e0.bs b o e).1
 have hkind : ∀ y ∈ ps.zip us, scope.names.lookup y.1 = some .local ∨ (scope.names.lookup y.1 = some .cell ∧ ((cellsFrom (s.heap.objs.size + 1) scope.names []).lookup y.1).isSome = true) := fun ⟨n, v⟩ hy => by
  rcases S.par n (List.of_mem_zip hy).1 with q | q
  ·exact .inl q
  ·exact .inr ⟨q, PySem.W.cellsFrom_some _ _ _ (.inl q)⟩
 refine codeAny_call_function hr.depth (KX _ _ lk) rfl S.co S.gen rfl (PySem.W.codeRec_of KX hcd) (hb _ _ _ _ ?_)
 refine wpAny_newFunctionEnv_cells S.kind hkind fun env he s1 x => ?_
 subst he
 refine ⟨lim.keeps x.toInCall.keep, codeAny_func ?_⟩
 obtain ⟨t, ht, hq⟩ := hbody A outer s H vs Q E (hr.deeper _) hsp
 have I : Inv (cxOf CX P w K mg base N qual scope f cdv A outer s H E) [] (start N vs) H s1 := inv_start S hr.hd e0 hl r x
 refine wpAny_mono (ht [] s1 (start N vs) H _ I hq) (fun fl s' hs => ?_) fun e s' hs => hs
 have fin : ∀ {σ' : St} {H' : Hp} {v : V} {u : Value}, Inv (cxOf CX P w K mg base N qual scope f cdv A outer s H E) [] σ' H' s' → RelV v u → Q v H' → CE outer P w H s Q u s' :=
  fun {σ' H' v u} J rv q => ⟨v, H', J.os, J.bare, J.base, J.hok, rv, q⟩
 cases fl with
 | ret u =>
  obtain ⟨v, σ', H', J, rv, q⟩ := hs
  exact fin J rv q
 | next =>
  obtain ⟨σ', H', J, q⟩ := hs
  exact fin (v := V.non) (u := Value.none) J rfl q
 | brk =>
  obtain ⟨_, _, _, q⟩ := hs
  exact False.elim q
 | cont =>
  obtain ⟨_, _, _, q⟩ := hs
  exact False.elim q
end L2
namespace L2
open PySem PySem.Spec PyProof.Rows
section
variable {X : Cx} {x : Str} {p pos : Pos} {e : Expr} {es : List Expr} {t : TA} {id T : String} {r : List V → Hp → VK → Prop}
noncomputable def tCB (r : List V → Hp → VK → Prop) (t : TA) : TE := fun σ H Q => t σ H fun vs H1 => r vs H1 Q
theorem pe_callB (hc : CallR X (.builtin id) r) (hg : Gl X x) (hm : X.mg x = none) (hv : bootBuiltins x = some (.builtin id)) (ha : PA X (e :: es) t) (hn : x ≠ "__name__" := by decide) (hdb : (x == ("__debug__" : Str)) = false := by decide)
  (he : starEach (e :: es) X.env = (false, eval e X.env) :: starEach es X.env := by rfl) (hpl : (backTo pos (starEach es X.env)).any (·.1) = false := by rfl) : PE X (.Call (.Name x p) (e :: es) [] pos) (tCB r t) := by
 intro pins s σ H Q I h
 refine wpAny_Call_Name_kw (ld_blt I hg hm hv ?_ hn hdb)
 exact PyProof.Rows.callWith_builtin1 (thn (ha pos pins s σ H _ I h) fun us s1 ⟨vs, H1, I1, r1, q1⟩ => hc pins s1 σ H1 vs us Q I1 r1 q1) he hpl
theorem pe_callTy (hc : CallR X (.type T) r) (hg : Gl X x) (hm : X.mg x = none) (hv : bootBuiltins x = some (.type T)) (ha : PA X (e :: es) t) (hn : x ≠ "__name__" := by decide) (hdb : (x == ("__debug__" : Str)) = false := by decide)
  (he : starEach (e :: es) X.env = (false, eval e X.env) :: starEach es X.env := by rfl) (hpl : (backTo pos (starEach es X.env)).any (·.1) = false := by rfl) : PE X (.Call (.Name x p) (e :: es) [] pos) (tCB r t) := by
 intro pins s σ H Q I h
 refine wpAny_Call_Name_kw (ld_blt I hg hm hv ?_ hn hdb)
 exact PyProof.Rows.callWith_type1 (thn (ha pos pins s σ H _ I h) fun us s1 ⟨vs, H1, I1, r1, q1⟩ => hc pins s1 σ H1 vs us Q I1 r1 q1) he hpl
end
end L2
namespace L2
open PySem PySem.Spec PyProof.Rows
section
variable {κ : Type} [DecidableEq κ]
noncomputable def valV (kvs : List (κ × V)) (k : κ) : Option V := (kvs.find? fun kv => decide (kv.1 = k)).map (·.2)
noncomputable def putK (kvs : List (κ × V)) (k : κ) (v : V) : List (κ × V) :=
 if (kvs.any fun kv => decide (kv.1 = k)) = true then kvs.map (fun kv => if kv.1 = k then (kv.1, v) else kv) else kvs ++ [(k, v)]
theorem valV_pos {p : κ × V} {r : List (κ × V)} {k : κ} (e : p.1 = k) : valV (p :: r) k = some p.2 := by simp [valV, List.find?_cons, e]
theorem valV_neg {p : κ × V} {r : List (κ × V)} {k : κ} (e : ¬ p.1 = k) : valV (p :: r) k = valV r k := by simp [valV, List.find?_cons, e]
theorem valV_any (k : κ) : ∀ kvs : List (κ × V), (kvs.any fun kv => decide (kv.1 = k)) = (valV kvs k).isSome
 | [] => rfl
 | p :: r => by
  rw [List.any_cons]
  by_cases e : p.1 = k
  ·simp only [valV_pos e, decide_eq_true e, Bool.true_or, Option.isSome_some]
  ·rw [valV_neg e, decide_eq_false e, Bool.false_or]; exact valV_any k r
theorem length_putK (kvs : List (κ × V)) (k : κ) (v : V) : (putK kvs k v).length ≤ kvs.length + 1 := by
 unfold putK
 split
 ·rw [List.length_map]; omega
 ·rw [List.length_append, List.length_cons, List.length_nil]; omega
theorem RelO.isSome_eq {o : Option V} {u : Option Value} (r : RelO o u) : o.isSome = u.isSome := by
 cases o with
 | none => cases u with
  | none => rfl
  | some _ => exact (show False from r).elim
 | some _ => cases u with
  | none => exact (show False from r).elim
  | some _ => rfl
theorem KV.val {kvs : List (κ × V)} {vs : List (κ × Value)} (r : KV kvs vs) (k : κ) : RelO (valV kvs k) (valueAt vs k) := by
 unfold KV at r
 induction r with
 | nil => exact True.intro
 | @cons p q ps qs h t ih =>
  obtain ⟨h1, h2⟩ := h
  by_cases e : p.1 = k
  ·have e' : q.1 = k := h1.symm.trans e
   have b : valueAt (q :: qs) k = some q.2 := by simp [valueAt, List.find?_cons, e']
   rw [valV_pos e, b]; exact h2
  ·have e' : ¬ q.1 = k := fun z => e (h1.trans z)
   have b : valueAt (q :: qs) k = valueAt qs k := by simp [valueAt, List.find?_cons, e']
   rw [valV_neg e, b]; exact ih
theorem KV.any {kvs : List (κ × V)} {vs : List (κ × Value)} (r : KV kvs vs) (k : κ) : (kvs.any fun kv => decide (kv.1 = k)) = vs.any fun kv => decide (kv.1 = k) := by
 unfold KV at r
 induction r with
 | nil => rfl
 | cons h t ih => rw [List.any_cons, List.any_cons, ih, h.1]
theorem KV.repl {kvs : List (κ × V)} {vs : List (κ × Value)} (r : KV kvs vs) (k : κ) {y : V} {u : Value} (ry : RelV y u) :
  KV (kvs.map fun kv => if kv.1 = k then (kv.1, y) else kv) (vs.map fun kv => if kv.1 = k then (kv.1, u) else kv) := by
 unfold KV at r ⊢
 induction r with
 | nil => exact .nil
 | @cons p q ps qs h t ih =>
  rw [List.map_cons, List.map_cons]
  refine .cons ?_ ih
  obtain ⟨h1, h2⟩ := h
  by_cases e : p.1 = k
  ·rw [if_pos e, if_pos (h1.symm.trans e)]; exact ⟨h1, ry⟩
  ·rw [if_neg e, if_neg (fun z => e (h1.trans z))]; exact ⟨h1, h2⟩
theorem KV.put {kvs : List (κ × V)} {vs : List (κ × Value)} (r : KV kvs vs) (k : κ) {y : V} {u : Value} (ry : RelV y u) : KV (putK kvs k y) (stored vs k u) := by
 unfold putK stored
 rw [r.any k]
 by_cases e : (vs.any fun kv => decide (kv.1 = k)) = true
 ·rw [if_pos e, if_pos e]; exact r.repl k ry
 ·rw [if_neg e, if_neg e]; exact Paired.snoc r ⟨rfl, ry⟩
theorem KV.length {kvs : List (κ × V)} {vs : List (κ × Value)} (r : KV kvs vs) : kvs.length = vs.length := Paired.length r
end
theorem kV_is {P : Program} {w : World} {k : Key} {u : Value} (r : RelV (kV k) u) : (mixKind P w).is k u = true := by
 cases k with
 | inl i => obtain ⟨t, e⟩ := (show ∃ t, u = Value.int i t from r); subst e; exact mixKind_int P w i t
 | inr x => obtain ⟨t, e⟩ := (show ∃ t, u = Value.str x t from r); subst e; exact mixKind_str P w x t
theorem items_are {P : Program} {w : World} : ∀ {ks : List Key} {us : List Value}, Vals (ks.map kV) us → ItemsAre (mixKind P w) ks us
 | [], _, r => by rw [List.map_nil] at r; cases r; exact .nil
 | k :: ks, _, r => by
  rw [List.map_cons] at r
  cases r with
  | cons h t => exact .cons (kV_is h) (items_are t)
noncomputable abbrev KT (H : Hp) : List (List Key × V) → List (List Key × Addr × Value) → Prop := Paired fun p q => p.1 = q.1 ∧ H q.2.1 = some (.tup (p.1.map kV)) ∧ RelV p.2 q.2.2
theorem KT.val {H : Hp} {kvs : List (List Key × V)} {xs : List (List Key × Addr × Value)} (r : KT H kvs xs) (k : List Key) : RelO (valV kvs k) ((atKey xs k).map (·.2)) := by
 induction r with
 | nil => exact True.intro
 | @cons p q ps qs h t ih =>
  obtain ⟨h1, _, h2⟩ := h
  by_cases e : p.1 = k
  ·have e' : q.1 = k := h1.symm.trans e
   have b : atKey (q :: qs) k = some q.2 := by simp [atKey, List.find?_cons, e']
   rw [valV_pos e, b]; exact h2
  ·have e' : ¬ q.1 = k := fun z => e (h1.trans z)
   have b : atKey (q :: qs) k = atKey qs k := by simp [atKey, List.find?_cons, e']
   rw [valV_neg e, b]; exact ih
theorem KT.repl {H : Hp} {kvs : List (List Key × V)} {xs : List (List Key × Addr × Value)} (r : KT H kvs xs) (k : List Key) {y : V} {u : Value} (ry : RelV y u) :
  KT H (kvs.map fun kv => if kv.1 = k then (kv.1, y) else kv) (xs.map (putAt k u)) := by
 induction r with
 | nil => exact .nil
 | @cons p q ps qs h t ih =>
  rw [List.map_cons, List.map_cons]
  refine .cons ?_ ih
  obtain ⟨h1, h2, h3⟩ := h
  unfold putAt
  by_cases e : p.1 = k
  ·rw [if_pos e, if_pos (h1.symm.trans e)]; exact ⟨h1, h2, ry⟩
  ·rw [if_neg e, if_neg (fun z => e (h1.trans z))]; exact ⟨h1, h2, h3⟩
theorem KT.put {H : Hp} {kvs : List (List Key × V)} {xs : List (List Key × Addr × Value)} (r : KT H kvs xs) (k : List Key) {b : Addr} {y : V} {u : Value} (hb : H b = some (.tup (k.map kV))) (ry : RelV y u) :
  KT H (putK kvs k y) (storedH xs k b u) := by
 have e : (kvs.any fun kv => decide (kv.1 = k)) = (atKey xs k).isSome := by
  rw [valV_any, (r.val k).isSome_eq, Option.isSome_map]
 unfold putK storedH
 rw [e]
 by_cases q : (atKey xs k).isSome = true
 ·rw [if_pos q, if_pos q]; exact r.repl k ry
 ·rw [if_neg q, if_neg q]; exact Paired.snoc r ⟨rfl, hb, ry⟩
theorem KT.keeps {H H' : Hp} {kvs : List (List Key × V)} {xs : List (List Key × Addr × Value)} (r : KT H kvs xs) (ht : ∀ b ys, H b = some (.tup ys) → H' b = some (.tup ys)) : KT H' kvs xs :=
 Paired.mapP r fun _ _ z => ⟨z.1, ht _ _ z.2.1, z.2.2⟩
section
variable {P : Program} {w : World} {H : Hp} {h : Heap} {a : Addr}
theorem rd_of {u : HO} (ok : HOk P w H h) (e : Rd H a u) : ObjOk P w H h a u := e.ok ok
theorem dk_rd {kvs : List (Key × V)} (ok : HOk P w H h) (e : Rd H a (.dK kvs)) : kvs.length ≤ sizeLine ∧ (a == sysModules) = false ∧ ∃ vs, KV kvs vs ∧ h.DictOf (mixKind P w) a vs :=
 show ObjOk P w H h a (.dK kvs) from rd_of ok e
theorem dk_of {kvs : List (Key × V)} (ok : HOk P w H h) (e : H a = some (.dK kvs)) : kvs.length ≤ sizeLine ∧ (a == sysModules) = false ∧ ∃ vs, KV kvs vs ∧ h.DictOf (mixKind P w) a vs := dk_rd ok (.inl e)
theorem key_of {ks : List Key} (ok : HOk P w H h) (e : H a = some (.tup (ks.map kV))) : (tupleKind (mixKind P w)).is h ks a := by
 obtain ⟨_, its, r, o, h1, h2, n, h3⟩ := (show ObjOk P w H h a (.tup (ks.map kV)) from ok a _ e)
 exact ⟨o, its.toArray, n, h1, h2, h3, by simpa using items_are r⟩
theorem dt_rd {kvs : List (List Key × V)} (ok : HOk P w H h) (e : Rd H a (.dT kvs)) : kvs.length ≤ sizeLine ∧ (a == sysModules) = false ∧
  ∃ xs, KT H kvs xs ∧ h.DictOfH (tupleKind (mixKind P w)) a xs := by
 obtain ⟨z, y, xs, r, o, es, ep, h1, h2, h3, h4, h5⟩ := (show ObjOk P w H h a (.dT kvs) from rd_of ok e)
 refine ⟨z, y, xs, r, o, es, ep, h1, h2, h3, h4, fun x hx => ?_, h5⟩
 have all : ∀ {l : List (List Key × V)} {m : List (List Key × Addr × Value)}, KT H l m → ∀ x ∈ m, (tupleKind (mixKind P w)).is h x.1 x.2.1 := by
  intro l m q
  induction q with
  | nil => intro x hx; exact nomatch hx
  | @cons p q ps qs hq t ih =>
   intro x hx
   rcases List.mem_cons.mp hx with e | hx
   ·subst e
    exact key_of ok (by rw [← hq.1]; exact hq.2.1)
   ·exact ih x hx
 exact all r x hx
theorem dt_of {kvs : List (List Key × V)} (ok : HOk P w H h) (e : H a = some (.dT kvs)) : kvs.length ≤ sizeLine ∧ (a == sysModules) = false ∧
  ∃ xs, KT H kvs xs ∧ h.DictOfH (tupleKind (mixKind P w)) a xs := dt_rd ok (.inl e)
end
noncomputable def DGet (H : Hp) (a : Addr) (y : V) (r : Option V) : Prop :=
 (∃ kvs k, Rd H a (.dK kvs) ∧ y = kV k ∧ r = valV kvs k) ∨ ∃ kvs k b, Rd H a (.dT kvs) ∧ y = .ref b ∧ H b = some (.tup (k.map kV)) ∧ r = valV kvs k
noncomputable def DPut (H : Hp) (a : Addr) (y v : V) (H' : Hp) : Prop :=
 (∃ kvs k, H a = some (.dK kvs) ∧ y = kV k ∧ kvs.length < sizeLine ∧ H' = upd H a (.dK (putK kvs k v))) ∨
 ∃ kvs k b, H a = some (.dT kvs) ∧ y = .ref b ∧ H b = some (.tup (k.map kV)) ∧ kvs.length < sizeLine ∧ H' = upd H a (.dT (putK kvs k v))
theorem DGet.k {H : Hp} {a : Addr} {kvs : List (Key × V)} {k : Key} (e : H a = some (.dK kvs)) : DGet H a (kV k) (valV kvs k) := .inl ⟨kvs, k, .inl e, rfl, rfl⟩
theorem DPut.k {H : Hp} {a : Addr} {kvs : List (Key × V)} {k : Key} {v : V} (e : H a = some (.dK kvs)) (hl : kvs.length < sizeLine) : DPut H a (kV k) v (upd H a (.dK (putK kvs k v))) := .inl ⟨kvs, k, e, rfl, hl, rfl⟩
section
variable {X : Cx} {pins : List (Addr × Obj)} {σ : St} {H : Hp} {s : Shared} {a : Addr} {y v : V} {u r : Value} {o : Option V} {A : Around} {E : Value → Shared → Prop}
theorem Inv.big (I : Inv X pins σ H s) : sysModules < s.heap.objs.size := by
 have h : mainGlobals < s.heap.objs.size := (I.mod.glob.keeps I.bk).lt
 exact Nat.lt_trans (by decide) h
theorem d_getItem {Q : Value → Shared → Prop} (hu : A.units + 1 < cLine) (I : Inv X pins σ H s) (g : DGet H a y (some v)) (ry : RelV y u) (h : ∀ w' s', Inv X pins σ H s' → RelV v w' → Q w' s') :
  wpAny (model X.prog X.w) A (getItem (.ref a) u) Q E s := by
 rcases g with ⟨kvs, k, e, ey, l⟩ | ⟨kvs, k, b, e, ey, eb, l⟩
 ·subst ey
  obtain ⟨z, hd, vs, rel, dd⟩ := dk_rd I.hok e
  obtain ⟨w', hw, rw'⟩ := RelO.some_of (v := v) (o := valueAt vs k) (by rw [l]; exact rel.val k)
  exact wpAny_getItem_of (kV_is ry) dd.mapOf hw (h w' _ (I.tok _) rw')
 ·subst ey
  cases (show u = Value.ref b from ry)
  obtain ⟨z, hd, xs, rel, dd⟩ := dt_rd I.hok e
  obtain ⟨w', hw, rw'⟩ := RelO.some_of (v := v) (o := (atKey xs k).map (·.2)) (by rw [l]; exact rel.val k)
  obtain ⟨p, hp, hp2⟩ := Option.map_eq_some_iff.mp hw
  refine wpAny_getItem_heap (tupleKind_room_in1 hu) (key_of I.hok eb) dd hp ?_
  rw [hp2]
  exact h w' _ (I.tok _) rw'
theorem d_write {h' : Heap} {t' : Nat} {ob : HO} (I : Inv X pins σ H s) (mu : Mut (H a)) (hs : Heap.SameBut a s.heap h') (he : ∃ q, h'.get? a = some q) (new : ObjOk X.prog X.w (upd H a ob) h' a ob) :
  Inv X pins σ (upd H a ob) { s with heap := h', toks := t' } :=
 I.write (x := a) (e := a) mu (.inl rfl) (fun b q hb z => (hs.2 b hb).trans z) he new
theorem dk_new {P : Program} {w : World} {H' : Hp} {h' : Heap} {kvs : List (Key × V)} {vs : List (Key × Value)} (z : kvs.length ≤ sizeLine) (hd : (a == sysModules) = false) (rel : KV kvs vs) (dd : h'.DictOf (mixKind P w) a vs) :
  ObjOk P w H' h' a (.dK kvs) := ⟨z, hd, vs, rel, dd⟩
theorem d_setItem {H' : Hp} {Q : Unit → Shared → Prop} (hu : A.units + 1 < cLine) (I : Inv X pins σ H s) (g : DPut H a y v H') (ry : RelV y u) (rv : RelV v r) (h : ∀ s', Inv X pins σ H' s' → Q () s') :
  wpAny (model X.prog X.w) A (setItem (.ref a) u r) Q E s := by
 rcases g with ⟨kvs, k, e, ey, l, eH⟩ | ⟨kvs, k, b, e, ey, eb, l, eH⟩
 ·subst ey eH
  obtain ⟨z, hd, vs, rel, dd⟩ := dk_of I.hok e
  have hz : vs.length ≤ sizeLine := by rw [← rel.length]; exact z
  have hl : (putK kvs k v).length ≤ sizeLine := by have := length_putK kvs k v; omega
  refine wpAny_setItem_pairs (hsz := hz) (kV_is ry) dd fun h' dd' hs => h _ ?_
  have he : ∃ q, h'.get? a = some q := let ⟨q, _, _, hq, _⟩ := dd'; ⟨q, hq⟩
  exact d_write I (by rw [e]; exact True.intro) hs he (dk_new hl hd (rel.put k rv) dd')
 ·subst ey eH
  cases (show u = Value.ref b from ry)
  obtain ⟨z, hd, xs, rel, dd⟩ := dt_of I.hok e
  have hz : xs.length ≤ sizeLine := by rw [← Paired.length rel]; exact z
  have hl : (putK kvs k v).length ≤ sizeLine := by have := length_putK kvs k v; omega
  refine wpAny_setItem_heap (hsz := hz) (tupleKind_room_in1 hu) (key_of I.hok eb) dd fun h' dd' hs => h _ ?_
  obtain ⟨q, es, ep, hq, h2, h3, h4, _, h5⟩ := dd'
  refine d_write I (by rw [e]; exact True.intro) hs ⟨q, hq⟩ ⟨hl, hd, _, (rel.put k eb rv).keeps fun c ys ec => ?_, q, es, ep, hq, h2, h3, h4, h5⟩
  rw [upd_ne (ne_of ec e (fun z => nomatch z))]
  exact ec
end
section
variable {X : Cx} {pins : List (Addr × Obj)} {σ : St} {H : Hp} {s : Shared} {a : Addr} {kvs : List (Key × V)} {k : Key} {u : Value} {A : Around} {E : Value → Shared → Prop}
theorem d_len {Q : Value → Shared → Prop} (I : Inv X pins σ H s) (e : Rd H a (.dK kvs)) (h : ∀ t s', Inv X pins σ H s' → Q (.int kvs.length t) s') : wpAny (model X.prog X.w) A (call (.builtin "len") [.ref a]) Q E s := by
 obtain ⟨z, hd, vs, rel, dd⟩ := dk_rd I.hok e
 refine call_len_dict hd dd (by rw [← rel.length]; rw [sizeLine_eq] at z; omega) ?_
 rw [← rel.length]
 exact h _ _ (I.tok _)
end
noncomputable def NoSl (i : Expr) : Prop := ∀ ov iv, subscripted i false ov iv = operate [ov, iv] (getItem ov iv)
theorem subD_of {prog : Program} {w : World} {A : Around} {E : Value → Shared → Prop} {s : Shared} {env : Env} {value slice : Expr} {pos : Pos} {T id : String} {Q : Value → Shared → Prop}
  (hl : typeLookup (.type T) "__getitem__" = pure (some (.builtin id))) (hs : NoSl slice)
  (h : wpAny (model prog w) A (eval value env) (fun o s₁ => wpAny (model prog w) A (eval slice env) (fun i s₂ => s₂.TypeIs o T ∧ wpAny (model prog w) A (getItem o i) Q E s₂) E s₁) E s) :
  wpAny (model prog w) A (eval (.Subscript value slice pos) env) Q E s := by
 refine Subscript_ (wpAny_mono h (fun o s₁ h₁ => wpAny_mono h₁ (fun i s₂ h₂ => ?_) fun _ _ x => x) fun _ _ x => x)
 obtain ⟨hT, h₂⟩ := h₂
 unfold subscriptTail
 refine wpAny_bind ?_
 rw [getitemInPython_of_ne hT.not_modules]
 refine wpAny_bind (wpAny_specialOf hT hl ?_)
 have fin : wpAny (model prog w) A (subscripted slice false o i) (fun r s₃ => wpAny (model prog w) A (letTemporaryGo value o r >>= fun _ => pure r) Q E s₃) E s₂ := by
  rw [hs o i]
  exact wpAny_operating (wpAny_mono h₂ (fun r s₃ h₃ => wpAny_bind (wpAny_letTemporaryGo (wpAny_pure h₃))) fun _ _ x => x)
 first
  | exact wpAny_pure (wpAny_bind fin)
  | exact wpAny_bind (wpAny_pure (wpAny_bind fin))
  | exact wpAny_bind fin
theorem dict_typeIs {X : Cx} {pins : List (Addr × Obj)} {σ : St} {H : Hp} {s : Shared} {a : Addr} {y : V} {o : Option V} (I : Inv X pins σ H s) (g : DGet H a y o) : s.TypeIs (.ref a) "dict" := by
 rcases g with ⟨kvs, k, e, _, _⟩ | ⟨kvs, k, b, e, _, _, _⟩
 ·obtain ⟨_, _, vs, _, dd⟩ := dk_rd I.hok e
  exact dd.typeIs
 ·obtain ⟨_, _, xs, _, dd⟩ := dt_rd I.hok e
  exact dd.typeIs
noncomputable def tDGet (td ty : TE) : TE := fun σ H Q => td σ H fun x H1 => ty σ H1 fun y H2 => ∃ a v, x = .ref a ∧ DGet H2 a y (some v) ∧ Q v H2
noncomputable def sDPut (td ty tv : TE) : TS := fun D σ H => tv σ H fun v H1 => td σ H1 fun x H2 => ty σ H2 fun y H3 => ∃ a H4, x = .ref a ∧ DPut H3 a y v H4 ∧ D.nx σ H4
section
variable {X : Cx} {o i e value : Expr} {pos pos' tpos : Pos} {td ty tv : TE}
theorem pe_dget (hu : X.A.units + 1 < cLine) (ho : PE X o td) (hi : PE X i ty) (hs : NoSl i) : PE X (.Subscript o i pos) (tDGet td ty) := by
 intro pins s σ H Q I h
 refine subD_of PySem.F.slot_dict_getitem.lookup hs (thn (ho pins s σ H _ I h) fun u s1 ⟨x, H1, I1, rx, q1⟩ => thn (hi pins s1 σ H1 _ I1 q1) fun iv s2 ⟨y, H2, I2, ry, a, v, ex, g, q2⟩ => ?_)
 subst ex
 obtain rfl : u = Value.ref a := rx
 exact ⟨dict_typeIs I2 g, d_getItem hu I2 g ry fun w' s3 I3 rw' => ⟨v, H2, I3, rw', q2⟩⟩
theorem ps_dput (hu : X.A.units + 1 < cLine) (ho : PE X o td) (hi : PE X i ty) (hv : PE X value tv) (hs : swapsWith value (some (.Subscript o i pos')) pos.line X.env = pure false) :
  PS X (.Assign [.Subscript o i pos'] value pos) (sDPut td ty tv) := by
 intro pins s σ H D I h
 refine wpAny_Assign_Subscript (thn (hv pins s σ H _ I h) fun r s1 ⟨v, H1, I1, rv, q1⟩ => thn (ho pins s1 σ H1 _ I1 q1) fun u s2 ⟨x, H2, I2, rx, q2⟩ => thn (hi pins s2 σ H2 _ I2 q2) fun iv s3 ⟨y, H3, I3, ry, a, H4, ex, g, q3⟩ => ?_) hs
 subst ex
 obtain rfl : u = Value.ref a := rx
 exact d_setItem hu I3 g ry rv fun s4 I4 => ⟨σ, H4, I4, q3⟩
end
theorem dk_empty {P : Program} {w : World} {H : Hp} (h : Heap) (hb : sysModules < h.objs.size) : ObjOk P w H (h.push { cls := .type "dict", data := .dict #[] }) h.objs.size (.dK []) :=
 ⟨Nat.zero_le _, beq_eq_false_iff_ne.mpr (Ne.symm (Nat.ne_of_lt hb)), [], .nil, Heap.DictOf.new h⟩
section
variable {X : Cx} {pos : Pos}
end
noncomputable def tPairs : List (TE × TE) → St → Hp → (List (V × V) → Hp → Prop) → Prop
 | [], _, H, Q => Q [] H
 | (tk, tv) :: r, σ, H, Q => tk σ H fun x H1 => tv σ H1 fun y H2 => tPairs r σ H2 fun ps H3 => Q ((x, y) :: ps) H3
noncomputable abbrev VV : List (V × V) → List (Value × Value) → Prop := Paired fun p q => RelV p.1 q.1 ∧ RelV p.2 q.2
noncomputable def PPs (X : Cx) (pos : Pos) (keys : List (Option Expr)) (values : List Expr) (trs : List (TE × TE)) : Prop :=
 ∀ (pins : List (Addr × Obj)) (s : Shared) (σ : St) (H : Hp) (Q : List (V × V) → Hp → Prop), Inv X pins σ H s → tPairs trs σ H Q →
  wpAny (model X.prog X.w) X.A (evalPairs (pairTrees keys values X.env pos)) (fun vs s' => ∃ ps H', Inv X pins σ H' s' ∧ VV ps vs ∧ Q ps H') X.xe s
theorem pps_nil {X : Cx} {pos : Pos} : PPs X pos [] [] [] := fun pins s σ H Q I h => pairTrees_nil_walk ⟨[], H, I, .nil, h⟩
theorem pps_cons {X : Cx} {pos : Pos} {k v : Expr} {ks : List (Option Expr)} {vs : List Expr} {tk tv : TE} {trs : List (TE × TE)} (hk : PE X k tk) (hv : PE X v tv) (hr : PPs X pos ks vs trs) :
  PPs X pos (some k :: ks) (v :: vs) ((tk, tv) :: trs) := fun pins s σ H Q I h =>
 pairTrees_cons_walk (thn (hk pins s σ H _ I h) fun u s1 ⟨x, H1, I1, rx, q1⟩ => thn (hv pins s1 σ H1 _ I1 q1) fun w2 s2 ⟨y, H2, I2, ry, q2⟩ =>
  thn (hr pins s2 σ H2 _ I2 q2) fun ws s3 ⟨ps, H3, I3, rel, q3⟩ => ⟨(x, y) :: ps, H3, I3, .cons ⟨rx, ry⟩ rel, q3⟩)
noncomputable def mergeK (kvs more : List (Key × V)) : List (Key × V) := more.foldl (fun acc kv => putK acc kv.1 kv.2) kvs
theorem KV.merge : ∀ {more : List (Key × V)} {rs : List (Key × Value)} {kvs : List (Key × V)} {vs : List (Key × Value)}, KV more rs → KV kvs vs → KV (mergeK kvs more) (merged vs rs) := by
 intro more rs kvs vs r
 unfold KV at r
 induction r generalizing kvs vs with
 | nil => intro q; exact q
 | @cons p q ps qs h t ih =>
  intro r0
  have e : KV (putK kvs p.1 p.2) (stored vs q.1 q.2) := by
   have := r0.put p.1 h.2
   rw [← h.1]; exact this
  exact ih e
theorem length_mergeK : ∀ (more kvs : List (Key × V)), (mergeK kvs more).length ≤ kvs.length + more.length
 | [], kvs => by show kvs.length ≤ kvs.length + 0; omega
 | p :: r, kvs => by
  have h1 := length_mergeK r (putK kvs p.1 p.2)
  have h2 := length_putK kvs p.1 p.2
  show (mergeK (putK kvs p.1 p.2) r).length ≤ _
  rw [List.length_cons]; omega
theorem carries_of {P : Program} {w : World} : ∀ {kvs : List (Key × V)} {ws : List (Value × Value)}, VV (kvs.map fun kv => (kV kv.1, kv.2)) ws → ∃ rs, Carries (mixKind P w) ws rs ∧ KV kvs rs
 | [], _, r => by rw [List.map_nil] at r; cases r; exact ⟨[], True.intro, .nil⟩
 | p :: kvs, _, r => by
  rw [List.map_cons] at r
  cases r with
  | @cons a b as bs h t =>
   obtain ⟨rs, c, q⟩ := carries_of (P := P) (w := w) t
   obtain ⟨b1, b2⟩ := b
   exact ⟨(p.1, b2) :: rs, ⟨kV_is h.1, rfl, c⟩, .cons ⟨rfl, h.2⟩ q⟩
noncomputable def tDisp (trs : List (TE × TE)) : TE := fun σ H Q => ∀ p, H p = none → tPairs trs σ (upd H p (.dK [])) fun ps H2 => H2 p = some (.dK []) ∧ ∃ kvs : List (Key × V), ps = kvs.map (fun kv => (kV kv.1, kv.2)) ∧ kvs.length ≤ 15 ∧ Q (.ref p) (upd H2 p (.dK (mergeK [] kvs)))
theorem pe_disp {X : Cx} {pos : Pos} {keys : List (Option Expr)} {values : List Expr} {trs : List (TE × TE)} (h : PPs X pos keys values trs) (hall : keys.all (·.isSome) = true) (hl : keys.length = values.length) (h0 : keys ≠ [])
  (h15 : keys.length ≤ 15) : PE X (.Dict keys values pos) (tDisp trs) := by
 intro pins s σ H Q I q
 have hn := I.hok.fresh (Nat.le_refl s.heap.objs.size)
 have I1 := I.laid (a := s.heap.objs.size) (o := .dK []) (h' := s.heap.push { cls := .type "dict", data := .dict #[] }) (t' := s.toks) (fun _ _ q => Heap.get?_push_of_some _ q) (Nat.le_refl _) (dk_empty s.heap I.big)
 refine wpAny_Dict_walk (knd := mixKind X.prog X.w) hall hl h0 h15 (thn (h pins _ σ _ _ I1 (q _ hn)) fun ws s2 ⟨ps, H2, I2, rel, e, kvs, ep, lk, q2⟩ => ?_)
 subst ep
 obtain ⟨rs, c, rk⟩ := carries_of (P := X.prog) (w := X.w) rel
 obtain ⟨z, hd, vs0, r0, dd⟩ := dk_of I2.hok e
 cases r0
 refine ⟨rs, c, dd, fun h' dd' hs => ⟨.ref s.heap.objs.size, _, ?_, rfl, q2⟩⟩
 have hz : (mergeK [] kvs).length ≤ sizeLine := by
  have h1 := length_mergeK kvs []
  rw [List.length_nil] at h1
  rw [sizeLine_eq]; omega
 have he : ∃ q, h'.get? s.heap.objs.size = some q := let ⟨q, _, _, hq, _⟩ := dd'; ⟨q, hq⟩
 exact d_write I2 (by rw [e]; exact True.intro) hs he (dk_new hz hd (rk.merge .nil) dd')
section
variable {X : Cx} {pins : List (Addr × Obj)} {σ : St} {H : Hp} {s : Shared} {a : Addr} {y d : V} {u r : Value} {o : Option V} {A : Around} {E : Value → Shared → Prop}
end
section
variable {X : Cx} {o e f : Expr} {apos cpos : Pos} {td ty tx : TE}
end
section
variable {X : Cx} {pins : List (Addr × Obj)} {σ : St} {H : Hp} {s : Shared} {a : Addr} {kvs : List (Key × V)} {A : Around} {E : Value → Shared → Prop}
end
section
variable {X : Cx} {pins : List (Addr × Obj)} {σ : St} {H : Hp} {s : Shared} {a : Addr} {y : V} {u : Value} {A : Around} {E : Value → Shared → Prop}
end
end L2
namespace HT
open PySem PyProof.Rows
section
open PySem.SeqAt
open PySem.AutoSeq1 (wpAny_loadPart')
open PySem.MeetsSeq PySem.MeetsSeq2 PySem.MeetsSeq3
end
section
variable {prog : Program} {w : World} {A : Around} {E : Value → Shared → Prop} {s : Shared}
theorem cat_tup {t b : Addr} {vs ws : List Value} {Q : Value → Shared → Prop} (ht : IsTup s.heap t vs.toArray) (hb : IsTup s.heap b ws.toArray) (hv : vs ≠ [])
  (h1 : ws = [] → Q (.ref t) s) (h2 : ws ≠ [] → Q (.ref s.heap.objs.size) { s with heap := s.heap.push { cls := .type "tuple", data := .seq (vs ++ ws).toArray } })
  (hsz : vs.length + ws.length ≤ sizeLine) : wpAny (model prog w) A (binaryOp .Add (.ref t) (.ref b)) Q E s := by
 obtain ⟨⟨cls, dd, data, sl⟩, ho, hc, n, hd⟩ := id ht
 obtain ⟨⟨cls2, dd2, data2, sl2⟩, ho2, hc2, n2, hd2⟩ := id hb
 simp only at hc hd hc2 hd2
 subst hc hd hc2 hd2
 have e : vs.toArray ++ ws.toArray = (vs ++ ws).toArray := by simp
 by_cases hw : ws = []
 ·exact concat_meets ⟨_, ho, rfl⟩ ⟨_, ho2, rfl⟩ noFill_tuple_add seq_tuple_add PySem.F.slot_tuple_add PySem.F.entry_tuple_add (PySem.F.args_tuple_add_2 _ _)
   (tuple_addW1 t b vs.toArray ws.toArray n n2 dd dd2 sl sl2 (by simpa using hv) (by simp [hw])) ⟨ho, ho2, h1 hw⟩
 ·refine concat_meets ⟨_, ho, rfl⟩ ⟨_, ho2, rfl⟩ noFill_tuple_add seq_tuple_add PySem.F.slot_tuple_add PySem.F.entry_tuple_add (PySem.F.args_tuple_add_2 _ _)
   (tuple_addW2 t b vs.toArray ws.toArray n n2 dd dd2 sl sl2 (by simpa using hv) (by simpa using hw) (by rw [List.size_toArray, List.size_toArray]; exact hsz)) ⟨ho, ho2, ?_⟩
  rw [e]
  exact h2 hw
noncomputable def sIx (n d : Nat) : Option Int → Nat
 | none => d
 | some v => if v < 0 then (v + (n : Int)).toNat else min v.toNat n
theorem sIx_nat (n d k : Nat) : sIx n d (some (k : Int)) = min k n := by
 show (if (k : Int) < 0 then ((k : Int) + (n : Int)).toNat else min (k : Int).toNat n) = min k n
 rw [if_neg (by omega), Int.toNat_natCast]
theorem sIx_le (n d : Nat) (hd : d ≤ n) (o : Option Int) : sIx n d o ≤ n := by
 cases o with
 | none => exact hd
 | some v =>
  show (if v < 0 then (v + (n : Int)).toNat else min v.toNat n) ≤ n
  by_cases hv : v < 0
  ·rw [if_pos hv]; omega
  ·rw [if_neg hv]; exact Nat.min_le_right _ _
theorem clip_eq (v : Int) (n d : Nat) : (if v < 0 then max (v + (n : Int)) 0 else min v (n : Int)) = ((sIx n d (some v) : Nat) : Int) := by
 show (if v < 0 then max (v + (n : Int)) 0 else min v (n : Int)) = (((if v < 0 then (v + (n : Int)).toNat else min v.toNat n) : Nat) : Int)
 by_cases hv : v < 0
 ·simp only [if_pos hv]; omega
 ·simp only [if_neg hv]; omega
theorem adjust_gen (lo hi : Option Int) (n : Nat) : Builtin.Slice.sliceAdjust lo hi 1 (n : Int) = (((sIx n 0 lo : Nat) : Int), ((sIx n n hi : Nat) : Int)) := by
 have h1 : ¬ ((1 : Int) < 0) := by omega
 unfold Builtin.Slice.sliceAdjust
 simp only [h1, if_false]
 refine Prod.ext ?_ ?_
 ·cases lo with
  | none => rfl
  | some v => exact clip_eq v n 0
 ·cases hi with
  | none => rfl
  | some v => exact clip_eq v n n
theorem places_gen (i j : Nat) : Builtin.Slice.slicePlaces (i : Int) (j : Int) 1 = j - i := by
 unfold Builtin.Slice.slicePlaces
 have h1 : (1 : Int) > 0 := by omega
 simp only [h1, if_true, Int.ediv_one]
 split <;> omega
theorem slicePart_ {v : Value} {o : Option Int} {Q : Option Int → Shared → Prop} (p : IsPart v o) (h : Q o s) : wpAny (model prog w) A (Builtin.Slice.slicePartIndex v) Q E s := by
 cases p with
 | none => exact slicePart_none h
 | int i t => exact slicePart_int h
theorem sliceApplied_gen {sl : Addr} {vl vu : Value} {lo hi : Option Int} {n : Nat} {Q : Int × Int × Nat → Shared → Prop} (hs : s.heap.IsSliceOf sl vl vu .none) (pl : IsPart vl lo) (pu : IsPart vu hi)
  (h : Q (((sIx n 0 lo : Nat) : Int), 1, sIx n n hi - sIx n 0 lo) s) : wpAny (model prog w) A (Builtin.Slice.sliceApplied (.ref sl) (pure (n : Int))) Q E s := by
 obtain ⟨os, hos, hcs, hds⟩ := id hs
 unfold Builtin.Slice.sliceApplied Builtin.Slice.sliceFields
 refine wpAny_bind (wpAny_bind (wpAny_field hos hds (x := vl) rfl (wpAny_bind (wpAny_field hos hds (x := vu) rfl (wpAny_bind (wpAny_field hos hds (x := .none) rfl (wpAny_pure ?_)))))))
 refine wpAny_bind (slicePart_none ?_)
 show wpAny _ _ (if ((1 : Int) == 0) = true then _ else _) _ _ s
 rw [if_neg (by decide)]
 refine wpAny_bind (slicePart_ pl (wpAny_bind (slicePart_ pu (wpAny_bind (wpAny_pure ?_)))))
 show wpAny _ _ (match Builtin.Slice.sliceAdjust lo hi 1 (n : Int) with | (lo, hi) => pure (lo, (1 : Int), Builtin.Slice.slicePlaces lo hi 1)) _ _ s
 rw [adjust_gen lo hi n]
 show wpAny _ _ (pure (((sIx n 0 lo : Nat) : Int), (1 : Int), Builtin.Slice.slicePlaces ((sIx n 0 lo : Nat) : Int) ((sIx n n hi : Nat) : Int) 1)) _ _ s
 rw [places_gen]
 exact wpAny_pure h
theorem pick_gen (xs : Array Value) (i k : Nat) : ((List.range k).filterMap fun (m : Nat) => xs[((i : Int) + (m : Int) * 1).toNat]?).toArray = ((xs.toList.drop i).take k).toArray := by
 have e : (fun (m : Nat) => xs[((i : Int) + (m : Int) * 1).toNat]?) = fun m => xs[i + m]? := by
  funext m
  have : ((i : Int) + (m : Int) * 1).toNat = i + m := by omega
  rw [this]
 rw [e]
 have := pick_run xs i k
 rw [List.filterMap_map] at this
 have e2 : ((fun x => xs[x]?) ∘ fun x => i + x) = fun m => xs[i + m]? := rfl
 rw [e2] at this
 rw [this]
theorem getItem_tuple_cut {t sl : Addr} {items : Array Value} {vl vu : Value} {lo hi : Option Int} {Q : Value → Shared → Prop} (ht : IsTup s.heap t items) (hs : s.heap.IsSliceOf sl vl vu .none) (pl : IsPart vl lo) (pu : IsPart vu hi)
  (hw : ¬ (sIx items.size 0 lo = 0 ∧ sIx items.size items.size hi = items.size))
  (h : Q (.ref s.heap.objs.size) { s with heap := s.heap.push { cls := .type "tuple", data := .seq ((items.toList.drop (sIx items.size 0 lo)).take (sIx items.size items.size hi - sIx items.size 0 lo)).toArray } })
  (hsz : items.size ≤ sizeLine) : wpAny (model prog w) A (getItem (.ref t) (.ref sl)) Q E s := by
 have htake : sizeOk (.seq ((items.toList.drop (sIx items.size 0 lo)).take (sIx items.size items.size hi - sIx items.size 0 lo)).toArray) := by
  show ((items.toList.drop (sIx items.size 0 lo)).take (sIx items.size items.size hi - sIx items.size 0 lo)).toArray.size ≤ sizeLine
  rw [List.size_toArray, List.length_take, List.length_drop, Array.length_toList]
  omega
 have hj : sIx items.size items.size hi ≤ items.size := sIx_le _ _ (Nat.le_refl _) hi
 obtain ⟨os, hos, hcs, hds⟩ := id hs
 have hTs : s.TypeIs (.ref sl) "slice" := ⟨os, hos, hcs⟩
 unfold getItem
 try with_reducible refine wpAny_holding ?_
 first | refine wpAny_bind (wpAny_pure ?_) | skip
 refine wpAny_bind (wpAny_sequenceKey ht.typeIs (by decide) ?_)
 refine wpAny_bind (wpAny_callSpecial?_slot (name := Str.ofString "__getitem__") ht.typeIs PyProof.Rows.slot_tuple_getitem
  (wpAny_call_entry PyProof.Rows.slot_tuple_getitem ht.typeIs entry_tuple_getitem ?_ (args_tuple_getitem _ _)))
 show wpAny _ _ (Builtin.Tuple.tupleItemsOf (.ref t) >>= _) _ _ s
 refine wpAny_bind (tupleItemsOf_ ht ?_)
 refine wpAny_bind (wpAny_typeOf hTs ?_)
 rw [if_pos (by decide)]
 refine wpAny_bind (sliceApplied_gen hs pl pu ?_)
 have hno : ¬ ((((sIx items.size 0 lo : Nat) : Int) == 0 && (1 : Int) == 1 && (sIx items.size items.size hi - sIx items.size 0 lo) == items.size) = true) := by
  intro q
  rw [Bool.and_eq_true, Bool.and_eq_true] at q
  have q1 : ((sIx items.size 0 lo : Nat) : Int) = 0 := eq_of_beq q.1.1
  have q2 : sIx items.size items.size hi - sIx items.size 0 lo = items.size := eq_of_beq q.2
  exact hw ⟨by omega, by omega⟩
 show wpAny _ _ (if (((sIx items.size 0 lo : Nat) : Int) == 0 && (1 : Int) == 1 && (sIx items.size items.size hi - sIx items.size 0 lo) == items.size) = true then _ else _) _ _ s
 rw [if_neg hno, pick_gen]
 first
  | exact wpAny_bind (m := Builtin.Tuple.tupleExact _) (wpAny_newObj_type (wpAny_pure ⟨_, rfl, wpAny_pure h⟩) htake)
  | exact wpAny_bind (m := Builtin.Tuple.tupleExact _) (wpAny_newObj_type (wpAny_bind (wpAny_pure (wpAny_pure ⟨_, rfl, wpAny_pure h⟩))) htake)
  | exact wpAny_bind (wpAny_bind (m := Builtin.Tuple.tupleExact _) (wpAny_newObj_type (wpAny_pure (wpAny_pure ⟨_, rfl, wpAny_pure h⟩)) htake))
  | exact wpAny_bind (wpAny_bind (m := Builtin.Tuple.tupleExact _) (wpAny_newObj_type (wpAny_pure ⟨_, rfl, wpAny_pure h⟩) htake))
end
end HT
namespace L2
open PySem PySem.Spec PyProof.Rows
noncomputable abbrev TO := St → Hp → (Option Int → Hp → Prop) → Prop
noncomputable def PO (X : Cx) (e : Option Expr) (t : TO) : Prop :=
 ∀ (pins : List (Addr × Obj)) (s : Shared) (σ : St) (H : Hp) (Q : Option Int → Hp → Prop), Inv X pins σ H s → t σ H Q →
  wpAny (model X.prog X.w) X.A (evalPart e X.env) (fun u s' => ∃ o H', Inv X pins σ H' s' ∧ IsPart u o ∧ Q o H') X.xe s
noncomputable def tNoPart : TO := fun _ H Q => Q none H
noncomputable def tPart (t : TE) : TO := fun σ H Q => t σ H fun x H1 => ∃ i, x = .int i ∧ Q (some i) H1
theorem intsAre_of {ns : List Int} : ∀ {us : List Value}, Vals (ns.map V.int) us → IntsAre us ns := by
 induction ns with
 | nil => intro us r; rw [List.map_nil] at r; cases r; exact .nil
 | cons n ns ih =>
  intro us r
  rw [List.map_cons] at r
  cases r with
  | cons r1 r2 =>
   obtain ⟨t, e⟩ := r1
   subst e
   exact .cons n t (ih r2)
section
variable {X : Cx} {e : Expr} {te : TE} {lo hi : Option Expr} {tl th : TO} {pos p2 : Pos}
theorem po_none : PO X none tNoPart := by
 intro pins s σ H Q I h
 rw [evalPart_none]
 exact wpAny_pure ⟨none, H, I, .none, h⟩
theorem po_some (h : PE X e te) : PO X (some e) (tPart te) := by
 intro pins s σ H Q I hw
 rw [evalPart_some]
 refine thn (h pins s σ H _ I hw) fun u s1 ⟨x, H1, I1, r1, q1⟩ => ?_
 obtain ⟨i, rfl, q⟩ := q1
 obtain ⟨t, rfl⟩ := r1
 exact ⟨some i, H1, I1, .int i t, q⟩
noncomputable def SlR (X : Cx) (r : V → Option Int → Option Int → Hp → VK → Prop) : Prop :=
 ∀ (pins : List (Addr × Obj)) (s : Shared) (σ : St) (H : Hp) (x : V) (v vl vu : Value) (lo hi : Option Int) (sl : Addr) (Q : VK), Inv X pins σ H s → RelV x v → s.heap.IsSliceOf sl vl vu .none → IsPart vl lo → IsPart vu hi → r x lo hi H Q →
  ∃ T id, typeLookup (.type T) "__getitem__" = pure (some (.builtin id)) ∧ s.TypeIs v T ∧ wpAny (model X.prog X.w) X.A (getItem v (.ref sl)) (EP X pins σ Q) X.xe s
theorem SlR.or {r r' : V → Option Int → Option Int → Hp → VK → Prop} (h : SlR X r) (h' : SlR X r') : SlR X (fun x lo hi H Q => r x lo hi H Q ∨ r' x lo hi H Q) := by
 intro pins s σ H x v vl vu lo hi sl Q I rx hs pl pu q
 rcases q with q | q
 ·exact h pins s σ H x v vl vu lo hi sl Q I rx hs pl pu q
 ·exact h' pins s σ H x v vl vu lo hi sl Q I rx hs pl pu q
noncomputable def tSl (r : V → Option Int → Option Int → Hp → VK → Prop) (te : TE) (tl th : TO) : TE := fun σ H Q => te σ H fun x H1 => tl σ H1 fun l H2 => th σ H2 fun u H3 => r x l u H3 Q
theorem pe_slice {r : V → Option Int → Option Int → Hp → VK → Prop} (hr : SlR X r) (he : PE X e te) (hl : PO X lo tl) (hu : PO X hi th) : PE X (.Subscript e (.Slice lo hi none p2) pos) (tSl r te tl th) := by
 intro pins s σ H Q I h
 refine Subscript_ (thn (he pins s σ H _ I h) fun v s1 ⟨x, H1, I1, r1, q1⟩ => ?_)
 refine wpAny_Slice (thn (hl pins s1 σ H1 _ I1 q1) fun vl s2 ⟨l, H2, I2, pl, q2⟩ => thn (hu pins s2 σ H2 _ I2 q2) fun vu s3 ⟨u, H3, I3, pu, q3⟩ => ?_)
 rw [evalPart_none]
 refine wpAny_pure ?_
 have I4 : Inv X pins σ H3 { s3 with heap := s3.heap.push { cls := .type "slice", data := .fields #[vl, vu, .none] } } := I3.kept (t' := s3.toks) fun b ob q => Heap.get?_push_of_some _ q
 obtain ⟨T, id, hT, ht, hg⟩ := hr pins { s3 with heap := s3.heap.push { cls := .type "slice", data := .fields #[vl, vu, .none] } } σ H3 x v vl vu l u s3.heap.objs.size Q I4 r1 (Heap.IsSliceOf.new ..) pl pu q3
 show wpAny (model X.prog X.w) X.A (subscriptTail e (.Slice lo hi none p2) v (.ref s3.heap.objs.size)) (EP X pins σ Q) X.xe { s3 with heap := s3.heap.push { cls := .type "slice", data := .fields #[vl, vu, .none] } }
 exact tail_any (ops := [.ref s3.heap.objs.size, v]) ht hT hg (by with_unfolding_all rfl)
noncomputable def cutV (xs : List V) (lo hi : Option Int) : List V := (xs.drop (HT.sIx xs.length 0 lo)).take (HT.sIx xs.length xs.length hi - HT.sIx xs.length 0 lo)
theorem cutV_length (xs : List V) (lo hi : Option Int) : (cutV xs lo hi).length ≤ xs.length := by
 unfold cutV
 rw [List.length_take, List.length_drop]
 omega
noncomputable def rSlT (K : PySem.W.Frag) : V → Option Int → Option Int → Hp → VK → Prop := fun x lo hi H Q => ∃ a xs, x = .ref a ∧ SqT K H a xs ∧
 ¬ (HT.sIx xs.length 0 lo = 0 ∧ HT.sIx xs.length xs.length hi = xs.length) ∧ ∀ p, H p = none → Q (.ref p) (upd H p (.tup (cutV xs lo hi)))
theorem sl_tup : SlR X (rSlT X.K) := by
 intro pins s σ H x v vl vu lo hi sl Q I rx hs pl pu h
 obtain ⟨a, xs, rfl, hx, hw, q⟩ := h
 cases rx
 obtain ⟨its, r, ht, hz⟩ := I.tuple hx
 have hlen : its.toArray.size = xs.length := by rw [List.size_toArray]; exact r.length.symm
 refine ⟨"tuple", _, PyProof.Rows.slot_tuple_getitem.lookup, ht.typeIs, ?_⟩
 refine HT.getItem_tuple_cut ht hs pl pu (by rw [hlen]; exact hw) ?_ (by rw [hlen]; exact hz)
 rw [hlen]
 refine ⟨.ref s.heap.objs.size, _, I.laid (t' := s.toks) (o := .tup (cutV xs lo hi)) (fun b ob q => Heap.get?_push_of_some _ q) (Nat.le_refl _) ?_, rfl, q _ (I.hok.fresh (Nat.le_refl _))⟩
 exact ⟨Nat.le_trans (cutV_length xs lo hi) hz, _, (r.drop (HT.sIx xs.length 0 lo)).take (HT.sIx xs.length xs.length hi - HT.sIx xs.length 0 lo), IsTup.new _ _⟩
noncomputable def rCatT (K : PySem.W.Frag) : R2 := fun x y H Q => ∃ a b xs ys, x = .ref a ∧ y = .ref b ∧ SqT K H a xs ∧ SqT K H b ys ∧ xs ≠ [] ∧ xs.length + ys.length ≤ sizeLine ∧
 (ys = [] → Q (.ref a) H) ∧ (ys ≠ [] → ∀ p, H p = none → Q (.ref p) (upd H p (.tup (xs ++ ys))))
theorem Vals.nil_iff {xs : List V} {us : List Value} (r : Vals xs us) : us = [] ↔ xs = [] := by
 cases r with
 | nil => simp
 | cons _ _ => simp
theorem op_catT : OpR X (binaryOp .Add) (rCatT X.K) := by
 intro pins s σ H x y v u Q I rx ry h
 obtain ⟨a, b, xs, ys, rfl, rfl, ha, hb, hx, hz, q1, q2⟩ := h
 cases rx
 cases ry
 obtain ⟨its, r1, p1, _⟩ := I.tuple ha
 obtain ⟨its2, r2, p2, _⟩ := I.tuple hb
 refine HT.cat_tup p1 p2 (fun z => hx (r1.nil_iff.mp z)) (fun z => ⟨.ref a, H, I, rfl, q1 (r2.nil_iff.mp z)⟩) (fun z => ?_) (by rw [← r1.length, ← r2.length]; exact hz)
 refine ⟨.ref s.heap.objs.size, _, I.laid (t' := s.toks) (o := .tup (xs ++ ys)) (fun b ob q => Heap.get?_push_of_some _ q) (Nat.le_refl _) ?_, rfl, q2 (fun w => z (r2.nil_iff.mpr w)) _ (I.hok.fresh (Nat.le_refl _))⟩
 exact ⟨by rw [List.length_append]; exact hz, _, r1.append r2, IsTup.new _ _⟩
end
end L2
namespace L2
open PySem PySem.Spec PyProof.Rows
noncomputable def ixN (n : Nat) (i : Int) : Option Nat := if 0 ≤ i then (if i < n then some i.toNat else none) else if -(n : Int) ≤ i then some (i + n).toNat else none
noncomputable def atI {α : Type} (xs : List α) (i : Int) : Option α := (ixN xs.length i).bind fun j => xs[j]?
theorem ixN_seq {n : Nat} {i : Int} {j : Nat} (h : ixN n i = some j) : seqIndex? i n = some j ∧ j < n ∧ -(n : Int) ≤ i ∧ i < n := by
 unfold ixN at h
 by_cases h0 : 0 ≤ i
 ·rw [if_pos h0] at h
  by_cases h1 : i < n
  ·rw [if_pos h1] at h
   have e : i.toNat = j := Option.some.inj h
   exact ⟨by rw [seqIndex_of h0 h1, e], by omega, by omega, h1⟩
  ·rw [if_neg h1] at h; cases h
 ·rw [if_neg h0] at h
  by_cases h1 : -(n : Int) ≤ i
  ·rw [if_pos h1] at h
   have e : (i + n).toNat = j := Option.some.inj h
   exact ⟨by rw [seqIndex_neg (by omega) h1, e], by omega, h1, by omega⟩
  ·rw [if_neg h1] at h; cases h
theorem atI_get {α : Type} {xs : List α} {i : Int} {v : α} (h : atI xs i = some v) : ∃ j, seqIndex? i xs.length = some j ∧ xs[j]? = some v ∧ j < xs.length ∧ -(xs.length : Int) ≤ i ∧ i < xs.length := by
 unfold atI at h
 cases e : ixN xs.length i with
 | none => rw [e] at h; cases h
 | some j =>
  rw [e] at h
  obtain ⟨h1, h2, h3, h4⟩ := ixN_seq e
  exact ⟨j, h1, h, h2, h3, h4⟩
theorem atI_nat {α : Type} {xs : List α} {j : Nat} {v : α} (h : xs[j]? = some v) : atI xs (j : Int) = some v := by
 have hj : j < xs.length := (List.getElem?_eq_some_iff.mp h).1
 have e : ixN xs.length (j : Int) = some j := by
  unfold ixN
  rw [if_pos (by omega), if_pos (by omega)]; simp
 unfold atI; rw [e]; exact h
noncomputable def PlainIx (b : Expr) : Prop := ∀ o i, subscripted b false o i = operate [o, i] (getItem o i)
noncomputable def IxR (X : Cx) (r : R2) : Prop :=
 ∀ (value slice : Expr) (pins : List (Addr × Obj)) (s : Shared) (σ : St) (H : Hp) (x y : V) (v u : Value) (Q : VK), Inv X pins σ H s → RelV x v → RelV y u → r x y H Q →
  subscripted slice false v u = operate [v, u] (getItem v u) → wpAny (model X.prog X.w) X.A (subscriptTail value slice v u) (EP X pins σ Q) X.xe s
noncomputable def MtR (X : Cx) (id : String) (r : V → List V → Hp → VK → Prop) : Prop :=
 ∀ (pins : List (Addr × Obj)) (s : Shared) (σ : St) (H : Hp) (x : V) (xs : List V) (v : Value) (us : List Value) (Q : VK), Inv X pins σ H s → RelV x v → Vals xs us → r x xs H Q →
  wpAny (model X.prog X.w) X.A (call (.builtin id) (v :: us)) (EP X pins σ Q) X.xe s
section
variable {X : Cx} {a b : Expr} {ta tb : TE} {pos : Pos}
theorem IxR.or {r r' : R2} (h : IxR X r) (h' : IxR X r') : IxR X (fun x y H Q => r x y H Q ∨ r' x y H Q) := by
 intro value slice pins s σ H x y v u Q I rx ry q hs
 rcases q with q | q
 ·exact h value slice pins s σ H x y v u Q I rx ry q hs
 ·exact h' value slice pins s σ H x y v u Q I rx ry q hs
theorem MtR.or {id : String} {r r' : V → List V → Hp → VK → Prop} (h : MtR X id r) (h' : MtR X id r') : MtR X id (fun x xs H Q => r x xs H Q ∨ r' x xs H Q) := by
 intro pins s σ H x xs v us Q I rx rs q
 rcases q with q | q
 ·exact h pins s σ H x xs v us Q I rx rs q
 ·exact h' pins s σ H x xs v us Q I rx rs q
theorem pe_ix {r : R2} (hr : IxR X r) (ha : PE X a ta) (hb : PE X b tb) (hs : PlainIx b) : PE X (.Subscript a b pos) (tOp r ta tb) := by
 intro pins s σ H Q I h
 exact Subscript_ (binT ha hb I h fun v u s2 x y H2 I2 rx ry q => hr a b pins s2 σ H2 x y v u Q I2 rx ry q (hs _ _))
noncomputable def rIxL (K : PySem.W.Frag) : R2 := fun x y H Q => ∃ p xs i v, x = .ref p ∧ y = .int i ∧ SqL K H p xs ∧ atI xs i = some v ∧ Q v H
noncomputable def rIxT (K : PySem.W.Frag) : R2 := fun x y H Q => ∃ p xs i v, x = .ref p ∧ y = .int i ∧ SqT K H p xs ∧ atI xs i = some v ∧ Q v H
noncomputable def rIxS : R2 := fun x y H Q => ∃ z i c, x = .str z ∧ y = .int i ∧ z.length ≤ sizeLine ∧ atI z.cps.toList i = some c ∧ Q (.str ⟨#[c]⟩) H
theorem ix_list : IxR X (rIxL X.K) := by
 intro value slice pins s σ H x y v u Q I rx ry h hs
 obtain ⟨p, xs, i, z, rfl, rfl, hq, he, q⟩ := h
 cases rx
 obtain ⟨t, rfl⟩ := ry
 obtain ⟨its, r, pl, hz⟩ := I.list hq
 obtain ⟨j, h1, h2, h3, h4, h5⟩ := atI_get he
 obtain ⟨w, ew, rw'⟩ := r.get h2
 have hl := r.length
 have hn := line63
 have fin : EP X pins σ Q w s := ⟨z, H, I, rw', q⟩
 by_cases h0 : 0 ≤ i
 ·have hj : i.toNat = j := by
   rw [seqIndex_of h0 h5] at h1
   exact Option.some.inj h1
  exact item_listR pl.isList h0 (by omega) (by rw [hj]; simpa using ew) fin hs
 ·have hj : (i + (its.toArray.size : Int)).toNat = j := by
   rw [seqIndex_neg (by omega) h4] at h1
   rw [List.size_toArray, ← hl]
   exact Option.some.inj h1
  exact subscriptTail_builtinR (x := w) pl.isList.typeIs slot_list_getitem.lookup
   (wpAny_getItem_list_neg (Q := fun r s' => r = w ∧ EP X pins σ Q r s') pl.isList (by omega) (by rw [List.size_toArray] <;> omega) (by omega) (by rw [hj]; simpa using ew) ⟨rfl, fin⟩) hs
theorem ix_tup : IxR X (rIxT X.K) := by
 intro value slice pins s σ H x y v u Q I rx ry h hs
 obtain ⟨p, xs, i, z, rfl, rfl, hq, he, q⟩ := h
 cases rx
 obtain ⟨t, rfl⟩ := ry
 obtain ⟨its, r, pl, hz⟩ := I.tuple hq
 obtain ⟨j, h1, h2, h3, h4, h5⟩ := atI_get he
 obtain ⟨w, ew, rw'⟩ := r.get h2
 have hl := r.length
 have hn := line63
 have fin : EP X pins σ Q w s := ⟨z, H, I, rw', q⟩
 exact subscriptTail_builtinR (x := w) pl.typeIs slot_tuple_getitem.lookup
  (getItem_tuple (j := j) (Q := fun r s' => r = w ∧ EP X pins σ Q r s') pl (by omega) (by omega) (by rw [List.size_toArray, ← hl]; exact h1) (by simpa using ew) ⟨rfl, fin⟩) hs
theorem ix_str : IxR X rIxS := by
 intro value slice pins s σ H x y v u Q I rx ry h hs
 obtain ⟨z, i, c, rfl, rfl, hz, he, q⟩ := h
 obtain ⟨t, rfl⟩ := rx
 obtain ⟨t', rfl⟩ := ry
 obtain ⟨j, h1, h2, h3, h4, h5⟩ := atI_get he
 have hl : z.cps.toList.length = z.length := by simp [Str.length]
 rw [hl] at h1 h4 h5
 have hn := line63
 exact tail_any (typeIs_str s z t) slot_str_getitem.lookup (getItem_str (c := c) (by
  have e1 : decide (i < -(2 ^ 63 : Int)) = false := decide_eq_false (by omega)
  have e2 : decide (i ≥ 2 ^ 63) = false := decide_eq_false (by omega)
  rw [e1, e2, Bool.or_false]) (by rw [h1]; simpa using h2) ⟨.str ⟨#[c]⟩, H, I.tok _, ⟨_, rfl⟩, q⟩) hs
noncomputable def rIx (K : PySem.W.Frag) : R2 := fun x y H Q => rIxL K x y H Q ∨ rIxT K x y H Q ∨ rIxS x y H Q
theorem ix_seq : IxR X (rIx X.K) := ix_list.or (ix_tup.or ix_str)
theorem slice_bounds (lo hi : Option Int) (n : Nat) : (sliceBounds lo hi none n).1 = ((HT.sIx n 0 lo : Nat) : Int) ∧ (sliceBounds lo hi none n).2.1 = ((HT.sIx n n hi : Nat) : Int) ∧ (sliceBounds lo hi none n).2.2 = 1 := by
 refine ⟨?_, ?_, rfl⟩
 ·cases lo with
  | none => simp [sliceBounds, HT.sIx]
  | some i =>
   simp only [sliceBounds, HT.sIx, Option.getD_none, show (1 : Int) > 0 by decide, if_true]
   by_cases h : i < 0
   ·simp only [h, if_true] <;> omega
   ·simp only [h, if_false] <;> omega
 ·cases hi with
  | none => simp [sliceBounds, HT.sIx]
  | some i =>
   simp only [sliceBounds, HT.sIx, Option.getD_none, show (1 : Int) > 0 by decide, if_true]
   by_cases h : i < 0
   ·simp only [h, if_true] <;> omega
   ·simp only [h, if_false] <;> omega
theorem slicePick_cut (its : List Value) (lo hi : Option Int) : slicePick its.toArray lo hi none = ((its.drop (HT.sIx its.length 0 lo)).take (HT.sIx its.length its.length hi - HT.sIx its.length 0 lo)).toArray := by
 obtain ⟨h1, h2, h3⟩ := slice_bounds lo hi its.toArray.size
 unfold slicePick
 rw [h1, h2, h3]
 simp only [sliceRange_one, pick_run, List.size_toArray] <;> rfl
noncomputable def rSlL (K : PySem.W.Frag) : V → Option Int → Option Int → Hp → VK → Prop := fun x lo hi H Q => ∃ a xs, x = .ref a ∧ SqL K H a xs ∧ ∀ p, H p = none → Q (.ref p) (upd H p (.lst (cutV xs lo hi)))
theorem sl_list : SlR X (rSlL X.K) := by
 intro pins s σ H x v vl vu lo hi sl Q I rx hs pl pu h
 obtain ⟨a, xs, rfl, hx, q⟩ := h
 cases rx
 obtain ⟨its, r, ht, hz⟩ := I.list hx
 have hlen := r.length
 refine ⟨"list", _, slot_list_getitem.lookup, ht.isList.typeIs, ?_⟩
 refine wpAny_getItem_list_slice ht.isList hs pl pu .none (by simp) ?_ (by rw [List.size_toArray] <;> omega)
 rw [slicePick_cut, ← hlen]
 refine ⟨.ref s.heap.objs.size, _, I.laid (t' := s.toks) (o := .lst (cutV xs lo hi)) (fun b ob q => Heap.get?_push_of_some _ q) (Nat.le_refl _) ?_, rfl, q _ (I.hok.fresh (Nat.le_refl _))⟩
 exact ⟨Nat.le_trans (cutV_length xs lo hi) hz, _, 0, (r.drop (HT.sIx xs.length 0 lo)).take (HT.sIx xs.length xs.length hi - HT.sIx xs.length 0 lo), Heap.get?_push_size _ rfl⟩
theorem call_list_of : CallR X (.type "list") (fun xs H Q => ∃ p ys, xs = [.ref p] ∧ (SqL X.K H p ys ∨ SqT X.K H p ys) ∧ ∀ l, H l = none → Q (.ref l) (upd H l (.lst ys))) := by
 intro pins s σ H xs us Q I r h
 obtain ⟨p, ys, rfl, hq, q⟩ := h
 obtain ⟨u, rfl, rx⟩ := vals1 r
 cases rx
 have fin : ∀ (its : List Value), Vals ys its → ys.length ≤ sizeLine → ∀ (h' : Heap) (c' : Nat), (∀ b o', s.heap.get? b = some o' → h'.get? b = some o') →
   h'.get? s.heap.objs.size = some { cls := .type "list", dict := none, data := .seq its.toArray c', slots := #[] } → EP X pins σ Q (.ref s.heap.objs.size) { s with heap := h' } := fun its r' hz h' c' kp e =>
  ⟨.ref s.heap.objs.size, _, I.laid (t' := s.toks) kp (Nat.le_refl _) (show ObjOk X.prog X.w _ h' _ (.lst ys) from ⟨hz, its, c', r', e⟩), rfl, q _ (I.hok.fresh (Nat.le_refl _))⟩
 rcases hq with hq | hq
 ·obtain ⟨its, r', pl, hz⟩ := I.list hq
  have hlen := r'.length
  obtain ⟨o, ho, hc, n, hd⟩ := pl.isList
  exact call_list_seq p (.inl rfl) ho hc hd (fun h' c' kp e => fin its r' hz h' c' kp e) (by simp only [List.size_toArray] <;> omega)
 ·obtain ⟨its, r', pl, hz⟩ := I.tuple hq
  have hlen := r'.length
  obtain ⟨o, ho, hc, n, hd⟩ := pl
  exact call_list_seq p (.inr rfl) ho hc hd (fun h' c' kp e => fin its r' hz h' c' kp e) (by simp only [List.size_toArray] <;> omega)
theorem call_tuple_of : CallR X (.type "tuple") (fun xs H Q => ∃ p ys, xs = [.ref p] ∧ ((SqL X.K H p ys ∧ ∀ l, H l = none → Q (.ref l) (upd H l (.tup ys))) ∨ (SqT X.K H p ys ∧ Q (.ref p) H))) := by
 intro pins s σ H xs us Q I r h
 obtain ⟨p, ys, rfl, h⟩ := h
 obtain ⟨u, rfl, rx⟩ := vals1 r
 cases rx
 rcases h with ⟨hq, q⟩ | ⟨hq, q⟩
 ·obtain ⟨its, r', pl, hz⟩ := I.list hq
  have hlen := r'.length
  refine call_tuple_list pl.isList (fun h' kp => ?_) (by simp only [List.size_toArray] <;> omega)
  have I1 : Inv X pins σ H { s with heap := h' } := I.kept (t' := s.toks) kp
  have I2 : Inv X pins σ (upd H h'.objs.size (.tup ys)) { s with heap := h'.push { cls := .type "tuple", data := .seq its.toArray } } :=
   I1.laid (t' := s.toks) (fun b o e => Heap.get?_push_of_some _ e) (Nat.le_refl _) (show ObjOk X.prog X.w _ _ _ (.tup ys) from ⟨hz, its, r', IsTup.new _ _⟩)
  exact ⟨.ref h'.objs.size, _, I2, rfl, q _ (I1.hok.fresh (Nat.le_refl _))⟩
 ·obtain ⟨its, r', pl, hz⟩ := I.tuple hq
  exact call_tuple_same pl ⟨.ref p, H, I, rfl, q⟩
noncomputable def tyV (K : PySem.W.Frag) (T : String) (x : V) (H : Hp) : Prop := match x with
 | .str _ => T = "str"
 | .int _ => T = "int"
 | .ref p => (T = "list" ∧ ∃ xs, SqL K H p xs) ∨ (T = "tuple" ∧ ∃ o, K.lookup p = some o ∧ o.cls = .type "tuple" ∧ o.dict = none) ∨
   (T = "dict" ∧ ((∃ kvs, H p = some (.dK kvs)) ∨ ∃ kvs, H p = some (.dT kvs))) ∨ (T = "set" ∧ ∃ S n, H p = some (.set S n))
 | _ => False
theorem tyV_is {pins : List (Addr × Obj)} {σ : St} {H : Hp} {s : Shared} {T : String} {x : V} {v : Value} (I : Inv X pins σ H s) (r : RelV x v) (ty : tyV X.K T x H) :
  s.TypeIs v T ∧ ∀ a, v = .ref a → ∃ ob, s.heap.get? a = some ob ∧ ob.dict = none := by
 cases x with
 | str z =>
  obtain ⟨t, rfl⟩ := r
  cases (show T = "str" from ty)
  exact ⟨typeIs_str s z t, fun _ e => nomatch e⟩
 | int i =>
  obtain ⟨t, rfl⟩ := r
  cases (show T = "int" from ty)
  exact ⟨typeIs_int s i t, fun _ e => nomatch e⟩
 | ref p =>
  cases r
  rcases ty with ⟨rfl, xs, hq⟩ | ⟨rfl, o, hk, hc, hd⟩ | ⟨rfl, hk⟩ | ⟨rfl, S, n, hk⟩
  ·obtain ⟨its, _, pl, _⟩ := I.list hq
   refine ⟨pl.isList.typeIs, fun a e => ?_⟩
   cases e
   obtain ⟨o, n, e, c, hd, _⟩ := pl
   exact ⟨o, e, hd⟩
  ·refine ⟨⟨o, I.kIn p o hk, hc⟩, fun a e => ?_⟩
   cases e
   exact ⟨o, I.kIn _ o hk, hd⟩
  ·have z : ∃ o, s.heap.get? p = some o ∧ o.ExactDict := by
    rcases hk with ⟨kvs, hk⟩ | ⟨kvs, hk⟩
    ·obtain ⟨_, _, _, _, o, _, _, e, ex, _⟩ := I.hok p _ hk
     exact ⟨o, e, ex⟩
    ·obtain ⟨_, _, _, _, o, _, _, e, ex, _⟩ := I.hok p _ hk
     exact ⟨o, e, ex⟩
   obtain ⟨o, e, ex⟩ := z
   refine ⟨⟨o, e, ex.1⟩, fun a e2 => ?_⟩
   cases e2
   exact ⟨o, e, ex.2.1⟩
  ·obtain ⟨o, _, _, _, e, ex, _⟩ := I.hok p _ hk
   refine ⟨⟨o, e, ex.1⟩, fun a e2 => ?_⟩
   cases e2
   exact ⟨o, e, ex.2.1⟩
 | _ => exact False.elim ty
noncomputable def tBM (K : PySem.W.Frag) (T : String) (r : V → List V → Hp → VK → Prop) (to : TE) (t : TA) : TE := fun σ H Q => to σ H fun x H1 => tyV K T x H1 ∧ t σ H1 fun xs H2 => r x xs H2 Q
variable {o e : Expr} {es : List Expr} {to : TE} {t : TA} {name : Str} {apos cpos : Pos} {T id : String} {r : V → List V → Hp → VK → Prop}
theorem pe_bm (pa : PlainAttrs T) (slot : Slot T name id) (hty : typeOf (.builtin id) = pure (.type "method_descriptor")) (hm : MtR X id r) (ho : PE X o to) (ha : PA X (e :: es) t)
  (hbase : attributeBase o name X.env (eval o X.env) = eval o X.env := by rfl)
  (hfew : ((backTo cpos (starEach (e :: es) X.env)).all (fun x => !x.1) && (backToKw cpos (keywordEach [] X.env)).all (fun x => x.1.isSome)
   && decide ((e :: es).length + ([] : List Keyword).length + (if ([] : List Keyword).isEmpty then 0 else 1) < 30)) = true := by rfl)
  (hline : (apos.endLine == cpos.line) = true := by rfl) (hs : starEach (e :: es) X.env = (false, eval e X.env) :: starEach es X.env := by rfl) (hplain : (backTo cpos (starEach es X.env)).any (·.1) = false := by rfl) :
  PE X (.Call (.Attribute o name apos) (e :: es) [] cpos) (tBM X.K T r to t) := by
 intro pins s σ H Q I h
 refine wpAny_Call_method_late hbase hfew hline rfl (thn (ho pins s σ H _ I h) fun v s1 ⟨x, H1, I1, r1, ty, q1⟩ => ?_)
 obtain ⟨h1, h2⟩ := tyV_is I1 r1 ty
 refine ⟨T, id, pa, slot, hty, h1, h2, ?_⟩
 have hA := ha cpos pins s1 σ H1 _ I1 q1
 rw [hs] at hA ⊢
 refine Calls.callWith_builtin (by show (false || (backTo cpos (starEach es X.env)).any (·.1)) = false; rw [hplain] <;> rfl) (Calls.evalArgs_plain ?_)
 exact thn hA fun us s2 ⟨vs, H2, I2, r2, q2⟩ => hm pins s2 σ H2 x vs v us Q I2 r1 r2 q2
end
end L2
namespace L2
open PySem PySem.Spec PyProof.Rows
noncomputable def MtM (X : Cx) (id : String) (r : V → List V → Hp → VK → Prop) : Prop :=
 ∀ (pins : List (Addr × Obj)) (s : Shared) (σ : St) (H : Hp) (x : V) (xs : List V) (v : Value) (us : List Value) (Q : VK), Inv X pins σ H s → RelV x v → Vals xs us → r x xs H Q →
  wpAny (model X.prog X.w) X.A (call (.builtin id) (v :: us)) (EP X pins σ Q) X.xe s
theorem Vals.one : ∀ {x : V} {us : List Value}, Vals [x] us → ∃ u, us = [u] ∧ RelV x u
 | _, _, .cons r .nil => ⟨_, rfl, r⟩
theorem Vals.rep {xs : List V} {us : List Value} (h : Vals xs us) : ∀ k : Nat, Vals (List.replicate k xs).flatten (List.replicate k us).flatten
 | 0 => .nil
 | k + 1 => by
  rw [List.replicate_succ, List.replicate_succ, List.flatten_cons, List.flatten_cons]
  exact Vals.append h (Vals.rep h k)
theorem foldl_rep (its : List Value) : ∀ (k : Nat) (acc : List Value),
  List.foldl (fun x1 x2 => x1 ++ x2) acc.toArray (List.replicate k its.toArray) = (acc ++ (List.replicate k its).flatten).toArray
 | 0, acc => by simp
 | k + 1, acc => by
  have e : acc.toArray ++ its.toArray = (acc ++ its).toArray := by simp
  have e2 : (acc ++ its) ++ (List.replicate k its).flatten = acc ++ (List.replicate (k + 1) its).flatten := by
   rw [List.replicate_succ, List.flatten_cons, List.append_assoc]
  rw [← e2, ← foldl_rep its k (acc ++ its), ← e, List.replicate_succ, List.foldl_cons]
section
variable {X : Cx} {pins : List (Addr × Obj)} {σ : St} {H : Hp} {s : Shared} {l b : Addr} {xs ys zs : List V}
theorem Inv.lset {its its' : List Value} {n : Nat} {f : Array Value → Array Value} {t' : Nat} (I : Inv X pins σ H s) (hH : H l = some (.lst xs))
  (e : s.heap.get? l = some { cls := .type "list", data := .seq its.toArray n }) (hf : f its.toArray = its'.toArray) (hv : Vals ys its') (hz : ys.length ≤ sizeLine) :
  Inv X pins σ (upd H l (.lst ys)) { s with heap := s.heap.update l (Obj.mapSeq f), toks := t' } := by
 have q := PySem.IsL.update e f
 rw [hf] at q
 refine I.write (x := l) (e := l) (by rw [hH]; exact trivial) (.inl rfl) (fun b' u hb hu => (Heap.get?_update_other s.heap (Obj.mapSeq f) (Ne.symm hb)).trans hu) ⟨_, q⟩ ?_
 exact ⟨hz, its', _, hv, q⟩
theorem Inv.lnew {its : List Value} {t' : Nat} (I : Inv X pins σ H s) (hv : Vals ys its) (hz : ys.length ≤ sizeLine) :
  Inv X pins σ (upd H s.heap.objs.size (.lst ys)) { s with heap := s.heap.push { cls := .type "list", data := .seq its.toArray }, toks := t' } :=
 I.laid (fun _ _ q => Heap.get?_push_of_some _ q) (Nat.le_refl _) ⟨hz, its, 0, hv, Heap.get?_push_size _ rfl⟩
theorem Inv.fresh (I : Inv X pins σ H s) : H s.heap.objs.size = none := I.hok.fresh (Nat.le_refl _)
theorem Inv.lstM (I : Inv X pins σ H s) (hH : H l = some (.lst xs)) : xs.length ≤ sizeLine ∧ ∃ (its : List Value) (n : Nat), Vals xs its ∧ xs.length = its.length ∧ s.heap.get? l = some { cls := .type "list", data := .seq its.toArray n } := by
 obtain ⟨z, its, n, r, e⟩ := I.hok l _ hH
 exact ⟨z, its, n, r, r.length, e⟩
theorem notLongL {n : Nat} (h : n ≤ sizeLine) : Builtin.List.listTooLong n = false := by
 unfold Builtin.List.listTooLong
 exact decide_eq_false (by omega)
end
section
variable {X : Cx}
noncomputable def rAppend : V → List V → Hp → VK → Prop := fun x vs H Q => ∃ l xs y, x = .ref l ∧ vs = [y] ∧ H l = some (.lst xs) ∧ xs.length < sizeLine ∧ Q .non (upd H l (.lst (xs ++ [y])))
theorem mt_append : MtM X "list.append" rAppend := by
 intro pins s σ H x vs v us Q I rx rv h
 obtain ⟨l, xs, y, rfl, rfl, hH, hz, q⟩ := h
 cases rx
 obtain ⟨u, rfl, ru⟩ := rv.one
 obtain ⟨z, its, n, r, hl, e⟩ := I.lstM hH
 refine call_meets F.slot_list_append ⟨_, e, rfl⟩ F.entry_list_append (F.args_list_append_2 _ _) (PySem.list_append l its.toArray n u (by rw [List.size_toArray]; omega)) ⟨e, ?_⟩
 refine ⟨.non, _, I.lset (its' := its ++ [u]) hH e (by simp) (r.append (.cons ru .nil)) ?_, rfl, q⟩
 rw [List.length_append, List.length_singleton]
 omega
noncomputable def rExtend : V → List V → Hp → VK → Prop := fun x vs H Q => ∃ l b xs zs, x = .ref l ∧ vs = [.ref b] ∧ H l = some (.lst xs) ∧ H b = some (.lst zs) ∧ xs.length + zs.length ≤ sizeLine ∧ Q .non (upd H l (.lst (xs ++ zs)))
theorem mt_extend : MtM X "list.extend" rExtend := by
 intro pins s σ H x vs v us Q I rx rv h
 obtain ⟨l, b, xs, zs, rfl, rfl, hH, hB, hz, q⟩ := h
 cases rx
 obtain ⟨u, rfl, ru⟩ := rv.one
 cases ru
 obtain ⟨z, its, n, r, hl, e⟩ := I.lstM hH
 obtain ⟨z2, its2, n2, r2, hl2, e2⟩ := I.lstM hB
 have hsz : its.toArray.size + its2.toArray.size ≤ sizeLine := by rw [List.size_toArray, List.size_toArray]; omega
 have hlong : ¬ (!its.toArray.isEmpty && Builtin.List.listTooLong (its.toArray.size + its2.toArray.size)) = true := by
  rw [notLongL hsz, Bool.and_false]
  exact Bool.false_ne_true
 refine call_meets F.slot_list_extend ⟨_, e, rfl⟩ F.entry_list_extend (F.args_list_extend_2 _ _)
  (AutoSeq1.list_extend_list_list_0 l its.toArray n b its2.toArray n2 hlong (by rw [List.size_toArray]; omega) (by omega)) ⟨e, e2, ?_⟩
 refine ⟨.non, _, I.lset (its' := its ++ its2) hH e (by simp) (r.append r2) ?_, rfl, q⟩
 rw [List.length_append]
 omega
noncomputable def rCat : R2 := fun x y H Q => ∃ l b xs zs, x = .ref l ∧ y = .ref b ∧ H l = some (.lst xs) ∧ H b = some (.lst zs) ∧ xs.length + zs.length ≤ sizeLine ∧ ∀ p, H p = none → Q (.ref p) (upd H p (.lst (xs ++ zs)))
theorem op_cat : OpR X (binaryOp .Add) rCat := by
 intro pins s σ H x y v u Q I rx ry h
 obtain ⟨l, b, xs, zs, rfl, rfl, hH, hB, hz, q⟩ := h
 cases rx
 cases ry
 obtain ⟨z, its, n, r, hl, e⟩ := I.lstM hH
 obtain ⟨z2, its2, n2, r2, hl2, e2⟩ := I.lstM hB
 refine PySem.P.add_list e e2 ?_ (by rw [List.size_toArray, List.size_toArray]; omega)
 have ea : its.toArray ++ its2.toArray = (its ++ its2).toArray := by simp
 rw [ea]
 exact ⟨.ref _, _, I.lnew (t' := s.toks) (r.append r2) (by rw [List.length_append]; omega), rfl, q _ I.fresh⟩
noncomputable def rRep : R2 := fun x y H Q => ∃ l k xs, x = .ref l ∧ y = .int k ∧ H l = some (.lst xs) ∧ -(2 ^ 63) ≤ k ∧ k < 2 ^ 63 ∧ xs.length * k.toNat ≤ sizeLine ∧
 ∀ p, H p = none → Q (.ref p) (upd H p (.lst (List.replicate k.toNat xs).flatten))
theorem len_rep {α : Type} (xs : List α) (k : Nat) : (List.replicate k xs).flatten.length = k * xs.length := by
 induction k with
 | zero => simp
 | succ k ih => rw [List.replicate_succ, List.flatten_cons, List.length_append, ih, Nat.succ_mul, Nat.add_comm]
theorem op_rep : OpR X (binaryOp .Mult) rRep := by
 intro pins s σ H x y v u Q I rx ry h
 obtain ⟨l, k, xs, rfl, rfl, hH, h1, h2, hz, q⟩ := h
 cases rx
 obtain ⟨t, rfl⟩ := ry
 obtain ⟨z, its, n, r, hl, e⟩ := I.lstM hH
 have hlen : its.toArray.size * k.toNat ≤ sizeLine := by rw [List.size_toArray, ← hl]; exact hz
 have hcap : ¬ its.toArray.size * k.toNat > (2 ^ 63 - 1) / 8 := by
  have : (sizeLine : Nat) ≤ (2 ^ 63 - 1) / 8 := by decide
  omega
 have hfit : ¬ (!Builtin.List.listFitsIndex k) = true := by
  rw [fitsIndex_both h1 h2]
  exact Bool.false_ne_true
 have hlong : ¬ Builtin.List.listTooLong (its.toArray.size * k.toNat) = true := by
  rw [notLongL hlen]
  exact Bool.false_ne_true
 have hnew : List.foldl (fun x1 x2 => x1 ++ x2) #[] (List.replicate (if its.toArray.isEmpty = true then 0 else k.toNat) its.toArray) = (List.replicate k.toNat its).flatten.toArray := by
  have f0 : ∀ m : Nat, List.foldl (fun x1 x2 => x1 ++ x2) #[] (List.replicate m its.toArray) = (List.replicate m its).flatten.toArray := fun m => by
   have := foldl_rep its m []
   rw [List.nil_append] at this
   exact this
  rw [f0]
  cases its with
  | nil => simp
  | cons a r' => rw [if_neg (by simp)]
 refine wpAny_binaryOp_repeat_ref (T := "list") (U := "int") (by decide) ⟨_, e, rfl⟩ (fun s' => typeIs_int s' k t) noFill_list_mul F.fills_int_mul F.slot_int_rmul repeat_list F.slot_int_index.lookup
  (call_meets F.slot_int_rmul (typeIs_int s k t) F.entry_int_rmul (F.args_int_rmul_2 _ _) (int___rmul___int_list k t l its.toArray n)
   ⟨e, rfl, ⟨_, e, rfl⟩, call_meets F.slot_list_mul ⟨_, e, rfl⟩ F.entry_list_mul (F.args_list_mul_2 _ _) (AutoListH.list___mul___list_int_3 l its.toArray n k t hfit hcap hlong) ⟨e, ?_⟩⟩)
 rw [hnew]
 exact ⟨.ref _, _, I.lnew (t' := s.toks) (r.rep k.toNat) (by rw [len_rep, Nat.mul_comm]; exact hz), rfl, q _ I.fresh⟩
end
section
variable {prog : Program} {w : World} {A : Around} {E : Value → Shared → Prop} {s : Shared}
end
section
variable {X : Cx}
end
end L2
namespace Att
open PySem PySem.W PySem.Calls PyProof.Rows
theorem ints_of_wellAll {P : Params} {h : Heap} : ∀ (ns : List Int) (vs : List Value), WellAll P h vs (ns.map WData.int) → IntsAre vs ns := by
 intro ns
 induction ns with
 | nil =>
  intro vs w
  rw [List.map_nil] at w
  cases w
  exact .nil
 | cons n ns ih =>
  intro vs w
  rw [List.map_cons] at w
  cases w with
  | cons a b =>
   cases a
   exact .cons _ _ (ih _ b)
theorem script_of {l : OpenLaw} {n : Nat} (hn : l.most = some n) {P : Params} {h : Heap} {args : List WData} {vals : List Value}
  (hpre : l.row.toRowW.claim.pre args = true) (hwl : WellAll P h vals args) :
  ∃ a vs ns, vals = [Value.ref a] ∧ args = [WData.list (ns.map WData.int)] ∧ h.get? a = some { cls := .type "list", data := .seq vs.toArray } ∧ IntsAre vs ns ∧ ns.length ≤ n := by
 have hsh : WShape.hasAll [] args [.list .int] = true := (pre_splitW hpre).1
 have hc : l.pre.holds [] { args := args } = true := (pre_splitW hpre).2
 obtain ⟨d, r, rfl, h1, h2⟩ := hasAllW_cons hsh
 obtain rfl := hasAllW_nil h2
 obtain ⟨xs, rfl, h3⟩ := hasW_list h1
 obtain ⟨ns, rfl⟩ := items_int h3
 have hlen : ns.length ≤ n := by
  unfold OpenLaw.pre at hc
  have h4 : (WTm.not (.lt (.lit (.int (n : Int))) (.len (.arg 0)))).holds [] { args := [.list (ns.map .int)] } = true := by
   have h4 := (holds_andW hc).1
   rw [hn] at h4
   exact h4
  have h5 := condW_of h4 (w_not (w_lt w_lit (w_len_list (w_arg rfl))))
  rw [List.length_map] at h5
  refine Nat.le_of_not_lt fun q => ?_
  have q' : (n : Int) < ((ns.length : Nat) : Int) := by omega
  first
   | (rw [decide_eq_true q'] at h5; exact absurd h5 (by decide))
   | (simp at h5; omega)
 cases hwl with
 | cons w1 w2 =>
  cases w2
  cases w1 with
  | list ho hall => exact ⟨_, _, ns, rfl, rfl, ho, ints_of_wellAll ns _ hall, hlen⟩
theorem post_true (l : OpenLaw) (args : List WData) : l.row.toRowW.claim.post args (.bool true) args = true :=
 postW_of (r := l.row.toRowW) (X := (true == true))
  (show WShape.has [] (.bool true) .bool = true by first | rfl | decide | simp [WShape.has, WShape.arms, WShape.armsAll])
  (show (WTm.eq .res (.lit (.bool true))).value [] { args := args, res := some (.bool true), after := args } = some (.bool (true == true)) from w_eq_bool (w_res rfl) w_lit) rfl
theorem attach_call {l : OpenLaw} {n : Nat} {q : Program} {loose : List Str} {XP : (Str → Option Value) → Heap → Prop} {YP : World → Heap → Prop} {d : DefRec}
  (hn : l.most = some n) (hdf : d.params.defaults = [])
  (call : ∀ (w : World) (s₀ s₁ : Shared) (mg mb : Str → Option Value) (fa : Addr) (o : Obj) (pm cd doc : Value) (a : Addr) (vs : List Value) (ns : List Int),
   Ground q loose [] XP w s₀ mg mb s₁.heap → YP w s₁.heap →
   s₁.heap.get? fa = some o → o.data = .func (docDef d.name d.params d.body d.scope pm cd doc) → s₁.heap.CodeRec cd d.name → mg d.name = some (.ref fa) →
   s₁.heap.get? a = some { cls := .type "list", data := .seq vs.toArray } → IntsAre vs ns → ns.length ≤ n → s₁.gens = #[] →
   codeAny (model l.prog w) callerA (.call (.ref fa) ⟨[.ref a], []⟩) (fun r s' => r = .ok (.ret (.bool true)) ∧ OldK s₁.heap s'.heap ∧ s'.os = s₁.os ∧ AllBare s'.gens) s₁) :
  WalkO q loose XP YP l.row.toRowW d [] (fun f vs => PySem.call f vs) := by
 intro w s₀ s₁ mg mb G Y fa o pm cd doc dV kV ho hd hcd hD hmg hg args vals as hpre hlay hrd hwl hlo
 obtain rfl : dV = .none := Dflts.none hD hdf
 obtain rfl : kV = .none := Dflts.noKw hD
 obtain ⟨a, vs, ns, rfl, rfl, hobj, hints, hlen⟩ := script_of hn hpre hwl
 refine enter_call (codeAny_mono (call w s₀ s₁ mg mb fa o pm cd doc a vs ns G Y ho (fd_plain hd) hcd hmg hobj hints hlen hg) fun r s' hq => ?_)
 obtain ⟨rfl, h2, h3, h4⟩ := hq
 exact ⟨.inl ⟨.bool true, .bool true, [], rfl, fun _ => rfl, .bool true, post_true l _, fun _ => ⟨List.Pairwise.nil, fun _ hm => (nomatch hm)⟩⟩, h2, h3, h4⟩
section
variable {prog : Program} {w : World} {A : Around} {E : Value → Shared → Prop} {s : Shared} {K : Frag}
end
end Att
namespace L2
open PySem PySem.Spec PyProof.Rows
theorem vals_ints : ∀ {vs : List Value} {ns : List Int}, IntsAre vs ns → Vals (ns.map V.int) vs
 | _, _, .nil => .nil
 | _, _, .cons n t h => .cons ⟨t, rfl⟩ (vals_ints h)
noncomputable def Only (H : Hp) : Prop := ∀ b, H b = none ∨ ∃ o xs, H b = some (.frz o (.lst xs))
theorem law_call {P : Program} {w : World} {K : PySem.W.Frag} {mg mb : Str → Option Value} {CX : CXT} {k : Nat} {fa a : Addr} {fd : FuncData} {x : Str} {sp : Sp} {s₁ : Shared} {vs : List Value} {ns : List Int}
  (KX : K.In s₁.heap) (hns : s₁.heap.Ns mainGlobals mg) (hb : s₁.heap.Ns builtinsNs mb) (hbb : ∀ x : Str, x ≠ "__name__" → mb x = bootBuiltins x) (hlim : s₁.heap.NoLimit) (hg : s₁.gens = #[])
  (ha : s₁.heap.get? a = some { cls := .type "list", data := .seq vs.toArray }) (hi : IntsAre vs ns) (hl : ns.length ≤ sizeLine) (hr : Room k callerA)
  (F : ∀ base : Heap, K.In base → base.Ns mainGlobals mg → FnOk P w K mg base CX k fa fd [x] sp) (hbind : ∀ (s : Shared) (u : Value), BindsTo s fd ⟨[u], []⟩ [(x, u)])
  (hsp : ∀ H : Hp, Only H → SqL K H a (ns.map V.int) → sp [.ref a] H (fun v _ => v = .bl true) fun _ _ _ => False)
  (hCX : ∀ H e s', CX [] H s₁ (fun _ _ _ => False) e s' → False) :
  codeAny (model P w) callerA (.call (.ref fa) ⟨[.ref a], []⟩) (fun r s' => r = .ok (.ret (.bool true)) ∧ OldK s₁.heap s'.heap ∧ s'.os = s₁.os ∧ AllBare s'.gens) s₁ := by
 have rv := vals_ints hi
 have lenV := hi.length
 have core : ∀ H : Hp, Only H → SqL K H a (ns.map V.int) → HOk P w H s₁.heap → (∀ b, H b ≠ none → b = a) → (H a ≠ none → K.lookup a = none) →
   codeAny (model P w) callerA (.call (.ref fa) ⟨[.ref a], []⟩) (fun r s' => r = .ok (.ret (.bool true)) ∧ OldK s₁.heap s'.heap ∧ s'.os = s₁.os ∧ AllBare s'.gens) s₁ := by
  intro H hO hS hok hA hK
  have base_of : ∀ {b : Addr} {o : Obj}, s₁.heap.get? b = some o → H b = none → (hidT s₁.heap H).get? b = some o := fun e n => hidT_get e n
  have noA : ∀ {b : Addr} {o : Obj} {es : Array DictEntry} {ep : Nat}, s₁.heap.get? b = some o → o.data = .dict es ep → H b = none := fun {b o es ep} e d => by
   cases q : H b with
   | none => rfl
   | some u =>
    have e' : b = a := hA b (by rw [q]; simp)
    subst e'
    rw [ha] at e; cases e
    have d' : Data.seq vs.toArray _ = Data.dict es ep := d
    cases d'
  have nsK : ∀ {b : Addr} {m : Str → Option Value}, s₁.heap.Ns b m → (hidT s₁.heap H).Ns b m := fun {b m} ⟨o, es, ep, e, d, r⟩ => ⟨o, es, ep, base_of e (noA e d), d, r⟩
  have hKb : K.In (hidT s₁.heap H) := fun b o e => base_of (KX b o e) (by
   cases q : H b with
   | none => rfl
   | some u =>
    have e' : b = a := hA b (by rw [q]; simp)
    subst e'
    rw [hK (by rw [q]; simp)] at e; cases e)
  have hM : Mod K mg (hidT s₁.heap H) := ⟨hKb, nsK hns, ⟨mb, nsK hb, hbb⟩, let ⟨mc, h1, h2⟩ := hlim; ⟨mc, nsK h1, h2⟩⟩
  have e0 : Env0 P w K mg (hidT s₁.heap H) callerA [] s₁ H := ⟨rfl, hM, fun b o e => of_hidT e, Nat.le_of_eq (hidT_size _ _), trivial, fun b hb => absurd (show b ∈ ([] : List Addr) from hb) (by simp), hok, .of_eq hg⟩
  refine codeAny_mono ((F _ hKb (nsK hns)).run callerA [] s₁ H ⟨[.ref a], []⟩ [.ref a] [.ref a] _ _ hr e0 (hbind s₁ (.ref a)) (.cons rfl .nil) (hsp H hO hS)) fun r s' h => ?_
  cases r with
  | error e => exact (hCX H e s' h).elim
  | ok fl =>
   cases fl with
   | next => exact False.elim h
   | brk => exact False.elim h
   | cont => exact False.elim h
   | ret u =>
    obtain ⟨v, H', os, bare, un, hok', r', q⟩ := h
    have q' : v = .bl true := q
    subst q'
    obtain rfl : u = Value.bool true := r'
    refine ⟨rfl, OldK.of_keep fun b o e => ?_, os, bare⟩
    cases q : H b with
    | none => exact un.keep b o e q (by intro z; exact absurd (show b ∈ ([] : List Addr) from z) (by simp)) (by simp)
    | some u =>
     rcases hO b with z | ⟨ob, xs, z⟩
     ·rw [q] at z; cases z
     ·have z2 := un.frzs b ob _ z
      obtain ⟨e1, _⟩ := hok b _ z
      obtain ⟨e2, _⟩ := hok' b _ z2
      rw [e] at e1; cases e1
      exact e2
 cases hk : K.lookup a with
 | some o =>
  have e := KX a o hk
  rw [ha] at e
  cases e
  refine core (fun _ => none) (fun _ => .inl rfl) (.inr ⟨_, vs.toArray, _, hk, rfl, rfl, rfl, by rw [List.size_toArray, lenV]; exact hl, by simpa using rv⟩) (fun b u z => by have z' : (none : Option HO) = some u := z; cases z') (fun b z => absurd rfl z) fun z => absurd rfl z
 | none =>
  refine core (fun b => if b = a then some (.frz { cls := .type "list", data := .seq vs.toArray } (.lst (ns.map V.int))) else none) (fun b => ?_) (.inl (.inr ⟨{ cls := .type "list", data := .seq vs.toArray }, if_pos rfl⟩)) (fun b u z => ?_) (fun b z => ?_) fun _ => hk
  ·by_cases hb : b = a
   ·exact .inr ⟨_, _, if_pos hb⟩
   ·exact .inl (if_neg hb)
  ·by_cases hb : b = a
   ·have z' := (if_pos hb).symm.trans z
    cases z'
    subst hb
    exact ⟨ha, by rw [List.length_map]; exact hl, vs, _, rv, ha⟩
   ·have z' := (if_neg hb).symm.trans z
    cases z'
  ·by_cases hb : b = a
   ·exact hb
   ·exact absurd (if_neg hb) z
end L2
namespace L2
open PySem PySem.Spec PyProof.Rows
theorem walk_of {l : PySem.W.OpenLaw} {n k : Nat} {q : Program} {loose : List Str} {XP : (Str → Option Value) → Heap → Prop} {YP : World → Heap → Prop} {d : DefRec} {K : Params → PySem.W.Frag} {CX : World → CXT} {sp : World → Sp} {x : Str}
  (hn : l.most = some n) (hn2 : n ≤ sizeLine) (hdf : d.params.defaults = []) (hr : Room k callerA)
  (hY : ∀ (w : World) (h : Heap), YP w h → (K w.params).In h)
  (F : ∀ (w : World) (mg : Str → Option Value) (fa : Addr) (h : Heap), (K w.params).In h → h.Ns mainGlobals mg → mg d.name = some (.ref fa) →
   ∃ fd : FuncData, (∀ (s : Shared) (u : Value), BindsTo s fd ⟨[u], []⟩ [(x, u)]) ∧
    ∀ base : Heap, (K w.params).In base → base.Ns mainGlobals mg → FnOk l.prog w (K w.params) mg base (CX w) k fa fd [x] (sp w))
  (hsp : ∀ (w : World) (H : Hp) (a : Addr) (ns : List Int), ns.length ≤ n → Only H → SqL (K w.params) H a (ns.map V.int) → sp w [.ref a] H (fun v _ => v = .bl true) fun _ _ _ => False)
  (hCX : ∀ (w : World) (H : Hp) (s : Shared) (e : Value) (s' : Shared), CX w [] H s (fun _ _ _ => False) e s' → False) :
  PySem.W.WalkO q loose XP YP l.row.toRowW d [] (fun f vs => PySem.call f vs) := by
 refine Att.attach_call hn hdf fun w s₀ s₁ mg mb fa o pm cd doc a vs ns G Y ho hd hcd hmg hobj hints hlen hg => ?_
 have KX := hY w _ Y
 obtain ⟨fd, hb, hF⟩ := F w mg fa _ KX G.T.g hmg
 exact law_call KX G.T.g G.T.b G.T.builtins G.T.nolimit hg hobj hints (Nat.le_trans hlen hn2) hr hF hb (fun H hO hS => hsp w H a ns hlen hO hS) fun H e s' => hCX w H s₁ e s'
end L2
namespace L2
open PySem PySem.Spec PyProof.Rows
noncomputable def inClass (s : Stmt) (j : Nat) : Stmt := match s with
 | .ClassDef _ _ _ body _ _ _ _ _ _ _ => body.getD j (.Pass ⟨0, 0, 0, 0⟩)
 | _ => .Pass ⟨0, 0, 0, 0⟩
noncomputable def defArgs (s : Stmt) : Arguments := match s with
 | .FunctionDef _ a _ _ _ _ _ _ _ _ => a
 | _ => { posonlyargs := [], args := [], vararg := none, kwonlyargs := [], kw_defaults := [], kwarg := none, defaults := [] }
noncomputable def defBody (s : Stmt) : List Stmt := match s with
 | .FunctionDef _ _ b _ _ _ _ _ _ _ => b
 | _ => []
noncomputable def defScope (s : Stmt) : Scope := match s with
 | .FunctionDef _ _ _ _ _ _ sc _ _ _ => sc
 | _ => { kind := .function, names := [], isGenerator := false, isCoroutine := false }
noncomputable abbrev CX0 : CXT := fun _ _ _ _ _ _ => False
noncomputable abbrev E0 : XK := fun _ _ _ => False
theorem pass0 {X : Cx} : Passes CX0 X E0 := fun _ _ _ _ _ _ _ h => h.elim
structure Fun (K : PySem.W.Frag) (x qual : Str) (st : Stmt) (f : Addr) (fd : FuncData) : Prop where
 ex : ∃ (oc : Value) (od : Option Addr) (kV doc pm : Value) (an : Option Addr) (cdv ct : Value) (osl : Array (Option Value)),
  fd = PySem.W.fnOf x qual (defArgs st) (defBody st) (defScope st) .none kV doc pm an cdv ct ∧ K.lookup f = some ⟨oc, od, .func fd, osl⟩ ∧ PySem.W.codeIn K cdv qual = true
 kp : PySem.W.keepIn K (.ref f) = true
section
variable {P : Program} {w : World} {K : PySem.W.Frag} {mg : Str → Option Value} {base : Heap}
theorem Fun.ok {x qual : Str} {st : Stmt} {f : Addr} {fd : FuncData} {N ps : List Str} {k : Nat} {sp : Sp} (F : Fun K x qual st f fd) (S : FnScope N ps (defScope st)) (len : ∀ vs H Q E, sp vs H Q E → vs.length = ps.length)
  (hbody : ∀ (cdv : Value) (A : Around) (outer : List Env) (s : Shared) (H : Hp) (vs : List V) (Q : VK) (E : XK), Room k (A.deeper (envOfC qual (defScope st) s.heap.objs.size f cdv)) → sp vs H Q E →
   ∃ t, PSs (cxOf CX0 P w K mg base N qual (defScope st) f cdv A outer s H E).nox (defBody st) t ∧ t { nx := fun _ H' => Q .non H', rt := Q } (start N vs) H) : FnOk P w K mg base CX0 (k + 1) f fd ps sp := by
 obtain ⟨oc, od, kV, doc, pm, an, cdv, ct, osl, rfl, lk, hcd⟩ := F.ex
 refine fn_of lk hcd S len fun A outer s H vs Q E hr hsp => ?_
 obtain ⟨t, h, q⟩ := hbody cdv A outer s H vs Q E hr hsp
 exact ⟨t, h.nox, q⟩
theorem Fun.binds {x qual : Str} {st : Stmt} {f : Addr} {fd : FuncData} {ps : List Str} (F : Fun K x qual st f fd)
  (h : ∀ (kV doc pm : Value) (an : Option Addr) (cdv ct : Value) (us : List Value), us.length = ps.length → bindArgs (PySem.W.fnOf x qual (defArgs st) (defBody st) (defScope st) .none kV doc pm an cdv ct) ⟨us, []⟩ = pure (ps.zip us)) : Binds K fd ps [] := by
 obtain ⟨oc, od, kV, doc, pm, an, cdv, ct, osl, rfl, lk, hcd⟩ := F.ex
 exact .all (h kV doc pm an cdv ct)
theorem fun_mk {x qual : Str} {st : Stmt} {f : Addr} {oc : Value} {od an : Option Addr} {osl : Array (Option Value)} {kV doc pm cdv ct : Value} (l : K.lookup f = some ⟨oc, od, .func (PySem.W.fnOf x qual (defArgs st) (defBody st) (defScope st) .none kV doc pm an cdv ct), osl⟩)
  (c : PySem.W.codeIn K cdv qual = true) (k : PySem.W.keepIn K (.ref f) = true) : Fun K x qual st f (PySem.W.fnOf x qual (defArgs st) (defBody st) (defScope st) .none kV doc pm an cdv ct) := ⟨⟨oc, od, kV, doc, pm, an, cdv, ct, osl, rfl, l, c⟩, k⟩
end
theorem hu_of {A : Around} {k : Nat} (hr : Room k A) : A.units + 1 < cLine := Nat.lt_of_le_of_lt (Nat.add_le_add_left (by decide : 1 ≤ 64) _) hr.units
section
variable {X : Cx}
theorem pv (i : Nat) {x : Str} {pos : Pos} (hN : X.N[i]? = some x := by rfl) (hv : Vis X.env.scope x := by first | exact Or.inl rfl | exact Or.inr (Or.inl rfl) | exact Or.inr (Or.inr rfl)) (hd : (x == ("__debug__" : Str)) = false := by decide)
  (hcd : (x == ("__classdict__" : Str)) = false := by decide) : PE X (.Name x pos) (tVar i) := pe_var hN hv hd hcd
theorem call_lenD : CallR X (.builtin "len") (fun xs H Q => ∃ a kvs, xs = [V.ref a] ∧ H a = some (.dK kvs) ∧ Q (.int kvs.length) H) := by
 intro pins s σ H xs us Q I r h
 obtain ⟨a, kvs, rfl, ha, q⟩ := h
 obtain ⟨u, rfl, ru⟩ := vals1 r
 cases ru
 exact d_len I (.inl ha) fun t s' I' => ⟨.int kvs.length, H, I', ⟨t, rfl⟩, q⟩
end
theorem iteF {A B : Prop} (h : B) : if false = true then A else B := by
 rw [if_neg Bool.false_ne_true]
 exact h
theorem iteT {A B : Prop} (h : A) : if true = true then A else B := by
 rw [if_pos rfl]
 exact h
theorem ite2 {c A B : Prop} [Decidable c] (h1 : c → A) (h2 : ¬ c → B) : if c then A else B := by
 by_cases h : c
 ·rw [if_pos h]
  exact h1 h
 ·rw [if_neg h]
  exact h2 h
theorem iteNS {c A B : Prop} [Decidable c] (hc : c) (h : B) : if (!decide c) = true then A else B := by
 rw [decide_eq_true hc]
 exact iteF h
noncomputable def Same (H H' : Hp) : Prop := ∀ b o, H b = some o → H' b = some o
theorem Same.refl (H : Hp) : Same H H := fun _ _ h => h
theorem Same.trans {H H1 H2 : Hp} (a : Same H H1) (b : Same H1 H2) : Same H H2 := fun c o h => b c o (a c o h)
theorem Same.free {H H' : Hp} (e : Same H H') {l : Addr} (h : H' l = Option.none) : H l = Option.none := by
 cases q : H l with
 | none => rfl
 | some o =>
  rw [e l o q] at h
  cases h
theorem Same.seq {K : PySem.W.Frag} {H H' : Hp} {a : Addr} {xs : List V} (e : Same H H') (h : SqL K H a xs) : SqL K H' a xs := by
 rcases h with (h | ⟨o, h⟩) | h
 ·exact .inl (.inl (e _ _ h))
 ·exact .inl (.inr ⟨o, e _ _ h⟩)
 ·exact .inr h
section
variable {κ : Type} [DecidableEq κ]
end
end L2
set_option maxHeartbeats 4000000
namespace L2
open PySem PySem.Spec PyProof.Rows
section
variable {X : Cx} {pins : List (Addr × Obj)} {σ : List (Option V)} {H : Hp} {s : Shared}
theorem HOk.track {P : Program} {w : World} {h : Heap} {D : Addr} {o : HO} (ok : HOk P w H h) (hn : H D = none) (new : ObjOk P w (upd H D o) h D o) : HOk P w (upd H D o) h := fun b u e => by
 by_cases hb : b = D
 ·subst hb; rw [upd_same] at e; cases e; exact new
 ·rw [upd_ne hb] at e
  refine (ok b u e).stay (fun _ _ _ q => q) (fun c q => ?_) (fun c xs q => ?_)
  ·rw [upd_ne (ne_of_none q hn)]; exact q
  ·rw [upd_ne (ne_of_none q hn)]; exact q
theorem Inv.track {D : Addr} {o : HO} (I : Inv X pins σ H s) (hn : H D = none) (hD : X.s₀.heap.objs.size ≤ D) (hL : D ≠ X.env.locals) (hc : ∀ x c, X.env.cells.lookup x = some c → c ≠ D) (hp : ∀ p ∈ X.pn ++ pins, p.1 ≠ D)
  (new : ObjOk X.prog X.w (upd H D o) s.heap D o) : Inv X pins σ (upd H D o) s := by
 refine ⟨I.ok, I.os, I.bare, ⟨I.base.keep, I.base.slot, fun b ob e n hx => ?_, I.base.there, fun b xs e => ?_, fun b ob u e => ?_, fun b ps e => ?_⟩, I.loc, I.cell, ?_, fun x c e => ?_, fun p hp' => ?_, I.hok.track hn new, I.len⟩
 ·rw [upd_ne (Nat.ne_of_lt (Nat.lt_of_lt_of_le (Heap.lt_size e) hD))]; exact I.base.free b ob e n hx
 ·have q := I.base.tups b xs e; rw [upd_ne (ne_of_none q hn)]; exact q
 ·have q := I.base.frzs b ob u e; rw [upd_ne (ne_of_none q hn)]; exact q
 ·obtain ⟨m, q⟩ := I.base.tbls b ps e; exact ⟨m, by rw [upd_ne (ne_of_none q hn)]; exact q⟩
 ·rw [upd_ne (Ne.symm hL)]; exact I.free
 ·rw [upd_ne (hc x c e)]; exact I.freeC x c e
 ·obtain ⟨e, n, a, b, d⟩ := I.pin p hp'
  exact ⟨e, by rw [upd_ne (hp p hp')]; exact n, a, b, d⟩
end
noncomputable def clOf (env : Env) : List (Str × NameKind) → List (Str × Addr) → List (Str × Addr)
 | [], acc => acc
 | (n, k) :: r, acc => clOf env r (if k == NameKind.free then (n, (env.cells.lookup n).getD 0) :: acc else acc)
theorem closure_go (env : Env) : ∀ (l : List (Str × NameKind)) (acc : List (Str × Addr)), (∀ n, (n, NameKind.free) ∈ l → ∃ c, env.cells.lookup n = some c) →
  (forIn l acc (fun (x : Str × NameKind) (r : List (Str × Addr)) => if (x.2 == NameKind.free) = true then (do let a ← cellOf env x.1; pure (ForInStep.yield ((x.1, a) :: r))) else pure (ForInStep.yield r)) : Sem (List (Str × Addr))) = pure (clOf env l acc)
 | [], acc, _ => rfl
 | (n, k) :: r, acc, h => by
  rw [List.forIn_cons]
  by_cases hk : (k == NameKind.free) = true
  ·have e : k = .free := by simpa using hk
   subst e
   obtain ⟨c, hc⟩ := h n List.mem_cons_self
   have e1 : cellOf env n = pure c := by unfold cellOf; rw [hc]
   have e2 : ((NameKind.free == NameKind.free) = true) = True := by simp
   simp only [e2, if_true, e1, pure_bind]
   rw [closure_go env r _ fun m hm => h m (List.mem_cons_of_mem _ hm)]
   show _ = pure (clOf env r (if (NameKind.free == NameKind.free) = true then (n, (env.cells.lookup n).getD 0) :: acc else acc))
   simp only [e2, if_true, hc, Option.getD_some]
  ·simp only [if_neg hk, pure_bind]
   rw [closure_go env r _ fun m hm => h m (List.mem_cons_of_mem _ hm)]
   show _ = pure (clOf env r (if (k == NameKind.free) = true then (n, (env.cells.lookup n).getD 0) :: acc else acc))
   rw [if_neg hk]
theorem closureFor_eq {scope : Scope} {env : Env} (h : ∀ n, (n, NameKind.free) ∈ scope.names → ∃ c, env.cells.lookup n = some c) : closureFor scope env = pure (clOf env scope.names []) := by
 unfold closureFor
 have e := closure_go env scope.names [] h
 first
  | exact e
  | (simp only [bind_pure]; exact e)
  | (rw [show (forIn scope.names ([] : List (Str × Addr)) _ : Sem (List (Str × Addr))) = _ from e]; rfl)
theorem clOf_mem (env : Env) : ∀ (l : List (Str × NameKind)) (acc : List (Str × Addr)) (x : Str) (c : Addr), (clOf env l acc).lookup x = some c → acc.lookup x = some c ∨ (x, NameKind.free) ∈ l ∧ c = (env.cells.lookup x).getD 0
 | [], acc, x, c, h => .inl h
 | (n, k) :: r, acc, x, c, h => by
  rcases clOf_mem env r _ x c h with e | ⟨e1, e2⟩
  ·by_cases hk : (k == NameKind.free) = true
   ·rw [if_pos hk] at e
    have ek : k = .free := by simpa using hk
    subst ek
    rw [List.lookup_cons] at e
    by_cases hx : (x == n) = true
    ·have ex : x = n := by simpa using hx
     subst ex
     rw [hx] at e
     exact .inr ⟨List.mem_cons_self, (Option.some.inj e).symm⟩
    ·have hx' : (x == n) = false := by simpa using hx
     rw [hx'] at e
     exact .inl e
   ·rw [if_neg hk] at e
    exact .inl e
  ·exact .inr ⟨List.mem_cons_of_mem _ e1, e2⟩
theorem clOf_has (env : Env) : ∀ (l : List (Str × NameKind)) (acc : List (Str × Addr)) (x : Str), ((x, NameKind.free) ∈ l ∨ ∃ c, acc.lookup x = some c) → ∃ c, (clOf env l acc).lookup x = some c
 | [], acc, x, h => by
  rcases h with h | h
  ·simp at h
  ·exact h
 | (n, k) :: r, acc, x, h => by
  refine clOf_has env r _ x ?_
  rcases h with h | ⟨c, h⟩
  ·rcases List.mem_cons.mp h with e | e
   ·injection e with e1 e2
    subst e1 e2
    right
    exact ⟨(env.cells.lookup x).getD 0, by rw [if_pos (by rfl), List.lookup_cons]; simp⟩
   ·exact .inl e
  ·right
   by_cases hk : (k == NameKind.free) = true
   ·rw [if_pos hk, List.lookup_cons]
    by_cases hx : (x == n) = true
    ·rw [hx]; exact ⟨_, rfl⟩
    ·have hx' : (x == n) = false := by simpa using hx
     rw [hx']; exact ⟨c, h⟩
   ·rw [if_neg hk]; exact ⟨c, h⟩
theorem lookup_relabel {scope : Scope} {env : Env} {x : Str} {k : NameKind} : ∀ {names : List (Str × NameKind)}, (names.map fun (n, k) => if (k == NameKind.free && env.scope.kind == .function && env.kindOf n == some .cell) then (n, NameKind.cell) else (n, k)).lookup x = some k →
  names.lookup x = some k ∨ (k = .cell ∧ names.lookup x = some .free)
 | [], h => by simp at h
 | (n, j) :: r, h => by
  have ih := @lookup_relabel scope env x k r
  rw [List.map_cons, List.lookup_cons] at h
  rw [List.lookup_cons]
  by_cases hc : (j == NameKind.free && env.scope.kind == .function && env.kindOf n == some .cell) = true
  ·simp only [hc, if_true] at h
   cases hx : x == n with
   | true =>
    rw [hx] at h
    have ej : j = .free := by
     simp only [Bool.and_eq_true] at hc
     simpa using hc.1.1
    exact .inr ⟨(Option.some.inj h).symm, by rw [ej]⟩
   | false => rw [hx] at h; exact ih h
  ·simp only [if_neg hc] at h
   cases hx : x == n with
   | true => rw [hx] at h; exact .inl h
   | false => rw [hx] at h; exact ih h
theorem relabel_free {scope : Scope} {env : Env} {x : Str} : ∀ {names : List (Str × NameKind)}, names.lookup x = some .free → ∃ k, (k = NameKind.cell ∨ k = .free) ∧
  (names.map fun (n, k) => if (k == NameKind.free && env.scope.kind == .function && env.kindOf n == some .cell) then (n, NameKind.cell) else (n, k)).lookup x = some k
 | [], h => by simp at h
 | (n, j) :: r, h => by
  have ih := @relabel_free scope env x r
  rw [List.lookup_cons] at h
  rw [List.map_cons, List.lookup_cons]
  by_cases hc : (j == NameKind.free && env.scope.kind == .function && env.kindOf n == some .cell) = true
  ·simp only [hc, if_true]
   cases hx : x == n with
   | true => exact ⟨.cell, .inl rfl, rfl⟩
   | false => rw [hx] at h; exact ih h
  ·simp only [if_neg hc]
   cases hx : x == n with
   | true => rw [hx] at h; exact ⟨.free, .inr rfl, h⟩
   | false => rw [hx] at h; exact ih h
noncomputable def capt (caps : List (Option Nat)) (σ : St) : St := caps.map fun o => o.bind fun i => (σ[i]?).getD none
noncomputable def capOk (XN : List Str) (env : Env) (scope : Scope) (N : List Str) (caps : List (Option Nat)) : Bool :=
 caps.length == N.length && (caps.zip N).all fun p => match p.1 with
  | none => scope.names.lookup p.2 == some .local
  | some i => XN[i]? == some p.2 && scope.names.lookup p.2 == some .free && (env.scope.names.lookup p.2 == some .cell || env.scope.names.lookup p.2 == some .free)
noncomputable def blk (X : Cx) (scope : Scope) (N : List Str) (s₀ : Shared) (H₀ : Hp) (C : Addr) (fp : List Addr) : Cx where
 prog := X.prog
 w := X.w
 K := X.K
 mg := X.mg
 base := X.base
 A := X.A
 N := N
 s₀ := s₀
 H₀ := H₀
 env := compEnvC scope (clOf X.env scope.names []) C X.env
 outer := X.stack
 stack := X.stack
 ex := fp
 fn := fun _ => false
 calm := X.calm
 pn := []
 xe := fun _ _ => False
structure BlkScope (scope : Scope) (N : List Str) : Prop where
 kind : scope.kind = .function
 nd : N.Nodup
 nocell : ∀ y ∈ scope.names, y.2 ≠ .cell
 names : ∀ y ∈ scope.names, scope.names.lookup y.1 = some y.2
section
variable {X : Cx} {pins : List (Addr × Obj)} {σ : List (Option V)} {H : Hp} {s : Shared}
theorem capOk_at {XN : List Str} {env : Env} {scope : Scope} {N : List Str} {caps : List (Option Nat)} (h : capOk XN env scope N caps = true) :
  caps.length = N.length ∧ ∀ (j i : Nat) (x : Str), caps[j]? = some (some i) → N[j]? = some x → XN[i]? = some x ∧ scope.names.lookup x = some .free ∧ (env.kindOf x = some .cell ∨ env.kindOf x = some .free) := by
 unfold capOk at h
 rw [Bool.and_eq_true] at h
 obtain ⟨h1, h2⟩ := h
 refine ⟨by simpa using h1, fun j i x e1 e2 => ?_⟩
 have hm : (some i, x) ∈ caps.zip N := by
  refine List.mem_of_getElem? (i := j) ?_
  rw [List.getElem?_zip_eq_some]
  exact ⟨e1, e2⟩
 have q := List.all_eq_true.mp h2 _ hm
 simp only [Bool.and_eq_true, Bool.or_eq_true, beq_iff_eq] at q
 exact ⟨q.1.1, q.1.2, q.2⟩
theorem Inv.block {scope : Scope} {N : List Str} {caps : List (Option Nat)} {C : Addr} {fp : List Addr} {s1 : Shared} {h1 : Heap} {tk : Nat} {m : Str → Option Value} (S : BlkScope scope N) (hcap : capOk X.N X.env scope N caps = true)
  (hfree : ∀ n, (n, NameKind.free) ∈ scope.names → ∃ c, X.env.cells.lookup n = some c)
  (I : Inv X pins σ H s) (hf : ∀ b ∈ fp, FpOk X pins H b) (hfl : ∀ b ∈ fp, b < s.heap.objs.size) (hC : s.heap.objs.size ≤ C) (hk : ∀ b o, s.heap.get? b = some o → h1.get? b = some o) (hn : h1.Ns C m) :
  Inv (blk X scope N s H C fp) [] (capt caps σ) H { s with heap := h1, toks := tk } := by
 obtain ⟨hlen, hat⟩ := capOk_at hcap
 have clsub : ∀ x c, (clOf X.env scope.names []).lookup x = some c → X.env.cells.lookup x = some c := fun x c e => by
  rcases clOf_mem X.env scope.names [] x c e with z | ⟨z1, z2⟩
  ·simp at z
  ·obtain ⟨c', hc'⟩ := hfree x z1
   rw [hc', z2, hc']; rfl
 have clt : ∀ x c, X.env.cells.lookup x = some c → c < s.heap.objs.size := fun x c e => by
  obtain ⟨v, o, ho, _⟩ := I.cell x c e
  exact Heap.lt_size ho
 have relk : ∀ x, ((compEnvC scope (clOf X.env scope.names []) C X.env).kindOf x = some .cell ∨ (compEnvC scope (clOf X.env scope.names []) C X.env).kindOf x = some .free) → (x, NameKind.free) ∈ scope.names := fun x hx => by
  have sub : ∀ k, (compEnvC scope (clOf X.env scope.names []) C X.env).kindOf x = some k → scope.names.lookup x = some k ∨ (k = .cell ∧ scope.names.lookup x = some .free) := fun k e => lookup_relabel (scope := scope) (env := X.env) e
  rcases hx with e | e
  ·rcases sub _ e with z | ⟨_, z⟩
   ·exact absurd rfl (S.nocell _ (PySem.mem_of_lookup z))
   ·exact PySem.mem_of_lookup z
  ·rcases sub _ e with z | ⟨z, _⟩
   ·exact PySem.mem_of_lookup z
   ·cases z
 refine ⟨⟨I.ok.mod, S.kind, I.ok.glob, I.ok.blt, hC, fun x y c e1 e2 => I.ok.inj x y c (clsub x c e1) (clsub y c e2), fun x hx => ?_, fun x c z _ => absurd (show false = true from z) Bool.false_ne_true, I.ok.hd, I.ok.frames, .inl rfl, fun b hb => ?_, I.bs, Nat.le_trans I.ok.bsz I.sz, fun b o e hb => ?_, fun b hb hb2 => ?_, I.stack, I.stkFree⟩,
  rfl, I.bare, Un.kept hk, ⟨m, hn, fun j x v e1 e2 e3 => ?_⟩, fun x c e => ?_, I.hok.fresh hC, fun x c e => I.freeC x c (clsub x c e), fun p hp => absurd (show p ∈ ([] : List (Addr × Obj)) from hp) (by simp), I.hok.kept hk, ?_⟩
 ·exact clOf_has X.env scope.names [] x (.inl (relk x hx))
 ·exact ⟨Nat.ne_of_lt (Nat.lt_of_lt_of_le (hfl b hb) hC), fun x c e => (hf b hb).2.2.2.2.1 x c (clsub x c e)⟩
 ·rcases (hf b hb).2.2.2.1 with z | z
  ·exact I.ok.noex b o e z
  ·exact absurd (Nat.lt_of_lt_of_le (Heap.lt_size e) (Nat.le_trans I.ok.bsz z)) (Nat.lt_irrefl _)
 ·rcases List.mem_cons.mp (I.stkSub b hb2) with z | z
  ·exact (hf b hb).2.1 z
  ·exact (hf b hb).2.2.1 z
 ·have e2' : (capt caps σ)[j]? = some (some v) := e2
  unfold capt at e2'
  rw [List.getElem?_map] at e2'
  cases hc : caps[j]? with
  | none => rw [hc] at e2'; cases e2'
  | some o =>
   rw [hc] at e2'
   cases o with
   | none => cases e2'
   | some i =>
    have e4 : (σ[i]?).getD none = some v := Option.some.inj e2'
    have e5 : σ[i]? = some (some v) := by
     cases q : σ[i]? with
     | none => rw [q] at e4; cases e4
     | some y => rw [q] at e4; exact congrArg some e4
    obtain ⟨a1, a2, a3⟩ := hat j i x hc e1
    obtain ⟨mX, hnX, hl⟩ := I.loc
    obtain ⟨u, r, l⟩ := hl i x v a1 e5 (a3.elim (fun z => .inr (.inl z)) fun z => .inr (.inr z))
    refine ⟨u, r, .inr ?_⟩
    obtain ⟨c, hcx, cell⟩ : ∃ c, X.env.cells.lookup x = some c ∧ s.heap.IsCell c (some u) := by
     rcases l with ⟨k, _⟩ | ⟨_, z⟩
     ·rw [k] at a3; rcases a3 with z | z <;> cases z
     ·exact z
    obtain ⟨k, hk2, hk3⟩ := relabel_free (scope := scope) (env := X.env) a2
    obtain ⟨c', hc'⟩ := clOf_has X.env scope.names [] x (.inl (PySem.mem_of_lookup a2))
    have hcc : c' = c := Option.some.inj ((clsub x c' hc').symm.trans hcx)
    subst hcc
    refine ⟨?_, c', hc', ?_⟩
    ·rcases hk2 with z | z
     ·subst z; exact .inl hk3
     ·subst z; exact .inr hk3
    ·obtain ⟨o, ho, hd⟩ := cell
     exact ⟨o, hk _ _ ho, hd⟩
 ·obtain ⟨v, o, ho, hd⟩ := I.cell x c (clsub x c e)
  exact ⟨v, o, hk _ _ ho, hd⟩
 ·show (capt caps σ).length = N.length
  unfold capt; rw [List.length_map]; exact hlen
end
end L2
namespace L2
open PySem PySem.Spec PyProof.Rows
theorem codeAny_compLoop_own {prog : Program} {w : World} {A : Around} {R : Result → Shared → Prop} {s : Shared} {elt target iter : Expr} {ifs : List Expr} {scope : Scope} {pos : Pos} {it acc : Value} {env : Env} (I : Nat → Shared → Prop)
  (turn : ∀ n s, I n s → wpAny (model prog w) A (pyNext it) (fun r s₁ => match r with
   | none => R (.ok .next) s₁
   | some v => wpAny (model prog w) A (letOwnedTupleGo target it v) (fun _ s₁' => wpAny (model prog w) A (assign target env v) (fun _ s₂ =>
     wpAny (model prog w) A (forIn ifs true fun c r => if r = true then do let ok ← isTrue c env (eval c env); pure (ForInStep.yield ok) else pure (ForInStep.yield r)) (fun ok s₃ =>
      if ok = true then wpAny (model prog w) A (eval elt env) (fun x s₄ =>
       wpAny (model prog w) A (call (.builtin "list.append") [acc, x]) (fun _ s₅ => ∃ m, m < n ∧ I m s₅) (fun _ _ => False) s₄) (fun _ _ => False) s₃
      else ∃ m, m < n ∧ I m s₃) (fun _ _ => False) s₂) (fun _ _ => False) s₁') (fun _ _ => False) s₁) (fun _ _ => False) s)
  (n : Nat) (h : I n s) :
  codeAny (model prog w) A (.compLoop (.ListComp elt [⟨target, iter, ifs, 0⟩] scope pos) 0 it acc env) R s := by
 refine codeAny_loop rfl I (fun n s hI => ?_) n h
 show wpAny _ A ((compTurn (.ListComp elt [⟨target, iter, ifs, 0⟩] scope pos) 0 it acc env).onRaise (fun x => do noteFrame x env; theTreesLotGoes x)) _ _ s
 refine wpAny_noted ?_
 rw [compTurn_list]
 refine wpAny_noRaise ?_
 refine wpAny_bind (wpAny_standAt (wpAny_bind (wpAny_mono (turn n s hI) (fun r s₁ h₁ => ?_) fun _ _ h' => h')))
 cases r with
 | none => exact wpAny_pure h₁
 | some v =>
  refine wpAny_bind (wpAny_mono h₁ (fun _ s₁' h₁' => ?_) fun _ _ h' => h')
  refine wpAny_bind (wpAny_mono h₁' (fun _ s₂ h₂ => wpAny_bind (wpAny_mono h₂ (fun ok s₃ h₃ => ?_) fun _ _ h' => h')) fun _ _ h' => h')
  cases ok with
  | false => exact wpAny_pure ⟨rfl, h₃⟩
  | true =>
   exact wpAny_bind (wpAny_bind (wpAny_mono h₃ (fun x s₄ h₄ => wpAny_bind (wpAny_mono h₄ (fun _ s₅ h₅ => wpAny_pure (wpAny_pure ⟨rfl, h₅⟩)) fun _ _ h' => h')) fun _ _ h' => h'))
noncomputable def PTs (X : Cx) (ifs : List Expr) (t : TT) : Prop :=
 ∀ (pins : List (Addr × Obj)) (s : Shared) (σ : St) (H : Hp) (Q : Bool → Hp → Prop), Inv X pins σ H s → t σ H Q →
  wpAny (model X.prog X.w) X.A (forIn ifs true fun c r => if r = true then do let ok ← isTrue c X.env (eval c X.env); pure (ForInStep.yield ok) else pure (ForInStep.yield r)) (TP X pins σ Q) X.xe s
noncomputable def tYes : TT := fun _ H Q => Q true H
theorem pts_nil {X : Cx} : PTs X [] tYes := fun _ _ _ H _ I h => wpAny_tests_nil ⟨H, I, h⟩
noncomputable def tLoop (J : It) (g : TG) (tt : TT) (te : TE) (τ0 : St) (H : Hp) (Qd : List V → Hp → Prop) : Prop :=
 ∃ W : Nat → Nat → List V → St → Hp → Prop, (∃ m, W 0 m [] τ0 H) ∧ ∀ i m xs τ H, W i m xs τ H →
  (J.stop i H ∧ Qd xs H) ∨ (J.go i H ∧ ∃ M : List V → St → Hp → Prop, (∀ ys τ' H', M ys τ' H' → ∃ m', m' < m ∧ W (i + 1) m' ys τ' H') ∧ ∀ x H', J.yld i H x H' → g x τ H' fun τ2 H2 => tt τ2 H2 fun b H3 =>
   if b = true then te τ2 H3 fun v H4 => xs.length < sizeLine ∧ M (xs ++ [v]) τ2 H4 else M xs τ2 H3)
section
variable {X : Cx} {pins : List (Addr × Obj)} {σ : List (Option V)} {s : Shared}
noncomputable abbrev lobj (its : List Value) (k : Nat) : Obj := { cls := .type "list", data := .seq its.toArray k }
theorem comp_run {elt tg iter : Expr} {ifs : List Expr} {scope : Scope} {N : List Str} {caps : List (Option Nat)} {pos : Pos} {g : TG} {tt : TT} {te : TE} {J : It} {fp : List Addr} {it : Addr} {tn : Nat → Heap → Prop} {H2 : Hp} {s2 : Shared} {Qd : List V → Hp → Prop}
  {E : Value → Shared → Prop} {RR : Value → Addr → Result → Shared → Prop}
  (S : BlkScope scope N) (hcap : capOk X.N X.env scope N caps = true) (hfree : ∀ n, (n, NameKind.free) ∈ scope.names → ∃ c, X.env.cells.lookup n = some c) (hc : X.calm = true)
  (hg : ∀ s₀ H₀ C fp, PG (blk X scope N s₀ H₀ C fp) tg g) (ht : ∀ s₀ H₀ C fp, PTs (blk X scope N s₀ H₀ C fp) ifs tt) (he : ∀ s₀ H₀ C fp, PE (blk X scope N s₀ H₀ C fp) elt te)
  (I2 : Inv X pins σ H2 s2) (T : Turn X.prog X.w X.K tg J fp it tn) (st2 : tn 0 s2.heap) (f2 : ∀ b ∈ fp, FpOk X pins H2 b) (h : tLoop J g tt te (capt caps σ) H2 Qd)
  (hRR : ∀ (D C : Addr) m xs H3 (s4 : Shared), Inv X pins σ (upd H3 D (.lst xs)) s4 → H3 D = none → s4.heap.Ns C m → FpOk X pins (upd H3 D (.lst xs)) C → Qd xs H3 → RR (.ref D) C (.ok .next) s4) :
  wpAny (model X.prog X.w) X.A (newList []) (fun acc s₃ => wpAny (model X.prog X.w) X.A (newFunctionEnv scope X.env.globals (clOf X.env scope.names []) [] X.env.qual none .none (some X.env)) (fun cenv s₄ =>
   codeAny (model X.prog X.w) X.A (.compStart (.ListComp elt [⟨tg, iter, ifs, 0⟩] scope pos) 0 (.ref it) acc { cenv with scope := relabel scope X.env }) (RR acc cenv.locals) s₄) E s₃) E s2 := by
 have hfl : ∀ b ∈ fp, b < s2.heap.objs.size := fun b hb => by
  obtain ⟨o, e, _⟩ := T.obj 0 s2.heap st2 b hb
  exact Heap.lt_size e
 refine wpAny_newObj_type (wpAny_newFunctionEnv S.nocell (by intro y hy; simp at hy) (fun h₁ hns hsb => ?_) S.kind)
 dsimp only at hns hsb ⊢
 generalize hHD : s2.heap.push { cls := .type "list", dict := none, data := .seq ([] : List Value).toArray } = HD at hns hsb ⊢
 have hC : HD.objs.size = s2.heap.objs.size + 1 := by rw [← hHD, Heap.size_push]
 have hDC : s2.heap.objs.size ≠ HD.objs.size := by rw [hC]; exact Nat.ne_of_lt (Nat.lt_succ_self _)
 have hCle : s2.heap.objs.size ≤ HD.objs.size := by rw [hC]; exact Nat.le_succ _
 have old : ∀ b o, s2.heap.get? b = some o → h₁.get? b = some o := fun b o e =>
  hsb.extBut b o (by rw [hC]; exact Nat.ne_of_lt (Nat.lt_succ_of_lt (Heap.lt_size e))) (Heap.get?_push_of_some _ (hHD ▸ Heap.get?_push_of_some _ e))
 have hacc : h₁.get? s2.heap.objs.size = some (lobj [] 0) := hsb.extBut _ _ hDC (Heap.get?_push_of_some _ (hHD ▸ Heap.get?_push_size _ rfl))
 obtain ⟨W, ⟨m0, w0⟩, turn⟩ := h
 have IY0 := Inv.block (caps := caps) (C := HD.objs.size) (fp := fp) (s1 := s2) (h1 := h₁) (tk := s2.toks + ([] : List (Str × Value)).length) S hcap hfree I2 f2 hfl hCle old hns
 have freshD : H2 s2.heap.objs.size = none := I2.hok.fresh (Nat.le_refl _)
 have pinOf : ∀ {τ : St} {H' : Hp} {s' : Shared} {its : List Value} {k : Nat}, Inv (blk X scope N s2 H2 HD.objs.size fp) [] τ H' s' → H' s2.heap.objs.size = none → s'.heap.get? s2.heap.objs.size = some (lobj its k) →
   Inv (blk X scope N s2 H2 HD.objs.size fp) [(s2.heap.objs.size, lobj its k)] τ H' s' := fun {τ H' s' its k} I hn e => I.pins_of fun p hp => by
  have ep : p = (s2.heap.objs.size, lobj its k) := by simpa using hp
  subst ep
  exact ⟨e, hn, hDC, fun z => by
   rcases List.mem_cons.mp (I2.stkSub _ z) with q | q
   ·exact absurd (q ▸ I2.lt) (Nat.lt_irrefl _)
   ·exact I2.nofs (Nat.le_refl _) q, fun v z => by cases z⟩
 have fY : ∀ {H' : Hp} {its : List Value} {k : Nat}, (∀ b ∈ fp, H' b = none) → ∀ b ∈ fp, FpOk (blk X scope N s2 H2 HD.objs.size fp) [(s2.heap.objs.size, lobj its k)] H' b := fun {H' its k} hn b hb => by
  have z := f2 b hb
  refine ⟨hn b hb, Nat.ne_of_lt (Nat.lt_of_lt_of_le (hfl b hb) hCle), fun q => ?_, .inl hb, fun x c e => IY0.ok.exf b hb |>.2 x c e, fun p hp => ?_⟩
  ·rcases List.mem_cons.mp (I2.stkSub b q) with q | q
   ·exact z.2.1 q
   ·exact z.2.2.1 q
  ·have ep : p = (s2.heap.objs.size, lobj its k) := by
    have : p ∈ [] ++ [(s2.heap.objs.size, lobj its k)] := hp
    simpa using this
   subst ep
   exact Nat.ne_of_gt (hfl b hb)
 have fin : ∀ {τ : St} {H3 : Hp} {s4 : Shared} {xs : List V} {its : List Value} {k : Nat}, Inv (blk X scope N s2 H2 HD.objs.size fp) [(s2.heap.objs.size, lobj its k)] τ H3 s4 → Vals xs its → xs.length ≤ sizeLine → Qd xs H3 →
   RR (.ref s2.heap.objs.size) HD.objs.size (.ok .next) s4 := fun {τ H3 s4 xs its k} I r hz q => by
  have hD := I.pin (s2.heap.objs.size, lobj its k) (by show _ ∈ [] ++ [_]; simp)
  have IX : Inv X pins σ H3 s4 := I2.call' (s' := s4) (ch := fp) I.os I.base I.hok I.bare fun b hb => ⟨(f2 b hb).2.2.2.1, (f2 b hb).2.1, (f2 b hb).2.2.2.2.1, (f2 b hb).2.2.2.2.2⟩
  have fD : FpOk X pins H3 s2.heap.objs.size := I2.fpOk (Nat.le_refl _) hD.2.1
  have fC : FpOk X pins H3 HD.objs.size := I2.fpOk hCle I.free
  have IT : Inv X pins σ (upd H3 s2.heap.objs.size (.lst xs)) s4 := IX.track hD.2.1 I2.sz fD.2.1 (fun x c e => fD.2.2.2.2.1 x c e) (fun p hp => fD.2.2.2.2.2 p hp) ⟨hz, its, k, r, hD.1⟩
  obtain ⟨m, hn, _⟩ := I.loc
  exact hRR _ _ m xs H3 s4 IT hD.2.1 hn ⟨by rw [upd_ne (Ne.symm hDC)]; exact fC.1, fC.2⟩ q
 have loop : ∀ s₃ : Shared, s₃ = { s2 with heap := h₁, toks := s2.toks + ([] : List (Str × Value)).length } →
   codeAny (model X.prog X.w) X.A (.compLoop (.ListComp elt [⟨tg, iter, ifs, 0⟩] scope pos) 0 (.ref it) (.ref s2.heap.objs.size) (compEnvC scope (clOf X.env scope.names []) HD.objs.size X.env)) (RR (.ref s2.heap.objs.size) HD.objs.size) s₃ := by
  rintro s₃ rfl
  refine codeAny_compLoop_own (fun n s' => ∃ i xs its k τ H', Inv (blk X scope N s2 H2 HD.objs.size fp) [(s2.heap.objs.size, lobj its k)] τ H' s' ∧ tn i s'.heap ∧ (∀ b ∈ fp, H' b = none) ∧ Vals xs its ∧ xs.length ≤ sizeLine ∧ W i n xs τ H') ?_ m0
   ⟨0, [], [], 0, _, _, pinOf IY0 freshD hacc, T.keep 0 _ _ st2 fun b _ o e => old b o e, fun b hb => (f2 b hb).1, .nil, Nat.zero_le _, w0⟩
  rintro n s3 ⟨i, xs, its, k, τ, H3, I3, st3, fr3, r3, z3, w3⟩
  rcases turn i n xs τ H3 w3 with ⟨stop, qn⟩ | ⟨go, M, hM, step⟩
  ·refine wpAny_mono (T.done (blk X scope N s2 H2 HD.objs.size fp) rfl rfl rfl hc i _ s3 τ H3 (fun _ _ => False) I3 (fY fr3) st3 stop) (fun r s4 ⟨hr, I4⟩ => ?_) fun _ _ z => z
   subst hr
   exact fin I4 r3 z3 qn
  ·refine wpAny_mono (T.item (blk X scope N s2 H2 HD.objs.size fp) rfl rfl rfl hc i _ s3 τ H3 (fun _ _ => False) I3 (fY fr3) st3 go) (fun r s4 ⟨u, hr, h4⟩ => ?_) fun _ _ z => z
   subst hr
   refine wpAny_mono h4 (fun _ s5 ⟨x, H5, I5, r5, y5, st5, fr5⟩ => ?_) fun _ _ z => z
   have I5' := I5.pinned (fY fr5) (T.obj _ _ st5)
   have keepT : ∀ {τ7 : St} {H7 : Hp} {s7 : Shared}, Inv (blk X scope N s2 H2 HD.objs.size fp) ([(s2.heap.objs.size, lobj its k)] ++ pinsAt fp s5.heap) τ7 H7 s7 → tn (i + 1) s7.heap ∧ ∀ b ∈ fp, H7 b = none := fun {τ7 H7 s7} I7 => by
    refine ⟨T.keep _ _ _ st5 fun b hb o e => (I7.pin (b, o) (List.mem_append_right _ (List.mem_append_right _ (mem_pinsAt hb e)))).1, fun b hb => ?_⟩
    obtain ⟨o, e, d⟩ := T.obj _ _ st5 b hb
    exact (I7.pin (b, o) (List.mem_append_right _ (List.mem_append_right _ (mem_pinsAt hb e)))).2.1
   refine wpAny_mono (hg _ _ _ _ _ s5 τ H5 x u _ I5' r5 (step x H5 y5)) (fun _ s6 ⟨τ6, H6, I6, q6⟩ => ?_) fun _ _ z => z
   refine wpAny_mono (ht _ _ _ _ _ s6 τ6 H6 _ I6 q6) (fun ok s7 ⟨H7, I7, q7⟩ => ?_) fun _ _ z => z
   cases ok with
   | false =>
    rw [if_neg Bool.false_ne_true] at q7 ⊢
    obtain ⟨m', hm, w7⟩ := hM _ _ _ q7
    obtain ⟨a1, a2⟩ := keepT I7
    exact ⟨m', hm, i + 1, xs, its, k, τ6, H7, I7.unpinned, a1, a2, r3, z3, w7⟩
   | true =>
    rw [if_pos rfl] at q7 ⊢
    refine wpAny_mono (he _ _ _ _ _ s7 τ6 H7 _ I7 q7) (fun v s8 ⟨y, H8, I8, r8, q8⟩ => ?_) fun _ _ z => z
    obtain ⟨hz, q8⟩ := q8
    obtain ⟨m', hm, w8⟩ := hM _ _ _ q8
    obtain ⟨a1, a2⟩ := keepT I8
    have hD := I8.pin (s2.heap.objs.size, lobj its k) (List.mem_append_right _ (List.mem_append_left _ (by simp)))
    have hlen := r3.length
    refine wpAny_list_append_plain (items := its.toArray) ⟨k, hD.1⟩ (fun h' hp hs => ?_) (by rw [List.size_toArray]; omega)
    obtain ⟨k', hp⟩ := hp
    have I9 : Inv (blk X scope N s2 H2 HD.objs.size fp) [] τ6 H8 { s8 with heap := h' } :=
     (I8.pins_of (pins' := []) (by simp)).turned (t' := s8.toks) (it := s2.heap.objs.size) (fun b o hb e => (hs.2 b hb).trans e) hD.2.1 hD.2.2.1 (.inr (Nat.le_refl _))
      (fun x c e z => by
       have q := IY0.cell x c e
       obtain ⟨v, o, ho, hd⟩ := I8.cell x c e
       have e1 : s8.heap.get? s2.heap.objs.size = some (lobj its k) := hD.1
       rw [z, e1] at ho
       cases ho
       cases hd) (by intro p hp; exact absurd (show p ∈ ([] : List (Addr × Obj)) ++ [] from hp) (by simp))
    have hp' : ({ s8 with heap := h' } : Shared).heap.get? s2.heap.objs.size = some (lobj (its ++ [v]) k') := by
     show h'.get? _ = _
     rw [hp]; simp
    have hkt : tn (i + 1) h' := T.keep _ _ _ a1 fun b hb o e => (hs.2 b (Nat.ne_of_lt (hfl b hb))).trans e
    refine ⟨m', hm, i + 1, xs ++ [y], its ++ [v], k', τ6, H8, pinOf I9 hD.2.1 hp', hkt, a2, r3.append (.cons r8 .nil), ?_, w8⟩
    rw [List.length_append]
    exact hz
 exact codeAny_compStart_list (loop _ rfl) (T.self X.A 0 _ _ _ (T.keep 0 _ _ st2 fun b _ o e => old b o e) (loop _ rfl))
noncomputable def freeOk (env : Env) (scope : Scope) : Bool := scope.names.all fun p => p.2 != .free || env.scope.names.lookup p.1 == some .cell || env.scope.names.lookup p.1 == some .free
theorem Inv.freeOk {H : Hp} {scope : Scope} (I : Inv X pins σ H s) (h : freeOk X.env scope = true) : ∀ n, (n, NameKind.free) ∈ scope.names → ∃ c, X.env.cells.lookup n = some c := fun n hn => by
 have q := List.all_eq_true.mp h _ hn
 simp only [Bool.or_eq_true, beq_iff_eq, bne_iff_ne] at q
 refine I.ok.has n ?_
 rcases q with (q | q) | q
 ·exact absurd rfl q
 ·exact .inl q
 ·exact .inr q
noncomputable def tComp (caps : List (Option Nat)) (wi : TI) (g : TG) (tt : TT) (te : TE) : TE := fun σ H Q => wi σ H fun J H1 => tLoop J g tt te (capt caps σ) H1 fun xs H3 => ∀ p, H3 p = none → Q (.ref p) (upd H3 p (.lst xs))
theorem pe_comp {elt tg iter : Expr} {ifs : List Expr} {scope : Scope} {N : List Str} {caps : List (Option Nat)} {pos : Pos} {wi : TI} {g : TG} {tt : TT} {te : TE}
  (S : BlkScope scope N) (hcap : capOk X.N X.env scope N caps = true) (hfr : L2.freeOk X.env scope = true) (hc : X.calm = true) (hi : PI X tg iter wi)
  (hg : ∀ s₀ H₀ C fp, PG (blk X scope N s₀ H₀ C fp) tg g) (ht : ∀ s₀ H₀ C fp, PTs (blk X scope N s₀ H₀ C fp) ifs tt) (he : ∀ s₀ H₀ C fp, PE (blk X scope N s₀ H₀ C fp) elt te)
  (hs : ∀ x, foldedSetIterable iter X.env x = pure x := by intro _; rfl) : PE X (.ListComp elt [⟨tg, iter, ifs, 0⟩] scope pos) (tComp caps wi g tt te) := by
 intro pins s σ H Q I h
 rw [eval_ListComp]
 refine wpAny_comprehension_free (use := none) rfl hs (closureFor_eq (I.freeOk hfr)) S.kind (fun x hx hl => hl ▸ S.names x hx) ?_
 refine thn (hi pins s σ H _ I h) fun v s1 h1 => thn h1 fun itv s2 h2 => ?_
 obtain ⟨it, fp, tn, J, H2, rfl, I2, T, st2, f2, hl⟩ := h2
 refine comp_run (RR := fun acc C => compPost (model X.prog X.w) X.A X.xe none (EP X pins σ Q) acc C) S hcap (I.freeOk hfr) hc hg ht he I2 T st2 f2 hl ?_
 intro D C m xs H3 s4 IT hD hn fC q
 refine ⟨m, hn, fun h' sb => ⟨.ref D, _, ?_, rfl, q D hD⟩⟩
 exact IT.turned (t' := s4.toks) (it := C) (fun b o hb e => (sb.2 b hb).trans e) fC.1 fC.2.1 fC.2.2.2.1 fC.2.2.2.2.1 fC.2.2.2.2.2
theorem ps_setComp {elt tg iter : Expr} {ifs : List Expr} {scope : Scope} {N : List Str} {caps : List (Option Nat)} {pos pos' spos : Pos} {wi : TI} {g : TG} {tt : TT} {te : TE} {i : Nat} {x : Str}
  (hN : X.N.Nodup) (hix : X.N[i]? = some x) (hx : X.env.scope.names.lookup x = some .local)
  (S : BlkScope scope N) (hcap : capOk X.N X.env scope N caps = true) (hfr : L2.freeOk X.env scope = true) (hc : X.calm = true) (hi : PI X tg iter wi)
  (hg : ∀ s₀ H₀ C fp, PG (blk X scope N s₀ H₀ C fp) tg g) (ht : ∀ s₀ H₀ C fp, PTs (blk X scope N s₀ H₀ C fp) ifs tt) (he : ∀ s₀ H₀ C fp, PE (blk X scope N s₀ H₀ C fp) elt te)
  (hsw : swapsWith (.ListComp elt [⟨tg, iter, ifs, 0⟩] scope pos) (some (.Name x pos')) spos.line X.env = pure true := by rfl)
  (hs : ∀ x, foldedSetIterable iter X.env x = pure x := by intro _; rfl) : PS X (.Assign [.Name x pos'] (.ListComp elt [⟨tg, iter, ifs, 0⟩] scope pos) spos) (tAsg (tComp caps wi g tt te) (gName i)) := by
 intro pins s σ H D I h
 rw [exec_Assign_Name_used _ _ _ _ hsw]
 refine wpAny_bind (wpAny_standAt (wpAny_bind ?_))
 show wpAny _ X.A (do let _ ← comprehension (.ListComp elt [⟨tg, iter, ifs, 0⟩] scope pos) scope X.env _ (newList []) false (eval iter X.env) (some (assign (.Name x pos') X.env))) _ _ s
 refine wpAny_bind (wpAny_mono (wpAny_comprehension_free (use := some (assign (.Name x pos') X.env)) (Q := fun _ s' => SP X pins D .next s') rfl hs (closureFor_eq (I.freeOk hfr)) S.kind (fun x hx hl => hl ▸ S.names x hx)
  (thn (hi pins s σ H _ I h) fun v s1 h1 => thn h1 fun itv s2 h2 => ?_)) (fun _ s' hq => wpAny_pure (wpAny_pure hq)) fun _ _ e => e)
 obtain ⟨it, fp, tn, J, H2, rfl, I2, T, st2, f2, hl⟩ := h2
 refine comp_run (RR := fun acc C => compPost (model X.prog X.w) X.A X.xe (some (assign (.Name x pos') X.env)) (fun _ s' => SP X pins D .next s') acc C) S hcap (I.freeOk hfr) hc hg ht he I2 T st2 f2 hl ?_
 intro Dl C m xs H3 s4 IT hD hn fC q
 show wpAny _ X.A (assign (.Name x pos') X.env (.ref Dl)) _ _ _
 obtain ⟨oC, es, ep, hoC, hdC, rC⟩ := id hn
 have IP : Inv X (pins ++ [(C, oC)]) σ (upd H3 Dl (.lst xs)) s4 := IT.pins_of fun p hp => (List.mem_append.mp hp).elim (fun z => IT.pin p (List.mem_append_right _ z)) fun z => by
  have e : p = (C, oC) := by simpa using z
  subst e
  exact ⟨hoC, fC.1, fC.2.1, fC.2.2.1, fun v z => by rw [hdC] at z; cases z⟩
 refine wpAny_assign_Name (store_ok (v := .ref Dl) IP hN hix (.inl hx) rfl (fun s5 I5 => ?_) (.inr hx))
 have hC5 := I5.pin (C, oC) (List.mem_append_right _ (List.mem_append_right _ (by simp)))
 refine ⟨m, ⟨oC, es, ep, hC5.1, hdC, rC⟩, fun h' sb => ⟨_, _, ?_, q Dl hD⟩⟩
 exact I5.unpinned.turned (t' := s5.toks) (it := C) (fun b o hb e => (sb.2 b hb).trans e) fC.1 fC.2.1 fC.2.2.2.1 fC.2.2.2.2.1 fC.2.2.2.2.2
end
theorem loop_range {lo : Int} {n : Nat} {g : TG} {tt : TT} {te : TE} {τ0 : St} {H : Hp} {Qd : List V → Hp → Prop} (Pv : Nat → List V → St → Hp → Prop) (h0 : Pv 0 [] τ0 H)
  (hs : ∀ i xs τ H, i < n → Pv i xs τ H → g (.int (lo + i)) τ H fun τ2 H2 => tt τ2 H2 fun b H3 => if b = true then te τ2 H3 fun v H4 => xs.length < sizeLine ∧ Pv (i + 1) (xs ++ [v]) τ2 H4 else Pv (i + 1) xs τ2 H3)
  (hd : ∀ xs τ H, Pv n xs τ H → Qd xs H) : tLoop (Itr lo n) g tt te τ0 H Qd := by
 refine ⟨fun i m xs τ H => m = n - i ∧ i ≤ n ∧ Pv i xs τ H, ⟨n, by simp, Nat.zero_le _, h0⟩, ?_⟩
 rintro i m xs τ H ⟨rfl, hi, p⟩
 by_cases hlt : i < n
 ·refine .inr ⟨hlt, Pv (i + 1), fun ys τ' H' p' => ⟨n - (i + 1), by omega, rfl, hlt, p'⟩, fun x H' y => ?_⟩
  obtain ⟨e, y⟩ := y
  subst e y
  exact hs i xs τ _ hlt p
 ·have e : i = n := by omega
  subst e
  exact .inl ⟨Nat.le_refl _, hd xs τ H p⟩
noncomputable def Its (x : Str) : It := ⟨fun i _ => i < x.cps.size, fun i H v H' => H' = H ∧ ∃ c, x.cps[i]? = some c ∧ v = .str ⟨#[c]⟩, fun i _ => i = x.cps.size⟩
theorem walks_str {prog : Program} {w : World} {A : Around} (hh : A.handled = none) (I : Addr) (x : Str) (t : Tok) : Walks prog w A I [I] [I] x.cps.size (SignAt x) (fun i h => h.IsStrIter I (strIterType x) x t i) := by
 unfold strIterType
 split
 ·exact Walks.strAscii hh I x t
 ·exact Walks.strWide hh I x t
theorem turn_str {P : Program} {w : World} {K : PySem.W.Frag} {tg : Expr} (it : Addr) (x : Str) (t : Tok) : Turn P w K tg (Its x) [it] it (fun i h => h.IsStrIter it (strIterType x) x t i) where
 mem := by simp
 obj := fun i h st b hb => by
  have e : b = it := by simpa using hb
  subst e
  obtain ⟨o, e, c, d⟩ := st
  exact ⟨o, e, fun v z => by rw [d] at z; cases z⟩
 keep := fun i h h' st k => let ⟨o, ho, r⟩ := st; ⟨o, k it (by simp) o ho, r⟩
 item := by
  intro X hP hw hK hc i pins s σ H E I hf st hg
  subst hP hw hK
  obtain ⟨f0, f1, f2, f3, f4, f5⟩ := hf it (by simp)
  have W := walks_str (prog := X.prog) (w := X.w) (I.ok.hd hc) it x t
  refine W.item i s _ _ hg st fun v h' tk hv st' kk => ?_
  obtain ⟨c, u, hcx, rfl⟩ := hv
  have I1 : Inv X pins σ H { s with heap := h', toks := tk } := I.turned (fun b o hb e => kk b o (by simpa using hb) e) f0 f1 f3 f4 f5
  obtain ⟨o, ho, hcl, hda⟩ := id st'
  refine ⟨_, rfl, go_of (s := { s with heap := h', toks := tk }) ho hcl hda (by unfold strIterType; split <;> decide) ⟨.str ⟨#[c]⟩, H, I1, ⟨u, rfl⟩, ⟨rfl, c, hcx, rfl⟩, st', fun b hb => (hf b hb).1⟩⟩
 done := by
  intro X hP hw hK hc i pins s σ H E I hf st hg
  subst hP hw hK
  obtain ⟨f0, f1, f2, f3, f4, f5⟩ := hf it (by simp)
  have W := walks_str (prog := X.prog) (w := X.w) (I.ok.hd hc) it x t
  have e : i = x.cps.size := hg
  subst e
  exact W.done s _ _ st fun h' tk kk => ⟨rfl, I.turned (t' := tk) (fun b o hb e => kk b o (by simpa using hb) e) f0 f1 f3 f4 f5⟩
 self := fun A i s Q E st h => by
  have st : s.heap.IsStrIter it (strIterType x) x t i := st
  unfold strIterType at st
  split at st
  ·exact wpAny_pyIter_striter_ascii st h
  ·exact wpAny_pyIter_striter_wide st h
end L2
namespace L2
open PySem PySem.Spec PyProof.Rows
mutual
noncomputable def DatV (K : PySem.W.Frag) (H : Hp) : PyData → V → Prop
 | .none, v => v = .non
 | .bool b, v => v = .bl b
 | .int i, v => v = .int i
 | .str x, v => v = .str x
 | .list ds, v => ∃ a xs, v = .ref a ∧ SqL K H a xs ∧ DatVs K H ds xs
 | .tuple ds, v => ∃ a xs, v = .ref a ∧ SqT K H a xs ∧ DatVs K H ds xs
 | .dict _, _ => False
noncomputable def DatVs (K : PySem.W.Frag) (H : Hp) : List PyData → List V → Prop
 | [], xs => xs = []
 | d :: ds, xs => ∃ x r, xs = x :: r ∧ DatV K H d x ∧ DatVs K H ds r
end
theorem SqT.same {K : PySem.W.Frag} {H H' : Hp} {a : Addr} {xs : List V} (e : ∀ b o, H b = some o → H' b = some o) (h : SqT K H a xs) : SqT K H' a xs := by
 rcases h with (h | ⟨o, h⟩) | h
 ·exact .inl (.inl (e _ _ h))
 ·exact .inl (.inr ⟨o, e _ _ h⟩)
 ·exact .inr h
mutual
theorem DatV.noDict {K : PySem.W.Frag} {H : Hp} : ∀ (d : PyData) (v : V), DatV K H d v → d.hasDict = false
 | .none, _, _ => rfl
 | .bool _, _, _ => rfl
 | .int _, _, _ => rfl
 | .str _, _, _ => rfl
 | .list ds, v, h => by
  simp only [DatV] at h
  obtain ⟨a, xs, _, _, h3⟩ := h
  simp only [PyData.hasDict]
  exact DatVs.noDict ds xs h3
 | .tuple ds, v, h => by
  simp only [DatV] at h
  obtain ⟨a, xs, _, _, h3⟩ := h
  simp only [PyData.hasDict]
  exact DatVs.noDict ds xs h3
 | .dict _, _, h => by simp only [DatV] at h
theorem DatVs.noDict {K : PySem.W.Frag} {H : Hp} : ∀ (ds : List PyData) (xs : List V), DatVs K H ds xs → PyData.hasDictAll ds = false
 | [], _, _ => rfl
 | d :: ds, xs, h => by
  simp only [DatVs] at h
  obtain ⟨x, r, _, h2, h3⟩ := h
  simp only [PyData.hasDictAll, DatV.noDict d x h2, DatVs.noDict ds r h3, Bool.or_false]
end
section
variable {X : Cx} {pins : List (Addr × Obj)} {σ : St} {H : Hp} {s : Shared}
mutual
theorem Inv.reads (I : Inv X pins σ H s) : ∀ (d : PyData) (v : V) (u : Value), DatV X.K H d v → RelV v u → ∃ as, Reads s.heap u d as
 | .none, v, u, h, r => by
  simp only [DatV] at h
  subst h
  cases r
  exact ⟨_, .none⟩
 | .bool b, v, u, h, r => by
  simp only [DatV] at h
  subst h
  cases r
  exact ⟨_, .bool b⟩
 | .int i, v, u, h, r => by
  simp only [DatV] at h
  subst h
  obtain ⟨t, rfl⟩ := r
  exact ⟨_, .int i t⟩
 | .str x, v, u, h, r => by
  simp only [DatV] at h
  subst h
  obtain ⟨t, rfl⟩ := r
  exact ⟨_, .str x t⟩
 | .list ds, v, u, h, r => by
  simp only [DatV] at h
  obtain ⟨a, xs, rfl, h2, h3⟩ := h
  cases r
  obtain ⟨its, rv, ⟨o, n, e, hc, _, hd⟩, _⟩ := I.list h2
  obtain ⟨as, q⟩ := Inv.readsAll I ds xs its h3 rv
  exact ⟨_, .list e hc hd (by simpa using q)⟩
 | .tuple ds, v, u, h, r => by
  simp only [DatV] at h
  obtain ⟨a, xs, rfl, h2, h3⟩ := h
  cases r
  obtain ⟨its, rv, ⟨o, e, hc, n, hd⟩, _⟩ := I.tuple h2
  obtain ⟨as, q⟩ := Inv.readsAll I ds xs its h3 rv
  exact ⟨_, .tuple e hc hd (by simpa using q)⟩
 | .dict _, _, _, h, _ => by simp only [DatV] at h
theorem Inv.readsAll (I : Inv X pins σ H s) : ∀ (ds : List PyData) (xs : List V) (us : List Value), DatVs X.K H ds xs → Vals xs us → ∃ as, ReadsAll s.heap us ds as
 | [], xs, us, h, r => by
  simp only [DatVs] at h
  subst h
  cases r
  exact ⟨_, .nil⟩
 | d :: ds, xs, us, h, r => by
  simp only [DatVs] at h
  obtain ⟨x, rr, rfl, h2, h3⟩ := h
  cases r with
  | cons r1 r2 =>
   obtain ⟨as, q1⟩ := Inv.reads I d x _ h2 r1
   obtain ⟨bs, q2⟩ := Inv.readsAll I ds rr _ h3 r2
   exact ⟨_, .cons q1 q2⟩
end
noncomputable def rRepr (K : PySem.W.Frag) : List V → Hp → VK → Prop := fun xs H Q => ∃ x d, xs = [x] ∧ DatV K H d x ∧ d.showable = true ∧ d.depth ≤ 100 ∧ d.shown.length ≤ sizeLine ∧ Q (.str d.shown) H
theorem call_repr {k : Nat} (hr : Room k X.A) : CallR X (.builtin "repr") (rRepr X.K) := by
 intro pins s σ H xs us Q I r h
 obtain ⟨x, d, rfl, hd, hs, hdp, hz, q⟩ := h
 obtain ⟨u, rfl, rx⟩ := vals1 r
 have big : ∀ a, u = .ref a → wpAny (model X.prog X.w) X.A (call (.builtin "repr") [u]) (EP X pins σ Q) X.xe s := fun a e => by
  subst e
  obtain ⟨as, rd⟩ := I.reads d x _ hd rx
  refine repr_of_reads' rd hs (fun z => ?_) hr.gd (by have := hr.un; omega) (fun b o e => e) (fun h' u tk hk => ?_) hz
  ·rw [DatV.noDict d x hd] at z; cases z
  ·exact ⟨.str d.shown, H, I.kept (t' := tk) hk, ⟨_, rfl⟩, q⟩
 cases d with
 | none => simp only [DatV] at hd; subst hd; cases rx; exact PySem.P.repr_of_none ⟨.str _, H, I.tok _, ⟨_, rfl⟩, q⟩
 | bool b => simp only [DatV] at hd; subst hd; cases rx; exact PySem.P.repr_of_bool ⟨.str _, H, I.tok _, ⟨_, rfl⟩, by simpa only [PyData.shown] using q⟩
 | int i =>
  simp only [DatV] at hd
  subst hd
  obtain ⟨t, rfl⟩ := rx
  exact PySem.P.repr_of_int (by simpa [PyData.showable] using hs) ⟨.str _, H, I.tok _, ⟨_, rfl⟩, by simpa only [PyData.shown] using q⟩
 | str y =>
  simp only [DatV] at hd
  subst hd
  obtain ⟨t, rfl⟩ := rx
  exact PySem.P.repr_of_str ⟨.str _, H, I.tok _, ⟨_, rfl⟩, by simpa only [PyData.shown] using q⟩ (by simpa only [PyData.shown] using hz)
 | list ds =>
  simp only [DatV] at hd
  obtain ⟨a, xs, rfl, _⟩ := hd
  exact big a rx
 | tuple ds =>
  simp only [DatV] at hd
  obtain ⟨a, xs, rfl, _⟩ := hd
  exact big a rx
 | dict _ => simp only [DatV] at hd
noncomputable def rIsi (K : PySem.W.Frag) : List V → Hp → VK → Prop := fun xs H Q => ∃ x c t u b, xs = [x, c] ∧ RelV c u ∧ (∀ u', RelV c u' → u' = u) ∧ TyOf K H x t ∧ PySem.W.kitOne K t u = some b ∧ Q (.bl b) H
theorem call_isi : CallR X (.builtin "isinstance") (rIsi X.K) := by
 intro pins s σ H xs us Q I r h
 obtain ⟨x, c, t, u, b, rfl, rc, uc, ty, e, q⟩ := h
 obtain ⟨v, w', rfl, rx, rw'⟩ := vals2 r
 cases uc w' rw'
 exact isinst_ok I rx ty e fun tk => ⟨.bl b, H, I.tok tk, rfl, q⟩
theorem relTy {n : String} : RelV (.ty n) (.type n) ∧ ∀ u', RelV (.ty n) u' → u' = .type n := ⟨rfl, fun u' h => h⟩
theorem relRef {a : Addr} : RelV (.ref a) (.ref a) ∧ ∀ u', RelV (.ref a) u' → u' = .ref a := ⟨rfl, fun u' h => h⟩
theorem bls_of : ∀ {bs : List Bool} {its : List Value}, Vals (bs.map V.bl) its → its = bs.map Value.bool
 | [], _, .nil => rfl
 | b :: bs, _, .cons r t => by rw [List.map_cons, bls_of t, show _ = Value.bool b from r]
theorem all_range (bs : List Bool) : (List.range bs.length).all (fun i => bs.getD i true) = bs.all id := by
 induction bs with
 | nil => rfl
 | cons b r ih =>
  rw [List.length_cons, List.range_succ_eq_map, List.all_cons, List.all_map, List.all_cons]
  have e : ((fun i => (b :: r).getD i true) ∘ Nat.succ) = fun i => r.getD i true := by funext i; simp
  rw [e, ih]
  simp
theorem bl_iter {E : Value → Shared → Prop} {A : Around} {Q : Value → Shared → Prop} {l : Addr} {its : Array Value} (hl : s.heap.IsList l its)
  (h : ∀ s₂ : Shared, s₂ = { s with heap := s.heap.push { cls := .type "list_iterator", data := .fields #[.ref l, .int 0 0] } } →
   (s₂.heap.IsListIter s.heap.objs.size l 0 ∧ s₂.heap.IsList l its) → l ≠ s.heap.objs.size → Q (.ref s.heap.objs.size) s₂) :
  wpAny (model X.prog X.w) A (pyIter (.ref l)) Q E s := by
 have hlt : l < s.heap.objs.size := by obtain ⟨_, e, _⟩ := hl; exact Heap.lt_size e
 exact wpAny_pyIter_list hl (h _ rfl ⟨⟨_, Heap.get?_push_size _ rfl, rfl, rfl⟩, hl.push _⟩ (Nat.ne_of_lt hlt))
theorem call_all (hc : X.calm = true) : CallR X (.builtin "all") (fun xs H Q => ∃ (a : Addr) (bs : List Bool), xs = [.ref a] ∧ SqL X.K H a (bs.map V.bl) ∧ Q (.bl (bs.all id)) H) := by
 intro pins s σ H xs us Q I r h
 obtain ⟨a, bs, rfl, ha, q⟩ := h
 obtain ⟨u, rfl, ru⟩ := vals1 r
 cases ru
 obtain ⟨its, rv, pl, hz⟩ := I.list ha
 have eb := bls_of rv
 subst eb
 refine call_all_walk (bl_iter pl.isList fun s₂ e st hne => ?_)
 subst e
 refine ⟨_, _, _, _, _, _, fun i => bs.getD i true, rfl, Walks.list (A := X.A.in1) (I.ok.hd hc) _ a hne _, st, fun i v s Q' E' hP hQ => ?_, fun h' tk hk => ?_⟩
 ·have hP : (bs.map Value.bool).toArray[i]? = some v := hP
  rw [List.getElem?_toArray, List.getElem?_map] at hP
  cases hb : bs[i]? with
  | none => rw [hb] at hP; cases hP
  | some b =>
   rw [hb] at hP
   cases hP
   refine wpAny_truthy_bool ?_
   have : bs.getD i true = b := by rw [List.getD_eq_getElem?_getD, hb]; rfl
   have hQ : Q' (bs.getD i true) s := hQ
   rw [this] at hQ
   exact hQ
 ·refine ⟨.bl (bs.all id), H, I.kept (t' := tk) fun b o e => hk b o (by simp; intro z; exact absurd (z ▸ Heap.lt_size e) (Nat.lt_irrefl _)) (Heap.get?_push_of_some _ e), ?_, q⟩
  rw [← all_range bs]
  show _ = _
  simp
theorem call_minL (hc : X.calm = true) : CallR X (.builtin "min") (fun xs H Q => ∃ (a : Addr) (ns : List Int), xs = [.ref a] ∧ SqL X.K H a (ns.map V.int) ∧ 0 < ns.length ∧ ∀ m, m ∈ ns → (∀ n ∈ ns, m ≤ n) → Q (.int m) H) := by
 intro pins s σ H xs us Q I r h
 obtain ⟨a, ns, rfl, ha, hne, q⟩ := h
 obtain ⟨u, rfl, ru⟩ := vals1 r
 cases ru
 obtain ⟨its, rv, pl, hz⟩ := I.list ha
 obtain ⟨xs, e⟩ := (intsAre_of rv).allInts.items
 have hi := intsAre_of rv
 have hns : ns = xs.toList.map (·.1) := by rw [← hi.numsOf, ← nums_intItems, ← e]
 have hsz : 0 < xs.size := by
  have h3 := hne; rw [hns, List.length_map, Array.length_toList] at h3; exact h3
 have hl := pl.isList
 rw [e] at hl
 refine min_intList (I.ok.hd hc) hl hsz fun v h' tk hv hk => ?_
 obtain ⟨t, rfl⟩ := intItems_at hv
 obtain ⟨h1, h2⟩ := argBest_lt (numAt xs) (xs.size - 1)
 refine ⟨.int _, H, I.kept (t' := tk) hk, ⟨t, rfl⟩, q _ ?_ fun n hn => ?_⟩
 ·rw [hns, numAt_eq]; exact getD_mem (by rw [List.length_map, Array.length_toList]; omega)
 ·rw [hns] at hn
  obtain ⟨j, hj, rfl⟩ := mem_getD hn
  rw [List.length_map, Array.length_toList] at hj
  rw [← numAt_eq]; exact h2 j (by omega)
theorem op_le_str : OpR X (compareOp .LtE) (fun x y H Q => ∃ i j, x = .str i ∧ y = .str j ∧ Q (.bl (!decide (j.cps.toList < i.cps.toList))) H) := by
 intro pins s σ H x y v u Q I rx ry h
 obtain ⟨i, j, rfl, rfl, q⟩ := h
 obtain ⟨t, rfl⟩ := rx
 obtain ⟨t', rfl⟩ := ry
 exact PySem.P.le_str (fin_bl I q rfl)
theorem op_mul_str : OpR X (binaryOp .Mult) (fun x y H Q => ∃ i n, x = .str i ∧ y = .int n ∧ MulOk i n ∧ Q (.str (Txt.mul i n)) H) := by
 intro pins s σ H x y v u Q I rx ry h
 obtain ⟨i, n, rfl, rfl, hk, q⟩ := h
 obtain ⟨t, rfl⟩ := rx
 obtain ⟨t', rfl⟩ := ry
 exact SB.mul hk fun t' k => ⟨.str _, H, I.tok _, ⟨_, rfl⟩, q⟩
theorem sl_str : SlR X (fun x lo hi H Q => ∃ y, x = .str y ∧ y.length ≤ sizeLine ∧ Q (.str (Txt.slice y lo hi)) H) := by
 intro pins s σ H x v vl vu lo hi sl Q I rx hs pl pu h
 obtain ⟨y, rfl, hz, q⟩ := h
 obtain ⟨t, rfl⟩ := rx
 have fin : ∀ (l u : Option (Int × Tok)), vl = partValue l → vu = partValue u → lo = l.map (·.1) → hi = u.map (·.1) → wpAny (model X.prog X.w) X.A (getItem (.str y t) (.ref sl)) (EP X pins σ Q) X.xe s := fun l u e1 e2 e3 e4 => by
  obtain ⟨o, ho, hc, hd⟩ := hs
  refine wpAny_getItem_str_slice (l := l) (u := u) (st := none) ⟨o, ho, hc, by rw [hd, e1, e2]; rfl⟩ rfl ?_
  subst e3 e4
  exact post_val_or_str ⟨Nat.le_trans (Txt.slice_le y _ _) hz, fun t' k => ⟨.str _, H, I.tok _, ⟨_, rfl⟩, q⟩⟩
 refine ⟨"str", _, PySem.F.slot_str_getitem.lookup, typeIs_str _ _ _, ?_⟩
 cases pl with
 | none =>
  cases pu with
  | none => exact fin none none rfl rfl rfl rfl
  | int j tj => exact fin none (some (j, tj)) rfl rfl rfl rfl
 | int i ti =>
  cases pu with
  | none => exact fin (some (i, ti)) none rfl rfl rfl rfl
  | int j tj => exact fin (some (i, ti)) (some (j, tj)) rfl rfl rfl rfl
theorem mt_find : MtR X "str.find" (fun x vs H Q => ∃ y z, x = .str y ∧ vs = [.str z] ∧ Q (.int (Txt.find y z)) H) := by
 intro pins s σ H x vs v us Q I rx rv h
 obtain ⟨y, z, rfl, rfl, q⟩ := h
 obtain ⟨t, rfl⟩ := rx
 obtain ⟨u, rfl, t', rfl⟩ := vals1 rv
 exact SC.find ⟨.int _, H, I.tok _, ⟨_, rfl⟩, q⟩
theorem strs_of : ∀ {ys : List Str} {its : List Value}, Vals (ys.map V.str) its → StrsAre its ys
 | [], _, .nil => .nil
 | y :: ys, _, .cons r t => by
  obtain ⟨tk, e⟩ := (show ∃ t, _ = Value.str y t from r)
  subst e
  exact .cons y tk (strs_of t)
theorem mt_join : MtR X "str.join" (fun x vs H Q => ∃ (y : Str) (a : Addr) (ys : List Str), x = .str y ∧ vs = [.ref a] ∧ SqL X.K H a (ys.map V.str) ∧ (ys.map (·.length)).sum + ys.length * y.length ≤ 16777216 ∧ Q (.str (Txt.join y ys)) H) := by
 intro pins s σ H x vs v us Q I rx rv h
 obtain ⟨y, a, ys, rfl, rfl, ha, hz, q⟩ := h
 obtain ⟨t, rfl⟩ := rx
 obtain ⟨u, rfl, ru⟩ := vals1 rv
 cases ru
 obtain ⟨its, r, pl, _⟩ := I.list ha
 exact join_list pl.isList (by simpa using strs_of r) hz fun t' k => ⟨.str _, H, I.tok _, ⟨_, rfl⟩, q⟩
end
end L2
namespace L2
open PySem PySem.Spec PyProof.Rows
noncomputable def notStar : Expr → Bool
 | .Starred _ _ => false
 | _ => true
theorem star_cons {e : Expr} (es : List Expr) (env : Env) (h : notStar e = true) : starEach (e :: es) env = (false, eval e env) :: starEach es env := by
 cases e <;> first | rfl | cases h
theorem star_back {pos : Pos} {env : Env} : ∀ (es : List Expr), es.all notStar = true → (backTo pos (starEach es env)).any (·.1) = false
 | [], _ => rfl
 | e :: es, h => by
  rw [List.all_cons, Bool.and_eq_true] at h
  rw [star_cons es env h.1]
  show (false || (backTo pos (starEach es env)).any (·.1)) = false
  rw [star_back es h.2]; rfl
theorem star_few {pos : Pos} {env : Env} : ∀ (es : List Expr), es.all notStar = true → (backTo pos (starEach es env)).all (fun x => !x.1) = true
 | [], _ => rfl
 | e :: es, h => by
  rw [List.all_cons, Bool.and_eq_true] at h
  rw [star_cons es env h.1]
  show (true && (backTo pos (starEach es env)).all (fun x => !x.1)) = true
  rw [star_few es h.2]; rfl
section
variable {X : Cx} {e : Expr} {es : List Expr} {te : TE} {t : TA} {x : Str} {p pos : Pos} {id T : String} {r : List V → Hp → VK → Prop}
theorem pac (ha : PE X e te) (hr : PA X es t) (hs : notStar e = true := by rfl) : PA X (e :: es) (tCons te t) := pa_cons ha hr (star_cons es X.env hs)
theorem pcb (hc : CallR X (.builtin id) r) (hg : Gl X x) (hm : X.mg x = none) (hv : bootBuiltins x = some (.builtin id)) (ha : PA X (e :: es) t) (hn : x ≠ "__name__" := by decide +kernel) (hdb : (x == ("__debug__" : Str)) = false := by decide +kernel)
  (hs : (e :: es).all notStar = true := by rfl) : PE X (.Call (.Name x p) (e :: es) [] pos) (tCB r t) := by
 have h2 := hs
 rw [List.all_cons, Bool.and_eq_true] at h2
 exact pe_callB hc hg hm hv ha hn hdb (star_cons es X.env h2.1) (star_back es h2.2)
theorem pct (hc : CallR X (.type T) r) (hg : Gl X x) (hm : X.mg x = none) (hv : bootBuiltins x = some (.type T)) (ha : PA X (e :: es) t) (hn : x ≠ "__name__" := by decide +kernel) (hdb : (x == ("__debug__" : Str)) = false := by decide +kernel)
  (hs : (e :: es).all notStar = true := by rfl) : PE X (.Call (.Name x p) (e :: es) [] pos) (tCB r t) := by
 have h2 := hs
 rw [List.all_cons, Bool.and_eq_true] at h2
 exact pe_callTy hc hg hm hv ha hn hdb (star_cons es X.env h2.1) (star_back es h2.2)
end
structure Src (K : PySem.W.Frag) (mg : Str → Option Value) (x : Str) (ps : List Str) (st : Stmt) : Prop where
 ex : ∃ f fd, Fun K x x st f fd ∧ mg x = some (.ref f) ∧ Binds K fd ps []
structure Def (P : Program) (w : World) (K : PySem.W.Frag) (mg : Str → Option Value) (base : Heap) (k : Nat) (x : Str) (ps : List Str) (sp : Sp) : Prop where
 ex : ∃ f fd, FnOk P w K mg base CX0 k f fd ps sp ∧ mg x = some (.ref f) ∧ PySem.W.keepIn K (.ref f) = true ∧ Binds K fd ps []
section
variable {P : Program} {w : World} {K : PySem.W.Frag} {mg : Str → Option Value} {base : Heap}
theorem Src.def {x : Str} {st : Stmt} {N ps : List Str} {k : Nat} {sp : Sp} (F : Src K mg x ps st) (S : FnScope N ps (defScope st)) (len : ∀ vs H Q E, sp vs H Q E → vs.length = ps.length)
  (hbody : ∀ (f : Addr) (cdv : Value) (A : Around) (outer : List Env) (s : Shared) (H : Hp) (vs : List V) (Q : VK) (E : XK), Room k (A.deeper (envOfC x (defScope st) s.heap.objs.size f cdv)) → sp vs H Q E →
   ∃ t, PSs (cxOf CX0 P w K mg base N x (defScope st) f cdv A outer s H E).nox (defBody st) t ∧ t { nx := fun _ H' => Q .non H', rt := Q } (start N vs) H) : Def P w K mg base (k + 1) x ps sp := by
 obtain ⟨f, fd, F, hm, hb⟩ := F.ex
 exact ⟨f, fd, F.ok S len (hbody f), hm, F.kp, hb⟩
end
theorem Def.imp {P : Program} {w : World} {K : PySem.W.Frag} {mg : Str → Option Value} {base : Heap} {k : Nat} {x : Str} {ps : List Str} {sp sp' : Sp} (D : Def P w K mg base k x ps sp) (h : ∀ vs H Q E, sp' vs H Q E → sp vs H Q E) : Def P w K mg base k x ps sp' := by
 obtain ⟨f, fd, F, hm, hk, hb⟩ := D.ex
 exact ⟨f, fd, F.imp h, hm, hk, hb⟩
section
variable {X : Cx} {e : Expr} {es : List Expr} {t : TA} {x : Str} {p pos : Pos} {k : Nat} {ps : List Str} {sp : Sp}
theorem pe_own (D : Def X.prog X.w X.K X.mg X.base k x ps sp) (hr : Room k X.A) (hg : Gl X x) (hx : Passes CX0 X E0) (ha : PA X (e :: es) t) (hdb : (x == ("__debug__" : Str)) = false := by decide +kernel) (hs : (e :: es).all notStar = true := by rfl) :
  PE X (.Call (.Name x p) (e :: es) [] pos) (tCall sp [] E0 t) := by
 obtain ⟨f, fd, F, hm, hk, hb⟩ := D.ex
 have h2 := hs
 rw [List.all_cons, Bool.and_eq_true] at h2
 exact pe_call F hr hg hm hk hb .nil hx ha hdb (star_cons es X.env h2.1) (star_back es h2.2)
theorem pe_ty (T : String) (hg : Gl X x) (hm : X.mg x = none) (hv : bootBuiltins x = some (.type T)) (hn : x ≠ "__name__" := by decide +kernel) (hd : (x == ("__debug__" : Str)) = false := by decide +kernel) : PE X (.Name x pos) (tC (.ty T)) :=
 pe_bltn hg hm hv rfl hn hd
end
noncomputable def bsOk (scope : Scope) (N : List Str) : Bool :=
 (match scope.kind with | .function => true | _ => false) && decide N.Nodup && scope.names.all fun y => y.2 != .cell && scope.names.lookup y.1 == some y.2
theorem bs_mk {scope : Scope} {N : List Str} (h : bsOk scope N = true) : BlkScope scope N := by
 unfold bsOk at h
 rw [Bool.and_eq_true, Bool.and_eq_true] at h
 obtain ⟨⟨h1, h2⟩, h3⟩ := h
 have h3 := List.all_eq_true.mp h3
 refine ⟨?_, of_decide_eq_true h2, fun y hy => ?_, fun y hy => ?_⟩
 ·cases e : scope.kind <;> rw [e] at h1 <;> first | rfl | cases h1
 ·have := h3 y hy
  rw [Bool.and_eq_true] at this
  simpa using this.1
 ·have := h3 y hy
  rw [Bool.and_eq_true] at this
  simpa using this.2
section
variable {X : Cx} {K : PySem.W.Frag}
noncomputable def rLen (K : PySem.W.Frag) : List V → Hp → VK → Prop := fun xs H Q => ∃ x n, xs = [x] ∧ LenV K x H n ∧ Q (.int n) H
theorem c_len (hK : X.K = K := by rfl) : CallR X (.builtin "len") (rLen K) := by subst hK; exact call_len
theorem slL (hK : X.K = K := by rfl) : SlR X (rSlL K) := by subst hK; exact sl_list
theorem ixL (hK : X.K = K := by rfl) : IxR X (rIxL K) := by subst hK; exact ix_list
theorem c_isi (hK : X.K = K := by rfl) : CallR X (.builtin "isinstance") (rIsi K) := by subst hK; exact call_isi
noncomputable def rJoin (K : PySem.W.Frag) : V → List V → Hp → VK → Prop := fun x vs H Q => ∃ (y : Str) (a : Addr) (ys : List Str), x = .str y ∧ vs = [.ref a] ∧ SqL K H a (ys.map V.str) ∧ (ys.map (·.length)).sum + ys.length * y.length ≤ 16777216 ∧ Q (.str (Txt.join y ys)) H
theorem m_join (hK : X.K = K := by rfl) : MtR X "str.join" (rJoin K) := by subst hK; exact mt_join
variable {o e : Expr} {es : List Expr} {to : TE} {t : TA} {name : Str} {apos cpos : Pos} {T id : String} {r : V → List V → Hp → VK → Prop}
theorem pe_bmK (pa : PlainAttrs T) (slot : Slot T name id) (hty : typeOf (.builtin id) = pure (.type "method_descriptor")) (hm : MtR X id r) (ho : PE X o to) (ha : PA X (e :: es) t)
  (hbase : attributeBase o name X.env (eval o X.env) = eval o X.env := by rfl) (hs : (e :: es).all notStar = true := by rfl) (hfew : decide ((e :: es).length + 0 + 0 < 30) = true := by rfl)
  (hline : (apos.endLine == cpos.line) = true := by rfl) (hK : X.K = K := by rfl) : PE X (.Call (.Attribute o name apos) (e :: es) [] cpos) (tBM K T r to t) := by
 subst hK
 have h2 := hs
 rw [List.all_cons, Bool.and_eq_true] at h2
 refine pe_bm pa slot hty hm ho ha hbase ?_ hline (star_cons es X.env h2.1) (star_back es h2.2)
 rw [star_few _ hs]
 show (true && true && decide ((e :: es).length + 0 + 0 < 30)) = true
 rw [hfew]; rfl
end
noncomputable def Asc (x : Str) : Prop := ∀ c ∈ x.cps.toList, c < 128
end L2
namespace L2
open PySem PySem.Spec PyProof.Rows
mutual
noncomputable def wt : PyData → Nat
 | .none | .bool _ | .dict _ => 5
 | .int i => (PyData.shown (.int i)).length
 | .str x => 10 * x.length + 2
 | .list ds | .tuple ds => wtAll ds + 3
noncomputable def wtAll : List PyData → Nat
 | [] => 0
 | d :: ds => wt d + 2 + wtAll ds
end
mutual
noncomputable def dOk : PyData → Prop
 | .none | .bool _ => True
 | .int i => i.natAbs.log2 < 1920
 | .str x => ∀ c ∈ x.cps.toList, c < 16 ^ 8
 | .list ds | .tuple ds => dOkAll ds
 | .dict _ => False
noncomputable def dOkAll : List PyData → Prop
 | [] => True
 | d :: ds => dOk d ∧ dOkAll ds
end
theorem listText_le (ts : List Str) : (listText ts).length ≤ piled ts + 3 := by
 cases ts with
 | nil => decide +kernel
 | cons t r =>
  have h := textFrom_length_pos r 1 (("[" : Str) ++ (if (0 : Nat) > 0 then ", " else "" : String) ++ t) (Nat.succ_pos 0)
  have e : ((("[" : Str) ++ (if (0 : Nat) > 0 then ", " else "" : String) ++ t)).length = 1 + t.length := by
   rw [strLen_append, strLen_append]; rfl
  have hX : (listText (t :: r)).length = (textFrom 0 "[" (t :: r)).length + 1 := by
   show (textFrom 0 "[" (t :: r) ++ "]").length = _
   rw [strLen_append]; rfl
  have hY : (textFrom 0 "[" (t :: r)).length = (textFrom 1 (("[" : Str) ++ (if (0 : Nat) > 0 then ", " else "" : String) ++ t) r).length := rfl
  rw [hX, hY, h, e, piled_cons]; omega
theorem tupleText_le (ts : List Str) : (tupleText ts).length ≤ piled ts + 3 := by
 unfold tupleText
 rw [strLen_append, strLen_append]
 have h1 : ("(" : Str).length = 1 := rfl
 have h2 : ((if (ts.length == 1) = true then ",)" else ")" : String) : Str).length ≤ 2 := by split <;> decide +kernel
 by_cases hn : ts = []
 ·subst hn
  have h3 : (Str.join ", " []).length = 0 := rfl
  omega
 ·have := join_length_add ts hn
  omega
mutual
theorem shown_le : ∀ d : PyData, dOk d → d.shown.length ≤ wt d
 | .none, _ => by simp only [PyData.shown, wt]; decide +kernel
 | .bool b, _ => by cases b <;> (simp only [PyData.shown, wt]; decide +kernel)
 | .int i, _ => by simp only [wt]; exact Nat.le_refl _
 | .str x, h => by
  simp only [dOk] at h
  simp only [PyData.shown, wt]
  exact StrLaws.reprText_len x h
 | .list ds, h => by
  simp only [dOk] at h
  simp only [PyData.shown, wt]
  have h1 := shownAll_le ds h
  have h2 := listText_le (PyData.shownAll ds)
  omega
 | .tuple ds, h => by
  simp only [dOk] at h
  simp only [PyData.shown, wt]
  have h1 := shownAll_le ds h
  have h2 := tupleText_le (PyData.shownAll ds)
  omega
 | .dict _, h => by simp only [dOk] at h
theorem shownAll_le : ∀ ds : List PyData, dOkAll ds → piled (PyData.shownAll ds) ≤ wtAll ds
 | [], _ => by simp only [PyData.shownAll, wtAll]; exact Nat.le_refl _
 | d :: ds, h => by
  simp only [dOkAll] at h
  simp only [PyData.shownAll, wtAll]
  rw [piled_cons]
  have h1 := shown_le d h.1
  have h2 := shownAll_le ds h.2
  omega
end
mutual
theorem dOk.show : ∀ d : PyData, dOk d → d.showable = true
 | .none, _ => rfl
 | .bool b, _ => rfl
 | .int i, h => by simp only [dOk] at h; simp only [PyData.showable]; exact decide_eq_true h
 | .str x, h => rfl
 | .list ds, h => by simp only [dOk] at h; simp only [PyData.showable]; exact dOkAll.show ds h
 | .tuple ds, h => by simp only [dOk] at h; simp only [PyData.showable]; exact dOkAll.show ds h
 | .dict _, h => by simp only [dOk] at h
theorem dOkAll.show : ∀ ds : List PyData, dOkAll ds → PyData.showableAll ds = true
 | [], _ => rfl
 | d :: ds, h => by
  simp only [dOkAll] at h
  simp only [PyData.showableAll, dOk.show d h.1, dOkAll.show ds h.2, Bool.and_self]
end
theorem gyes {i : Nat} {v : V} {τ : St} {H : Hp} {A B : St → Hp → Prop} (h : A (τ.set i (some v)) H) : gName i v τ H fun τ2 H2 => tYes τ2 H2 fun b H3 => if b = true then A τ2 H3 else B τ2 H3 := by
 show if true = true then A (τ.set i (some v)) H else B (τ.set i (some v)) H
 rw [if_pos rfl]; exact h
theorem Asc.ok {x : Str} (h : Asc x) : ∀ c ∈ x.cps.toList, c < 16 ^ 8 := fun c hc => Nat.lt_trans (h c hc) (by decide)
theorem Asc.append {x y : Str} (h : Asc x) (g : Asc y) : Asc (x ++ y) := fun c hc => by
 have e : (x ++ y).cps.toList = x.cps.toList ++ y.cps.toList := by show (x.cps ++ y.cps).toList = _; simp
 rw [e, List.mem_append] at hc
 exact hc.elim (h c) (g c)
noncomputable def ascB (x : Str) : Bool := x.cps.toList.all fun c => decide (c < 128)
theorem asc_of {x : Str} (h : ascB x = true) : Asc x := fun c hc => of_decide_eq_true (List.all_eq_true.mp h c hc)
end L2
set_option maxHeartbeats 400000
namespace PySem.W
open PySem PySem.Calls PyProof.Rows Builtin Builtin.ObjectAttr
noncomputable abbrev excOb (C : Addr) (od : Option Addr) (vs : Array Value) : Obj := { cls := .ref C, dict := od, data := .fields vs }
section
variable {prog : Program} {w : World} {A : Around} {E : Value → Shared → Prop} {s : Shared} {K : Frag} {x C : Addr} {ox : Obj} {od : Option Obj} {name : Str} {expr : Bool} {Q : Value → Shared → Prop}
theorem looks_inst {M : Model} {h : Heap} {T : String} (X : K.In h) (I : InstAt h x ox C od) (hs : subIn K (.ref C) (.type T) = some true) : Looks M h (isInstance (.ref x) (.type T)) true := by
 have L0 := I.type (M := M)
 have L1 := looks_subIn (M := M) X hs
 unfold isInstance
 exact L0.andThen L1
theorem ga_kind : builtinKind "BaseException.__getattribute__" = some .slot := by decide +kernel
theorem ga_split : splitId "BaseException.__getattribute__" = some ("BaseException", "__getattribute__") := by decide +kernel
theorem chk_ga {M : Model} {nameV : Value} {Q : Unit → Shared → Prop} (LI : Looks M s.heap (isInstance (.ref x) (.type "BaseException")) true) (q : Q () s) :
  wpAny M A (checkBuiltinCall "BaseException.__getattribute__" ⟨[.ref x, nameV], []⟩) Q E s := by
 have ha := F.args_bexc_ga (.ref x) nameV
 have h := @check_slot M A E s "BaseException.__getattribute__" "BaseException" "__getattribute__" (.ref x) [nameV] [] Q ga_kind ga_split LI
 generalize argsOk "BaseException.__getattribute__" { pos := [Value.ref x, nameV] } = p at ha h
 exact h ha q
theorem get_exc {v : Value} (X : K.In s.heap) (I : InstAt s.heap x ox C od) (hga : findIn K (.ref C) "__getattribute__" = some (some (.builtin "BaseException.__getattribute__"))) (hgn : findIn K (.ref C) "__getattr__" = some none)
  (hs : subIn K (.ref C) (.type "BaseException") = some true)
  (hf : findObj K C od name = some (.value v)) (hh : handedIn v = true) (h : Q v { s with toks := s.toks + 1 }) : wpAny (model prog w) A (getAttr (.ref x) name expr) Q E s := by
 obtain ⟨hp, g, d, t, os⟩ := s
 have L0 := I.type (M := model prog w)
 have L1 := looks_findIn (M := model prog w) X hga
 have L2 := looks_findIn (M := model prog w) X hgn
 have L3 := looks_find (M := model prog w) X I hf
 have LI := looks_inst (M := model prog w) X I hs
 have hx0 : (expr && onTheHeap (Value.builtin "BaseException.__getattribute__")) = false := by cases expr <;> rfl
 have hx2 : (Value.builtin "BaseException.__getattribute__" == Value.builtin "object.__getattribute__") = false := by decide +kernel
 have hb := F.excAttr_ValueError.ga.bind (.ref x)
 unfold getAttr getAttrBy
 refine wpAny_bind (wpAny_mkText (wpAny_holding (wpAny_bind (L0.at (wpAny_bind (L1.at ?_))))))
 show wpAny _ _ (if (onTheHeap (Value.ref C) && Value.builtin "BaseException.__getattribute__" == Value.builtin "object.__getattribute__") = true then _ else _) _ _ _
 rw [hx2, Bool.and_false, if_neg (by decide)]
 unfold getAttrByItsOwn hookBefore
 show wpAny _ _ (typeLookup (.ref C) "__getattr__" >>= _) _ _ _
 refine wpAny_bind (L2.at (wpAny_bind (wpAny_attempt (wpAny_holding ?_))))
 unfold callGetattribute
 rw [hx0, if_neg (by decide)]
 unfold boundAndCalled
 rw [hb]
 refine wpAny_bind (wpAny_pure ?_)
 refine wpAny_call (codeAny_call_builtin F.excAttr_ValueError.ga.plain F.entry_bexc_ga ?_)
 show wpAny _ _ (checkBuiltinCall "BaseException.__getattribute__" ⟨[.ref x, .str name t], []⟩) _ _ _
 refine chk_ga ?_ ?_
 ·exact LI
 unfold Builtin.«object.__getattribute__»
 refine wpAny_bind (wpAny_pure (wpAny_bind (wpAny_pure (wpAny_bind (L0.at (wpAny_bind (L3.at ?_)))))))
 refine wpAny_pure ?_
 show wpAny _ _ (handedOut v) _ _ _
 rw [handedOut_of hh]; exact wpAny_pure h
noncomputable def tailV : List Value → Bool
 | .ref _ :: r => tailV r
 | l => l == [.type "ValueError", .type "Exception", .type "BaseException", .type "object"]
theorem refuse_value (self : Value) : refuseLoop self "__setattr__" [.type "ValueError", .type "Exception", .type "BaseException", .type "object"] = pure () := by kernel_rfl
theorem tailV_nil : tailV [] = false := by decide +kernel
theorem tailV_type {n : String} {r : List Value} (e : tailV (.type n :: r) = true) : (.type n :: r) = [.type "ValueError", .type "Exception", .type "BaseException", .type "object"] := by
 have e' : ((.type n :: r : List Value) == [.type "ValueError", .type "Exception", .type "BaseException", .type "object"]) = true := e
 exact beq_iff_eq.mp e'
theorem tail_cases : ∀ {l : List Value}, tailV l = true → l = [.type "ValueError", .type "Exception", .type "BaseException", .type "object"] ∨ ∃ c r, l = .ref c :: r ∧ tailV r = true
 | [], e => by rw [tailV_nil] at e; cases e
 | .ref c :: r, e => .inr ⟨c, r, rfl, e⟩
 | .type n :: r, e => .inl (tailV_type e)
 | .none :: r, e => .inl (beq_iff_eq.mp (show ((.none :: r : List Value) == _) = true from e))
 | .bool b :: r, e => .inl (beq_iff_eq.mp (show ((.bool b :: r : List Value) == _) = true from e))
 | .int b t :: r, e => .inl (beq_iff_eq.mp (show ((.int b t :: r : List Value) == _) = true from e))
 | .float b t :: r, e => .inl (beq_iff_eq.mp (show ((.float b t :: r : List Value) == _) = true from e))
 | .str b t :: r, e => .inl (beq_iff_eq.mp (show ((.str b t :: r : List Value) == _) = true from e))
 | .bytes b t :: r, e => .inl (beq_iff_eq.mp (show ((.bytes b t :: r : List Value) == _) = true from e))
 | .builtin b :: r, e => .inl (beq_iff_eq.mp (show ((.builtin b :: r : List Value) == _) = true from e))
 | v :: r, e => by
  first
   | (cases v <;> first | exact .inl (beq_iff_eq.mp e) | exact .inr ⟨_, _, rfl, e⟩)
theorem refuse_tail (self : Value) : ∀ {l : List Value}, tailV l = true → refuseLoop self "__setattr__" l = pure () := by
 intro l
 induction l with
 | nil => intro e; rw [tailV_nil] at e; cases e
 | cons v r ih =>
  intro e
  rcases tail_cases e with e | ⟨c, r', e1, e2⟩
  ·rw [e]; exact refuse_value self
  ·cases e1
   rw [refuseLoop_ref]; exact ih e2
theorem tail_has : ∀ {l : List Value}, tailV l = true → l.contains (.type "object") = true ∧ l.isEmpty = false := by
 intro l
 induction l with
 | nil => intro e; rw [tailV_nil] at e; cases e
 | cons v r ih =>
  intro e
  refine ⟨?_, rfl⟩
  rcases tail_cases e with e | ⟨c, r', e1, e2⟩
  ·rw [e]; decide +kernel
  ·cases e1
   rw [List.contains_cons, (ih e2).1, Bool.or_true]
noncomputable def excOver (K : Frag) (C : Addr) : Bool := (clsIn K C).any fun cd => tailV cd.mro && cd.hasDict
theorem osa_exc {name : Str} {tk : Tok} {v : Value} {R : Result → Shared → Prop} (X : K.In s.heap) (I : InstAt s.heap x ox C od) (hp : excOver K C = true) (ha : findIn K (.ref C) name = some none)
  (h : wpAny (model prog w) A.in1 (storeInOwnDict (.ref x) (.ref C) (.str name tk) name v false)
   (fun fin s' => match fin with | .done f => R (.ok f) s' | .again c' => c'.quiet = true ∧ codeAny (model prog w) A c' R s') (fun e s' => R (.error e) s') s) :
  codeAny (model prog w) A (.call (.builtin "object.__setattr__") ⟨[.ref x, .str name tk, v], []⟩) R s := by
 have SF := PySem.F.store_object
 obtain ⟨cd, hc, ho⟩ := any_some hp
 rw [Bool.and_eq_true] at ho
 obtain ⟨t1, t2⟩ := tail_has ho.1
 have sub : Looks (model prog w) s.heap (isInstance (.ref x) (.type "object")) true := I.type.andThen (looks_mroIn X (by unfold mroIn; rw [hc, Option.bind_some, if_neg (by rw [t2]; decide), t1]))
 refine codeAny_call_builtin SF.slot.plain SF.entry (@check_slot (model prog w) _ _ s "object.__setattr__" "object" "__setattr__" (.ref x) [.str name tk, v] [] _ SF.kind SF.split sub (SF.args (.ref x) (.str name tk) v) ?_)
 have hm : Looks (model prog w) s.heap (mroOf (.ref C)) cd.mro := (looks_clsIn X hc).andThen .now
 rw [osa_eq, refuse_eq]
 refine wpAny_bind (wpAny_bind (I.type.here (wpAny_bind (hm.here ?_))))
 rw [refuse_tail _ ho.1]
 refine wpAny_pure (wpAny_bind (I.type.here (wpAny_bind ((looks_findIn X ha).here (wpAny_bind (wpAny_pure ?_))))))
 exact h
theorem ns1_new {h : Heap} {a : Addr} (e : h.get? a = some emptyDict) : h.Ns1 a fun _ => none :=
 ⟨emptyDict, #[], _, e, rfl, fun y hy => absurd hy (by simp), by first | exact fun _ _ hi => absurd hi (by simp) | simp [UniqKeys] | (unfold UniqKeys; simp) , fun name => rfl⟩
theorem set_exc0 {name : Str} {v : Value} {vs : Array Value} {Q : Unit → Shared → Prop} (X : K.In s.heap) (hx : s.heap.get? x = some (excOb C none vs))
  (hs : findIn K (.ref C) "__setattr__" = some (some (.builtin "object.__setattr__"))) (hp : excOver K C = true) (ha : findIn K (.ref C) name = some none)
  (h : ∀ h', h'.Ns1 s.heap.objs.size (fun y => if y = name then some v else none) → h'.get? x = some (excOb C (some s.heap.objs.size) vs) → (∀ b o, b ≠ x → s.heap.get? b = some o → h'.get? b = some o) → Q () { s with heap := h', toks := s.toks + 2 }) :
  wpAny (model prog w) A (setAttr (.ref x) name v) Q E s := by
 have I : InstAt s.heap x (excOb C none vs) C none := ⟨hx, rfl, rfl, trivial⟩
 refine set_plain X I hs (osa_exc (s := { s with toks := s.toks + 1 }) X I hp ha ?_)
 obtain ⟨cd, hc, hd'⟩ := any_some hp
 rw [Bool.and_eq_true] at hd'
 have hlt : x < s.heap.objs.size := Heap.lt_size hx
 refine wpAny_bind (wpAny_pure (wpAny_bind (wpAny_bind (wpAny_loadPart hx (wpAny_bind (PySem.W.Looks.here (s := { s with toks := s.toks + 1 }) (PySem.W.looks_clsIn X hc) ?_))))))
 rw [hd'.2]
 have hx2 : (s.heap.push emptyDict).get? x = some (excOb C none vs) := Heap.get?_push_of_some _ hx
 refine wpAny_bind (wpAny_alloc (wpAny_bind (wpAny_update hx2 ?_)))
 have hx3 : ((s.heap.push emptyDict).update x fun o => { o with dict := some s.heap.objs.size }).get? x = some (excOb C (some s.heap.objs.size) vs) := by rw [Heap.get?_update_self _ hx2 rfl]
 have hd3 : ((s.heap.push emptyDict).update x fun o => { o with dict := some s.heap.objs.size }).get? s.heap.objs.size = some emptyDict := by
  rw [Heap.get?_update_other _ _ (Nat.ne_of_lt hlt)]
  exact Heap.get?_push_size _ rfl
 have hk3 : ∀ b o, b ≠ x → s.heap.get? b = some o → ((s.heap.push emptyDict).update x fun o => { o with dict := some s.heap.objs.size }).get? b = some o := fun b o hb e => by
  rw [Heap.get?_update_other _ _ (Ne.symm hb)]
  exact Heap.get?_push_of_some _ e
 refine wpAny_pure (wpAny_bind (wpAny_pure (wpAny_bind ?_)))
 refine wpAny_nsSet1 (s := { s with heap := (s.heap.push emptyDict).update x fun o => { o with dict := some s.heap.objs.size }, toks := s.toks + 1 }) (ns1_new hd3) fun h' hn2 hs2 => ?_
 obtain ⟨oD, esD, epD, hoD, hdD, hcD⟩ := hn2.count (PySem.Within.cons (ns := []) name v (fun y hy => absurd rfl hy))
 refine wpAny_bind (wpAny_lookBehind hoD (by rw [hdD]; exact pastItsLine_dict (Nat.le_trans hcD (by rw [List.length_cons, sizeLine_eq]; simp))) ?_)
 exact wpAny_pure (h _ hn2 ((hs2.2 _ (Nat.ne_of_lt hlt)).trans hx3) fun b o hb e => (hs2.2 b (Nat.ne_of_lt (Heap.lt_size e))).trans (hk3 b o hb e))
end
end PySem.W
namespace PySem.W
open PySem PySem.Calls PyProof.Rows Builtin Builtin.ObjectAttr
section
variable {prog : Program} {w : World} {A : Around} {E : Value → Shared → Prop} {s : Shared} {K : Frag} {x C : Addr} {ox : Obj} {od : Option Obj}
variable {nm q : Str} {N : Addr} {bs bm : List Value} {hdct : Bool} {sn : List Str} {sub : List Value} {ab : Bool} {col : Option Bool} {dd : Option Addr} {k0 k1 k2 k3 k5 : Option Value} {newId : String}
theorem chk_init {M : Model} {hp : Heap} {g : Array GenState} {d : Drawn} {t : Nat} {os : OsState} {ws : List Value} {Q : Unit → Shared → Prop} (hC : hp.get? C = some (excClassObj nm q C N bs bm hdct sn sub ab col dd k0 k1 k2 k3 k5 newId))
  (he : hp.get? x = some ox) (hcls : ox.cls = .ref C) (hB : bm.contains (.type "ValueError") = true) (hq : Q () ⟨hp, g, d, t, os⟩) :
  wpAny M A (checkBuiltinCall "ValueError.__init__" ⟨.ref x :: ws, []⟩) Q E ⟨hp, g, d, t, os⟩ := by
 have F := PySem.F.excCall_ValueError
 have hcB : (Value.ref C :: bm).contains (.type "ValueError") = true := by rw [List.contains_cons, hB, Bool.or_true]
 have hshort := F.noStar
 simp only [checkBuiltinCall, F.initKind, F.initSplit, F.initRow]
 repeat (first | (with_reducible refine wpAny_loadPart_at he ?_; rw [hcls]) | with_reducible refine wpAny_loadPart_at hC ?_ | (with_reducible refine wpAny_isSubtype_exc hC ?_; rw [hcB]) | wp_step)
 refine wpAny_onRaise ?_
 rw [show ∀ (a b : String) (n : Nat), Bind.check ⟨.positional, "*", "ValueError", .self, [⟨"args", .varPos, false⟩]⟩ a b n (List.map (fun x => x.fst) ({ pos := Value.ref x :: ws } : Args).kw) = pure () from
  fun a b n => check_star_args _ _ _ _ _ _]
 exact wpAny_pure hq
theorem init_run {ws : List Value} {d0 : Option Addr} {t0 : Addr} {a1 a2 a3 a4 a5 : Value} {Q : Value → Shared → Prop} (hC : s.heap.get? C = some (excClassObj nm q C N bs bm hdct sn sub ab col dd k0 k1 k2 k3 k5 newId)) (hB : bm.contains (.type "ValueError") = true)
  (hx : s.heap.get? x = some (excOb C d0 #[.ref t0, a1, a2, a3, a4, a5])) (hz : ws.length ≤ sizeLine)
  (h : ∀ h', h'.get? x = some (excOb C d0 #[.ref s.heap.objs.size, a1, a2, a3, a4, a5]) → (∀ b o, b ≠ x → s.heap.get? b = some o → h'.get? b = some o) → Q .none { s with heap := h' }) :
  wpAny (model prog w) A (call (.builtin "ValueError.__init__") (.ref x :: ws)) Q E s := by
 have F := PySem.F.excCall_ValueError
 obtain ⟨hp, g, d, t, os⟩ := s
 refine wpAny_call (codeAny_call_builtin F.init.plain F.initEntry (chk_init hC hx rfl hB ?_))
 have hx : hp.get? x = some (excOb C d0 #[.ref t0, a1, a2, a3, a4, a5]) := hx
 wp_walk
 refine h _ ?_ (fun b o hb e => ?_)
 ·rw [Heap.get?_update_self _ (Heap.get?_push_of_some _ hx) rfl]; rfl
 ·rw [Heap.get?_update_other _ _ (Ne.symm hb)]; exact Heap.get?_push_of_some _ e
theorem chk_new {hp : Heap} {g : Array GenState} {d : Drawn} {t : Nat} {os : OsState} {M : Model} {rest : List Value} {Q : Unit → Shared → Prop} (hC : hp.get? C = some (excClassObj nm q C N bs bm hdct sn sub ab col dd k0 k1 k2 k3 k5 "ValueError.__new__"))
  (hB : bm.contains (.type "ValueError") = true) (hq : Q () ⟨hp, g, d, t, os⟩) : wpAny M A (checkBuiltinCall "ValueError.__new__" ⟨.ref C :: rest, []⟩) Q E ⟨hp, g, d, t, os⟩ := by
 have Fn := PySem.F.excBase_ValueError
 have hcont : (Value.ref C :: bm).contains (.type "ValueError") = true := by rw [List.contains_cons, hB, Bool.or_true]
 have hstar := Fn.noStar
 simp only [checkBuiltinCall, Fn.newKind, Fn.newSplit, Fn.newRow]
 repeat (first | refine wpAny_loadPart_at hC ?_ | (refine wpAny_isSubtype_exc hC ?_; rw [hcont]) | refine wpAny_staticBase_exc hC ?_ | refine wpAny_madeBy_exc hC ?_ | simp only [bne_self_eq_false, Bool.false_eq_true, if_false] | wp_step)
 exact hq
theorem new_run {hp : Heap} {g : Array GenState} {d : Drawn} {t : Nat} {os : OsState} {R : Result → Shared → Prop} {rest : List Value} (hC : hp.get? C = some (excClassObj nm q C N bs bm hdct sn sub ab col dd k0 k1 k2 k3 k5 "ValueError.__new__"))
  (hB : bm.contains (.type "ValueError") = true) (hA : bm.contains (.type "AttributeError") = false) (hN : bm.contains (.type "NameError") = false) (hz : rest.length ≤ sizeLine)
  (hq : R (.ok (.ret (.ref (hp.objs.size + 1)))) ⟨(hp.push { cls := .type "tuple", data := .seq rest.toArray }).push (excOb C none #[.ref hp.objs.size, .none, .none, .none, .bool false, .none]), g, d, t, os⟩) :
  codeAny (model prog w) A (.builtin "ValueError.__new__" ⟨.ref C :: rest, []⟩) R ⟨hp, g, d, t, os⟩ := by
 have Fn := PySem.F.excBase_ValueError
 have hends := Fn.ends
 have hcB : (Value.ref C :: bm).contains (.type "ValueError") = true := by rw [List.contains_cons, hB, Bool.or_true]
 have hcA : (Value.ref C :: bm).contains (.type "AttributeError") = false := by rw [List.contains_cons, hA]; rfl
 have hcN : (Value.ref C :: bm).contains (.type "NameError") = false := by rw [List.contains_cons, hN]; rfl
 refine codeAny_builtinAt Fn.entry ?_
 unfold Builtin.«BaseException.__new__»
 refine wpAt_bind ?_
 show wpAt _ _ _ (stack >>= _) _ _ _
 refine wpAt_bind (wpAt_stack fun p below => wpAt_of_wpAny ?_)
 wp_walk
 refine wpAt_of_wpAny ?_
 rw [Fn.owner]
 repeat (first | with_reducible refine wpAny_madeHere_exc Fn.canon hC ?_ | with_reducible refine wpAny_loadPart_at hC ?_ | (with_reducible refine wpAny_isSubtype_exc hC ?_; first | rw [hcB] | rw [hcA] | rw [hcN]) | wp_step)
 show R _ _
 rw [Heap.size_push]
 exact hq
theorem make_exc {hp : Heap} {g : Array GenState} {d : Drawn} {t : Nat} {os : OsState} {R : Result → Shared → Prop} {rest : List Value} {f : Addr} (hC : hp.get? C = some (excClassObj nm q C N bs bm hdct sn sub ab col dd k0 k1 k2 k3 k5 "ValueError.__new__"))
  (hB : bm.contains (.type "ValueError") = true) (hA : bm.contains (.type "AttributeError") = false) (hN : bm.contains (.type "NameError") = false) (hz : rest.length ≤ sizeLine)
  (hi : Looks (model prog w) hp (typeLookup (.ref C) "__init__") (some (.ref f))) (hb : ∀ self, Looks (model prog w) hp (bindSpecial (.ref f) self) (.ref f, [self]))
  (hq : codeAny (model prog w) (A.under (.builtin "type.__call__" ⟨.ref C :: rest, []⟩)) (.call (.ref f) ⟨.ref (hp.objs.size + 1) :: rest, []⟩) (InitBack (hp.objs.size + 1) R)
   ⟨(hp.push { cls := .type "tuple", data := .seq rest.toArray }).push (excOb C none #[.ref hp.objs.size, .none, .none, .none, .bool false, .none]), g, d, t, os⟩) :
  codeAny (model prog w) A (.call (.ref C) ⟨rest, []⟩) R ⟨hp, g, d, t, os⟩ := by
 have Fn := PySem.F.excBase_ValueError
 have f1 := tc_lookup
 have f2 := tc_bind (.ref C)
 have hT : (⟨hp, g, d, t, os⟩ : Shared).TypeIs (.ref C) "type" := ⟨_, hC, rfl⟩
 refine codeAny_of_tree ?_
 show wpAny _ _ (callAny (.ref C) _) _ _ _
 repeat (any_goals (first | assumption | with_reducible refine wpAny_loadPart_at hC ?_ | wp_step))
 refine ⟨rfl, ?_⟩
 refine codeAny_call_builtin_at (Code.quiet_builtin _ (by decide +kernel)) entry_typeCall (wpAny_check_type_call_sub hC ?_)
 repeat (first | with_reducible refine wpAny_loadPart_at hC ?_ | with_reducible refine wpAny_madeBy_exc hC ?_ | wp_step)
 refine codeAny_call_builtin_code (Code.quiet_builtin _ Fn.quiet) (chk_new hC hB ?_)
 refine new_run hC hB hA hN hz ?_
 show wpAny _ _ _ _ _ _
 have k : ∀ b o, hp.get? b = some o → ((hp.push { cls := .type "tuple", data := .seq rest.toArray }).push (excOb C none #[.ref hp.objs.size, .none, .none, .none, .bool false, .none])).get? b = some o := fun b o e => Heap.get?_push_of_some _ (Heap.get?_push_of_some _ e)
 have hx : ((hp.push { cls := .type "tuple", data := .seq rest.toArray }).push (excOb C none #[.ref hp.objs.size, .none, .none, .none, .bool false, .none])).get? (hp.objs.size + 1) = some (excOb C none #[.ref hp.objs.size, .none, .none, .none, .bool false, .none]) := by heap_get
 have self : Looks (model prog w) hp (isSubtype (.ref C) (.ref C)) true := by
  intro A' Q' E' s' k' q'
  obtain ⟨hh, g', d', t', os'⟩ := s'
  refine wpAny_isSubtype_exc (k' _ _ hC) ?_
  rw [show (Value.ref C :: bm).contains (.ref C) = true by simp]
  exact q'
 have t1 : Looks (model prog w) ((hp.push { cls := .type "tuple", data := .seq rest.toArray }).push (excOb C none #[.ref hp.objs.size, .none, .none, .none, .bool false, .none])) (typeOf (.ref (hp.objs.size + 1))) (.ref C) := (Looks.ld hx).andThen .now
 have s1 := self.keeps k
 have i1 := hi.keeps k
 have b1 := (hb (.ref (hp.objs.size + 1))).keeps k
 unfold isInstance callSpecial? specialOf
 show wpAny (model prog w) (A.under (Code.builtin "type.__call__" ⟨.ref C :: rest, []⟩)) _ _ _ ⟨(hp.push { cls := .type "tuple", data := .seq rest.toArray }).push (excOb C none #[.ref hp.objs.size, .none, .none, .none, .bool false, .none]), g, d, t, os⟩
 repeat (first | with_reducible refine wpAny_call ?_ | lk)
 refine codeAny_mono hq fun r s' z => ?_
 rcases r with e | (v | _ | _ | _) <;> first | exact z | exact z.elim | skip
 obtain ⟨rfl, z⟩ := z
 exact wpAny_pure (wpAny_pure z)
end
end PySem.W
set_option maxHeartbeats 1000000
namespace L2
open PySem PySem.Spec PyProof.Rows
noncomputable def XO (C : Addr) (d0 : Option Addr) (x : Addr) : HO := .ext fun h => ∃ (t0 : Addr) (a1 a2 a3 a4 a5 : Value), h.get? x = some (PySem.W.excOb C d0 #[.ref t0, a1, a2, a3, a4, a5])
noncomputable def XDt (fs : List (Str × V)) (dx : Addr) : HO := .ext fun h => fs.length ≤ 900 ∧ ∃ mA, h.Ns1 dx mA ∧ (∀ f, RelO (fs.lookup f) (mA f)) ∧ PySem.Within mA (fs.map (·.1))
section
variable {P : Program} {w : World} {H : Hp} {h : Heap}
theorem XO.ok {C x : Addr} {d0 : Option Addr} {t0 : Addr} {a1 a2 a3 a4 a5 : Value} (e : h.get? x = some (PySem.W.excOb C d0 #[.ref t0, a1, a2, a3, a4, a5])) : ObjOk P w H h x (XO C d0 x) :=
 ⟨⟨t0, a1, a2, a3, a4, a5, e⟩, ⟨_, e⟩, fun h1 h2 ⟨t, b1, b2, b3, b4, b5, q⟩ k => ⟨t, b1, b2, b3, b4, b5, k _ q⟩⟩
theorem XO.get {C x : Addr} {d0 : Option Addr} (ok : HOk P w H h) (e : H x = some (XO C d0 x)) : ∃ (t0 : Addr) (a1 a2 a3 a4 a5 : Value), h.get? x = some (PySem.W.excOb C d0 #[.ref t0, a1, a2, a3, a4, a5]) := (ok x _ e).1
theorem XDt.ok {dx : Addr} {fs : List (Str × V)} {mA : Str → Option Value} (l : fs.length ≤ 900) (n : h.Ns1 dx mA) (r : ∀ f, RelO (fs.lookup f) (mA f)) (wi : PySem.Within mA (fs.map (·.1))) : ObjOk P w H h dx (XDt fs dx) :=
 ⟨⟨l, mA, n, r, wi⟩, let ⟨o, _, _, e, _⟩ := n; ⟨o, e⟩, fun h1 h2 ⟨l, m, n, r, wi⟩ k => ⟨l, m, n.at k, r, wi⟩⟩
theorem XDt.get {dx : Addr} {fs : List (Str × V)} (ok : HOk P w H h) (e : H dx = some (XDt fs dx)) : fs.length ≤ 900 ∧ ∃ mA, h.Ns1 dx mA ∧ (∀ f, RelO (fs.lookup f) (mA f)) ∧ PySem.Within mA (fs.map (·.1)) := (ok dx _ e).1
end
noncomputable def excIn (K : PySem.W.Frag) (C : Addr) : Bool := match K.lookup C with
 | some ⟨.type T, _, .cls cd, sl⟩ => T == "type" && (match cd.mro with | .ref D :: bm => D == C && bm.contains (.type "ValueError") && !bm.contains (.type "AttributeError") && !bm.contains (.type "NameError") | _ => false) && !cd.hasDel &&
   (match sl.toList with | [_, _, _, _, some (.builtin n), _] => n == "ValueError.__new__" | _ => false)
 | _ => false
structure XCls (K : PySem.W.Frag) (C : Addr) : Prop where
 ex : excIn K C = true
 ga : PySem.W.findIn K (.ref C) "__getattribute__" = some (some (.builtin "BaseException.__getattribute__"))
 gn : PySem.W.findIn K (.ref C) "__getattr__" = some none
 sa : PySem.W.findIn K (.ref C) "__setattr__" = some (some (.builtin "object.__setattr__"))
 ov : PySem.W.excOver K C = true
 sb : PySem.W.subIn K (.ref C) (.type "BaseException") = some true
structure XMk (K : PySem.W.Frag) (C f : Addr) : Prop extends XCls K C where
 init : PySem.W.findIn K (.ref C) "__init__" = some (some (.ref f))
 fn : PySem.W.isFn K (.ref f) = true
 kp : PySem.W.keepIn K (.ref C) = true
theorem exc_ob {K : PySem.W.Frag} {C : Addr} (e : excIn K C = true) : ∃ nm q N bs bm hdct sn sub ab col dd k0 k1 k2 k3 k5, K.lookup C = some (excClassObj nm q C N bs bm hdct sn sub ab col dd k0 k1 k2 k3 k5 "ValueError.__new__") ∧
  bm.contains (.type "ValueError") = true ∧ bm.contains (.type "AttributeError") = false ∧ bm.contains (.type "NameError") = false := by
 unfold excIn at e
 split at e
 ·rename_i T dd cd sl ho
  rw [Bool.and_eq_true, Bool.and_eq_true, Bool.and_eq_true] at e
  obtain ⟨⟨⟨e1, e2⟩, e3⟩, e4⟩ := e
  obtain ⟨nm, bs, mro, ns, q, hdct, sn, sub, ab, col, hd⟩ := cd
  dsimp only at e2 e3
  split at e2
  ·rename_i _ D bm
   rw [Bool.and_eq_true, Bool.and_eq_true, Bool.and_eq_true] at e2
   obtain ⟨⟨⟨f1, f2⟩, f3⟩, f4⟩ := e2
   split at e4
   ·rename_i k0 k1 k2 k3 n k5 hs
    have hsl : sl = #[k0, k1, k2, k3, some (.builtin n), k5] := by
     rw [← Array.toArray_toList (xs := sl), hs]
    have e1 : T = "type" := beq_iff_eq.mp e1
    have f1 : D = C := beq_iff_eq.mp f1
    have e4 : n = "ValueError.__new__" := beq_iff_eq.mp e4
    have e3 : hd = false := by simpa using e3
    subst e1 f1 e4 e3 hsl
    exact ⟨nm, q, ns, bs, bm, hdct, sn, sub, ab, col, dd, k0, k1, k2, k3, k5, ho, f2, by simpa using f3, by simpa using f4⟩
   ·cases e4
  ·cases e2
 ·cases e
section
variable {X : Cx} {pins : List (Addr × Obj)} {σ : St} {H : Hp} {s : Shared}
theorem getx_ok {b : Bool} {A : Around} {E : Value → Shared → Prop} {x C dx : Addr} {fs : List (Str × V)} {f : Str} {v : V} {Q : Value → Shared → Prop} (I : Inv X pins σ H s) (e : H x = some (XO C (some dx) x)) (e2 : H dx = some (XDt fs dx)) (c : XCls X.K C)
  (n : PySem.W.findIn X.K (.ref C) f = some none) (l : fs.lookup f = some v) (h : ∀ u s', Inv X pins σ H s' → RelV v u → Q u s') : wpAny (model X.prog X.w) A (getAttr (.ref x) f b) Q E s := by
 obtain ⟨t0, a1, a2, a3, a4, a5, hx⟩ := XO.get I.hok e
 obtain ⟨_, mA, hn, r, _⟩ := XDt.get I.hok e2
 obtain ⟨od, ho, hl⟩ := lookIn_ns hn
 obtain ⟨u, hu, ru⟩ := RelO.some_of (v := v) (o := mA f) (by rw [← l]; exact r f)
 obtain ⟨cd, hc, hd'⟩ := PySem.W.any_some c.ov
 rw [Bool.and_eq_true] at hd'
 have J : PySem.W.InstAt s.heap x (PySem.W.excOb C (some dx) #[.ref t0, a1, a2, a3, a4, a5]) C (some od) := ⟨hx, rfl, rfl, ho⟩
 have hh : PySem.W.hasDictIn X.K C = true := by unfold PySem.W.hasDictIn; rw [hc]; exact hd'.2
 exact PySem.W.get_exc I.kIn J c.ga c.gn c.sb (PySem.W.findObj_own hh n rfl (by rw [hl, hu])) (handed_of ru) (h u _ (I.tok _) ru)
theorem putF_rel {f g : Str} {y : V} {u : Value} {fs : List (Str × V)} {mA : Str → Option Value} (ry : RelV y u) (r : ∀ g, RelO (fs.lookup g) (mA g)) : RelO ((putF f y fs).lookup g) (if g = f then some u else mA g) := by
 rw [lookup_putF]
 by_cases q : g = f
 ·rw [if_pos q, if_pos q]; exact ry
 ·rw [if_neg q, if_neg q]; exact r g
theorem putF_in {f : Str} {y : V} {u : Value} {fs : List (Str × V)} {mA : Str → Option Value} (wi : PySem.Within mA (fs.map (·.1))) : PySem.Within (fun g => if g = f then some u else mA g) ((putF f y fs).map (·.1)) := fun g hg => by
 by_cases q : g = f
 ·rw [q]; exact (keys_putF f y fs).1
 ·refine (keys_putF f y fs).2 g (wi g fun z => hg ?_)
  show (if g = f then some u else mA g) = none
  rw [if_neg q]; exact z
end
noncomputable def tFldX (K : PySem.W.Frag) (ta : TE) (f : Str) : TE := fun σ H Q => ta σ H fun x H1 => ∃ a C dx fs v, x = .ref a ∧ H1 a = some (XO C (some dx) a) ∧ H1 dx = some (XDt fs dx) ∧ XCls K C ∧ PySem.W.findIn K (.ref C) f = some none ∧ fs.lookup f = some v ∧ Q v H1
section
variable {X : Cx} {o e value : Expr} {es : List Expr} {f d : Str} {pos pos' apos p : Pos} {ta tv : TE} {t : TA} {K : PySem.W.Frag}
theorem pe_fldX (he : PE X e ta) (hb : attributeBase e f X.env (eval e X.env) = eval e X.env := by rfl) (hK : X.K = K := by rfl) : PE X (.Attribute e f pos) (tFldX K ta f) := by
 subst hK
 intro pins s σ H Q I h
 refine attr_of hb (thn (he pins s σ H _ I h) fun u s1 hh => ?_)
 obtain ⟨x, H1, I1, rx, a, C, dx, fs, v, ex, ea, ed, c, n, l, q⟩ := hh
 subst ex
 obtain rfl : u = Value.ref a := rx
 exact getx_ok I1 ea ed c n l fun u' s2 I2 ru => ⟨v, H1, I2, ru, q⟩
structure XBase (K : PySem.W.Frag) (B : Addr) : Prop where
 rd : PySem.W.readsIn K B (.type "type") = true
 fc : PySem.W.findCls K (.ref B) (.type "type") "__init__" = some (.val (.builtin "ValueError.__init__"))
 ga : PySem.W.specialIn K (.ref B) "__getattribute__" = some (some (.builtin "type.__getattribute__"))
end
end L2
namespace PySem.W
open PySem PySem.Calls PyProof.Rows Builtin Builtin.ObjectAttr
section
variable {prog : Program} {w : World} {A : Around} {E : Value → Shared → Prop} {s : Shared} {K : Frag} {x C : Addr} {ox : Obj} {od : Option Obj}
theorem class_exc {Q : Option Value → Shared → Prop} (X : K.In s.heap) (I : InstAt s.heap x ox C od) (hga : findIn K (.ref C) "__getattribute__" = some (some (.builtin "BaseException.__getattribute__"))) (hgn : findIn K (.ref C) "__getattr__" = some none)
  (hs : subIn K (.ref C) (.type "BaseException") = some true) (hf : findObj K C od "__class__" = some (.bind (.builtin "getset_descriptor.__get__") (.builtin "object.__class__"))) (hm : mroIn K C (.type "object") = some true)
  (h : Q (some (.ref C)) { s with toks := s.toks + 1 }) : wpAny (model prog w) A (getAttr? (.ref x) "__class__") Q E s := by
 obtain ⟨hp, g, d, t, os⟩ := s
 have L0 := I.type (M := model prog w)
 have L1 := looks_findIn (M := model prog w) X hga
 have L2 := looks_findIn (M := model prog w) X hgn
 have L3 := looks_find (M := model prog w) X I hf
 have LI := looks_inst (M := model prog w) X I hs
 have hx2 : (Value.builtin "BaseException.__getattribute__" == Value.builtin "object.__getattribute__") = false := by decide +kernel
 have hb := F.excAttr_ValueError.ga.bind (.ref x)
 unfold getAttr? getAttrBy? getAttrBy
 refine wpAny_bind (wpAny_mkText (wpAny_bind (wpAny_attempt (wpAny_holding (wpAny_bind (L0.at (wpAny_bind (L1.at ?_))))))))
 show wpAny _ _ (if (onTheHeap (Value.ref C) && Value.builtin "BaseException.__getattribute__" == Value.builtin "object.__getattribute__") = true then _ else _) _ _ _
 rw [hx2, Bool.and_false, if_neg (by decide)]
 unfold getAttrByItsOwn hookBefore
 show wpAny _ _ (typeLookup (.ref C) "__getattr__" >>= _) _ _ _
 refine wpAny_bind (L2.at (wpAny_bind (wpAny_attempt (wpAny_holding ?_))))
 unfold callGetattribute
 rw [show (false && onTheHeap (Value.builtin "BaseException.__getattribute__")) = false from rfl, if_neg (by decide)]
 unfold boundAndCalled
 rw [hb]
 refine wpAny_bind (wpAny_pure ?_)
 refine wpAny_call (codeAny_call_builtin F.excAttr_ValueError.ga.plain F.entry_bexc_ga ?_)
 show wpAny _ _ (checkBuiltinCall "BaseException.__getattribute__" ⟨[.ref x, .str "__class__" t], []⟩) _ _ _
 refine chk_ga ?_ ?_
 ·exact LI
 unfold Builtin.«object.__getattribute__»
 refine wpAny_bind (wpAny_pure (wpAny_bind (wpAny_pure (wpAny_bind (L0.at (wpAny_bind (L3.at ?_)))))))
 show wpAny _ _ (holding [.builtin "object.__class__"] (call (.builtin "getset_descriptor.__get__") [.builtin "object.__class__", .ref x, .ref C]) >>= ret) _ _ _
 refine wpAny_bind (wpAny_holding (wpAny_call (class_get (s := ⟨hp, g, d, t + 1, os⟩) (ox := ox) (od := od) X I hm ?_)))
 refine wpAny_pure ?_
 show wpAny _ _ (handedOut (.ref C)) _ _ _
 exact handed_on rfl (wpAny_pure h)
theorem findObj_any {a g : Value} {name : Str} (hc : (clsIn K C).isSome = true) (ha : findIn K (.ref C) name = some (some a)) (hg : specialIn K a "__get__" = some (some g)) (ht : takesIn K a = some true) : findObj K C od name = some (.bind g a) := by
 obtain ⟨cd, hc⟩ := Option.isSome_iff_exists.mp hc
 unfold findObj
 rw [hc, Option.bind_some, ha, Option.bind_some]
 dsimp only
 rw [hg, Option.bind_some]
 dsimp only
 rw [ht, Option.bind_some]
theorem kitx_exc (hov : excOver K C = true) (hga : findIn K (.ref C) "__getattribute__" = some (some (.builtin "BaseException.__getattribute__"))) (hgn : findIn K (.ref C) "__getattr__" = some none)
  (hs : subIn K (.ref C) (.type "BaseException") = some true) (ha : findIn K (.ref C) "__class__" = some (some (.builtin "object.__class__")))
  (hn : specialIn K (.builtin "object.__class__") "__get__" = some (some (.builtin "getset_descriptor.__get__"))) (htk : takesIn K (.builtin "object.__class__") = some true) (hm : mroIn K C (.type "object") = some true) :
  KitX K (.ref x) (.ref C) (fun h => InstAt h x ox C od) where
 ty := fun _ _ _ I => I.type
 it := fun _ _ X _ => by
  obtain ⟨cdD, hcD, _⟩ := any_some hov
  unfold clsIn at hcD
  split at hcD
  ·rename_i c' d' cd' sl' ho
   intro A' Q' E' s' k q
   unfold isType loadHead
   exact wpAny_bind (wpAny_loadPart (k _ _ (X _ _ ho)) (wpAny_pure q))
  ·cases hcD
 ne := fun h tp dd its n sl X htp => by
  obtain ⟨cdD, hcD, _⟩ := any_some hov
  refine Bool.eq_false_iff.mpr fun q => ?_
  have e : C = tp := Value.ref.inj (beq_iff_eq.mp q)
  subst e
  unfold clsIn at hcD
  split at hcD
  ·rename_i c' d' cd' sl' ho
   have z := (X _ _ ho).symm.trans htp
   cases z
  ·cases hcD
 ca := fun X I k => class_exc X I hga hgn hs (findObj_any (by obtain ⟨cd, hc, _⟩ := any_some hov; rw [hc]; rfl) ha hn htk) hm k
end
end PySem.W
namespace L2
open PySem PySem.Spec PyProof.Rows
structure XIs (K : PySem.W.Frag) (C : Addr) : Prop extends XCls K C where
 ca : PySem.W.findIn K (.ref C) "__class__" = some (some (.builtin "object.__class__"))
 cg : PySem.W.specialIn K (.builtin "object.__class__") "__get__" = some (some (.builtin "getset_descriptor.__get__"))
 ct : PySem.W.takesIn K (.builtin "object.__class__") = some true
 mo : PySem.W.mroIn K C (.type "object") = some true
noncomputable def rIsiX (K : PySem.W.Frag) : List V → Hp → VK → Prop := fun xs H Q => ∃ x C d0 c u b, xs = [.ref x, c] ∧ H x = some (XO C d0 x) ∧ (d0 = none ∨ ∃ dx fs, d0 = some dx ∧ H dx = some (XDt fs dx)) ∧ XIs K C ∧ RelV c u ∧ (∀ u', RelV c u' → u' = u) ∧ PySem.W.kitOne K (.ref C) u = some b ∧ Q (.bl b) H
section
variable {X : Cx} {K : PySem.W.Frag}
theorem c_isiX (hK : X.K = K := by rfl) : CallR X (.builtin "isinstance") (rIsiX K) := by
 subst hK
 intro pins s σ H xs us Q I r h
 obtain ⟨x, C, d0, c, u, b, rfl, ex, hd, xi, rc, uc, e, q⟩ := h
 obtain ⟨v, w', rfl, rx, rw'⟩ := vals2 r
 obtain rfl : v = Value.ref x := rx
 cases uc w' rw'
 obtain ⟨t0, a1, a2, a3, a4, a5, hx⟩ := XO.get I.hok ex
 have fin : ∀ od, PySem.W.InstAt s.heap x (PySem.W.excOb C d0 #[.ref t0, a1, a2, a3, a4, a5]) C od → wpAny (model X.prog X.w) X.A (call (.builtin "isinstance") [.ref x, u]) (EP X pins σ Q) X.xe s := fun od J =>
  PySem.W.kia_one (PySem.W.kitx_exc xi.ov xi.ga xi.gn xi.sb xi.ca xi.cg xi.ct xi.mo) I.kIn J e (fun z => nomatch z) fun tk => ⟨.bl b, H, I.tok tk, rfl, q⟩
 rcases hd with rfl | ⟨dx, fs, rfl, ed⟩
 ·exact fin none ⟨hx, rfl, rfl, trivial⟩
 ·obtain ⟨_, mA, hn, _⟩ := XDt.get I.hok ed
  obtain ⟨od, ho, _⟩ := lookIn_ns hn
  exact fin (some od) ⟨hx, rfl, rfl, ho⟩
variable {C f : Addr} {fd : FuncData} {ps : List Str} {k : Nat} {sp : Sp} {ds : List Value} {dvs : List V} {CX : CXT} {E : XK}
structure XDef (P : Program) (w : World) (K : PySem.W.Frag) (mg : Str → Option Value) (base : Heap) (k : Nat) (x : Str) (C : Addr) (ps : List Str) (sp : Sp) : Prop where
 ex : ∃ f fd, XMk K C f ∧ FnOk P w K mg base CX0 k f fd ps sp ∧ Binds K fd ps []
 at_ : mg x = some (.ref C)
noncomputable def XAt (C : Addr) (H : Hp) (x : Addr) (fs : List (Str × V)) : Prop := ∃ dx, H x = some (XO C (some dx) x) ∧ H dx = some (XDt fs dx) ∧ dx ≠ x
end
end L2
namespace L2
open PySem PySem.Spec PyProof.Rows
section
variable {X : Cx} {K : PySem.W.Frag}
theorem datBools {K : PySem.W.Frag} {H : Hp} : ∀ bs : List Bool, DatVs K H (bs.map PyData.bool) (bs.map V.bl)
 | [] => by simp only [List.map_nil, DatVs]
 | b :: r => by
  simp only [List.map_cons, DatVs]
  exact ⟨_, _, rfl, by simp only [DatV], datBools r⟩
theorem all_bool : ∀ bs : List Bool, (bs.map PyData.bool).all Shape.bool.has = true
 | [] => rfl
 | b :: r => by rw [List.map_cons, List.all_cons, all_bool r]; rfl
theorem countIn_bool (k : Bool) : ∀ bs : List Bool, countIn (.bool k) (bs.map PyData.bool) = (bs.count k : Int)
 | [] => rfl
 | b :: r => by
  rw [List.map_cons, countIn, countIn_bool k r, List.count_cons]
  simp only [same]
  cases b <;> cases k <;> simp <;> omega
noncomputable def rCountB (K : PySem.W.Frag) : V → List V → Hp → VK → Prop := fun x vs H Q => ∃ (a : Addr) (bs : List Bool) (k : Bool), x = .ref a ∧ vs = [.bl k] ∧ SqL K H a (bs.map V.bl) ∧ Q (.int (bs.count k : Nat)) H
theorem mt_countB (hK : X.K = K := by rfl) : MtR X "list.count" (rCountB K) := by
 subst hK
 intro pins s σ H x vs v us Q I rx rv h
 obtain ⟨a, bs, k, rfl, rfl, ha, q⟩ := h
 obtain rfl : v = Value.ref a := rx
 obtain ⟨u, rfl, ru⟩ := vals1 rv
 obtain rfl : u = Value.bool k := ru
 obtain ⟨its, r, pl, _⟩ := I.list ha
 obtain ⟨as, ra⟩ := I.readsAll _ _ its (datBools bs) r
 refine count_list_bools pl.isList ra (all_bool bs) ?_
 rw [countIn_bool]
 exact ⟨.int _, H, I.tok _, ⟨_, rfl⟩, q⟩
theorem isB_at (k : Bool) {bs : List Bool} (j : Nat) (h : j < (bs.map Value.bool).length) : isBoolOf k ((bs.map Value.bool)[j]) = (bs[j]'(by simpa using h) == k) := by
 simp [isBoolOf]
noncomputable def rIndexB (K : PySem.W.Frag) : V → List V → Hp → VK → Prop := fun x vs H Q => ∃ (a : Addr) (bs : List Bool) (k : Bool) (j : Nat), x = .ref a ∧ vs = [.bl k] ∧ SqL K H a (bs.map V.bl) ∧ bs[j]? = some k ∧ (∀ m, m < j → bs[m]? ≠ some k) ∧ Q (.int (j : Nat)) H
theorem mt_indexB (hK : X.K = K := by rfl) : MtR X "list.index" (rIndexB K) := by
 subst hK
 intro pins s σ H x vs v us Q I rx rv h
 obtain ⟨a, bs, k, j, rfl, rfl, ha, hj, hm, q⟩ := h
 obtain rfl : v = Value.ref a := rx
 obtain ⟨u, rfl, ru⟩ := vals1 rv
 obtain rfl : u = Value.bool k := ru
 obtain ⟨its, r, pl, hz⟩ := I.list ha
 obtain ⟨as, ra⟩ := I.readsAll _ _ its (datBools bs) r
 have eb := bls_of r
 have hlt : j < bs.length := (List.getElem?_eq_some_iff.mp hj).1
 have hlt2 : j < its.length := by rw [eb, List.length_map]; exact hlt
 obtain ⟨⟨cls, dd, data, sl⟩, ho, hc, n, hd⟩ := id pl.isList
 simp only at hc hd
 subst hc hd
 refine call_meets PySem.F.slot_list_index ⟨_, ho, rfl⟩ PySem.F.entry_list_index (PySem.F.args_list_index_2 _ _)
  (PySem.SeqAt.list_indexAt a its.toArray n dd sl (.bool k) (isBoolOf k) j (by simpa using hlt2) (by rw [List.length_map, sizeLine_eq] at hz; omega) ?_ ?_) ⟨ho, fun y hy => eq_isBoolOf k ra (all_bool bs) y (by simpa using hy) _ _, ⟨.int _, H, I.tok _, ⟨_, rfl⟩, q⟩⟩
 ·subst eb
  show isBoolOf k ((bs.map Value.bool)[j]) = true
  rw [isB_at k j hlt2]
  have : bs[j] = k := (List.getElem?_eq_some_iff.mp hj).2
  rw [this]; simp
 ·intro m hms hlm
  subst eb
  show isBoolOf k ((bs.map Value.bool)[m]'(by simpa using hms)) = false
  rw [isB_at k m (by simpa using hms)]
  have hmm : m < bs.length := by simpa using hms
  have := hm m hlm
  rw [List.getElem?_eq_getElem hmm] at this
  simpa using fun z => this (congrArg some z)
end
theorem seqG {t u : TS} {D : Ends} {σ : St} {H : Hp} (h : ∀ N : St → Hp → Prop, (∀ σ' H', u D σ' H' → N σ' H') → t { D with nx := N } σ H) : tSeq t u D σ H := h (u D) fun _ _ z => z
end L2
set_option maxHeartbeats 4000000
namespace J
open PySem PySem.Spec PyProof.Rows L2
structure QE (X : Cx) (e : Expr) (t : TE) : Prop where
 p : PE X e t
structure QT (X : Cx) (e : Expr) (t : TT) : Prop where
 p : PT X e t
structure QW (X : Cx) (e : Expr) (t : TT) : Prop where
 p : PW X e t
structure QA (X : Cx) (e : List Expr) (t : TA) : Prop where
 p : PA X e t
structure QS (X : Cx) (e : Stmt) (t : TS) : Prop where
 p : PS X e t
structure QSs (X : Cx) (e : List Stmt) (t : TS) : Prop where
 p : PSs X e t
structure QG (X : Cx) (e : Expr) (t : TG) : Prop where
 p : PG X e t
structure QI (X : Cx) (g e : Expr) (t : TI) : Prop where
 p : PI X g e t
structure QTs (X : Cx) (e : List Expr) (t : TT) : Prop where
 p : PTs X e t
structure QO (X : Cx) (e : Option Expr) (t : TO) : Prop where
 p : PO X e t
structure QPs (X : Cx) (pos : Pos) (keys : List (Option Expr)) (values : List Expr) (trs : List (TE × TE)) : Prop where
 p : PPs X pos keys values trs
theorem pw_pt {X : Cx} {e : Expr} {t : TT} (h : QW X e t) : QT X e t := ⟨h.p.pt⟩
theorem pss_nil {X : Cx} : QSs X [] tNext := ⟨L2.pss_nil ⟩
theorem pss_cons {X : Cx} {st : Stmt} {rest : List Stmt} {t : TS} {u : TS} (h1 : QS X st t) (h2 : QSs X rest u) : QSs X (st :: rest) (tSeq t u) := ⟨L2.pss_cons h1.p h2.p⟩
theorem pss_one {X : Cx} {st : Stmt} {t : TS} (h1 : QS X st t) : QSs X [st] t := ⟨L2.pss_one h1.p⟩
theorem ps_ret {X : Cx} {e : Expr} {te : TE} {pos : Pos} (he : QE X e te) : QS X (.Return (some e) pos) (tRet te) := ⟨L2.ps_ret he.p⟩
theorem ps_expr {X : Cx} {e : Expr} {te : TE} {pos : Pos} (he : QE X e te) (hs : swapsWith e none pos.line X.env = pure false := by rfl) : QS X (.Expr e pos) (tDrop te) := ⟨L2.ps_expr he.p hs⟩
theorem ps_if {X : Cx} {t : TS} {u : TS} {pos : Pos} {c : Expr} {a b : List Stmt} {tc : TT} (hc : QT X c tc) (ha : QSs X a t) (hb : QSs X b u) : QS X (.If c a b pos) (tIfS tc t u) := ⟨L2.ps_if hc.p ha.p hb.p⟩
theorem ps_setComp {X : Cx} {elt tg iter : Expr} {ifs : List Expr} {scope : Scope} {N : List Str} {caps : List (Option Nat)} {pos pos' spos : Pos} {wi : TI} {g : TG} {tt : TT} {te : TE} {i : Nat} {x : Str}
  (hN : X.N.Nodup) (hix : X.N[i]? = some x) (hx : X.env.scope.names.lookup x = some .local)
  (S : BlkScope scope N) (hcap : capOk X.N X.env scope N caps = true) (hfr : L2.freeOk X.env scope = true) (hc : X.calm = true) (hi : QI X tg iter wi)
  (hg : ∀ s₀ H₀ C fp, QG (blk X scope N s₀ H₀ C fp) tg g) (ht : ∀ s₀ H₀ C fp, QTs (blk X scope N s₀ H₀ C fp) ifs tt) (he : ∀ s₀ H₀ C fp, QE (blk X scope N s₀ H₀ C fp) elt te)
  (hsw : swapsWith (.ListComp elt [⟨tg, iter, ifs, 0⟩] scope pos) (some (.Name x pos')) spos.line X.env = pure true := by rfl)
  (hs : ∀ x, foldedSetIterable iter X.env x = pure x := by intro _; rfl) : QS X (.Assign [.Name x pos'] (.ListComp elt [⟨tg, iter, ifs, 0⟩] scope pos) spos) (tAsg (tComp caps wi g tt te) (gName i)) := ⟨L2.ps_setComp hN hix hx S hcap hfr hc hi.p (fun s₀ H₀ C fp => (hg s₀ H₀ C fp).p) (fun s₀ H₀ C fp => (ht s₀ H₀ C fp).p) (fun s₀ H₀ C fp => (he s₀ H₀ C fp).p) hsw hs⟩
theorem ps_set {X : Cx} {pos : Pos} {i : Nat} {x : Str} {e : Expr} {te : TE} {pos' : Pos} (hN : X.N.Nodup) (hi : X.N[i]? = some x) (hx : Loc X.env.scope x) (he : QE X e te) (hs : swapsWith e (some (.Name x pos')) pos.line X.env = pure false := by rfl) (hf : X.fn x = true ∨ X.env.scope.names.lookup x = some .local := by first | exact .inl rfl | exact .inr rfl | assumption) :
  QS X (.Assign [.Name x pos'] e pos) (tAsg te (gName i)) := ⟨L2.ps_set hN hi hx he.p hs hf⟩
theorem ps_dput {X : Cx} {o : Expr} {i : Expr} {value : Expr} {pos : Pos} {pos' : Pos} {td : TE} {ty : TE} {tv : TE} (hu : X.A.units + 1 < cLine) (ho : QE X o td) (hi : QE X i ty) (hv : QE X value tv) (hs : swapsWith value (some (.Subscript o i pos')) pos.line X.env = pure false) :
  QS X (.Assign [.Subscript o i pos'] value pos) (sDPut td ty tv) := ⟨L2.ps_dput hu ho.p hi.p hv.p hs⟩
theorem ps_for {X : Cx} {tg : Expr} {iter : Expr} {body : List Stmt} {wi : TI} {g : TG} {tb : TS} {pos : Pos} (hp : PassesOwn (model X.prog X.w) X.A X.env X.xe) (hc : X.calm = true) (hi : QI X tg iter wi) (hg : QG X tg g) (hb : QSs X body tb)
  (hs : ∀ x, foldedSetIterable iter X.env x = pure x := by intro _; rfl) : QS X (.For tg iter body [] pos) (tFor wi g tb) := ⟨L2.ps_for hp hc hi.p hg.p hb.p hs⟩
theorem pg_name {X : Cx} {pos : Pos} {i : Nat} {x : Str} (hN : X.N.Nodup) (hi : X.N[i]? = some x) (hx : Loc X.env.scope x) (hf : X.fn x = true ∨ X.env.scope.names.lookup x = some .local := by first | exact .inl rfl | exact .inr rfl | assumption) : QG X (.Name x pos) (gName i) := ⟨L2.pg_name hN hi hx hf⟩
theorem pi_range1 {X : Cx} {tg : Expr} {a : Expr} {ta : TA} {p pos : Pos} (hg : Gl X "range") (hm : X.mg "range" = none) (ha : QA X [a] ta) (hs : starEach [a] X.env = [(false, eval a X.env)] := by rfl) : QI X tg (.Call (.Name "range" p) [a] [] pos) (iRng1 ta) := ⟨L2.pi_range1 hg hm ha.p hs⟩
theorem pa_nil {X : Cx} : QA X [] tNil := ⟨L2.pa_nil ⟩
theorem pac {X : Cx} {e : Expr} {es : List Expr} {te : TE} {t : TA} (ha : QE X e te) (hr : QA X es t) (hs : notStar e = true := by rfl) : QA X (e :: es) (tCons te t) := ⟨L2.pac ha.p hr.p hs⟩
theorem pe_bl {X : Cx} {b j pos} : QE X (.Constant (.bool b) j pos) (tC (.bl b)) := ⟨L2.pe_bl ⟩
theorem pe_int {X : Cx} {i j pos} : QE X (.Constant (.int i) j pos) (tC (.int i)) := ⟨L2.pe_int ⟩
theorem pe_str {X : Cx} {x j pos} : QE X (.Constant (.str x) j pos) (tC (.str x)) := ⟨L2.pe_str ⟩
theorem pv {X : Cx} (i : Nat) {x : Str} {pos : Pos} (hN : X.N[i]? = some x := by rfl) (hv : Vis X.env.scope x := by first | exact Or.inl rfl | exact Or.inr (Or.inl rfl) | exact Or.inr (Or.inr rfl)) (hd : (x == ("__debug__" : Str)) = false := by decide)
  (hcd : (x == ("__classdict__" : Str)) = false := by decide) : QE X (.Name x pos) (tVar i) := ⟨L2.pv i hN hv hd hcd⟩
theorem pe_ty {X : Cx} {x : Str} {pos : Pos} (T : String) (hg : Gl X x) (hm : X.mg x = none) (hv : bootBuiltins x = some (.type T)) (hn : x ≠ "__name__" := by decide +kernel) (hd : (x == ("__debug__" : Str)) = false := by decide +kernel) : QE X (.Name x pos) (tC (.ty T)) := ⟨L2.pe_ty T hg hm hv hn hd⟩
theorem pe_op {X : Cx} {a : Expr} {b : Expr} {ta : TE} {tb : TE} {pos : Pos} {op : Operator} {r : R2} (ho : OpR X (binaryOp op) r) (ha : QE X a ta) (hb : QE X b tb) : QE X (.BinOp a op b pos) (tOp r ta tb) := ⟨L2.pe_op ho ha.p hb.p⟩
theorem pe_lst {X : Cx} {es : List Expr} {t : TA} {pos : Pos} (h : QA X es t) : QE X (.List es pos) (tLst t) := ⟨L2.pe_lst h.p⟩
theorem pe_disp  {X : Cx} {pos : Pos} {keys : List (Option Expr)} {values : List Expr} {trs : List (TE × TE)} (h : QPs X pos keys values trs) (hall : keys.all (·.isSome) = true) (hl : keys.length = values.length) (h0 : keys ≠ [])
  (h15 : keys.length ≤ 15) : QE X (.Dict keys values pos) (tDisp trs) := ⟨L2.pe_disp h.p hall hl h0 h15⟩
theorem pps_nil  {X : Cx} {pos : Pos} : QPs X pos [] [] [] := ⟨L2.pps_nil ⟩
theorem pps_cons  {X : Cx} {pos : Pos} {k v : Expr} {ks : List (Option Expr)} {vs : List Expr} {tk tv : TE} {trs : List (TE × TE)} (hk : QE X k tk) (hv : QE X v tv) (hr : QPs X pos ks vs trs) :
  QPs X pos (some k :: ks) (v :: vs) ((tk, tv) :: trs) := ⟨L2.pps_cons hk.p hv.p hr.p⟩
theorem pe_slice {X : Cx} {e : Expr} {te : TE} {lo : Option Expr} {hi : Option Expr} {tl : TO} {th : TO} {pos : Pos} {p2 : Pos} {r : V → Option Int → Option Int → Hp → VK → Prop} (hr : SlR X r) (he : QE X e te) (hl : QO X lo tl) (hu : QO X hi th) : QE X (.Subscript e (.Slice lo hi none p2) pos) (tSl r te tl th) := ⟨L2.pe_slice hr he.p hl.p hu.p⟩
theorem po_none {X : Cx} : QO X none tNoPart := ⟨L2.po_none ⟩
theorem po_some {X : Cx} {e : Expr} {te : TE} (h : QE X e te) : QO X (some e) (tPart te) := ⟨L2.po_some h.p⟩
theorem pe_dget {X : Cx} {o : Expr} {i : Expr} {pos : Pos} {td : TE} {ty : TE} (hu : X.A.units + 1 < cLine) (ho : QE X o td) (hi : QE X i ty) (hs : NoSl i) : QE X (.Subscript o i pos) (tDGet td ty) := ⟨L2.pe_dget hu ho.p hi.p hs⟩
theorem pe_ix {X : Cx} {a : Expr} {b : Expr} {ta : TE} {tb : TE} {pos : Pos} {r : R2} (hr : IxR X r) (ha : QE X a ta) (hb : QE X b tb) (hs : PlainIx b) : QE X (.Subscript a b pos) (tOp r ta tb) := ⟨L2.pe_ix hr ha.p hb.p hs⟩
theorem pe_comp {X : Cx} {elt tg iter : Expr} {ifs : List Expr} {scope : Scope} {N : List Str} {caps : List (Option Nat)} {pos : Pos} {wi : TI} {g : TG} {tt : TT} {te : TE}
  (S : BlkScope scope N) (hcap : capOk X.N X.env scope N caps = true) (hfr : L2.freeOk X.env scope = true) (hc : X.calm = true) (hi : QI X tg iter wi)
  (hg : ∀ s₀ H₀ C fp, QG (blk X scope N s₀ H₀ C fp) tg g) (ht : ∀ s₀ H₀ C fp, QTs (blk X scope N s₀ H₀ C fp) ifs tt) (he : ∀ s₀ H₀ C fp, QE (blk X scope N s₀ H₀ C fp) elt te)
  (hs : ∀ x, foldedSetIterable iter X.env x = pure x := by intro _; rfl) : QE X (.ListComp elt [⟨tg, iter, ifs, 0⟩] scope pos) (tComp caps wi g tt te) := ⟨L2.pe_comp S hcap hfr hc hi.p (fun s₀ H₀ C fp => (hg s₀ H₀ C fp).p) (fun s₀ H₀ C fp => (ht s₀ H₀ C fp).p) (fun s₀ H₀ C fp => (he s₀ H₀ C fp).p) hs⟩
theorem pcb {X : Cx} {e : Expr} {es : List Expr} {t : TA} {x : Str} {p : Pos} {pos : Pos} {id : String} {r : List V → Hp → VK → Prop} (hc : CallR X (.builtin id) r) (hg : Gl X x) (hm : X.mg x = none) (hv : bootBuiltins x = some (.builtin id)) (ha : QA X (e :: es) t) (hn : x ≠ "__name__" := by decide +kernel) (hdb : (x == ("__debug__" : Str)) = false := by decide +kernel)
  (hs : (e :: es).all notStar = true := by rfl) : QE X (.Call (.Name x p) (e :: es) [] pos) (tCB r t) := ⟨L2.pcb hc hg hm hv ha.p hn hdb hs⟩
theorem pe_own {X : Cx} {e : Expr} {es : List Expr} {t : TA} {x : Str} {p : Pos} {pos : Pos} {k : Nat} {ps : List Str} {sp : Sp} (D : Def X.prog X.w X.K X.mg X.base k x ps sp) (hr : Room k X.A) (hg : Gl X x) (hx : Passes CX0 X E0) (ha : QA X (e :: es) t) (hdb : (x == ("__debug__" : Str)) = false := by decide +kernel) (hs : (e :: es).all notStar = true := by rfl) :
  QE X (.Call (.Name x p) (e :: es) [] pos) (tCall sp [] E0 t) := ⟨L2.pe_own D hr hg hx ha.p hdb hs⟩
theorem pe_bmK {X : Cx} {K : PySem.W.Frag} {o : Expr} {e : Expr} {es : List Expr} {to : TE} {t : TA} {name : Str} {apos : Pos} {cpos : Pos} {T : String} {id : String} {r : V → List V → Hp → VK → Prop} (pa : PlainAttrs T) (slot : Slot T name id) (hty : typeOf (.builtin id) = pure (.type "method_descriptor")) (hm : MtR X id r) (ho : QE X o to) (ha : QA X (e :: es) t)
  (hbase : attributeBase o name X.env (eval o X.env) = eval o X.env := by rfl) (hs : (e :: es).all notStar = true := by rfl) (hfew : decide ((e :: es).length + 0 + 0 < 30) = true := by rfl)
  (hline : (apos.endLine == cpos.line) = true := by rfl) (hK : X.K = K := by rfl) : QE X (.Call (.Attribute o name apos) (e :: es) [] cpos) (tBM K T r to t) := ⟨L2.pe_bmK pa slot hty hm ho.p ha.p hbase hs hfew hline hK⟩
theorem pts_nil  {X : Cx} : QTs X [] tYes := ⟨L2.pts_nil ⟩
theorem pt_cmpR {X : Cx} {a : Expr} {b : Expr} {ta : TE} {tb : TE} {pos : Pos} {op : CmpOp} {r : R2} (ho : OpR X (compareOp op) r) (ha : QE X a ta) (hb : QE X b tb) (hm : behindInMarks op b = false) : QT X (.Compare a [op] [b] pos) (tTest (tOp r ta tb)) := ⟨L2.pt_cmpR ho ha.p hb.p hm⟩
theorem pt_not {X : Cx} {a : Expr} {pos : Pos} {tA : TT} (ha : QT X a tA) : QT X (.UnaryOp .Not a pos) (tNot tA) := ⟨L2.pt_not ha.p⟩
theorem pt_val {X : Cx} {e : Expr} {t : TE} (h : QE X e t) (he : ∀ whole, isTrue e X.env whole = (do let v ← whole; standAt e.pos; holding [v] (truthy v)) := by intro _; rfl) : QT X e (tB t) := ⟨L2.pt_val h.p he⟩
theorem pw_or {X : Cx} {a : Expr} {b : Expr} {pos : Pos} {tA : TT} {tB' : TT} {rest : List Expr} (ha : QT X a tA) (hb : QW X (.BoolOp .Or (b :: rest) pos) tB') : QW X (.BoolOp .Or (a :: b :: rest) pos) (tOr tA tB') := ⟨L2.pw_or ha.p hb.p⟩
theorem pw_or1 {X : Cx} {a : Expr} {pos : Pos} {tA : TT} (ha : QT X a tA) : QW X (.BoolOp .Or [a] pos) tA := ⟨L2.pw_or1 ha.p⟩
section
variable {P : Program} {w : World} {K : PySem.W.Frag} {mg : Str → Option Value} {base : Heap}
theorem defQ {x : Str} {st : Stmt} {N ps : List Str} {k : Nat} {sp : Sp} (F : Src K mg x ps st) (S : FnScope N ps (defScope st)) (len : ∀ vs H Q E, sp vs H Q E → vs.length = ps.length)
  (hbody : ∀ (f : Addr) (cdv : Value) (A : Around) (outer : List Env) (s : Shared) (H : Hp) (vs : List V) (Q : VK) (E : XK), Room k (A.deeper (envOfC x (defScope st) s.heap.objs.size f cdv)) → sp vs H Q E →
   ∃ t, QSs (cxOf CX0 P w K mg base N x (defScope st) f cdv A outer s H E).nox (defBody st) t ∧ t { nx := fun _ H' => Q .non H', rt := Q } (start N vs) H) : Def P w K mg base (k + 1) x ps sp :=
 F.def S len fun f cdv A outer s H vs Q E hr h => by
  obtain ⟨t, a, b⟩ := hbody f cdv A outer s H vs Q E hr h
  exact ⟨t, a.p, b⟩
theorem by1 {p : List Value → Prop} (h : ∀ a, p [a]) (us : List Value) (e : us.length = 1) : p us := by
 cases us with
 | nil => cases e
 | cons a r =>
  have e : r = [] := List.eq_nil_of_length_eq_zero (Nat.succ.inj e)
  subst e; exact h a
theorem by2 {p : List Value → Prop} (h : ∀ a b, p [a, b]) (us : List Value) (e : us.length = 2) : p us := by
 cases us with
 | nil => cases e
 | cons a r => exact by1 (p := fun r => p (a :: r)) (h a) r (Nat.succ.inj e)
theorem by3 {p : List Value → Prop} (h : ∀ a b c, p [a, b, c]) (us : List Value) (e : us.length = 3) : p us := by
 cases us with
 | nil => cases e
 | cons a r => exact by2 (p := fun r => p (a :: r)) (h a) r (Nat.succ.inj e)
theorem src_mk {x : Str} {st : Stmt} {f : Addr} {oc : Value} {od an : Option Addr} {osl : Array (Option Value)} {kV doc pm cdv ct : Value} {h : Heap} {ps : List Str} (X : K.In h) (G : h.Ns mainGlobals mg)
  (a : PySem.W.nsIn K mainGlobals x = some (some (.ref f))) (l : K.lookup f = some ⟨oc, od, .func (PySem.W.fnOf x x (defArgs st) (defBody st) (defScope st) .none kV doc pm an cdv ct), osl⟩)
  (c : PySem.W.codeIn K cdv x = true) (k : PySem.W.keepIn K (.ref f) = true)
  (b : ∀ (kV doc pm : Value) (an : Option Addr) (cdv ct : Value) (us : List Value), us.length = ps.length → bindArgs (PySem.W.fnOf x x (defArgs st) (defBody st) (defScope st) .none kV doc pm an cdv ct) ⟨us, []⟩ = pure (ps.zip us)) : Src K mg x ps st :=
 ⟨f, _, fun_mk (st := st) l c k, PySem.W.mg_of X G a, (fun_mk (st := st) l c k).binds b⟩
end
end J
namespace M
open PySem L2
inductive D where
 | non | bl (b : Bool) | int (i : Int) | str (x : Str) | tup (ds : List D) | lst (ds : List D) | dct (ks : List Key) (ds : List D) | loc (n : Nat) | ty (n : String) | scr (ns : List Int) | stc (xs : List Str) | fd | fn (a : Addr)
inductive MO where
 | lst (ds : List D) | dct (ks : List Key) (ds : List D) | feed (n : Nat) | ins (C : Addr) (ks : List Str) (ds : List D) | ddt (F : Addr → List Addr → Heap → Prop) (ks : List D)
noncomputable def fd3 (l s d : Int) : List (Key × V) := [(.inr "left", .int l), (.inr "seed", .int s), (.inr "drawn", .int d)]
noncomputable abbrev Sto := List (Option MO)
noncomputable def MO.d : MO → D
 | .lst ds => .lst ds
 | .dct ks ds => .dct ks ds
 | .feed _ => .fd
 | .ins _ _ _ => .fd
 | .ddt _ _ => .fd
inductive R where
 | dat (d : D) | new (o : MO)
noncomputable def R.d : R → D
 | .dat d => d
 | .new o => o.d
theorem al {H : Hp} {p : Addr} {o : HO} (hp : H p = none) : Same H (upd H p o) := fun b o' e => by rw [upd_ne (ne_of_none e hp)]; exact e
structure Wd where
 B : Hp
 r : Nat → Option Addr
structure Wd.le (w w' : Wd) : Prop where
 b : Same w.B w'.B
 r : ∀ n a, w.r n = some a → w'.r n = some a
theorem Wd.le.refl {w : Wd} : w.le w := ⟨Same.refl _, fun _ _ h => h⟩
theorem Wd.le.trans {w w1 w2 : Wd} (h : w.le w1) (g : w1.le w2) : w.le w2 := ⟨h.b.trans g.b, fun n a e => g.r n a (h.r n a e)⟩
mutual
noncomputable def Rep (K : PySem.W.Frag) (w : Wd) : D → V → Prop
 | .non, v => v = .non
 | .bl b, v => v = .bl b
 | .int i, v => v = .int i
 | .str x, v => v = .str x
 | .ty n, v => v = .ty n
 | .fd, v => ∃ a, v = .ref a
 | .fn a, v => v = .ref a
 | .loc n, v => ∃ a, w.r n = some a ∧ v = .ref a
 | .tup ds, v => ∃ a xs, v = .ref a ∧ w.B a = some (.tup xs) ∧ Reps K w ds xs
 | .stc ss, v => ∃ a, v = .ref a ∧ SqT K w.B a (ss.map V.str)
 | .lst ds, v => ∃ a xs, v = .ref a ∧ w.B a = some (.lst xs) ∧ Reps K w ds xs
 | .scr ns, v => ∃ a, v = .ref a ∧ SqL K w.B a (ns.map V.int)
 | .dct ks ds, v => ∃ a kvs, v = .ref a ∧ w.B a = some (.dK kvs) ∧ kvs.map (·.1) = ks ∧ Reps K w ds (kvs.map (·.2))
noncomputable def Reps (K : PySem.W.Frag) (w : Wd) : List D → List V → Prop
 | [], xs => xs = []
 | d :: ds, xs => ∃ x r, xs = x :: r ∧ Rep K w d x ∧ Reps K w ds r
end
mutual
theorem Rep.le {K : PySem.W.Frag} {w w' : Wd} (e : w.le w') : ∀ (d : D) (v : V), Rep K w d v → Rep K w' d v
 | .non, _, h => by simpa [Rep] using h
 | .bl b, _, h => by simpa [Rep] using h
 | .int i, _, h => by simpa [Rep] using h
 | .str x, _, h => by simpa [Rep] using h
 | .ty x, _, h => by simpa [Rep] using h
 | .fd, _, h => by simpa [Rep] using h
 | .fn _, _, h => by simpa [Rep] using h
 | .loc n, v, h => by
  simp only [Rep] at h ⊢
  obtain ⟨a, h1, h2⟩ := h
  exact ⟨a, e.r _ _ h1, h2⟩
 | .lst ds, v, h => by
  simp only [Rep] at h ⊢
  obtain ⟨a, xs, h1, h2, h3⟩ := h
  exact ⟨a, xs, h1, e.b _ _ h2, Reps.le e ds xs h3⟩
 | .scr ns, v, h => by
  simp only [Rep] at h ⊢
  obtain ⟨a, h1, h2⟩ := h
  exact ⟨a, h1, e.b.seq h2⟩
 | .tup ds, v, h => by
  simp only [Rep] at h ⊢
  obtain ⟨a, xs, h1, h2, h3⟩ := h
  exact ⟨a, xs, h1, e.b _ _ h2, Reps.le e ds xs h3⟩
 | .stc ns, v, h => by
  simp only [Rep] at h ⊢
  obtain ⟨a, h1, h2⟩ := h
  exact ⟨a, h1, SqT.same e.b h2⟩
 | .dct ks ds, v, h => by
  simp only [Rep] at h ⊢
  obtain ⟨a, xs, h1, h2, h3, h4⟩ := h
  exact ⟨a, xs, h1, e.b _ _ h2, h3, Reps.le e ds _ h4⟩
theorem Reps.le {K : PySem.W.Frag} {w w' : Wd} (e : w.le w') : ∀ (ds : List D) (xs : List V), Reps K w ds xs → Reps K w' ds xs
 | [], _, h => by simpa [Reps] using h
 | d :: ds, xs, h => by
  simp only [Reps] at h ⊢
  obtain ⟨x, r, h1, h2, h3⟩ := h
  exact ⟨x, r, h1, Rep.le e d x h2, Reps.le e ds r h3⟩
end
section
variable {K : PySem.W.Frag} {w w' : Wd}
theorem Reps.nil : Reps K w [] [] := by simp [Reps]
theorem Reps.cons {d : D} {v : V} {ds : List D} {vs : List V} (h : Rep K w d v) (t : Reps K w ds vs) : Reps K w (d :: ds) (v :: vs) := by
 simp only [Reps]; exact ⟨v, vs, rfl, h, t⟩
theorem Reps.length : ∀ {ds : List D} {vs : List V}, Reps K w ds vs → vs.length = ds.length
 | [], _, h => by simp only [Reps] at h; subst h; rfl
 | d :: ds, vs, h => by
  simp only [Reps] at h
  obtain ⟨x, r, rfl, _, h⟩ := h
  simp [Reps.length h]
theorem Reps.get : ∀ {ds : List D} {vs : List V} {i : Nat} {d : D}, Reps K w ds vs → ds[i]? = some d → ∃ v, vs[i]? = some v ∧ Rep K w d v
 | [], _, _, _, _, e => by simp at e
 | d :: ds, vs, 0, d', h, e => by
  simp only [Reps] at h
  obtain ⟨x, r, rfl, h1, h⟩ := h
  simp at e; subst e
  exact ⟨x, rfl, h1⟩
 | d :: ds, vs, i + 1, d', h, e => by
  simp only [Reps] at h
  obtain ⟨x, r, rfl, h1, h⟩ := h
  obtain ⟨v, e1, e2⟩ := Reps.get (i := i) h (by simpa using e)
  exact ⟨v, by simpa using e1, e2⟩
theorem Reps.append : ∀ {ds es : List D} {vs us : List V}, Reps K w ds vs → Reps K w es us → Reps K w (ds ++ es) (vs ++ us)
 | [], _, _, _, h, g => by simp only [Reps] at h; subst h; exact g
 | d :: ds, es, vs, us, h, g => by
  simp only [Reps] at h
  obtain ⟨x, r, rfl, h1, h⟩ := h
  exact Reps.cons h1 (Reps.append h g)
theorem Reps.snoc {ds : List D} {vs : List V} {d : D} {v : V} (h : Reps K w ds vs) (g : Rep K w d v) : Reps K w (ds ++ [d]) (vs ++ [v]) := h.append (.cons g .nil)
theorem Reps.take : ∀ (n : Nat) {ds : List D} {vs : List V}, Reps K w ds vs → Reps K w (ds.take n) (vs.take n)
 | 0, _, _, _ => by simp [Reps]
 | n + 1, [], _, h => by simp only [Reps] at h; subst h; simp [Reps]
 | n + 1, d :: ds, vs, h => by
  simp only [Reps] at h
  obtain ⟨x, r, rfl, h1, h⟩ := h
  exact Reps.cons h1 (Reps.take n h)
theorem Reps.drop : ∀ (n : Nat) {ds : List D} {vs : List V}, Reps K w ds vs → Reps K w (ds.drop n) (vs.drop n)
 | 0, _, _, h => h
 | n + 1, [], _, h => by simp only [Reps] at h; subst h; simp [Reps]
 | n + 1, d :: ds, vs, h => by
  simp only [Reps] at h
  obtain ⟨x, r, rfl, h1, h⟩ := h
  exact Reps.drop n h
end
noncomputable def RepO (K : PySem.W.Frag) (w : Wd) : MO → HO → Prop
 | .lst ds, u => ∃ xs, u = .lst xs ∧ Reps K w ds xs
 | .dct ks ds, u => ∃ kvs, u = .dK kvs ∧ kvs.map (·.1) = ks ∧ Reps K w ds (kvs.map (·.2))
 | .feed n, u => ∃ l s : Int, u = .dK (fd3 l s n) ∧ 0 ≤ l ∧ 0 ≤ s ∧ s < 1000003
 | .ins C ks ds, u => ∃ dx fs, u = .ins C dx fs ∧ fs.map (·.1) = ks ∧ Reps K w ds (fs.map (·.2))
 | .ddt F ks, u => ∃ (a : Addr) (bs : List Addr), u = .ext (F a bs) ∧ Reps K w ks (bs.map V.ref)
theorem RepO.le {K : PySem.W.Frag} {w w' : Wd} (e : w.le w') : ∀ {o : MO} {u : HO}, RepO K w o u → RepO K w' o u
 | .lst ds, u, ⟨xs, h1, h2⟩ => ⟨xs, h1, h2.le e⟩
 | .dct ks ds, u, ⟨xs, h1, h2, h3⟩ => ⟨xs, h1, h2, h3.le e⟩
 | .feed n, u, h => h
 | .ins C ks ds, u, ⟨dx, fs, h1, h2, h3⟩ => ⟨dx, fs, h1, h2, h3.le e⟩
 | .ddt F ks, u, ⟨a, bs, h1, h2⟩ => ⟨a, bs, h1, h2.le e⟩
structure Ok (K : PySem.W.Frag) (w : Wd) (H : Hp) (S : Sto) : Prop where
 base : Same w.B H
 live : ∀ n o, S[n]? = some (some o) → ∃ a u, w.r n = some a ∧ w.B a = none ∧ H a = some u ∧ RepO K w o u
 inj : ∀ n m o o', S[n]? = some (some o) → S[m]? = some (some o') → w.r n = w.r m → n = m
 top : ∀ n, S.length ≤ n → w.r n = none
noncomputable def RepR (K : PySem.W.Frag) (w : Wd) (H : Hp) (S : Sto) : R → V → Prop
 | .dat d, v => Rep K w d v
 | .new o, v => ∃ a u, v = .ref a ∧ w.B a = none ∧ H a = some u ∧ RepO K w o u ∧ ∀ n o', S[n]? = some (some o') → w.r n ≠ some a
noncomputable def EnvR (K : PySem.W.Frag) (w : Wd) (δ : List (Option D)) (σ : St) : Prop := δ.length = σ.length ∧ ∀ (i : Nat) (d : D), δ[i]? = some (some d) → ∃ v, σ[i]? = some (some v) ∧ Rep K w d v
theorem EnvR.le {K : PySem.W.Frag} {w w' : Wd} {δ : List (Option D)} {σ : St} (h : EnvR K w δ σ) (e : w.le w') : EnvR K w' δ σ := ⟨h.1, fun i d q => by
 obtain ⟨v, h1, h2⟩ := h.2 i d q
 exact ⟨v, h1, h2.le e⟩⟩
theorem EnvR.set {K : PySem.W.Frag} {w : Wd} {δ : List (Option D)} {σ : St} {d : D} {v : V} (h : EnvR K w δ σ) (g : Rep K w d v) (i : Nat) : EnvR K w (δ.set i (some d)) (σ.set i (some v)) := by
 refine ⟨by simp [h.1], fun j e q => ?_⟩
 by_cases hij : i = j
 ·subst hij
  rw [List.getElem?_set] at q ⊢
  rw [if_pos rfl] at q ⊢
  by_cases hl : i < δ.length
  ·rw [if_pos hl] at q
   rw [if_pos (by rw [← h.1]; exact hl)]
   have : d = e := by simpa using q
   subst this
   exact ⟨v, rfl, g⟩
  ·rw [if_neg hl] at q; cases q
 ·rw [List.getElem?_set_ne hij] at q ⊢
  exact h.2 j e q
section
variable {K : PySem.W.Frag} {w w' : Wd} {H H' : Hp} {S S' : Sto}
theorem freeze {r : R} {v : V} (k : Ok K w H S) (h : RepR K w H S r v) : ∃ w', w.le w' ∧ Ok K w' H S ∧ Rep K w' r.d v := by
 cases r with
 | dat d => exact ⟨w, .refl, k, h⟩
 | new o =>
  obtain ⟨a, u, rfl, hb, ha, ho, hn⟩ := h
  have le : w.le ⟨upd w.B a u, w.r⟩ := ⟨al hb, fun _ _ e => e⟩
  refine ⟨⟨upd w.B a u, w.r⟩, le, ⟨fun b o' e => ?_, fun n o' e => ?_, k.inj, k.top⟩, ?_⟩
  ·by_cases hba : b = a
   ·subst hba
    have e : upd w.B b u b = some o' := e
    rw [upd_same] at e; rw [ha]; exact e
   ·have e : upd w.B a u b = some o' := e
    rw [upd_ne hba] at e; exact k.base b o' e
  ·obtain ⟨a', u', h1, h2, h3, h4⟩ := k.live n o' e
   have : a' ≠ a := by intro z; subst z; exact hn n o' e h1
   exact ⟨a', u', h1, by show upd w.B a u a' = none; rw [upd_ne this]; exact h2, h3, h4.le le⟩
  ·cases o with
   | lst ds =>
    obtain ⟨xs, rfl, h⟩ := ho
    show Rep K _ (.lst ds) _
    simp only [Rep]
    exact ⟨a, xs, rfl, upd_same, h.le le⟩
   | dct ks ds =>
    obtain ⟨kvs, rfl, h1, h⟩ := ho
    show Rep K _ (.dct ks ds) _
    simp only [Rep]
    exact ⟨a, kvs, rfl, upd_same, h1, h.le le⟩
   | feed n =>
    show Rep K _ .fd _
    simp only [Rep]
    exact ⟨a, rfl⟩
   | ins C ks ds =>
    show Rep K _ .fd _
    simp only [Rep]
    exact ⟨a, rfl⟩
   | ddt F ks =>
    show Rep K _ .fd _
    simp only [Rep]
    exact ⟨a, rfl⟩
theorem store {o : MO} {v : V} (k : Ok K w H S) (h : RepR K w H S (.new o) v) : ∃ w', w.le w' ∧ Ok K w' H (S ++ [some o]) ∧ Rep K w' (.loc S.length) v := by
 obtain ⟨a, u, rfl, hb, ha, ho, hn⟩ := h
 let r' : Nat → Option Addr := fun n => if n = S.length then some a else w.r n
 have le : w.le ⟨w.B, r'⟩ := ⟨Same.refl _, fun n b e => by
  have : n ≠ S.length := by
   intro z; subst z
   rw [k.top _ (Nat.le_refl _)] at e; cases e
  show (if n = S.length then some a else w.r n) = some b
  rw [if_neg this]; exact e⟩
 have at_ : ∀ n o', (S ++ [some o])[n]? = some (some o') → (n = S.length ∧ o' = o) ∨ (n < S.length ∧ S[n]? = some (some o')) := fun n o' e => by
  by_cases hl : n < S.length
  ·rw [List.getElem?_append_left hl] at e
   exact .inr ⟨hl, e⟩
  ·rw [List.getElem?_append_right (by omega)] at e
   have : n - S.length = 0 := by
    cases q : n - S.length with
    | zero => rfl
    | succ j => rw [q] at e; simp at e
   rw [this] at e
   have e : o = o' := by simpa using e
   exact .inl ⟨by omega, e.symm⟩
 refine ⟨⟨w.B, r'⟩, le, ⟨k.base, fun n o' e => ?_, fun n m o1 o2 e1 e2 e => ?_, fun n hn => ?_⟩, ?_⟩
 ·rcases at_ n o' e with ⟨rfl, rfl⟩ | ⟨hl, e⟩
  ·exact ⟨a, u, by show (if _ then _ else _) = _; rw [if_pos rfl], hb, ha, ho.le le⟩
  ·obtain ⟨a', u', h1, h2, h3, h4⟩ := k.live n o' e
   exact ⟨a', u', le.r _ _ h1, h2, h3, h4.le le⟩
 ·rcases at_ n o1 e1 with ⟨rfl, rfl⟩ | ⟨hl, q1⟩
  ·rcases at_ m o2 e2 with ⟨rfl, rfl⟩ | ⟨hl2, q2⟩
   ·rfl
   ·exfalso
    have e : (if S.length = S.length then some a else w.r S.length) = (if m = S.length then some a else w.r m) := e
    rw [if_pos rfl, if_neg (by omega)] at e
    exact hn m o2 q2 e.symm
  ·rcases at_ m o2 e2 with ⟨rfl, rfl⟩ | ⟨hl2, q2⟩
   ·exfalso
    have e : (if n = S.length then some a else w.r n) = (if S.length = S.length then some a else w.r S.length) := e
    rw [if_pos rfl, if_neg (by omega)] at e
    exact hn n o1 q1 e
   ·have e : (if n = S.length then some a else w.r n) = (if m = S.length then some a else w.r m) := e
    rw [if_neg (by omega), if_neg (by omega)] at e
    exact k.inj n m o1 o2 q1 q2 e
 ·rw [List.length_append] at hn
  have : n ≠ S.length := by simp at hn; omega
  show (if n = S.length then some a else w.r n) = none
  rw [if_neg this]
  exact k.top n (by simp at hn; omega)
 ·simp only [Rep]
  exact ⟨a, by show (if _ then _ else _) = _; rw [if_pos rfl], rfl⟩
theorem Ok.alloc {p : Addr} {o : HO} (k : Ok K w H S) (hp : H p = none) : Ok K w (upd H p o) S :=
 ⟨k.base.trans (al hp), fun n o' e => by
  obtain ⟨a, u, h1, h2, h3, h4⟩ := k.live n o' e
  exact ⟨a, u, h1, h2, al hp _ _ h3, h4⟩, k.inj, k.top⟩
theorem Ok.free {p : Addr} (k : Ok K w H S) (hp : H p = none) : w.B p = none := k.base.free hp
theorem Ok.fresh {p : Addr} {o : HO} {m : MO} (k : Ok K w H S) (hp : H p = none) (h : RepO K w m o) : RepR K w (upd H p o) S (.new m) (.ref p) :=
 ⟨p, o, rfl, k.free hp, upd_same, h, fun n o' e z => by
  obtain ⟨a, u, h1, h2, h3, h4⟩ := k.live n o' e
  rw [z] at h1; cases h1
  rw [hp] at h3; cases h3⟩
theorem Ok.newTup {p : Addr} {ds : List D} {xs : List V} (k : Ok K w H S) (hp : H p = none) (h : Reps K w ds xs) : ∃ w', w.le w' ∧ Ok K w' (upd H p (.tup xs)) S ∧ Rep K w' (.tup ds) (.ref p) := by
 have hb := k.free hp
 have le : w.le ⟨upd w.B p (.tup xs), w.r⟩ := ⟨al hb, fun _ _ e => e⟩
 refine ⟨⟨upd w.B p (.tup xs), w.r⟩, le, ⟨fun b o e => ?_, fun n o e => ?_, k.inj, k.top⟩, ?_⟩
 ·by_cases hbp : b = p
  ·subst hbp
   have e : upd w.B b (.tup xs) b = some o := e
   rw [upd_same] at e ⊢; exact e
  ·have e : upd w.B p (.tup xs) b = some o := e
   rw [upd_ne hbp] at e ⊢; exact k.base b o e
 ·obtain ⟨a, u, h1, h2, h3, h4⟩ := k.live n o e
  have hne : a ≠ p := ne_of_none h3 hp
  exact ⟨a, u, h1, by show upd w.B p _ a = none; rw [upd_ne hne]; exact h2, by rw [upd_ne hne]; exact h3, h4.le le⟩
 ·simp only [Rep]
  exact ⟨p, xs, rfl, upd_same, h.le le⟩
theorem Ok.put {n : Nat} {a : Addr} {o o' : MO} {u' : HO} (k : Ok K w H S) (e : S[n]? = some (some o)) (ha : w.r n = some a) (h : RepO K w o' u') : Ok K w (upd H a u') (S.set n (some o')) := by
 have hn : n < S.length := by
  rcases Nat.lt_or_ge n S.length with h | h
  ·exact h
  ·rw [List.getElem?_eq_none h] at e; cases e
 have at_ : ∀ m q, (S.set n (some o'))[m]? = some (some q) → (m = n ∧ q = o') ∨ (m ≠ n ∧ S[m]? = some (some q)) := fun m q z => by
  by_cases hm : n = m
  ·subst hm
   rw [List.getElem?_set, if_pos rfl, if_pos hn] at z
   have z : o' = q := by simpa using z
   exact .inl ⟨rfl, z.symm⟩
  ·rw [List.getElem?_set_ne hm] at z
   exact .inr ⟨fun y => hm y.symm, z⟩
 obtain ⟨a0, u0, h1, h2, h3, _⟩ := k.live n o e
 rw [ha] at h1; cases h1
 refine ⟨fun b q z => ?_, fun m q z => ?_, fun m l q q' z z' y => ?_, fun m hm => k.top m (by simpa using hm)⟩
 ·rw [upd_ne (by intro y; subst y; rw [h2] at z; cases z)]
  exact k.base b q z
 ·rcases at_ m q z with ⟨rfl, rfl⟩ | ⟨hm, z⟩
  ·exact ⟨a, u', ha, h2, upd_same, h⟩
  ·obtain ⟨b, u, g1, g2, g3, g4⟩ := k.live m q z
   have : b ≠ a := by
    intro y; subst y
    exact hm (k.inj m n q o z e (g1.trans ha.symm))
   exact ⟨b, u, g1, g2, by rw [upd_ne this]; exact g3, g4⟩
 ·have old : ∀ m q, (S.set n (some o'))[m]? = some (some q) → ∃ q0, S[m]? = some (some q0) := fun m q z => by
   rcases at_ m q z with ⟨rfl, rfl⟩ | ⟨hm, z⟩
   ·exact ⟨o, e⟩
   ·exact ⟨q, z⟩
  obtain ⟨q0, z0⟩ := old m q z
  obtain ⟨q1, z1⟩ := old l q' z'
  exact k.inj m l q0 q1 z0 z1 y
end
noncomputable def see (S : Sto) : D → D
 | .loc n => match S[n]? with
  | some (some o) => o.d
  | _ => .loc n
 | d => d
section
variable {K : PySem.W.Frag} {w : Wd} {H : Hp} {S : Sto} {v : V}
theorem see_lst {d : D} {ds : List D} (k : Ok K w H S) (h : Rep K w d v) (e : see S d = .lst ds) : ∃ a xs, v = .ref a ∧ H a = some (.lst xs) ∧ Reps K w ds xs := by
 cases d with
 | loc n =>
  simp only [Rep] at h
  obtain ⟨a, h1, rfl⟩ := h
  simp only [see] at e
  split at e
  next o q =>
   obtain ⟨a', u, g1, g2, g3, g4⟩ := k.live n o q
   rw [h1] at g1; cases g1
   cases o with
   | lst es =>
    have : es = ds := by simpa [MO.d] using e
    subst this
    obtain ⟨xs, rfl, g⟩ := g4
    exact ⟨a, xs, rfl, g3, g⟩
   | dct ks es => simp [MO.d] at e
   | feed n => simp [MO.d] at e
   | ins C ks ds => simp [MO.d] at e
   | ddt F ks => simp [MO.d] at e
  next => cases e
 | lst es =>
  have : es = ds := by simpa [see] using e
  subst this
  simp only [Rep] at h
  obtain ⟨a, xs, h1, h2, h3⟩ := h
  exact ⟨a, xs, h1, k.base _ _ h2, h3⟩
 | _ => simp [see] at e
theorem see_tup {d : D} {ds : List D} (k : Ok K w H S) (h : Rep K w d v) (e : see S d = .tup ds) : ∃ a xs, v = .ref a ∧ H a = some (.tup xs) ∧ Reps K w ds xs := by
 cases d with
 | loc n =>
  simp only [see] at e
  split at e
  next o q => cases o <;> simp [MO.d] at e
  next => cases e
 | tup es =>
  have : es = ds := by simpa [see] using e
  subst this
  simp only [Rep] at h
  obtain ⟨a, xs, h1, h2, h3⟩ := h
  exact ⟨a, xs, h1, k.base _ _ h2, h3⟩
 | _ => simp [see] at e
theorem see_dct {d : D} {ks : List Key} {ds : List D} (k : Ok K w H S) (h : Rep K w d v) (e : see S d = .dct ks ds) : ∃ a kvs, v = .ref a ∧ H a = some (.dK kvs) ∧ kvs.map (·.1) = ks ∧ Reps K w ds (kvs.map (·.2)) := by
 cases d with
 | loc n =>
  simp only [Rep] at h
  obtain ⟨a, h1, rfl⟩ := h
  simp only [see] at e
  split at e
  next o q =>
   obtain ⟨a', u, g1, g2, g3, g4⟩ := k.live n o q
   rw [h1] at g1; cases g1
   cases o with
   | lst es => simp [MO.d] at e
   | feed n => simp [MO.d] at e
   | ins C ks ds => simp [MO.d] at e
   | ddt F ks => simp [MO.d] at e
   | dct ks' es =>
    have : ks' = ks ∧ es = ds := by simpa [MO.d] using e
    obtain ⟨rfl, rfl⟩ := this
    obtain ⟨kvs, rfl, g⟩ := g4
    exact ⟨a, kvs, rfl, g3, g⟩
  next => cases e
 | dct ks' es =>
  have : ks' = ks ∧ es = ds := by simpa [see] using e
  obtain ⟨rfl, rfl⟩ := this
  simp only [Rep] at h
  obtain ⟨a, xs, h1, h2, h3⟩ := h
  exact ⟨a, xs, h1, k.base _ _ h2, h3⟩
 | _ => simp [see] at e
end
end M
namespace M
open PySem L2
noncomputable abbrev AEnv := List (Option D)
noncomputable abbrev AK := R → Sto → Prop
noncomputable abbrev AE := AEnv → Sto → AK → Prop
noncomputable abbrev AT := AEnv → Sto → (Bool → Sto → Prop) → Prop
noncomputable abbrev AA := AEnv → Sto → (List D → Sto → Prop) → Prop
noncomputable abbrev AO := AEnv → Sto → (Option Int → Sto → Prop) → Prop
structure AEnds where
 nx : AEnv → Sto → Prop
 rt : AK
 bk : AEnv → Sto → Prop := fun _ _ => False
 ct : AEnv → Sto → Prop := fun _ _ => False
noncomputable abbrev AS := AEnds → AEnv → Sto → Prop
noncomputable abbrev AG := D → AEnv → Sto → (AEnv → Sto → Prop) → Prop
noncomputable abbrev AI := AEnv → Sto → (List D → (Sto → Prop) → Sto → Prop) → Prop
noncomputable abbrev A2 := D → D → Sto → AK → Prop
noncomputable abbrev A1 := D → Sto → AK → Prop
noncomputable abbrev AN := List D → Sto → AK → Prop
section
variable (K : PySem.W.Frag) (w : Wd)
noncomputable def BackV (Qa : AK) (Q : VK) : Prop := ∀ r S' v w' H', w.le w' → Ok K w' H' S' → RepR K w' H' S' r v → Qa r S' → Q v H'
noncomputable def BackB (Qa : Bool → Sto → Prop) (Q : Bool → Hp → Prop) : Prop := ∀ b S' w' H', w.le w' → Ok K w' H' S' → Qa b S' → Q b H'
noncomputable def BackL (Qa : List D → Sto → Prop) (Q : List V → Hp → Prop) : Prop := ∀ ds S' vs w' H', w.le w' → Ok K w' H' S' → Reps K w' ds vs → Qa ds S' → Q vs H'
noncomputable def BackO (Qa : Option Int → Sto → Prop) (Q : Option Int → Hp → Prop) : Prop := ∀ i S' w' H', w.le w' → Ok K w' H' S' → Qa i S' → Q i H'
noncomputable def BackE (Qa : AEnv → Sto → Prop) (Q : St → Hp → Prop) : Prop := ∀ δ S' σ w' H', w.le w' → Ok K w' H' S' → EnvR K w' δ σ → Qa δ S' → Q σ H'
structure BackS (Da : AEnds) (D : Ends) : Prop where
 nx : BackE K w Da.nx D.nx
 rt : BackV K w Da.rt D.rt
 bk : BackE K w Da.bk D.bk
 ct : BackE K w Da.ct D.ct
structure ItR (J : It) (ds : List D) (P : Sto → Prop) : Prop where
 go : ∀ i H S w' d, w.le w' → Ok K w' H S → P S → ds[i]? = some d → J.go i H
 yld : ∀ i H S w' d x H', w.le w' → Ok K w' H S → P S → ds[i]? = some d → J.yld i H x H' → ∃ w3, w'.le w3 ∧ Ok K w3 H' S ∧ Rep K w3 d x
 stop : ∀ i H S w', w.le w' → Ok K w' H S → P S → i = ds.length → J.stop i H
noncomputable def BackI (Qa : List D → (Sto → Prop) → Sto → Prop) (R : It → Hp → Prop) : Prop := ∀ ds P S' J w' H', w.le w' → Ok K w' H' S' → ItR K w' J ds P → Qa ds P S' → R J H'
end
section
variable {K : PySem.W.Frag} {w w' : Wd}
theorem BackV.le {Qa : AK} {Q : VK} (h : BackV K w Qa Q) (e : w.le w') : BackV K w' Qa Q := fun r S v w2 H l => h r S v w2 H (e.trans l)
theorem BackB.le {Qa} {Q} (h : BackB K w Qa Q) (e : w.le w') : BackB K w' Qa Q := fun r S w2 H l => h r S w2 H (e.trans l)
theorem BackE.le {Qa} {Q} (h : BackE K w Qa Q) (e : w.le w') : BackE K w' Qa Q := fun r S v w2 H l => h r S v w2 H (e.trans l)
theorem BackS.le {Da : AEnds} {D : Ends} (h : BackS K w Da D) (e : w.le w') : BackS K w' Da D := ⟨h.nx.le e, h.rt.le e, h.bk.le e, h.ct.le e⟩
end
section
variable (K : PySem.W.Frag)
noncomputable def conE (a : AE) : TE := fun σ H Q => ∃ w δ S Qa, Ok K w H S ∧ EnvR K w δ σ ∧ a δ S Qa ∧ BackV K w Qa Q
noncomputable def conT (a : AT) : TT := fun σ H Q => ∃ w δ S Qa, Ok K w H S ∧ EnvR K w δ σ ∧ a δ S Qa ∧ BackB K w Qa Q
noncomputable def conA (a : AA) : TA := fun σ H Q => ∃ w δ S Qa, Ok K w H S ∧ EnvR K w δ σ ∧ a δ S Qa ∧ BackL K w Qa Q
noncomputable def conO (a : AO) : TO := fun σ H Q => ∃ w δ S Qa, Ok K w H S ∧ EnvR K w δ σ ∧ a δ S Qa ∧ BackO K w Qa Q
noncomputable def conS (a : AS) : TS := fun D σ H => ∃ w δ S Da, Ok K w H S ∧ EnvR K w δ σ ∧ a Da δ S ∧ BackS K w Da D
noncomputable def conG (a : AG) : TG := fun x σ H Q => ∃ w d δ S Qa, Ok K w H S ∧ EnvR K w δ σ ∧ Rep K w d x ∧ a d δ S Qa ∧ BackE K w Qa Q
noncomputable def conI (a : AI) : TI := fun σ H R => ∃ w δ S Qa, Ok K w H S ∧ EnvR K w δ σ ∧ a δ S Qa ∧ BackI K w Qa R
noncomputable def con2 (a : A2) : R2 := fun x y H Q => ∃ w d e S Qa, Ok K w H S ∧ Rep K w d x ∧ Rep K w e y ∧ a d e S Qa ∧ BackV K w Qa Q
noncomputable def conN (a : AN) : List V → Hp → VK → Prop := fun xs H Q => ∃ w ds S Qa, Ok K w H S ∧ Reps K w ds xs ∧ a ds S Qa ∧ BackV K w Qa Q
noncomputable def conM (a : D → List D → Sto → AK → Prop) : V → List V → Hp → VK → Prop := fun x xs H Q => ∃ w d ds S Qa, Ok K w H S ∧ Rep K w d x ∧ Reps K w ds xs ∧ a d ds S Qa ∧ BackV K w Qa Q
noncomputable def conSp (a : AN) : Sp := fun vs H Q _ => conN K a vs H Q
end
structure GE (X : Cx) (e : Expr) (a : AE) : Prop where
 p : PE X e (conE X.K a)
structure GT (X : Cx) (e : Expr) (a : AT) : Prop where
 p : PT X e (conT X.K a)
structure GW (X : Cx) (e : Expr) (a : AT) : Prop where
 p : PW X e (conT X.K a)
structure GA (X : Cx) (e : List Expr) (a : AA) : Prop where
 p : PA X e (conA X.K a)
structure GO (X : Cx) (e : Option Expr) (a : AO) : Prop where
 p : PO X e (conO X.K a)
structure GS (X : Cx) (s : Stmt) (a : AS) : Prop where
 p : PS X s (conS X.K a)
structure GSs (X : Cx) (s : List Stmt) (a : AS) : Prop where
 p : PSs X s (conS X.K a)
structure GG (X : Cx) (e : Expr) (a : AG) : Prop where
 p : PG X e (conG X.K a)
structure GI (X : Cx) (tg e : Expr) (a : AI) : Prop where
 p : PI X tg e (conI X.K a)
structure GTs (X : Cx) (e : List Expr) (a : AT) : Prop where
 p : PTs X e (conT X.K a)
structure Op2 (X : Cx) (f : Value → Value → Sem Value) (a : A2) : Prop where
 p : OpR X f (con2 X.K a)
structure OpC (X : Cx) (f : Value) (a : AN) : Prop where
 p : CallR X f (conN X.K a)
structure OpI (X : Cx) (a : A2) : Prop where
 p : IxR X (con2 X.K a)
section
variable {X : Cx}
theorem mE {e : Expr} {t u : TE} (h : PE X e t) (m : ∀ σ H Q, u σ H Q → t σ H Q) : PE X e u := fun pins s σ H Q I q => h pins s σ H Q I (m σ H Q q)
theorem mT {e : Expr} {t u : TT} (h : PT X e t) (m : ∀ σ H Q, u σ H Q → t σ H Q) : PT X e u := fun pins s σ H Q I q => h pins s σ H Q I (m σ H Q q)
theorem mW {e : Expr} {t u : TT} (h : PW X e t) (m : ∀ σ H Q, u σ H Q → t σ H Q) : PW X e u := fun wh pins s σ H Q I q => h wh pins s σ H Q I (m σ H Q q)
theorem mA {e : List Expr} {t u : TA} (h : PA X e t) (m : ∀ σ H Q, u σ H Q → t σ H Q) : PA X e u := fun pos pins s σ H Q I q => h pos pins s σ H Q I (m σ H Q q)
theorem mO {e : Option Expr} {t u : TO} (h : PO X e t) (m : ∀ σ H Q, u σ H Q → t σ H Q) : PO X e u := fun pins s σ H Q I q => h pins s σ H Q I (m σ H Q q)
theorem mS {e : Stmt} {t u : TS} (h : PS X e t) (m : ∀ D σ H, u D σ H → t D σ H) : PS X e u := fun pins s σ H D I q => h pins s σ H D I (m D σ H q)
theorem mSs {e : List Stmt} {t u : TS} (h : PSs X e t) (m : ∀ D σ H, u D σ H → t D σ H) : PSs X e u := fun pins s σ H D I q => h pins s σ H D I (m D σ H q)
theorem mG {e : Expr} {t u : TG} (h : PG X e t) (m : ∀ x σ H Q, u x σ H Q → t x σ H Q) : PG X e u := fun pins s σ H x v Q I r q => h pins s σ H x v Q I r (m x σ H Q q)
theorem mI {g e : Expr} {t u : TI} (h : PI X g e t) (m : ∀ σ H R, u σ H R → t σ H R) : PI X g e u := fun pins s σ H R I q => h pins s σ H R I (m σ H R q)
theorem mTs {e : List Expr} {t u : TT} (h : PTs X e t) (m : ∀ σ H Q, u σ H Q → t σ H Q) : PTs X e u := fun pins s σ H Q I q => h pins s σ H Q I (m σ H Q q)
theorem m2 {f : Value → Value → Sem Value} {t u : R2} (h : OpR X f t) (m : ∀ x y H Q, u x y H Q → t x y H Q) : OpR X f u := fun pins s σ H x y v u Q I r r' q => h pins s σ H x y v u Q I r r' (m x y H Q q)
theorem mC {f : Value} {t u : List V → Hp → VK → Prop} (h : CallR X f t) (m : ∀ x H Q, u x H Q → t x H Q) : CallR X f u := fun pins s σ H x v Q I r q => h pins s σ H x v Q I r (m x H Q q)
end
noncomputable def aVar (i : Nat) : AE := fun δ S Q => ∃ d, δ[i]? = some (some d) ∧ Q (.dat d) S
noncomputable def aC (d : D) : AE := fun _ S Q => Q (.dat d) S
noncomputable def aOp (r : A2) (a b : AE) : AE := fun δ S Q => a δ S fun x S1 => b δ S1 fun y S2 => r x.d y.d S2 Q
noncomputable def aUn (r : A1) (a : AE) : AE := fun δ S Q => a δ S fun x S1 => r x.d S1 Q
noncomputable def aNil : AA := fun _ S Q => Q [] S
noncomputable def aCons (a : AE) (b : AA) : AA := fun δ S Q => a δ S fun x S1 => b δ S1 fun xs S2 => Q (x.d :: xs) S2
noncomputable def aTup (a : AA) : AE := fun δ S Q => a δ S fun ds S1 => ds.length ≤ sizeLine ∧ Q (.dat (.tup ds)) S1
noncomputable def aLst (a : AA) : AE := fun δ S Q => a δ S fun ds S1 => ds.length ≤ sizeLine ∧ Q (.new (.lst ds)) S1
noncomputable def aAlloc (a : AE) : AE := fun δ S Q => a δ S fun r S1 => match r with
 | .new o => Q (.dat (.loc S1.length)) (S1 ++ [some o])
 | .dat d => Q (.dat d) S1
noncomputable def aCall (sp : AN) (a : AA) : AE := fun δ S Q => a δ S fun ds S1 => sp ds S1 Q
noncomputable def aB (a : AE) : AT := fun δ S Q => a δ S fun r S1 => ∃ b, r.d = .bl b ∧ Q b S1
noncomputable def aTruD : D → Option Bool
 | .non => some false
 | .bl b => some b
 | .int i => some (i != 0)
 | .str y => if y.length ≤ sizeLine then some ((y.length : Int) != 0) else none
 | .tup ds => some (!ds.isEmpty)
 | .lst ds => some (!ds.isEmpty)
 | .dct ks _ => some (!ks.isEmpty)
 | _ => none
noncomputable def aTru (a : AE) : AT := fun δ S Q => a δ S fun r S1 => ∃ b, aTruD (see S1 r.d) = some b ∧ Q b S1
noncomputable def aAndV (a b : AE) : AE := fun δ S Q => a δ S fun x S1 => ∃ c, x.d = .bl c ∧ if c = true then b δ S1 Q else Q (.dat (.bl false)) S1
noncomputable def aOrV (a b : AE) : AE := fun δ S Q => a δ S fun x S1 => ∃ c, x.d = .bl c ∧ if c = true then Q (.dat (.bl true)) S1 else b δ S1 Q
noncomputable def aNotV (a : AE) : AE := fun δ S Q => a δ S fun x S1 => ∃ c, x.d = .bl c ∧ Q (.dat (.bl (!c))) S1
noncomputable def aAnd (a b : AT) : AT := fun δ S Q => a δ S fun c S1 => if c = true then b δ S1 Q else Q false S1
noncomputable def aOr (a b : AT) : AT := fun δ S Q => a δ S fun c S1 => if c = true then Q true S1 else b δ S1 Q
noncomputable def aNot (a : AT) : AT := fun δ S Q => a δ S fun c S1 => Q (!c) S1
noncomputable def aIf (t : AT) (a b : AE) : AE := fun δ S Q => t δ S fun c S1 => if c = true then a δ S1 Q else b δ S1 Q
noncomputable def aChain (r r' : A2) (a b c : AE) : AE := fun δ S Q => a δ S fun x S1 => b δ S1 fun y S2 => r x.d y.d S2 fun z S3 => ∃ k, z.d = .bl k ∧ if k = true then c δ S3 fun z' S4 => r' y.d z'.d S4 Q else Q (.dat (.bl false)) S3
noncomputable def aNoPart : AO := fun _ S Q => Q none S
noncomputable def aPart (a : AE) : AO := fun δ S Q => a δ S fun r S1 => ∃ i, r.d = .int i ∧ Q (some i) S1
noncomputable def aSl (r : D → Option Int → Option Int → Sto → AK → Prop) (a : AE) (l u : AO) : AE := fun δ S Q => a δ S fun x S1 => l δ S1 fun i S2 => u δ S2 fun j S3 => r x.d i j S3 Q
noncomputable def aNext : AS := fun D δ S => D.nx δ S
noncomputable def aSeq (a b : AS) : AS := fun D δ S => a { D with nx := b D } δ S
noncomputable def aRet (a : AE) : AS := fun D δ S => a δ S D.rt
noncomputable def aRetN : AS := fun D _ S => D.rt (.dat .non) S
noncomputable def aDrop (a : AE) : AS := fun D δ S => a δ S fun _ S1 => D.nx δ S1
noncomputable def aIfS (c : AT) (a b : AS) : AS := fun D δ S => c δ S fun k S1 => if k = true then a D δ S1 else b D δ S1
noncomputable def agName (i : Nat) : AG := fun d δ S Q => Q (δ.set i (some d)) S
noncomputable def aAsg (a : AE) (g : AG) : AS := fun D δ S => a δ S fun r S1 => g r.d δ S1 D.nx
noncomputable def loopD (P : Sto → Prop) (g : AG) (b : AS) : List D → AEnds → AEnv → Sto → Prop
 | [], D, δ, S => P S ∧ D.nx δ S
 | x :: xs, D, δ, S => P S ∧ g x δ S fun δ2 S2 => b { D with nx := loopD P g b xs D, ct := loopD P g b xs D, bk := D.nx } δ2 S2
noncomputable def aFor (i : AI) (g : AG) (b : AS) : AS := fun D δ S => i δ S fun ds P S1 => loopD P g b ds D δ S1
noncomputable def aWhile (c : AT) (b : AS) : AS := fun D δ S => ∃ W : Nat → AEnv → Sto → Prop, (∃ m, W m δ S) ∧ ∀ m δ S, W m δ S →
 c δ S fun k S1 => if k = true then ∃ N : AEnv → Sto → Prop, (∀ δ' S', N δ' S' → ∃ m', m' < m ∧ W m' δ' S') ∧ b { D with nx := N, ct := N, bk := D.nx } δ S1 else D.nx δ S1
noncomputable def aYes : AT := fun _ S Q => Q true S
noncomputable def compD (P : Sto → Prop) (g : AG) (t : AT) (e : AE) : List D → List D → AEnv → Sto → (List D → Sto → Prop) → Prop
 | [], acc, _, S, Q => P S ∧ Q acc S
 | x :: xs, acc, δ, S, Q => P S ∧ g x δ S fun δ2 S2 => t δ2 S2 fun b S3 => if b = true then e δ2 S3 fun r S4 => acc.length < sizeLine ∧ compD P g t e xs (acc ++ [r.d]) δ2 S4 Q else compD P g t e xs acc δ2 S3 Q
noncomputable def captA (caps : List (Option Nat)) (δ : AEnv) : AEnv := caps.map fun o => o.bind fun i => (δ[i]?).getD none
noncomputable def aComp (caps : List (Option Nat)) (i : AI) (g : AG) (t : AT) (e : AE) : AE := fun δ S Q => i δ S fun ds P S1 => compD P g t e ds [] (captA caps δ) S1 fun ds' S2 => Q (.new (.lst ds')) S2
noncomputable def iRngD (lo : Int) (n : Nat) : List D := (List.range n).map fun k : Nat => .int (lo + (k : Int))
noncomputable def iRng (a : AA) : AI := fun δ S Q => a δ S fun ds S1 => ∃ j : Int, ds = [.int j] ∧ (-(2 ^ 62) ≤ j ∧ j < 2 ^ 62) ∧ Q (iRngD 0 j.toNat) (fun _ => True) S1
noncomputable def signs (x : Str) : List D := x.cps.toList.map fun c => .str ⟨#[c]⟩
end M
namespace M
open PySem L2
section
variable {K : PySem.W.Frag}
theorem BackV.go {w : Wd} {Qa : AK} {Q : VK} (h : ∀ r S' v w' H', w.le w' → Ok K w' H' S' → Rep K w' r.d v → Qa r S' → Q v H') : BackV K w Qa Q := fun r S' v w' H' le ok rep q => by
 obtain ⟨w2, le2, ok2, rep2⟩ := freeze ok rep
 exact h r S' v w2 H' (le.trans le2) ok2 rep2 q
theorem BackV.dat {w w' : Wd} {Qa : AK} {Q : VK} {d : D} {v : V} {S : Sto} {H : Hp} (h : BackV K w Qa Q) (le : w.le w') (ok : Ok K w' H S) (rep : Rep K w' d v) (q : Qa (.dat d) S) : Q v H := h (.dat d) S v w' H le ok rep q
theorem s_var {i : Nat} : ∀ σ H Q, conE K (aVar i) σ H Q → tVar i σ H Q := by
 rintro σ H Q ⟨w, δ, S, Qa, ok, env, ⟨d, e, q⟩, bk⟩
 obtain ⟨v, e1, e2⟩ := env.2 i d e
 exact ⟨v, e1, bk.dat .refl ok e2 q⟩
theorem s_c {d : D} {v : V} (h : ∀ w, Rep K w d v) : ∀ σ H Q, conE K (aC d) σ H Q → tC v σ H Q := by
 rintro σ H Q ⟨w, δ, S, Qa, ok, env, q, bk⟩
 exact bk.dat .refl ok (h w) q
theorem s_op {r : A2} {a b : AE} : ∀ σ H Q, conE K (aOp r a b) σ H Q → tOp (con2 K r) (conE K a) (conE K b) σ H Q := by
 rintro σ H Q ⟨w, δ, S, Qa, ok, env, q, bk⟩
 refine ⟨w, δ, S, _, ok, env, q, .go fun r1 S1 v1 w1 H1 le1 ok1 rep1 q1 => ?_⟩
 refine ⟨w1, δ, S1, _, ok1, env.le le1, q1, .go fun r2 S2 v2 w2 H2 le2 ok2 rep2 q2 => ?_⟩
 exact ⟨w2, r1.d, r2.d, S2, Qa, ok2, rep1.le le2, rep2, q2, bk.le (le1.trans le2)⟩
theorem s_nil : ∀ σ H Q, conA K aNil σ H Q → tNil σ H Q := by
 rintro σ H Q ⟨w, δ, S, Qa, ok, env, q, bk⟩
 exact bk [] S [] w H .refl ok .nil q
theorem s_cons {a : AE} {b : AA} : ∀ σ H Q, conA K (aCons a b) σ H Q → tCons (conE K a) (conA K b) σ H Q := by
 rintro σ H Q ⟨w, δ, S, Qa, ok, env, q, bk⟩
 refine ⟨w, δ, S, _, ok, env, q, .go fun r1 S1 v1 w1 H1 le1 ok1 rep1 q1 => ?_⟩
 refine ⟨w1, δ, S1, _, ok1, env.le le1, q1, fun ds S2 vs w2 H2 le2 ok2 rep2 q2 => ?_⟩
 exact bk _ S2 _ w2 H2 (le1.trans le2) ok2 (.cons (rep1.le le2) rep2) q2
theorem s_tup {a : AA} : ∀ σ H Q, conE K (aTup a) σ H Q → tTup (conA K a) σ H Q := by
 rintro σ H Q ⟨w, δ, S, Qa, ok, env, q, bk⟩
 refine ⟨w, δ, S, _, ok, env, q, fun ds S1 vs w1 H1 le1 ok1 rep1 ⟨hl, q1⟩ => ⟨by rw [rep1.length]; exact hl, fun p hp => ?_⟩⟩
 obtain ⟨w2, le2, ok2, rep2⟩ := ok1.newTup hp rep1
 exact bk.dat (le1.trans le2) ok2 rep2 q1
theorem s_lst {a : AA} : ∀ σ H Q, conE K (aLst a) σ H Q → tLst (conA K a) σ H Q := by
 rintro σ H Q ⟨w, δ, S, Qa, ok, env, q, bk⟩
 refine ⟨w, δ, S, _, ok, env, q, fun ds S1 vs w1 H1 le1 ok1 rep1 ⟨hl, q1⟩ => ⟨by rw [rep1.length]; exact hl, fun p hp => ?_⟩⟩
 exact bk (.new (.lst ds)) S1 _ w1 _ le1 (ok1.alloc hp) (ok1.fresh hp ⟨vs, rfl, rep1⟩) q1
theorem s_alloc {a : AE} : ∀ σ H Q, conE K (aAlloc a) σ H Q → conE K a σ H Q := by
 rintro σ H Q ⟨w, δ, S, Qa, ok, env, q, bk⟩
 refine ⟨w, δ, S, _, ok, env, q, fun r S1 v w1 H1 le1 ok1 rep1 q1 => ?_⟩
 cases r with
 | dat d => exact bk.dat le1 ok1 rep1 q1
 | new o =>
  obtain ⟨w2, le2, ok2, rep2⟩ := store ok1 rep1
  exact bk.dat (le1.trans le2) ok2 rep2 q1
theorem s_call {sp : AN} {a : AA} {E : XK} : ∀ σ H Q, conE K (aCall sp a) σ H Q → tCall (conSp K sp) [] E (conA K a) σ H Q := by
 rintro σ H Q ⟨w, δ, S, Qa, ok, env, q, bk⟩
 refine ⟨w, δ, S, _, ok, env, q, fun ds S1 vs w1 H1 le1 ok1 rep1 q1 => ?_⟩
 exact ⟨w1, ds, S1, Qa, ok1, by rw [List.append_nil]; exact rep1, q1, bk.le le1⟩
theorem s_cb {r : AN} {a : AA} : ∀ σ H Q, conE K (aCall r a) σ H Q → tCB (conN K r) (conA K a) σ H Q := by
 rintro σ H Q ⟨w, δ, S, Qa, ok, env, q, bk⟩
 refine ⟨w, δ, S, _, ok, env, q, fun ds S1 vs w1 H1 le1 ok1 rep1 q1 => ?_⟩
 exact ⟨w1, ds, S1, Qa, ok1, rep1, q1, bk.le le1⟩
theorem rep_bl {w : Wd} {b : Bool} {v : V} {d : D} (h : Rep K w d v) (e : d = .bl b) : v = .bl b := by subst e; simpa [Rep] using h
theorem rep_int {w : Wd} {b : Int} {v : V} {d : D} (h : Rep K w d v) (e : d = .int b) : v = .int b := by subst e; simpa [Rep] using h
theorem rep_str {w : Wd} {b : Str} {v : V} {d : D} (h : Rep K w d v) (e : d = .str b) : v = .str b := by subst e; simpa [Rep] using h
theorem rep_non {w : Wd} {v : V} {d : D} (h : Rep K w d v) (e : d = .non) : v = .non := by subst e; simpa [Rep] using h
theorem rep_ty {w : Wd} {n : String} {v : V} {d : D} (h : Rep K w d v) (e : d = .ty n) : v = .ty n := by subst e; simpa [Rep] using h
theorem Rep.bl {w : Wd} {b : Bool} : Rep K w (.bl b) (.bl b) := by simp [Rep]
theorem Rep.int {w : Wd} {b : Int} : Rep K w (.int b) (.int b) := by simp [Rep]
theorem Rep.str {w : Wd} {b : Str} : Rep K w (.str b) (.str b) := by simp [Rep]
theorem Rep.non {w : Wd} : Rep K w .non .non := by simp [Rep]
theorem Rep.ty {w : Wd} {n : String} : Rep K w (.ty n) (.ty n) := by simp [Rep]
theorem s_b {a : AE} : ∀ σ H Q, conT K (aB a) σ H Q → tB (conE K a) σ H Q := by
 rintro σ H Q ⟨w, δ, S, Qa, ok, env, q, bk⟩
 refine ⟨w, δ, S, _, ok, env, q, .go fun r1 S1 v1 w1 H1 le1 ok1 rep1 ⟨b, e, q1⟩ => ⟨b, rep_bl rep1 e, bk b S1 w1 H1 le1 ok1 q1⟩⟩
theorem tru_see {w : Wd} {H : Hp} {S : Sto} {d : D} {v : V} {b : Bool} (ok : Ok K w H S) (h : Rep K w d v) (e : aTruD (see S d) = some b) : TruV K v H b := by
 cases q : see S d with
 | lst ds =>
  rw [q] at e
  obtain ⟨a, xs, rfl, h1, h2⟩ := see_lst ok h q
  refine Or.inl ⟨xs, SqL.of h1, ?_⟩
  have : b = !ds.isEmpty := by simpa [aTruD] using e.symm
  rw [this]
  have := h2.length
  cases ds <;> cases xs <;> simp at this ⊢
 | tup ds =>
  rw [q] at e
  obtain ⟨a, xs, rfl, h1, h2⟩ := see_tup ok h q
  refine Or.inr (Or.inl ⟨xs, SqT.of h1, ?_⟩)
  have : b = !ds.isEmpty := by simpa [aTruD] using e.symm
  rw [this]
  have := h2.length
  cases ds <;> cases xs <;> simp at this ⊢
 | dct ks ds =>
  rw [q] at e
  obtain ⟨a, kvs, rfl, h1, h2, h3⟩ := see_dct ok h q
  refine Or.inr (Or.inr ⟨kvs, h1, ?_⟩)
  have : b = !ks.isEmpty := by simpa [aTruD] using e.symm
  rw [this, ← h2]
  cases kvs <;> simp
 | _ =>
  rw [q] at e
  cases d <;> simp [see] at q <;> first
   | (subst q; simp only [Rep] at h; subst h; simp [aTruD] at e; simp [TruV, e]; done)
   | (simp [aTruD] at e; done)
   | skip
  all_goals first
   | (simp only [Rep] at h; subst h; subst q; simp only [aTruD, Option.some.injEq] at e; subst e; rfl)
   | (simp only [Rep] at h; subst h; simp only [aTruD, Option.some.injEq] at e; subst e; rfl)
   | (split at q <;> first | (rename_i o _; cases o <;> simp [MO.d] at q) | (cases q; simp [aTruD] at e) | cases q)
   | (simp only [Rep] at h; subst h; subst q; simp only [aTruD] at e; split at e; next hl => exact ⟨hl, by simpa using e.symm⟩; next => cases e)
   | skip
end
end M
namespace M
open PySem L2
section
variable {K : PySem.W.Frag}
theorem s_tru {a : AE} : ∀ σ H Q, conT K (aTru a) σ H Q → (conE K a) σ H (fun x H' => ∃ k, TruV K x H' k ∧ Q k H') := by
 rintro σ H Q ⟨w, δ, S, Qa, ok, env, q, bk⟩
 exact ⟨w, δ, S, _, ok, env, q, .go fun r1 S1 v1 w1 H1 le1 ok1 rep1 ⟨b, e, q1⟩ => ⟨b, tru_see ok1 rep1 e, bk b S1 w1 H1 le1 ok1 q1⟩⟩
theorem s_andV {a b : AE} : ∀ σ H Q, conE K (aAndV a b) σ H Q → tAndV (conE K a) (conE K b) σ H Q := by
 rintro σ H Q ⟨w, δ, S, Qa, ok, env, q, bk⟩
 refine ⟨w, δ, S, _, ok, env, q, .go fun r1 S1 v1 w1 H1 le1 ok1 rep1 ⟨c, e, q1⟩ => ⟨c, rep_bl rep1 e, ?_⟩⟩
 cases c with
 | true => exact iteT ⟨w1, δ, S1, Qa, ok1, env.le le1, by simpa using q1, bk.le le1⟩
 | false => exact iteF (bk.dat le1 ok1 .bl (by simpa using q1))
theorem s_and {a b : AT} : ∀ σ H Q, conT K (aAnd a b) σ H Q → tAnd (conT K a) (conT K b) σ H Q := by
 rintro σ H Q ⟨w, δ, S, Qa, ok, env, q, bk⟩
 refine ⟨w, δ, S, _, ok, env, q, fun c S1 w1 H1 le1 ok1 q1 => ?_⟩
 cases c with
 | true => exact iteT ⟨w1, δ, S1, Qa, ok1, env.le le1, by simpa using q1, bk.le le1⟩
 | false => exact iteF (bk _ S1 w1 H1 le1 ok1 (by simpa using q1))
theorem s_or {a b : AT} : ∀ σ H Q, conT K (aOr a b) σ H Q → tOr (conT K a) (conT K b) σ H Q := by
 rintro σ H Q ⟨w, δ, S, Qa, ok, env, q, bk⟩
 refine ⟨w, δ, S, _, ok, env, q, fun c S1 w1 H1 le1 ok1 q1 => ?_⟩
 cases c with
 | false => exact iteF ⟨w1, δ, S1, Qa, ok1, env.le le1, by simpa using q1, bk.le le1⟩
 | true => exact iteT (bk _ S1 w1 H1 le1 ok1 (by simpa using q1))
theorem s_not {a : AT} : ∀ σ H Q, conT K (aNot a) σ H Q → tNot (conT K a) σ H Q := by
 rintro σ H Q ⟨w, δ, S, Qa, ok, env, q, bk⟩
 exact ⟨w, δ, S, _, ok, env, q, fun c S1 w1 H1 le1 ok1 q1 => bk _ S1 w1 H1 le1 ok1 q1⟩
theorem s_chain {r r' : A2} {a b c : AE} : ∀ σ H Q, conE K (aChain r r' a b c) σ H Q → tChain (con2 K r) (con2 K r') (conE K a) (conE K b) (conE K c) σ H Q := by
 rintro σ H Q ⟨w, δ, S, Qa, ok, env, q, bk⟩
 refine ⟨w, δ, S, _, ok, env, q, .go fun r1 S1 v1 w1 H1 le1 ok1 rep1 q1 => ?_⟩
 refine ⟨w1, δ, S1, _, ok1, env.le le1, q1, .go fun r2 S2 v2 w2 H2 le2 ok2 rep2 q2 => ?_⟩
 refine ⟨w2, r1.d, r2.d, S2, _, ok2, rep1.le le2, rep2, q2, .go fun r3 S3 v3 w3 H3 le3 ok3 rep3 ⟨k, e3, q3⟩ => ⟨k, rep_bl rep3 e3, ?_⟩⟩
 have le13 := le1.trans (le2.trans le3)
 cases k with
 | false => exact iteF (bk.dat le13 ok3 .bl (by simpa using q3))
 | true =>
  rw [if_pos rfl] at q3
  refine iteT ⟨w3, δ, S3, _, ok3, env.le le13, q3, .go fun r4 S4 v4 w4 H4 le4 ok4 rep4 q4 => ?_⟩
  exact ⟨w4, r2.d, r4.d, S4, _, ok4, rep2.le (le3.trans le4), rep4, q4, bk.le (le13.trans le4)⟩
theorem s_noPart : ∀ σ H Q, conO K aNoPart σ H Q → tNoPart σ H Q := by
 rintro σ H Q ⟨w, δ, S, Qa, ok, env, q, bk⟩
 exact bk none S w H .refl ok q
theorem s_part {a : AE} : ∀ σ H Q, conO K (aPart a) σ H Q → tPart (conE K a) σ H Q := by
 rintro σ H Q ⟨w, δ, S, Qa, ok, env, q, bk⟩
 exact ⟨w, δ, S, _, ok, env, q, .go fun r1 S1 v1 w1 H1 le1 ok1 rep1 ⟨i, e, q1⟩ => ⟨i, rep_int rep1 e, bk _ S1 w1 H1 le1 ok1 q1⟩⟩
noncomputable def conSl (K : PySem.W.Frag) (a : D → Option Int → Option Int → Sto → AK → Prop) : V → Option Int → Option Int → Hp → VK → Prop := fun x i j H Q => ∃ w d S Qa, Ok K w H S ∧ Rep K w d x ∧ a d i j S Qa ∧ BackV K w Qa Q
theorem s_sl {r : D → Option Int → Option Int → Sto → AK → Prop} {a : AE} {l u : AO} : ∀ σ H Q, conE K (aSl r a l u) σ H Q → tSl (conSl K r) (conE K a) (conO K l) (conO K u) σ H Q := by
 rintro σ H Q ⟨w, δ, S, Qa, ok, env, q, bk⟩
 refine ⟨w, δ, S, _, ok, env, q, .go fun r1 S1 v1 w1 H1 le1 ok1 rep1 q1 => ?_⟩
 refine ⟨w1, δ, S1, _, ok1, env.le le1, q1, fun i S2 w2 H2 le2 ok2 q2 => ?_⟩
 refine ⟨w2, δ, S2, _, ok2, env.le (le1.trans le2), q2, fun j S3 w3 H3 le3 ok3 q3 => ?_⟩
 exact ⟨w3, r1.d, S3, Qa, ok3, rep1.le (le2.trans le3), q3, bk.le (le1.trans (le2.trans le3))⟩
theorem s_next : ∀ D σ H, conS K aNext D σ H → tNext D σ H := by
 rintro D σ H ⟨w, δ, S, Da, ok, env, q, bk⟩
 exact bk.nx δ S σ w H .refl ok env q
theorem s_seq {a b : AS} : ∀ D σ H, conS K (aSeq a b) D σ H → tSeq (conS K a) (conS K b) D σ H := by
 rintro D σ H ⟨w, δ, S, Da, ok, env, q, bk⟩
 refine ⟨w, δ, S, _, ok, env, q, ⟨fun δ1 S1 σ1 w1 H1 le1 ok1 env1 q1 => ?_, bk.rt, bk.bk, bk.ct⟩⟩
 exact ⟨w1, δ1, S1, Da, ok1, env1, q1, bk.le le1⟩
theorem s_ret {a : AE} : ∀ D σ H, conS K (aRet a) D σ H → tRet (conE K a) D σ H := by
 rintro D σ H ⟨w, δ, S, Da, ok, env, q, bk⟩
 exact ⟨w, δ, S, _, ok, env, q, bk.rt⟩
theorem s_drop {a : AE} : ∀ D σ H, conS K (aDrop a) D σ H → tDrop (conE K a) D σ H := by
 rintro D σ H ⟨w, δ, S, Da, ok, env, q, bk⟩
 exact ⟨w, δ, S, _, ok, env, q, .go fun r1 S1 v1 w1 H1 le1 ok1 rep1 q1 => bk.nx δ S1 σ w1 H1 le1 ok1 (env.le le1) q1⟩
theorem s_ifS {c : AT} {a b : AS} : ∀ D σ H, conS K (aIfS c a b) D σ H → tIfS (conT K c) (conS K a) (conS K b) D σ H := by
 rintro D σ H ⟨w, δ, S, Da, ok, env, q, bk⟩
 refine ⟨w, δ, S, _, ok, env, q, fun k S1 w1 H1 le1 ok1 q1 => ?_⟩
 cases k with
 | true => exact iteT ⟨w1, δ, S1, Da, ok1, env.le le1, by simpa using q1, bk.le le1⟩
 | false => exact iteF ⟨w1, δ, S1, Da, ok1, env.le le1, by simpa using q1, bk.le le1⟩
theorem s_gName {i : Nat} : ∀ x σ H Q, conG K (agName i) x σ H Q → gName i x σ H Q := by
 rintro x σ H Q ⟨w, d, δ, S, Qa, ok, env, rep, q, bk⟩
 exact bk _ S _ w H .refl ok (env.set rep i) q
theorem s_asg {a : AE} {g : AG} : ∀ D σ H, conS K (aAsg a g) D σ H → tAsg (conE K a) (conG K g) D σ H := by
 rintro D σ H ⟨w, δ, S, Da, ok, env, q, bk⟩
 refine ⟨w, δ, S, _, ok, env, q, .go fun r1 S1 v1 w1 H1 le1 ok1 rep1 q1 => ?_⟩
 exact ⟨w1, r1.d, δ, S1, _, ok1, env.le le1, rep1, q1, bk.nx.le le1⟩
theorem s_for {i : AI} {g : AG} {b : AS} : ∀ D σ H, conS K (aFor i g b) D σ H → tFor (conI K i) (conG K g) (conS K b) D σ H := by
 rintro D σ H ⟨w, δ, S, Da, ok, env, q, bk⟩
 refine ⟨w, δ, S, _, ok, env, q, fun ds P S1 J w1 H1 le1 ok1 it q1 => ?_⟩
 refine ⟨fun i m σ H => m = ds.length - i ∧ i ≤ ds.length ∧ ∃ w2 δ2 S2, w1.le w2 ∧ Ok K w2 H S2 ∧ EnvR K w2 δ2 σ ∧ loopD P g b (ds.drop i) Da δ2 S2, ⟨ds.length, by simp, Nat.zero_le _, w1, δ, S1, .refl, ok1, env.le le1, by simpa using q1⟩, ?_⟩
 rintro i m σ2 H2 ⟨rfl, hi, w2, δ2, S2, le2, ok2, env2, lp⟩
 by_cases hlt : i < ds.length
 ·rw [List.drop_eq_getElem_cons hlt] at lp
  obtain ⟨hP, lp⟩ := lp
  have hd : ds[i]? = some ds[i] := List.getElem?_eq_getElem hlt
  refine .inr ⟨it.go i H2 S2 w2 _ le2 ok2 hP hd, fun σ' H' => ∃ w3 δ3 S3, w1.le w3 ∧ Ok K w3 H' S3 ∧ EnvR K w3 δ3 σ' ∧ loopD P g b (ds.drop (i + 1)) Da δ3 S3, fun σ' H' h => ⟨_, by omega, rfl, hlt, h⟩, fun x H' y => ?_⟩
  obtain ⟨w2', le2', ok2, rx⟩ := it.yld i H2 S2 w2 _ x H' le2 ok2 hP hd y
  replace env2 := env2.le le2'
  replace le2 := le2.trans le2'
  refine ⟨w2', ds[i], δ2, S2, _, ok2, env2, rx, lp, fun δ3 S3 σ3 w3 H3 le3 ok3 env3 q3 => ?_⟩
  have lew := le1.trans (le2.trans le3)
  refine ⟨w3, δ3, S3, _, ok3, env3, q3, ⟨?_, bk.rt.le lew, bk.nx.le lew, ?_⟩⟩
  ·exact fun δ4 S4 σ4 w4 H4 le4 ok4 env4 q4 => ⟨w4, δ4, S4, le2.trans (le3.trans le4), ok4, env4, q4⟩
  ·exact fun δ4 S4 σ4 w4 H4 le4 ok4 env4 q4 => ⟨w4, δ4, S4, le2.trans (le3.trans le4), ok4, env4, q4⟩
 ·have e : i = ds.length := by omega
  subst e
  rw [List.drop_length] at lp
  exact .inl ⟨it.stop _ H2 S2 w2 le2 ok2 lp.1 rfl, bk.nx δ2 S2 σ2 w2 H2 (le1.trans le2) ok2 env2 lp.2⟩
theorem s_while {c : AT} {b : AS} : ∀ D σ H, conS K (aWhile c b) D σ H → tWhile (conT K c) (conS K b) D σ H := by
 rintro D σ H ⟨w, δ, S, Da, ok, env, ⟨W, ⟨m0, w0⟩, turn⟩, bk⟩
 refine ⟨fun m σ H => ∃ w1 δ1 S1, w.le w1 ∧ Ok K w1 H S1 ∧ EnvR K w1 δ1 σ ∧ W m δ1 S1, ⟨m0, w, δ, S, .refl, ok, env, w0⟩, ?_⟩
 rintro m σ1 H1 ⟨w1, δ1, S1, le1, ok1, env1, h1⟩
 refine ⟨w1, δ1, S1, _, ok1, env1, turn m δ1 S1 h1, fun k S2 w2 H2 le2 ok2 q2 => ?_⟩
 cases k with
 | false => exact iteF (bk.nx δ1 S2 σ1 w2 H2 (le1.trans le2) ok2 (env1.le le2) (by simpa using q2))
 | true =>
  rw [if_pos rfl] at q2
  obtain ⟨N, hN, q2⟩ := q2
  have lew := le1.trans le2
  refine iteT ⟨fun σ' H' => ∃ w3 δ3 S3, w.le w3 ∧ Ok K w3 H' S3 ∧ EnvR K w3 δ3 σ' ∧ N δ3 S3, ?_, w2, δ1, S2, _, ok2, env1.le le2, q2, ⟨?_, bk.rt.le lew, bk.nx.le lew, ?_⟩⟩
  ·rintro σ' H' ⟨w3, δ3, S3, le3, ok3, env3, n3⟩
   obtain ⟨m', hm, h3⟩ := hN δ3 S3 n3
   exact ⟨m', hm, w3, δ3, S3, le3, ok3, env3, h3⟩
  ·exact fun δ4 S4 σ4 w4 H4 le4 ok4 env4 q4 => ⟨w4, δ4, S4, lew.trans le4, ok4, env4, q4⟩
  ·exact fun δ4 S4 σ4 w4 H4 le4 ok4 env4 q4 => ⟨w4, δ4, S4, lew.trans le4, ok4, env4, q4⟩
theorem s_yes : ∀ σ H Q, conT K aYes σ H Q → tYes σ H Q := by
 rintro σ H Q ⟨w, δ, S, Qa, ok, env, q, bk⟩
 exact bk true S w H .refl ok q
theorem env_capt {w : Wd} {δ : AEnv} {σ : St} (h : EnvR K w δ σ) (caps : List (Option Nat)) : EnvR K w (captA caps δ) (capt caps σ) := by
 refine ⟨by simp [captA, capt], fun i d e => ?_⟩
 simp only [captA, List.getElem?_map] at e
 cases q : caps[i]? with
 | none => rw [q] at e; cases e
 | some o =>
  rw [q] at e
  cases o with
  | none => simp at e
  | some j =>
   cases z : δ[j]? with
   | none => rw [Option.map_some] at e; simp [z] at e
   | some d' =>
    simp [z] at e
    subst e
    obtain ⟨v, h1, h2⟩ := h.2 j d z
    exact ⟨v, by simp [capt, List.getElem?_map, q, h1], h2⟩
theorem s_comp {caps : List (Option Nat)} {i : AI} {g : AG} {t : AT} {e : AE} : ∀ σ H Q, conE K (aComp caps i g t e) σ H Q → tComp caps (conI K i) (conG K g) (conT K t) (conE K e) σ H Q := by
 rintro σ H Q ⟨w, δ, S, Qa, ok, env, q, bk⟩
 refine ⟨w, δ, S, _, ok, env, q, fun ds P S1 J w1 H1 le1 ok1 it q1 => ?_⟩
 refine ⟨fun i m xs τ H => m = ds.length - i ∧ i ≤ ds.length ∧ ∃ w2 δ2 S2 acc, w1.le w2 ∧ Ok K w2 H S2 ∧ EnvR K w2 δ2 τ ∧ Reps K w2 acc xs ∧ compD P g t e (ds.drop i) acc δ2 S2 (fun ds' S2 => Qa (.new (.lst ds')) S2),
  ⟨ds.length, by simp, Nat.zero_le _, w1, captA caps δ, S1, [], .refl, ok1, env_capt (env.le le1) caps, .nil, by simpa using q1⟩, ?_⟩
 rintro i m xs τ2 H2 ⟨rfl, hi, w2, δ2, S2, acc, le2, ok2, env2, reps, lp⟩
 by_cases hlt : i < ds.length
 ·rw [List.drop_eq_getElem_cons hlt] at lp
  obtain ⟨hP, lp⟩ := lp
  have hd : ds[i]? = some ds[i] := List.getElem?_eq_getElem hlt
  refine .inr ⟨it.go i H2 S2 w2 _ le2 ok2 hP hd, fun ys τ' H' => ∃ w3 δ3 S3 acc, w1.le w3 ∧ Ok K w3 H' S3 ∧ EnvR K w3 δ3 τ' ∧ Reps K w3 acc ys ∧ compD P g t e (ds.drop (i + 1)) acc δ3 S3 (fun ds' S2 => Qa (.new (.lst ds')) S2), fun ys σ' H' h => ⟨_, by omega, rfl, hlt, h⟩, fun x H' y => ?_⟩
  obtain ⟨w2', le2', ok2, rx⟩ := it.yld i H2 S2 w2 _ x H' le2 ok2 hP hd y
  replace env2 := env2.le le2'
  replace le2 := le2.trans le2'
  replace reps := reps.le le2'
  refine ⟨w2', ds[i], δ2, S2, _, ok2, env2, rx, lp, fun δ3 S3 σ3 w3 H3 le3 ok3 env3 q3 => ?_⟩
  refine ⟨w3, δ3, S3, _, ok3, env3, q3, fun k S4 w4 H4 le4 ok4 q4 => ?_⟩
  cases k with
  | false =>
   exact iteF ⟨w4, δ3, S4, acc, le2.trans (le3.trans le4), ok4, env3.le le4, reps.le (le3.trans le4), by simpa using q4⟩
  | true =>
   rw [if_pos rfl] at q4
   refine iteT ⟨w4, δ3, S4, _, ok4, env3.le le4, q4, .go fun r5 S5 v5 w5 H5 le5 ok5 rep5 ⟨hz, q5⟩ => ?_⟩
   exact ⟨by rw [reps.length]; exact hz, w5, δ3, S5, acc ++ [r5.d], le2.trans (le3.trans (le4.trans le5)), ok5, env3.le (le4.trans le5), (reps.le (le3.trans (le4.trans le5))).snoc rep5, q5⟩
 ·have e : i = ds.length := by omega
  subst e
  rw [List.drop_length] at lp
  refine .inl ⟨it.stop _ H2 S2 w2 le2 ok2 lp.1 rfl, fun p hp => ?_⟩
  exact bk (.new (.lst acc)) S2 _ w2 _ (le1.trans le2) (ok2.alloc hp) (ok2.fresh hp ⟨xs, rfl, reps⟩) lp.2
theorem itr_lst {w : Wd} {p : Addr} {xs : List V} {ds : List D} (h1 : w.B p = some (.lst xs)) (h : Reps K w ds xs) : ItR K w (Itl K p) ds (fun _ => True) where
 go := fun i H S w' d le ok hP e => by
  obtain ⟨v, e1, _⟩ := h.get e
  exact ⟨xs, v, SqL.of ((le.b.trans ok.base) _ _ h1), e1⟩
 yld := fun i H S w' d x H' le ok hP e y => by
  obtain ⟨v, e1, e2⟩ := h.get e
  obtain ⟨y1, y2⟩ := y
  have := y2 xs (SqL.of ((le.b.trans ok.base) _ _ h1))
  rw [e1] at this; cases this
  subst y1
  exact ⟨w', .refl, ok, e2.le le⟩
 stop := fun i H S w' le ok hP e => ⟨xs, SqL.of ((le.b.trans ok.base) _ _ h1), by rw [h.length]; omega⟩
theorem itr_loc {w : Wd} {p : Addr} {n : Nat} {ds : List D} (hp : w.r n = some p) : ItR K w (Itl K p) ds (fun S => S[n]? = some (some (.lst ds))) where
 go := fun i H S w' d le ok hP e => by
  obtain ⟨b, u, k1, k2, k3, ys, rfl, k5⟩ := ok.live n _ hP
  rw [le.r n p hp] at k1; cases k1
  obtain ⟨v, e1, _⟩ := k5.get e
  exact ⟨ys, v, SqL.of k3, e1⟩
 yld := fun i H S w' d x H' le ok hP e y => by
  obtain ⟨b, u, k1, k2, k3, ys, rfl, k5⟩ := ok.live n _ hP
  rw [le.r n p hp] at k1; cases k1
  obtain ⟨v, e1, e2⟩ := k5.get e
  obtain ⟨y1, y2⟩ := y
  have := y2 ys (SqL.of k3)
  rw [e1] at this; cases this
  subst y1
  exact ⟨w', .refl, ok, e2⟩
 stop := fun i H S w' le ok hP e => by
  obtain ⟨b, u, k1, k2, k3, ys, rfl, k5⟩ := ok.live n _ hP
  rw [le.r n p hp] at k1; cases k1
  exact ⟨ys, SqL.of k3, by rw [k5.length]; omega⟩
theorem itr_tup {w : Wd} {p : Addr} {xs : List V} {ds : List D} (h1 : w.B p = some (.tup xs)) (h2 : Reps K w ds xs) : ItR K w (Itt K p) ds (fun _ => True) where
 go := fun i H S w' d le ok hP e => by
  obtain ⟨v, e1, _⟩ := h2.get e
  exact ⟨xs, v, SqT.of ((le.b.trans ok.base) _ _ h1), e1⟩
 yld := fun i H S w' d x H' le ok hP e y => by
  obtain ⟨v, e1, e2⟩ := h2.get e
  obtain ⟨y1, y2⟩ := y
  have := y2 xs (SqT.of ((le.b.trans ok.base) _ _ h1))
  rw [e1] at this; cases this
  subst y1
  exact ⟨w', .refl, ok, e2.le le⟩
 stop := fun i H S w' le ok hP e => ⟨xs, SqT.of ((le.b.trans ok.base) _ _ h1), by rw [h2.length]; omega⟩
theorem itr_str {w : Wd} {x : Str} : ItR K w (Its x) (signs x) (fun _ => True) where
 go := fun i H S w' d le ok hP e => by
  have : i < (signs x).length := by
   rcases Nat.lt_or_ge i (signs x).length with h | h
   ·exact h
   ·rw [List.getElem?_eq_none h] at e; cases e
  show i < x.cps.size
  simpa [signs] using this
 yld := fun i H S w' d y H' le ok hP e z => by
  obtain ⟨z1, c, z2, rfl⟩ := z
  subst z1
  refine ⟨w', .refl, ok, ?_⟩
  rw [signs, List.getElem?_map] at e
  have z2' : x.cps.toList[i]? = some c := by simpa using z2
  rw [z2'] at e
  have : D.str ⟨#[c]⟩ = d := by simpa using e
  subst this
  exact .str
 stop := fun i H S w' le ok hP e => by
  show _ = _
  rw [e]; simp [signs]
noncomputable def iAnyD (S1 : Sto) (Q : List D → (Sto → Prop) → Sto → Prop) : D → Prop
 | .lst ds => Q ds (fun _ => True) S1
 | .tup ds => Q ds (fun _ => True) S1
 | .str x => Q (signs x) (fun _ => True) S1
 | .loc n => ∃ ds, S1[n]? = some (some (.lst ds)) ∧ Q ds (fun S => S[n]? = some (some (.lst ds))) S1
 | _ => False
noncomputable def iAny (t : AE) : AI := fun δ S Q => t δ S fun r S1 => iAnyD S1 Q r.d
theorem s_iAny {t : AE} : ∀ σ H R, conI K (iAny t) σ H R → (conE K t) σ H fun x H1 => (∃ a, x = .ref a ∧ (∃ xs, SqL K H1 a xs) ∧ R (Itl K a) H1) ∨ (∃ a, x = .ref a ∧ (∃ xs, SqT K H1 a xs) ∧ R (Itt K a) H1) ∨ ∃ y, x = .str y ∧ R (Its y) H1 := by
 rintro σ H R ⟨w, δ, S, Qa, ok, env, q, bk⟩
 refine ⟨w, δ, S, _, ok, env, q, .go fun r1 S1 v1 w1 H1 le1 ok1 rep1 q1 => ?_⟩
 generalize r1.d = d at rep1 q1
 cases d with
 | lst ds =>
  simp only [Rep] at rep1
  obtain ⟨p, xs, rfl, h1, h2⟩ := rep1
  exact .inl ⟨p, rfl, ⟨xs, SqL.of (ok1.base _ _ h1)⟩, bk ds _ S1 _ w1 H1 le1 ok1 (itr_lst h1 h2) q1⟩
 | tup ds =>
  simp only [Rep] at rep1
  obtain ⟨p, xs, rfl, h1, h2⟩ := rep1
  exact .inr (.inl ⟨p, rfl, ⟨xs, SqT.of (ok1.base _ _ h1)⟩, bk ds _ S1 _ w1 H1 le1 ok1 (itr_tup h1 h2) q1⟩)
 | str x => exact .inr (.inr ⟨x, rep_str rep1 rfl, bk _ _ S1 _ w1 H1 le1 ok1 itr_str q1⟩)
 | loc n =>
  simp only [Rep] at rep1
  obtain ⟨p, hp, rfl⟩ := rep1
  obtain ⟨ds, e, q1⟩ := q1
  obtain ⟨p', u, g1, g2, g3, xs, rfl, g5⟩ := ok1.live n _ e
  rw [hp] at g1; cases g1
  exact .inl ⟨p, rfl, ⟨xs, SqL.of g3⟩, bk ds _ S1 _ w1 H1 le1 ok1 (itr_loc hp) q1⟩
 | _ => exact q1.elim
theorem rng_at {lo : Int} {n i : Nat} {d : D} (e : (iRngD lo n)[i]? = some d) : i < n ∧ d = .int (lo + (i : Int)) := by
 unfold iRngD at e
 rw [List.getElem?_map] at e
 by_cases h : i < n
 ·rw [List.getElem?_range h] at e
  exact ⟨h, by simpa using e.symm⟩
 ·rw [List.getElem?_eq_none (by simpa using h)] at e; cases e
theorem s_iRng {a : AA} : ∀ σ H R, conI K (iRng a) σ H R → iRng1 (conA K a) σ H R := by
 rintro σ H R ⟨w, δ, S, Qa, ok, env, q, bk⟩
 refine ⟨w, δ, S, _, ok, env, q, fun ds S1 vs w1 H1 le1 ok1 rep1 ⟨j, hd, ⟨h1, h2⟩, q1⟩ => ⟨j, ?_, h1, h2, ?_⟩⟩
 ·subst hd
  simp only [Reps, Rep] at rep1
  obtain ⟨x, r, rfl, rfl, rfl⟩ := rep1
  rfl
 ·refine bk _ _ S1 _ w1 H1 le1 ok1 ⟨fun i H S w' d le ok hP e => ?_, fun i H S w' d x H' le ok hP e y => ?_, fun i H S w' le ok hP e => ?_⟩ q1
  ·exact (rng_at e).1
  ·obtain ⟨y1, y2⟩ := y
   obtain ⟨e1, rfl⟩ := rng_at e
   subst y2 y1
   exact ⟨w', .refl, ok, .int⟩
  ·show _ ≤ _
   rw [e]; simp [iRngD]
end
end M
namespace M
open PySem PySem.Spec PyProof.Rows L2
section
variable {X : Cx} {pos : Pos} {e a b c : Expr} {es : List Expr}
theorem pv (i : Nat) {x : Str} (hN : X.N[i]? = some x := by rfl) (hv : Vis X.env.scope x := by first | exact Or.inl rfl | exact Or.inr (Or.inl rfl) | exact Or.inr (Or.inr rfl)) (hd : (x == ("__debug__" : Str)) = false := by decide)
  (hcd : (x == ("__classdict__" : Str)) = false := by decide) : GE X (.Name x pos) (aVar i) := ⟨mE (L2.pe_var hN hv hd hcd) s_var⟩
theorem pe_int {i j} : GE X (.Constant (.int i) j pos) (aC (.int i)) := ⟨mE L2.pe_int (s_c fun _ => .int)⟩
theorem pe_bl {i j} : GE X (.Constant (.bool i) j pos) (aC (.bl i)) := ⟨mE L2.pe_bl (s_c fun _ => .bl)⟩
theorem pe_str {i j} : GE X (.Constant (.str i) j pos) (aC (.str i)) := ⟨mE L2.pe_str (s_c fun _ => .str)⟩
theorem pe_non {j} : GE X (.Constant .none j pos) (aC .non) := ⟨mE L2.pe_non (s_c fun _ => .non)⟩
theorem pe_ty (T : String) {x : Str} (hg : Gl X x) (hm : X.mg x = none) (hv : bootBuiltins x = some (.type T)) (hn : x ≠ "__name__" := by decide +kernel) (hd : (x == ("__debug__" : Str)) = false := by decide +kernel) : GE X (.Name x pos) (aC (.ty T)) :=
 ⟨mE (L2.pe_ty T hg hm hv hn hd) (s_c fun _ => .ty)⟩
theorem pe_glob {x : Str} {d : D} {v : V} {u : Value} (hg : Gl X x) (hm : X.mg x = some u) (r : RelV v u) (h : ∀ w, Rep X.K w d v) (hd : (x == ("__debug__" : Str)) = false := by decide) : GE X (.Name x pos) (aC d) :=
 ⟨mE (L2.pe_glob hg hm r hd) (s_c h)⟩
theorem pe_op {op : Operator} {r : A2} {ta tb : AE} (ho : Op2 X (binaryOp op) r) (ha : GE X a ta) (hb : GE X b tb) : GE X (.BinOp a op b pos) (aOp r ta tb) := ⟨mE (L2.pe_op ho.p ha.p hb.p) s_op⟩
theorem pe_cmpR {op : CmpOp} {r : A2} {ta tb : AE} (ho : Op2 X (compareOp op) r) (ha : GE X a ta) (hb : GE X b tb) (hm : behindInMarks op b = false) : GE X (.Compare a [op] [b] pos) (aOp r ta tb) := ⟨mE (L2.pe_cmpR ho.p ha.p hb.p hm) s_op⟩
theorem pe_ix {r : A2} {ta tb : AE} (ho : OpI X r) (ha : GE X a ta) (hb : GE X b tb) (hs : PlainIx b) : GE X (.Subscript a b pos) (aOp r ta tb) := ⟨mE (L2.pe_ix ho.p ha.p hb.p hs) s_op⟩
theorem pa_nil : GA X [] aNil := ⟨mA L2.pa_nil s_nil⟩
theorem pac {ta : AE} {t : AA} (ha : GE X e ta) (hr : GA X es t) (hs : notStar e = true := by rfl) : GA X (e :: es) (aCons ta t) := ⟨mA (L2.pac ha.p hr.p hs) s_cons⟩
theorem pe_tup {k : Nat} {t : AA} (h : GA X es t) : GE X (.Tuple es k pos) (aTup t) := ⟨mE (L2.pe_tup h.p) s_tup⟩
theorem pe_lst {t : AA} (h : GA X es t) : GE X (.List es pos) (aLst t) := ⟨mE (L2.pe_lst h.p) s_lst⟩
theorem alo {t : AE} (h : GE X e t) : GE X e (aAlloc t) := ⟨mE h.p s_alloc⟩
theorem pe_one {op} {t : AE} (h : GE X a t) : GE X (.BoolOp op [a] pos) t := ⟨L2.pe_one h.p⟩
theorem pe_and {rest : List Expr} {ta tb : AE} (ha : GE X a ta) (hb : GE X (.BoolOp .And (b :: rest) pos) tb) : GE X (.BoolOp .And (a :: b :: rest) pos) (aAndV ta tb) := ⟨mE (L2.pe_and ha.p hb.p) s_andV⟩
theorem pe_chain {op op' : CmpOp} {r r' : A2} {ta tb tc : AE} (ho : Op2 X (compareOp op) r) (ho' : Op2 X (compareOp op') r') (ha : GE X a ta) (hb : GE X b tb) (hc : GE X c tc) (hm : lastMarks [op, op'] [b, c] = false := by with_unfolding_all rfl) :
  GE X (.Compare a [op, op'] [b, c] pos) (aChain r r' ta tb tc) := ⟨mE (L2.pe_chain ho.p ho'.p ha.p hb.p hc.p hm) s_chain⟩
theorem po_none : GO X none aNoPart := ⟨mO L2.po_none s_noPart⟩
theorem po_some {t : AE} (h : GE X e t) : GO X (some e) (aPart t) := ⟨mO (L2.po_some h.p) s_part⟩
structure OpS (X : Cx) (r : D → Option Int → Option Int → Sto → AK → Prop) : Prop where
 p : SlR X (conSl X.K r)
theorem pe_slice {lo hi : Option Expr} {p2 : Pos} {r : D → Option Int → Option Int → Sto → AK → Prop} {te : AE} {tl th : AO} (hr : OpS X r) (he : GE X e te) (hl : GO X lo tl) (hu : GO X hi th) : GE X (.Subscript e (.Slice lo hi none p2) pos) (aSl r te tl th) :=
 ⟨mE (L2.pe_slice hr.p he.p hl.p hu.p) s_sl⟩
theorem pcb {id : String} {r : AN} {t : AA} {x : Str} {p : Pos} (hc : OpC X (.builtin id) r) (hg : Gl X x) (hm : X.mg x = none) (hv : bootBuiltins x = some (.builtin id)) (ha : GA X (e :: es) t) (hn : x ≠ "__name__" := by decide +kernel) (hdb : (x == ("__debug__" : Str)) = false := by decide +kernel)
  (hs : (e :: es).all notStar = true := by rfl) : GE X (.Call (.Name x p) (e :: es) [] pos) (aCall r t) := ⟨mE (L2.pcb hc.p hg hm hv ha.p hn hdb hs) s_cb⟩
theorem pct {T : String} {r : AN} {t : AA} {x : Str} {p : Pos} (hc : OpC X (.type T) r) (hg : Gl X x) (hm : X.mg x = none) (hv : bootBuiltins x = some (.type T)) (ha : GA X (e :: es) t) (hn : x ≠ "__name__" := by decide +kernel) (hdb : (x == ("__debug__" : Str)) = false := by decide +kernel)
  (hs : (e :: es).all notStar = true := by rfl) : GE X (.Call (.Name x p) (e :: es) [] pos) (aCall r t) := ⟨mE (L2.pct hc.p hg hm hv ha.p hn hdb hs) s_cb⟩
theorem pe_own {k : Nat} {ps : List Str} {sp : AN} {t : AA} {x : Str} {p : Pos} (D : Def X.prog X.w X.K X.mg X.base k x ps (conSp X.K sp)) (hr : Room k X.A) (hg : Gl X x) (ha : GA X (e :: es) t) (hdb : (x == ("__debug__" : Str)) = false := by decide +kernel) (hs : (e :: es).all notStar = true := by rfl) :
  GE X (.Call (.Name x p) (e :: es) [] pos) (aCall sp t) := ⟨mE (L2.pe_own D hr hg pass0 ha.p hdb hs) s_call⟩
theorem pt_val {t : AE} (h : GE X e t) (he : ∀ whole, isTrue e X.env whole = (do let v ← whole; standAt e.pos; holding [v] (truthy v)) := by intro _; rfl) : GT X e (aTru t) := ⟨mT (L2.pt_truth h.p he) s_tru⟩
theorem pt_cmpR {op : CmpOp} {r : A2} {ta tb : AE} (ho : Op2 X (compareOp op) r) (ha : GE X a ta) (hb : GE X b tb) (hm : behindInMarks op b = false) : GT X (.Compare a [op] [b] pos) (aB (aOp r ta tb)) :=
 ⟨mT (L2.pt_cmpR ho.p ha.p hb.p hm) fun σ H Q h => by
  obtain ⟨w, δ, S, Qa, ok, env, q, bk⟩ := s_b σ H Q h
  exact s_op σ H _ ⟨w, δ, S, Qa, ok, env, q, bk⟩⟩
theorem pt_chain {op op' : CmpOp} {r r' : A2} {ta tb tc : AE} (ho : Op2 X (compareOp op) r) (ho' : Op2 X (compareOp op') r') (ha : GE X a ta) (hb : GE X b tb) (hc : GE X c tc) (hm : lastMarks [op, op'] [b, c] = false := by with_unfolding_all rfl) :
  GT X (.Compare a [op, op'] [b, c] pos) (aB (aChain r r' ta tb tc)) := ⟨mT (L2.pt_chain ho.p ho'.p ha.p hb.p hc.p hm) fun σ H Q h => by
  obtain ⟨w, δ, S, Qa, ok, env, q, bk⟩ := s_b σ H Q h
  exact s_chain σ H _ ⟨w, δ, S, Qa, ok, env, q, bk⟩⟩
theorem pw_pt {t : AT} (h : GW X e t) : GT X e t := ⟨h.p.pt⟩
theorem pw_and1 {t : AT} (h : GT X a t) : GW X (.BoolOp .And [a] pos) t := ⟨L2.pw_and1 h.p⟩
theorem pw_or1 {t : AT} (h : GT X a t) : GW X (.BoolOp .Or [a] pos) t := ⟨L2.pw_or1 h.p⟩
theorem pw_and {rest : List Expr} {t u : AT} (ha : GT X a t) (hb : GW X (.BoolOp .And (b :: rest) pos) u) : GW X (.BoolOp .And (a :: b :: rest) pos) (aAnd t u) := ⟨mW (L2.pw_and ha.p hb.p) s_and⟩
theorem pw_or {rest : List Expr} {t u : AT} (ha : GT X a t) (hb : GW X (.BoolOp .Or (b :: rest) pos) u) : GW X (.BoolOp .Or (a :: b :: rest) pos) (aOr t u) := ⟨mW (L2.pw_or ha.p hb.p) s_or⟩
theorem pt_not {t : AT} (h : GT X a t) : GT X (.UnaryOp .Not a pos) (aNot t) := ⟨mT (L2.pt_not h.p) s_not⟩
theorem pts_nil : GTs X [] aYes := ⟨mTs L2.pts_nil s_yes⟩
theorem pi_range1 {tg : Expr} {t : AA} {p : Pos} (hg : Gl X "range") (hm : X.mg "range" = none) (ha : GA X [a] t) (hs : starEach [a] X.env = [(false, eval a X.env)] := by rfl) : GI X tg (.Call (.Name "range" p) [a] [] pos) (iRng t) := ⟨mI (L2.pi_range1 hg hm ha.p hs) s_iRng⟩
theorem pi_any0 {tg l : Expr} {tl : TE} (hl : PE X l tl) : PI X tg l (fun σ H R => tl σ H fun x H1 => (∃ a, x = .ref a ∧ (∃ xs, SqL X.K H1 a xs) ∧ R (Itl X.K a) H1) ∨ (∃ a, x = .ref a ∧ (∃ xs, SqT X.K H1 a xs) ∧ R (Itt X.K a) H1) ∨ ∃ y, x = .str y ∧ R (Its y) H1) := by
 intro pins s σ H R I h
 refine thn (hl pins s σ H _ I h) fun v s1 ⟨x, H1, I1, r1, q1⟩ => ?_
 rcases q1 with ⟨a, rfl, ⟨xs, hq⟩, q⟩ | ⟨a, rfl, ⟨xs, hq⟩, q⟩ | ⟨y, rfl, q⟩
 ·cases r1
  obtain ⟨its, rv, p, hz⟩ := I1.list hq
  refine wpAny_pyIter_list p.isList ?_
  refine ⟨s1.heap.objs.size, [s1.heap.objs.size], _, _, H1, rfl, I1.kept (t' := s1.toks) fun b o e => Heap.get?_push_of_some _ e, turn_list a _, ⟨_, Heap.get?_push_size _ rfl, rfl, rfl⟩, fun b hb => ?_, q⟩
  have e : b = s1.heap.objs.size := by simpa using hb
  subst e
  exact I1.fpOk (Nat.le_refl _) (I1.hok.fresh (Nat.le_refl _))
 ·cases r1
  obtain ⟨its, rv, p, hz⟩ := I1.tuple hq
  refine wpAny_pyIter_tuple (show s1.heap.IsTuple a its.toArray from p) ?_
  refine ⟨s1.heap.objs.size, [s1.heap.objs.size], _, _, H1, rfl, I1.kept (t' := s1.toks) fun b o e => Heap.get?_push_of_some _ e, turn_tuple a _, ⟨_, Heap.get?_push_size _ rfl, rfl, rfl⟩, fun b hb => ?_, q⟩
  have e : b = s1.heap.objs.size := by simpa using hb
  subst e
  exact I1.fpOk (Nat.le_refl _) (I1.hok.fresh (Nat.le_refl _))
 ·obtain ⟨t, rfl⟩ := r1
  refine wpAny_pyIter_strU ?_
  refine ⟨s1.heap.objs.size, [s1.heap.objs.size], _, _, H1, rfl, I1.kept (t' := s1.toks) fun b o e => Heap.get?_push_of_some _ e, turn_str _ y t, ⟨_, Heap.get?_push_size _ rfl, rfl, rfl⟩, fun b hb => ?_, q⟩
  have e : b = s1.heap.objs.size := by simpa using hb
  subst e
  exact I1.fpOk (Nat.le_refl _) (I1.hok.fresh (Nat.le_refl _))
theorem pi_any {tg l : Expr} {tl : AE} (hl : GE X l tl) : GI X tg l (iAny tl) := ⟨mI (pi_any0 hl.p) s_iAny⟩
theorem pe_comp {elt tg iter : Expr} {ifs : List Expr} {scope : Scope} {N : List Str} {caps : List (Option Nat)} {wi : AI} {g : AG} {tt : AT} {te : AE}
  (S : BlkScope scope N) (hcap : capOk X.N X.env scope N caps = true) (hfr : L2.freeOk X.env scope = true) (hc : X.calm = true) (hi : GI X tg iter wi)
  (hg : ∀ s₀ H₀ C fp, GG (blk X scope N s₀ H₀ C fp) tg g) (ht : ∀ s₀ H₀ C fp, GTs (blk X scope N s₀ H₀ C fp) ifs tt) (he : ∀ s₀ H₀ C fp, GE (blk X scope N s₀ H₀ C fp) elt te)
  (hs : ∀ x, foldedSetIterable iter X.env x = pure x := by intro _; rfl) : GE X (.ListComp elt [⟨tg, iter, ifs, 0⟩] scope pos) (aComp caps wi g tt te) :=
 ⟨mE (L2.pe_comp S hcap hfr hc hi.p (fun s₀ H₀ C fp => (hg s₀ H₀ C fp).p) (fun s₀ H₀ C fp => (ht s₀ H₀ C fp).p) (fun s₀ H₀ C fp => (he s₀ H₀ C fp).p) hs) s_comp⟩
theorem pss_nil : GSs X [] aNext := ⟨mSs L2.pss_nil s_next⟩
theorem pss_one {st : Stmt} {t : AS} (h : GS X st t) : GSs X [st] t := ⟨L2.pss_one h.p⟩
theorem pss_cons {st : Stmt} {rest : List Stmt} {t u : AS} (h : GS X st t) (g : GSs X rest u) : GSs X (st :: rest) (aSeq t u) := ⟨mSs (L2.pss_cons h.p g.p) s_seq⟩
theorem ps_expr {t : AE} (h : GE X e t) (hs : swapsWith e none pos.line X.env = pure false := by rfl) : GS X (.Expr e pos) (aDrop t) := ⟨mS (L2.ps_expr h.p hs) s_drop⟩
theorem ps_ret {t : AE} (h : GE X e t) : GS X (.Return (some e) pos) (aRet t) := ⟨mS (L2.ps_ret h.p) s_ret⟩
theorem ps_if {p q : List Stmt} {tc : AT} {t u : AS} (hc : GT X c tc) (ha : GSs X p t) (hb : GSs X q u) : GS X (.If c p q pos) (aIfS tc t u) := ⟨mS (L2.ps_if hc.p ha.p hb.p) s_ifS⟩
theorem pg_name {i : Nat} {x : Str} (hN : X.N.Nodup) (hi : X.N[i]? = some x) (hx : Loc X.env.scope x) (hf : X.fn x = true ∨ X.env.scope.names.lookup x = some .local := by first | exact .inl rfl | exact .inr rfl | assumption) : GG X (.Name x pos) (agName i) := ⟨mG (L2.pg_name hN hi hx hf) s_gName⟩
theorem ps_set {i : Nat} {x : Str} {t : AE} {pos' : Pos} (hN : X.N.Nodup) (hi : X.N[i]? = some x) (hx : Loc X.env.scope x) (he : GE X e t) (hs : swapsWith e (some (.Name x pos')) pos.line X.env = pure false := by rfl) (hf : X.fn x = true ∨ X.env.scope.names.lookup x = some .local := by first | exact .inl rfl | exact .inr rfl | assumption) :
  GS X (.Assign [.Name x pos'] e pos) (aAsg t (agName i)) := ⟨mS (L2.ps_set hN hi hx he.p hs hf) fun D σ H h => by
  obtain ⟨w, δ, S, Qa, ok, env, q, bk⟩ := s_asg D σ H h
  exact ⟨w, δ, S, Qa, ok, env, q, fun r S' v w' H' le ok' rep q' => s_gName _ _ _ _ (bk r S' v w' H' le ok' rep q')⟩⟩
theorem ps_for {tg iter : Expr} {body : List Stmt} {wi : AI} {g : AG} {tb : AS} (hp : PassesOwn (model X.prog X.w) X.A X.env X.xe) (hc : X.calm = true) (hi : GI X tg iter wi) (hg : GG X tg g) (hb : GSs X body tb)
  (hs : ∀ x, foldedSetIterable iter X.env x = pure x := by intro _; rfl) : GS X (.For tg iter body [] pos) (aFor wi g tb) := ⟨mS (L2.ps_for hp hc hi.p hg.p hb.p hs) s_for⟩
theorem ps_while {body : List Stmt} {tc : AT} {tb : AS} (hp : PassesOwn (model X.prog X.w) X.A X.env X.xe) (hc : GT X c tc) (hb : GSs X body tb) : GS X (.While c body [] pos) (aWhile tc tb) := ⟨mS (L2.ps_while hp hc.p hb.p) s_while⟩
end
end M
namespace M
open PySem PySem.Spec PyProof.Rows L2
section
variable {X : Cx}
theorem or2 {f : Value → Value → Sem Value} {r r' : R2} (h : OpR X f r) (h' : OpR X f r') : OpR X f (fun x y H Q => r x y H Q ∨ r' x y H Q) := by
 intro pins s σ H x y v u Q I rx ry q
 rcases q with q | q
 ·exact h pins s σ H x y v u Q I rx ry q
 ·exact h' pins s σ H x y v u Q I rx ry q
theorem orC {f : Value} {r r' : List V → Hp → VK → Prop} (h : CallR X f r) (h' : CallR X f r') : CallR X f (fun x H Q => r x H Q ∨ r' x H Q) := by
 intro pins s σ H x v Q I rx q
 rcases q with q | q
 ·exact h pins s σ H x v Q I rx q
 ·exact h' pins s σ H x v Q I rx q
variable {K : PySem.W.Frag} {w : Wd} {H : Hp} {S : Sto} {v u : V} {d e : D}
theorem see_int {i : Int} (h : Rep K w d v) (z : see S d = .int i) : v = .int i := by
 cases d <;> simp only [see] at z
 case loc n => split at z <;> first | (rename_i o _; cases o <;> simp [MO.d] at z) | cases z
 all_goals first | cases z | skip
 simpa [Rep] using h
theorem see_str {i : Str} (h : Rep K w d v) (z : see S d = .str i) : v = .str i := by
 cases d <;> simp only [see] at z
 case loc n => split at z <;> first | (rename_i o _; cases o <;> simp [MO.d] at z) | cases z
 all_goals first | cases z | skip
 simpa [Rep] using h
theorem see_bl {i : Bool} (h : Rep K w d v) (z : see S d = .bl i) : v = .bl i := by
 cases d <;> simp only [see] at z
 case loc n => split at z <;> first | (rename_i o _; cases o <;> simp [MO.d] at z) | cases z
 all_goals first | cases z | skip
 simpa [Rep] using h
theorem see_non (h : Rep K w d v) (z : see S d = .non) : v = .non := by
 cases d <;> simp only [see] at z
 case loc n => split at z <;> first | (rename_i o _; cases o <;> simp [MO.d] at z) | cases z
 all_goals first | cases z | skip
 simpa [Rep] using h
theorem see_scr {ns : List Int} (k : Ok K w H S) (h : Rep K w d v) (z : see S d = .scr ns) : ∃ a, v = .ref a ∧ SqL K H a (ns.map V.int) := by
 cases d <;> simp only [see] at z
 case loc n => split at z <;> first | (rename_i o _; cases o <;> simp [MO.d] at z) | cases z
 all_goals first | cases z | skip
 simp only [Rep] at h
 obtain ⟨a, h1, h2⟩ := h
 exact ⟨a, h1, k.base.seq h2⟩
noncomputable def aI (C : Int → Int → Prop) (g : Int → Int → D) : A2 := fun x y S Q => ∃ i j, x = .int i ∧ y = .int j ∧ C i j ∧ Q (.dat (g i j)) S
theorem c_I {C : Int → Int → Prop} {g : Int → Int → D} {g' : Int → Int → V} (h : ∀ w i j, Rep K w (g i j) (g' i j)) : ∀ x y H Q, con2 K (aI C g) x y H Q → rI C g' x y H Q := by
 rintro x y H Q ⟨w, d, e, S, Qa, ok, r1, r2, ⟨i, j, e1, e2, hc, q⟩, bk⟩
 exact ⟨i, j, rep_int r1 e1, rep_int r2 e2, hc, bk.dat .refl ok (h w i j) q⟩
theorem rI_of0 {g : Int → Int → V} : ∀ x y H Q, rI (fun _ _ => True) g x y H Q → rI0 g x y H Q := by
 rintro x y H Q ⟨i, j, h1, h2, _, q⟩
 exact ⟨i, j, h1, h2, q⟩
theorem o_sub : Op2 X (binaryOp .Sub) (aI (fun _ _ => True) fun i j => .int (i - j)) := ⟨m2 L2.op_sub fun x y H Q h => rI_of0 x y H Q (c_I (g' := fun i j => .int (i - j)) (fun _ _ _ => .int) x y H Q h)⟩
theorem o_mod : Op2 X (binaryOp .Mod) (aI (fun _ j => 0 < j) fun i j => .int (i % j)) := ⟨m2 L2.op_mod (c_I fun _ _ _ => .int)⟩
theorem o_gt : Op2 X (compareOp .Gt) (aI (fun _ _ => True) fun i j => .bl (decide (j < i))) := ⟨m2 L2.op_gt fun x y H Q h => rI_of0 x y H Q (c_I (g' := fun i j => .bl (decide (j < i))) (fun _ _ _ => .bl) x y H Q h)⟩
theorem o_ge : Op2 X (compareOp .GtE) (aI (fun _ _ => True) fun i j => .bl (decide (j ≤ i))) := ⟨m2 L2.op_ge fun x y H Q h => rI_of0 x y H Q (c_I (g' := fun i j => .bl (decide (j ≤ i))) (fun _ _ _ => .bl) x y H Q h)⟩
noncomputable def aLt : A2 := fun x y S Q => match x, y with
 | .int i, .int j => Q (.dat (.bl (decide (i < j)))) S
 | .str i, .str j => Q (.dat (.bl (decide (i.cps.toList < j.cps.toList)))) S
 | _, _ => False
noncomputable def aLe : A2 := fun x y S Q => match x, y with
 | .int i, .int j => Q (.dat (.bl (decide (i ≤ j)))) S
 | .str i, .str j => Q (.dat (.bl (!decide (j.cps.toList < i.cps.toList)))) S
 | _, _ => False
theorem o_lt : Op2 X (compareOp .Lt) aLt := ⟨m2 (or2 L2.op_lt L2.op_lt_str) fun x y H Q h => by
 obtain ⟨w, d, e, S, Qa, ok, r1, r2, q, bk⟩ := h
 cases d <;> cases e <;> first | exact q.elim | skip
 ·exact .inl ⟨_, _, rep_int r1 rfl, rep_int r2 rfl, bk.dat .refl ok .bl q⟩
 ·exact .inr ⟨_, _, rep_str r1 rfl, rep_str r2 rfl, bk.dat .refl ok .bl q⟩⟩
theorem o_le : Op2 X (compareOp .LtE) aLe := ⟨m2 (or2 L2.op_le L2.op_le_str) fun x y H Q h => by
 obtain ⟨w, d, e, S, Qa, ok, r1, r2, q, bk⟩ := h
 cases d <;> cases e <;> first | exact q.elim | skip
 ·exact .inl ⟨_, _, rep_int r1 rfl, rep_int r2 rfl, bk.dat .refl ok .bl q⟩
 ·exact .inr ⟨_, _, rep_str r1 rfl, rep_str r2 rfl, bk.dat .refl ok .bl q⟩⟩
noncomputable def isNon : D → Bool
 | .non => true
 | _ => false
noncomputable def aIsN : A2 := fun x y S Q => y = .non ∧ Q (.dat (.bl (isNon x))) S
theorem non_iff (h : Rep K w d v) : decide (v = .non) = isNon d := by
 cases d <;> simp only [Rep] at h
 case loc => obtain ⟨a, _, rfl⟩ := h; rfl
 case tup => obtain ⟨a, _, rfl, _⟩ := h; rfl
 case lst => obtain ⟨a, _, rfl, _⟩ := h; rfl
 case dct => obtain ⟨a, _, rfl, _⟩ := h; rfl
 case scr => obtain ⟨a, rfl, _⟩ := h; rfl
 case stc => obtain ⟨a, rfl, _⟩ := h; rfl
 case fd => obtain ⟨a, rfl⟩ := h; rfl
 all_goals (subst h; rfl)
theorem o_isN : Op2 X (compareOp .Is) aIsN := ⟨m2 L2.op_isN fun x y H Q h => by
 obtain ⟨w, d, e, S, Qa, ok, r1, r2, ⟨rfl, q⟩, bk⟩ := h
 refine ⟨rep_non r2 rfl, ?_⟩
 rw [non_iff r1]
 exact bk.dat .refl ok .bl q⟩
noncomputable def aAdd : A2 := fun x y S Q => match see S x, see S y with
 | .int i, .int j => Q (.dat (.int (i + j))) S
 | .str i, .str j => i.length + j.length ≤ sizeLine ∧ Q (.dat (.str (i ++ j))) S
 | .lst xs, .lst ys => xs.length + ys.length ≤ sizeLine ∧ Q (.new (.lst (xs ++ ys))) S
 | .tup xs, .tup ys => xs ≠ [] ∧ xs.length + ys.length ≤ sizeLine ∧ Q (.dat (.tup (xs ++ ys))) S
 | _, _ => False
theorem o_add : Op2 X (binaryOp .Add) aAdd := ⟨m2 (or2 L2.op_add (or2 L2.op_add_str (or2 L2.op_cat L2.op_catT))) fun x y H Q h => by
 obtain ⟨w, d, e, S, Qa, ok, r1, r2, q, bk⟩ := h
 unfold aAdd at q
 cases z1 : see S d <;> cases z2 : see S e <;> rw [z1, z2] at q <;> first | exact q.elim | skip
 ·exact .inl ⟨_, _, see_int r1 z1, see_int r2 z2, bk.dat .refl ok .int q⟩
 ·exact .inr (.inl ⟨_, _, see_str r1 z1, see_str r2 z2, q.1, bk.dat .refl ok .str q.2⟩)
 ·obtain ⟨a, xs, rfl, h1, g1⟩ := see_tup ok r1 z1
  obtain ⟨b, ys, rfl, h2, g2⟩ := see_tup ok r2 z2
  obtain ⟨hne, hl, q⟩ := q
  refine .inr (.inr (.inr ⟨a, b, xs, ys, rfl, rfl, SqT.of h1, SqT.of h2, ?_, by rw [g1.length, g2.length]; exact hl, fun hy => ?_, fun hy p hp => ?_⟩))
  ·intro z; subst z
   have := g1.length
   simp at this
   exact hne (List.eq_nil_of_length_eq_zero this.symm)
  ·subst hy
   have : _ = [] := List.eq_nil_of_length_eq_zero g2.length.symm
   rw [this, List.append_nil] at q
   cases d <;> simp only [see] at z1
   case tup => cases z1; exact bk.dat .refl ok r1 q
   case loc n => split at z1 <;> first | (rename_i o _; cases o <;> simp [MO.d] at z1) | cases z1
   all_goals cases z1
  ·obtain ⟨w2, le2, ok2, rep2⟩ := ok.newTup hp (g1.append g2)
   exact bk.dat le2 ok2 rep2 q
 ·obtain ⟨a, xs, rfl, h1, g1⟩ := see_lst ok r1 z1
  obtain ⟨b, ys, rfl, h2, g2⟩ := see_lst ok r2 z2
  refine .inr (.inr (.inl ⟨a, b, xs, ys, rfl, rfl, h1, h2, by rw [g1.length, g2.length]; exact q.1, fun p hp => ?_⟩))
  exact bk (.new (.lst _)) S _ w _ .refl (ok.alloc hp) (ok.fresh hp ⟨_, rfl, g1.append g2⟩) q.2⟩
end
end M
namespace M
open PySem PySem.Spec PyProof.Rows PySem.SeqAt L2
mutual
noncomputable def pur : D → Bool
 | .non | .bl _ | .int _ | .str _ => true
 | .tup ds | .lst ds => purs ds
 | _ => false
noncomputable def purs : List D → Bool
 | [] => true
 | d :: ds => pur d && purs ds
end
mutual
noncomputable def py : D → PyData
 | .non => .none
 | .bl b => .bool b
 | .int i => .int i
 | .str x => .str x
 | .tup ds => .tuple (pys ds)
 | .lst ds => .list (pys ds)
 | _ => .none
noncomputable def pys : List D → List PyData
 | [] => []
 | d :: ds => py d :: pys ds
end
section
variable {K : PySem.W.Frag} {w : Wd} {H : Hp} {S : Sto}
mutual
theorem dat_of (e : Same w.B H) : ∀ (d : D) (v : V), pur d = true → Rep K w d v → DatV K H (py d) v
 | .non, v, _, h => by simpa [Rep, py, DatV] using h
 | .bl _, v, _, h => by simpa [Rep, py, DatV] using h
 | .int _, v, _, h => by simpa [Rep, py, DatV] using h
 | .str _, v, _, h => by simpa [Rep, py, DatV] using h
 | .tup ds, v, hp, h => by
  simp only [Rep, py, DatV] at h ⊢
  obtain ⟨a, xs, h1, h2, h3⟩ := h
  exact ⟨a, xs, h1, SqT.of (e _ _ h2), dats_of e ds xs (by simpa [pur] using hp) h3⟩
 | .lst ds, v, hp, h => by
  simp only [Rep, py, DatV] at h ⊢
  obtain ⟨a, xs, h1, h2, h3⟩ := h
  exact ⟨a, xs, h1, SqL.of (e _ _ h2), dats_of e ds xs (by simpa [pur] using hp) h3⟩
 | .dct _ _, _, hp, _ => by simp [pur] at hp
 | .loc _, _, hp, _ => by simp [pur] at hp
 | .ty _, _, hp, _ => by simp [pur] at hp
 | .scr _, _, hp, _ => by simp [pur] at hp
 | .stc _, _, hp, _ => by simp [pur] at hp
 | .fd, _, hp, _ => by simp [pur] at hp
 | .fn _, _, hp, _ => by simp [pur] at hp
theorem dats_of (e : Same w.B H) : ∀ (ds : List D) (vs : List V), purs ds = true → Reps K w ds vs → DatVs K H (pys ds) vs
 | [], vs, _, h => by simpa [Reps, pys, DatVs] using h
 | d :: ds, vs, hp, h => by
  simp only [purs, Bool.and_eq_true] at hp
  simp only [Reps, pys, DatVs] at h ⊢
  obtain ⟨x, r, h1, h2, h3⟩ := h
  exact ⟨x, r, h1, dat_of e d x hp.1 h2, dats_of e ds r hp.2 h3⟩
end
theorem see_dat (k : Ok K w H S) {d : D} {v : V} (h : Rep K w d v) (hp : pur (see S d) = true) : DatV K H (py (see S d)) v := by
 cases d with
 | loc n =>
  cases z : see S (.loc n) with
  | lst ds =>
   rw [z] at hp
   obtain ⟨a, xs, rfl, h1, h2⟩ := see_lst k h z
   simp only [py, DatV]
   exact ⟨a, xs, rfl, SqL.of h1, dats_of k.base ds xs (by simpa [pur] using hp) h2⟩
  | _ =>
   rw [z] at hp
   simp only [see] at z
   split at z <;> first | (rename_i o _; cases o <;> simp [MO.d] at z) | (cases z; simp [pur] at hp) | cases z
   all_goals simp [pur] at hp
 | _ => exact dat_of k.base _ v (by simpa [see] using hp) h
end
noncomputable def fit (d : D) : Bool := pur d && shaped (py d)
noncomputable def aEq : A2 := fun x y S Q => match see S x, see S y with
 | .str a, .str b => Q (.dat (.bl (decide (a = b)))) S
 | .int a, .int b => Q (.dat (.bl (decide (a = b)))) S
 | .bl a, .bl b => Q (.dat (.bl (decide (a = b)))) S
 | x', y' => fit x' = true ∧ fit y' = true ∧ Q (.dat (.bl (PyData.eqv (py x') (py y')))) S
noncomputable def aNe : A2 := fun x y S Q => match see S x, see S y with
 | .str a, .str b => Q (.dat (.bl (!decide (a = b)))) S
 | .int a, .int b => Q (.dat (.bl (!decide (a = b)))) S
 | .bl a, .bl b => Q (.dat (.bl (!decide (a = b)))) S
 | x', y' => fit x' = true ∧ fit y' = true ∧ Q (.dat (.bl (!PyData.eqv (py x') (py y')))) S
section
variable {X : Cx}
noncomputable def rEqD (K : PySem.W.Frag) : R2 := fun x y H Q => ∃ a b, DatV K H a x ∧ DatV K H b y ∧ shaped a = true ∧ shaped b = true ∧ Q (.bl (PyData.eqv a b)) H
noncomputable def rNeD (K : PySem.W.Frag) : R2 := fun x y H Q => ∃ a b, DatV K H a x ∧ DatV K H b y ∧ shaped a = true ∧ shaped b = true ∧ Q (.bl (!PyData.eqv a b)) H
theorem op_eqD {k : Nat} (hr : Room k X.A) : OpR X (compareOp .Eq) (rEqD X.K) := by
 intro pins s σ H x y v u Q I rx ry h
 obtain ⟨a, b, h1, h2, h3, h4, q⟩ := h
 obtain ⟨as, ra⟩ := I.reads a x v h1 rx
 obtain ⟨bs, rb⟩ := I.reads b y u h2 ry
 exact eq_dataH ra rb h3 h4 hr.units ⟨.bl _, H, I, rfl, q⟩
theorem op_neD {k : Nat} (hr : Room k X.A) : OpR X (compareOp .NotEq) (rNeD X.K) := by
 intro pins s σ H x y v u Q I rx ry h
 obtain ⟨a, b, h1, h2, h3, h4, q⟩ := h
 obtain ⟨as, ra⟩ := I.reads a x v h1 rx
 obtain ⟨bs, rb⟩ := I.reads b y u h2 ry
 exact ne_dataH ra rb h3 h4 hr.units ⟨.bl _, H, I, rfl, q⟩
theorem fit_dat {K : PySem.W.Frag} {w : Wd} {H : Hp} {S : Sto} {d : D} {v : V} (k : Ok K w H S) (h : Rep K w d v) (hf : fit (see S d) = true) : DatV K H (py (see S d)) v ∧ shaped (py (see S d)) = true := by
 unfold fit at hf
 rw [Bool.and_eq_true] at hf
 exact ⟨see_dat k h hf.1, hf.2⟩
theorem o_eq {k : Nat} (hr : Room k X.A) : Op2 X (compareOp .Eq) aEq := ⟨m2 (or2 L2.op_eq (op_eqD hr)) fun x y H Q h => by
 obtain ⟨w, d, e, S, Qa, ok, r1, r2, q, bk⟩ := h
 unfold aEq at q
 split at q
 next a b z1 z2 =>
  refine .inl ⟨by rw [see_str r1 z1, see_str r2 z2]; rfl, ?_⟩
  rw [see_str r1 z1, see_str r2 z2]
  exact bk.dat .refl ok (by rw [show decide (V.str a = V.str b) = decide (a = b) by simp]; exact .bl) q
 next a b z1 z2 =>
  refine .inl ⟨by rw [see_int r1 z1, see_int r2 z2]; rfl, ?_⟩
  rw [see_int r1 z1, see_int r2 z2]
  exact bk.dat .refl ok (by rw [show decide (V.int a = V.int b) = decide (a = b) by simp]; exact .bl) q
 next a b z1 z2 =>
  refine .inl ⟨by rw [see_bl r1 z1, see_bl r2 z2]; rfl, ?_⟩
  rw [see_bl r1 z1, see_bl r2 z2]
  exact bk.dat .refl ok (by rw [show decide (V.bl a = V.bl b) = decide (a = b) by simp]; exact .bl) q
 next =>
  obtain ⟨f1, f2, q⟩ := q
  obtain ⟨g1, s1⟩ := fit_dat ok r1 f1
  obtain ⟨g2, s2⟩ := fit_dat ok r2 f2
  exact .inr ⟨_, _, g1, g2, s1, s2, bk.dat .refl ok .bl q⟩⟩
theorem o_ne {k : Nat} (hr : Room k X.A) : Op2 X (compareOp .NotEq) aNe := ⟨m2 (or2 L2.op_ne (op_neD hr)) fun x y H Q h => by
 obtain ⟨w, d, e, S, Qa, ok, r1, r2, q, bk⟩ := h
 unfold aNe at q
 split at q
 next a b z1 z2 =>
  refine .inl ⟨by rw [see_str r1 z1, see_str r2 z2]; rfl, ?_⟩
  rw [see_str r1 z1, see_str r2 z2]
  exact bk.dat .refl ok (by rw [show decide (V.str a = V.str b) = decide (a = b) by simp]; exact .bl) q
 next a b z1 z2 =>
  refine .inl ⟨by rw [see_int r1 z1, see_int r2 z2]; rfl, ?_⟩
  rw [see_int r1 z1, see_int r2 z2]
  exact bk.dat .refl ok (by rw [show decide (V.int a = V.int b) = decide (a = b) by simp]; exact .bl) q
 next a b z1 z2 =>
  refine .inl ⟨by rw [see_bl r1 z1, see_bl r2 z2]; rfl, ?_⟩
  rw [see_bl r1 z1, see_bl r2 z2]
  exact bk.dat .refl ok (by rw [show decide (V.bl a = V.bl b) = decide (a = b) by simp]; exact .bl) q
 next =>
  obtain ⟨f1, f2, q⟩ := q
  obtain ⟨g1, s1⟩ := fit_dat ok r1 f1
  obtain ⟨g2, s2⟩ := fit_dat ok r2 f2
  exact .inr ⟨_, _, g1, g2, s1, s2, bk.dat .refl ok .bl q⟩⟩
noncomputable def inD (d : D) (ds : List D) : Bool := ds.any fun y => PyData.eqv (py y) (py d)
noncomputable def aIn (neg : Bool) : A2 := fun x y S Q => match see S y with
 | .tup ds => fit (see S x) = true ∧ fit (.tup ds) = true ∧ Q (.dat (.bl (neg != inD (see S x) ds))) S
 | .lst ds => fit (see S x) = true ∧ fit (.lst ds) = true ∧ Q (.dat (.bl (neg != inD (see S x) ds))) S
 | .stc ss => fit (see S x) = true ∧ fit (.tup (ss.map D.str)) = true ∧ Q (.dat (.bl (neg != inD (see S x) (ss.map D.str)))) S
 | _ => False
noncomputable def rInD (K : PySem.W.Frag) (neg : Bool) : R2 := fun x y H Q => ∃ d ds, DatV K H d x ∧ (DatV K H (.tuple ds) y ∨ DatV K H (.list ds) y) ∧ shaped d = true ∧ PyData.canLayAll0 ds = true ∧ Q (.bl (neg != ds.any fun y => PyData.eqv y d)) H
theorem op_inD {k : Nat} (hr : Room k X.A) : OpR X (compareOp .In) (rInD X.K false) := by
 intro pins s σ H x y v u Q I rx ry h
 obtain ⟨d, ds, h1, h2, h3, h4, q⟩ := h
 obtain ⟨as, ra⟩ := I.reads d x v h1 rx
 have hu := hr.un
 rcases h2 with h2 | h2
 ·obtain ⟨bs, rb⟩ := I.reads _ y u h2 ry
  exact PySem.SeqAt.in_tuple_reads rb ra h4 (canLay_of_shaped h3) (room_in_shaped h3 (by omega)) ⟨.bl _, H, I, by simp [L2.RelV], q⟩
 ·obtain ⟨bs, rb⟩ := I.reads _ y u h2 ry
  exact PySem.SeqAt.in_list_reads rb ra h4 (canLay_of_shaped h3) (room_in_shaped h3 (by omega)) ⟨.bl _, H, I, by simp [L2.RelV], q⟩
theorem op_notInD {k : Nat} (hr : Room k X.A) : OpR X (compareOp .NotIn) (rInD X.K true) := by
 intro pins s σ H x y v u Q I rx ry h
 obtain ⟨d, ds, h1, h2, h3, h4, q⟩ := h
 obtain ⟨as, ra⟩ := I.reads d x v h1 rx
 have hu := hr.un
 rcases h2 with h2 | h2
 ·obtain ⟨bs, rb⟩ := I.reads _ y u h2 ry
  exact PySem.SeqAt.notIn_tuple_reads rb ra h4 (canLay_of_shaped h3) (room_in_shaped h3 (by omega)) ⟨.bl _, H, I, by simp [L2.RelV], q⟩
 ·obtain ⟨bs, rb⟩ := I.reads _ y u h2 ry
  exact PySem.SeqAt.notIn_list_reads rb ra h4 (canLay_of_shaped h3) (room_in_shaped h3 (by omega)) ⟨.bl _, H, I, by simp [L2.RelV], q⟩
theorem pys_map (ds : List D) : pys ds = ds.map py := by
 induction ds with
 | nil => rfl
 | cons d ds ih => simp [pys, ih]
theorem any_pys (ds : List D) (p : PyData → Bool) : (pys ds).any p = ds.any fun y => p (py y) := by
 rw [pys_map, List.any_map]; rfl
theorem stc_dat {K : PySem.W.Frag} {H : Hp} : ∀ (ss : List Str), DatVs K H (pys (ss.map D.str)) (ss.map V.str)
 | [] => by simp [pys, DatVs]
 | s :: ss => by
  simp only [List.map_cons, pys, DatVs, py, DatV]
  exact ⟨_, _, rfl, rfl, stc_dat ss⟩
theorem see_stc {K : PySem.W.Frag} {w : Wd} {H : Hp} {S : Sto} {d : D} {v : V} {ss : List Str} (k : Ok K w H S) (h : Rep K w d v) (z : see S d = .stc ss) : ∃ a, v = .ref a ∧ SqT K H a (ss.map V.str) := by
 cases d <;> simp only [see] at z
 case loc n => split at z <;> first | (rename_i o _; cases o <;> simp [MO.d] at z) | cases z
 all_goals first | cases z | skip
 simp only [Rep] at h
 obtain ⟨a, h1, h2⟩ := h
 exact ⟨a, h1, SqT.same k.base h2⟩
theorem fit_lay {ds : List D} (h : fit (.tup ds) = true) : PyData.canLayAll0 (pys ds) = true := by
 unfold fit at h
 rw [Bool.and_eq_true] at h
 have := canLay_of_shaped h.2
 simpa [py, PyData.canLay0] using this
theorem fit_layL {ds : List D} (h : fit (.lst ds) = true) : PyData.canLayAll0 (pys ds) = true := by
 unfold fit at h
 rw [Bool.and_eq_true] at h
 have := canLay_of_shaped h.2
 simpa [py, PyData.canLay0] using this
theorem c_in {K : PySem.W.Frag} {neg : Bool} : ∀ x y H Q, con2 K (aIn neg) x y H Q → rInD K neg x y H Q := by
 rintro x y H Q ⟨w, d, e, S, Qa, ok, r1, r2, q, bk⟩
 unfold aIn at q
 split at q
 next ds z =>
  obtain ⟨f1, f2, q⟩ := q
  obtain ⟨g1, s1⟩ := fit_dat ok r1 f1
  obtain ⟨g2, s2⟩ := fit_dat ok r2 (by rw [z]; exact f2)
  rw [z] at g2
  refine ⟨_, pys ds, g1, .inl (by simpa only [py] using g2), s1, fit_lay f2, ?_⟩
  rw [any_pys]
  exact bk.dat .refl ok .bl q
 next ds z =>
  obtain ⟨f1, f2, q⟩ := q
  obtain ⟨g1, s1⟩ := fit_dat ok r1 f1
  obtain ⟨g2, s2⟩ := fit_dat ok r2 (by rw [z]; exact f2)
  rw [z] at g2
  refine ⟨_, pys ds, g1, .inr (by simpa only [py] using g2), s1, fit_layL f2, ?_⟩
  rw [any_pys]
  exact bk.dat .refl ok .bl q
 next ss z =>
  obtain ⟨f1, f2, q⟩ := q
  obtain ⟨g1, s1⟩ := fit_dat ok r1 f1
  obtain ⟨a, rfl, g2⟩ := see_stc ok r2 z
  refine ⟨_, pys (ss.map D.str), g1, .inl ?_, s1, fit_lay f2, ?_⟩
  ·simp only [DatV]
   exact ⟨a, _, rfl, g2, stc_dat ss⟩
  ·rw [any_pys]
   exact bk.dat .refl ok .bl q
 next => exact q.elim
theorem o_in {k : Nat} (hr : Room k X.A) : Op2 X (compareOp .In) (aIn false) := ⟨m2 (op_inD hr) c_in⟩
theorem o_notIn {k : Nat} (hr : Room k X.A) : Op2 X (compareOp .NotIn) (aIn true) := ⟨m2 (op_notInD hr) c_in⟩
end
end M
namespace M
open PySem PySem.Spec PyProof.Rows PySem.SeqAt L2
section
variable {X : Cx} {K : PySem.W.Frag} {w : Wd} {H : Hp} {S : Sto} {d : D} {v : V}
theorem reps_atI {ds : List D} {xs : List V} {i : Int} {e : D} (h : Reps K w ds xs) (q : atI ds i = some e) : ∃ u, atI xs i = some u ∧ Rep K w e u := by
 unfold atI at q ⊢
 rw [h.length]
 cases z : ixN ds.length i with
 | none => rw [z] at q; cases q
 | some j =>
  rw [z] at q
  exact h.get q
noncomputable def aIx : A2 := fun x y S Q => match see S x, y with
 | .lst ds, .int i => ∃ e, atI ds i = some e ∧ Q (.dat e) S
 | .tup ds, .int i => ∃ e, atI ds i = some e ∧ Q (.dat e) S
 | .str z, .int i => z.length ≤ sizeLine ∧ ∃ c, atI z.cps.toList i = some c ∧ Q (.dat (.str ⟨#[c]⟩)) S
 | .scr ns, .int i => ∃ n, atI ns i = some n ∧ Q (.dat (.int n)) S
 | _, _ => False
theorem atI_map {α β : Type} {f : α → β} {xs : List α} {i : Int} {a : α} (h : atI xs i = some a) : atI (xs.map f) i = some (f a) := by
 unfold atI at h ⊢
 rw [List.length_map]
 cases z : ixN xs.length i with
 | none => rw [z] at h; cases h
 | some j =>
  rw [z] at h
  have h : xs[j]? = some a := h
  show (xs.map f)[j]? = some (f a)
  rw [List.getElem?_map, h]; rfl
theorem o_ix : OpI X aIx := ⟨fun value slice pins s σ H x y v u Q I rx ry h hs => by
 refine L2.ix_seq value slice pins s σ H x y v u Q I rx ry ?_ hs
 obtain ⟨w, d, e, S, Qa, ok, r1, r2, q, bk⟩ := h
 unfold aIx at q
 split at q
 next ds i z =>
  obtain ⟨a, xs, rfl, h1, h2⟩ := see_lst ok r1 z
  obtain ⟨e', he, q⟩ := q
  obtain ⟨u', g1, g2⟩ := reps_atI h2 he
  exact .inl ⟨a, xs, i, u', rfl, rep_int r2 rfl, SqL.of h1, g1, bk.dat .refl ok g2 q⟩
 next ds i z =>
  obtain ⟨a, xs, rfl, h1, h2⟩ := see_tup ok r1 z
  obtain ⟨e', he, q⟩ := q
  obtain ⟨u', g1, g2⟩ := reps_atI h2 he
  exact .inr (.inl ⟨a, xs, i, u', rfl, rep_int r2 rfl, SqT.of h1, g1, bk.dat .refl ok g2 q⟩)
 next y i z =>
  obtain ⟨hl, c, hc, q⟩ := q
  exact .inr (.inr ⟨y, i, c, see_str r1 z, rep_int r2 rfl, hl, hc, bk.dat .refl ok .str q⟩)
 next ns i z =>
  obtain ⟨a, rfl, h1⟩ := see_scr ok r1 z
  obtain ⟨n, hn, q⟩ := q
  exact .inl ⟨a, _, i, .int n, rfl, rep_int r2 rfl, h1, atI_map hn, bk.dat .refl ok .int q⟩
 next => exact q.elim⟩
noncomputable def cutD {α : Type} (xs : List α) (lo hi : Option Int) : List α := (xs.drop (HT.sIx xs.length 0 lo)).take (HT.sIx xs.length xs.length hi - HT.sIx xs.length 0 lo)
theorem reps_cut {ds : List D} {xs : List V} (h : Reps K w ds xs) (lo hi : Option Int) : Reps K w (cutD ds lo hi) (cutV xs lo hi) := by
 unfold cutD cutV
 rw [h.length]
 exact (h.drop _).take _
end
section
variable {prog : Program} {w : World} {A : Around} {E : Value → Shared → Prop} {s : Shared}
theorem getItem_tuple_whole {t sl : Addr} {items : Array Value} {vl vu : Value} {lo hi : Option Int} {Q : Value → Shared → Prop} (ht : IsTup s.heap t items) (hs : s.heap.IsSliceOf sl vl vu .none) (pl : IsPart vl lo) (pu : IsPart vu hi)
  (hw : HT.sIx items.size 0 lo = 0 ∧ HT.sIx items.size items.size hi = items.size) (h : Q (.ref t) s) : wpAny (model prog w) A (getItem (.ref t) (.ref sl)) Q E s := by
 obtain ⟨os, hos, hcs, hds⟩ := id hs
 have hTs : s.TypeIs (.ref sl) "slice" := ⟨os, hos, hcs⟩
 unfold getItem
 try with_reducible refine wpAny_holding ?_
 first | refine wpAny_bind (wpAny_pure ?_) | skip
 refine wpAny_bind (wpAny_sequenceKey ht.typeIs (by decide) ?_)
 refine wpAny_bind (wpAny_callSpecial?_slot (name := Str.ofString "__getitem__") ht.typeIs PyProof.Rows.slot_tuple_getitem
  (wpAny_call_entry PyProof.Rows.slot_tuple_getitem ht.typeIs PyProof.Rows.entry_tuple_getitem ?_ (PyProof.Rows.args_tuple_getitem _ _)))
 show wpAny _ _ (Builtin.Tuple.tupleItemsOf (.ref t) >>= _) _ _ s
 refine wpAny_bind (PyProof.Rows.tupleItemsOf_ ht ?_)
 refine wpAny_bind (wpAny_typeOf hTs ?_)
 rw [if_pos (by decide)]
 refine wpAny_bind (HT.sliceApplied_gen hs pl pu ?_)
 have hyes : (((HT.sIx items.size 0 lo : Nat) : Int) == 0 && (1 : Int) == 1 && (HT.sIx items.size items.size hi - HT.sIx items.size 0 lo) == items.size) = true := by
  rw [hw.1, hw.2]; simp
 show wpAny _ _ (if (((HT.sIx items.size 0 lo : Nat) : Int) == 0 && (1 : Int) == 1 && (HT.sIx items.size items.size hi - HT.sIx items.size 0 lo) == items.size) = true then _ else _) _ _ s
 rw [if_pos hyes]
 refine wpAny_bind (m := Builtin.Tuple.tupleIsExact (.ref t)) ?_
 unfold Builtin.Tuple.tupleIsExact
 refine wpAny_bind (wpAny_typeOf ht.typeIs (wpAny_pure ?_))
 rw [if_pos (by decide)]
 exact wpAny_bind (wpAny_rule (wpAny_pure ⟨_, rfl, wpAny_pure h⟩))
end
section
variable {X : Cx} {K : PySem.W.Frag} {w : Wd} {H : Hp} {S : Sto} {d : D} {v : V}
noncomputable def aSlc : D → Option Int → Option Int → Sto → AK → Prop := fun x lo hi S Q => match see S x with
 | .lst ds => Q (.new (.lst (cutD ds lo hi))) S
 | .tup ds => Q (.dat (.tup (cutD ds lo hi))) S
 | .str z => z.length ≤ sizeLine ∧ Q (.dat (.str (Txt.slice z lo hi))) S
 | .scr ns => Q (.new (.lst ((cutD ns lo hi).map D.int))) S
 | _ => False
noncomputable def rSlW (K : PySem.W.Frag) : V → Option Int → Option Int → Hp → VK → Prop := fun x lo hi H Q => ∃ a xs, x = .ref a ∧ SqT K H a xs ∧ (HT.sIx xs.length 0 lo = 0 ∧ HT.sIx xs.length xs.length hi = xs.length) ∧ Q (.ref a) H
theorem sl_whole : SlR X (rSlW X.K) := by
 intro pins s σ H x v vl vu lo hi sl Q I rx hs pl pu h
 obtain ⟨a, xs, rfl, hx, hw, q⟩ := h
 cases rx
 obtain ⟨its, r, ht, hz⟩ := I.tuple hx
 have hlen : its.toArray.size = xs.length := by rw [List.size_toArray]; exact r.length.symm
 refine ⟨"tuple", _, PyProof.Rows.slot_tuple_getitem.lookup, ht.typeIs, ?_⟩
 exact getItem_tuple_whole ht hs pl pu (by rw [hlen]; exact hw) ⟨.ref a, H, I, rfl, q⟩
theorem cut_whole {α : Type} {xs : List α} {lo hi : Option Int} (h : HT.sIx xs.length 0 lo = 0 ∧ HT.sIx xs.length xs.length hi = xs.length) : cutD xs lo hi = xs := by
 unfold cutD
 rw [h.1, h.2]; simp
theorem cut_map {α β : Type} (f : α → β) (xs : List α) (lo hi : Option Int) : cutD (xs.map f) lo hi = (cutD xs lo hi).map f := by
 unfold cutD
 rw [List.length_map, List.map_take, List.map_drop]
theorem reps_ints {w : Wd} : ∀ (ns : List Int), Reps K w (ns.map D.int) (ns.map V.int)
 | [] => .nil
 | n :: ns => .cons .int (reps_ints ns)
theorem o_slc : OpS X aSlc := ⟨by
 intro pins s σ H x v vl vu lo hi sl Q I rx hs pl pu h
 refine (L2.sl_list.or (L2.sl_tup.or (sl_whole.or L2.sl_str))) pins s σ H x v vl vu lo hi sl Q I rx hs pl pu ?_
 obtain ⟨w, d, S, Qa, ok, r1, q, bk⟩ := h
 unfold aSlc at q
 split at q
 next ds z =>
  obtain ⟨a, xs, rfl, h1, h2⟩ := see_lst ok r1 z
  exact .inl ⟨a, xs, rfl, SqL.of h1, fun p hp => bk (.new (.lst _)) S _ w _ .refl (ok.alloc hp) (ok.fresh hp ⟨_, rfl, reps_cut h2 lo hi⟩) q⟩
 next ds z =>
  obtain ⟨a, xs, rfl, h1, h2⟩ := see_tup ok r1 z
  by_cases hw : HT.sIx xs.length 0 lo = 0 ∧ HT.sIx xs.length xs.length hi = xs.length
  ·refine .inr (.inr (.inl ⟨a, xs, rfl, SqT.of h1, hw, ?_⟩))
   rw [h2.length] at hw
   rw [cut_whole hw] at q
   cases d <;> simp only [see] at z
   case tup => cases z; exact bk.dat .refl ok r1 q
   case loc n => split at z <;> first | (rename_i o _; cases o <;> simp [MO.d] at z) | cases z
   all_goals cases z
  ·refine .inr (.inl ⟨a, xs, rfl, SqT.of h1, hw, fun p hp => ?_⟩)
   obtain ⟨w2, le2, ok2, rep2⟩ := ok.newTup hp (reps_cut h2 lo hi)
   exact bk.dat le2 ok2 rep2 q
 next y z => exact .inr (.inr (.inr ⟨y, see_str r1 z, q.1, bk.dat .refl ok .str q.2⟩))
 next ns z =>
  obtain ⟨a, rfl, h1⟩ := see_scr ok r1 z
  refine .inl ⟨a, _, rfl, h1, fun p hp => bk (.new (.lst _)) S _ w _ .refl (ok.alloc hp) (ok.fresh hp ⟨_, rfl, ?_⟩) q⟩
  have := reps_cut (reps_ints (K := X.K) (w := w) ns) lo hi
  rw [cut_map] at this
  exact this
 next => exact q.elim⟩
noncomputable def aMul : A2 := fun x y S Q => match see S x, y with
 | .int i, .int j => CMul i j ∧ Q (.dat (.int (i * j))) S
 | .lst ds, .int k => (-(2 ^ 63) ≤ k ∧ k < 2 ^ 63) ∧ ds.length * k.toNat ≤ sizeLine ∧ Q (.new (.lst (List.replicate k.toNat ds).flatten)) S
 | .str z, .int n => MulOk z n ∧ Q (.dat (.str (Txt.mul z n))) S
 | _, _ => False
theorem reps_rep {ds : List D} {xs : List V} (h : Reps K w ds xs) : ∀ k : Nat, Reps K w (List.replicate k ds).flatten (List.replicate k xs).flatten
 | 0 => .nil
 | k + 1 => by
  rw [List.replicate_succ, List.replicate_succ, List.flatten_cons, List.flatten_cons]
  exact h.append (reps_rep h k)
theorem o_mul : Op2 X (binaryOp .Mult) aMul := ⟨m2 (or2 L2.op_mul (or2 L2.op_rep L2.op_mul_str)) fun x y H Q h => by
 obtain ⟨w, d, e, S, Qa, ok, r1, r2, q, bk⟩ := h
 unfold aMul at q
 split at q
 next i j z => exact .inl ⟨i, j, see_int r1 z, rep_int r2 rfl, q.1, bk.dat .refl ok .int q.2⟩
 next ds k z =>
  obtain ⟨a, xs, rfl, h1, h2⟩ := see_lst ok r1 z
  obtain ⟨⟨g1, g2⟩, hl, q⟩ := q
  refine .inr (.inl ⟨a, k, xs, rfl, rep_int r2 rfl, h1, g1, g2, by rw [h2.length]; exact hl, fun p hp => ?_⟩)
  exact bk (.new (.lst _)) S _ w _ .refl (ok.alloc hp) (ok.fresh hp ⟨_, rfl, reps_rep h2 k.toNat⟩) q
 next y n z => exact .inr (.inr ⟨y, n, see_str r1 z, rep_int r2 rfl, q.1, bk.dat .refl ok .str q.2⟩)
 next => exact q.elim⟩
end
end M
namespace M
open PySem PySem.Spec PyProof.Rows PySem.SeqAt L2
mutual
noncomputable def bel (n : Nat) : D → Bool
 | .loc m => decide (m < n)
 | .tup ds | .lst ds | .dct _ ds => bels n ds
 | _ => true
noncomputable def bels (n : Nat) : List D → Bool
 | [] => true
 | d :: ds => bel n d && bels n ds
end
noncomputable def belO (n : Nat) : MO → Bool
 | .lst ds => bels n ds
 | .dct _ ds => bels n ds
 | .feed _ => true
 | .ins _ _ ds => bels n ds
 | .ddt _ ks => bels n ks
mutual
theorem bel_pur (n : Nat) : ∀ d : D, pur d = true → bel n d = true
 | .non, _ => by simp [bel]
 | .bl _, _ => by simp [bel]
 | .int _, _ => by simp [bel]
 | .str _, _ => by simp [bel]
 | .tup ds, h => by simp only [bel]; exact bels_pur n ds (by simpa [pur] using h)
 | .lst ds, h => by simp only [bel]; exact bels_pur n ds (by simpa [pur] using h)
 | .dct _ _, h => by simp [pur] at h
 | .loc _, h => by simp [pur] at h
 | .ty _, h => by simp [pur] at h
 | .scr _, h => by simp [pur] at h
 | .stc _, h => by simp [pur] at h
 | .fd, h => by simp [pur] at h
 | .fn _, h => by simp [pur] at h
theorem bels_pur (n : Nat) : ∀ ds : List D, purs ds = true → bels n ds = true
 | [], _ => by simp [bels]
 | d :: ds, h => by
  simp only [purs, Bool.and_eq_true] at h
  simp only [bels, Bool.and_eq_true]
  exact ⟨bel_pur n d h.1, bels_pur n ds h.2⟩
end
noncomputable def restr (n : Nat) (w : Wd) : Wd := ⟨w.B, fun k => if k < n then w.r k else none⟩
section
variable {K : PySem.W.Frag} {w w1 : Wd} {H H1 : Hp} {S S0 S1 : Sto}
mutual
theorem rep_restr (n : Nat) : ∀ (d : D) (v : V), bel n d = true → Rep K w d v → Rep K (restr n w) d v
 | .non, _, _, h => by simpa [Rep] using h
 | .bl _, _, _, h => by simpa [Rep] using h
 | .int _, _, _, h => by simpa [Rep] using h
 | .str _, _, _, h => by simpa [Rep] using h
 | .ty _, _, _, h => by simpa [Rep] using h
 | .fd, _, _, h => by simpa [Rep] using h
 | .fn _, _, _, h => by simpa [Rep] using h
 | .scr _, _, _, h => by simpa [Rep, restr] using h
 | .stc _, _, _, h => by simpa [Rep, restr] using h
 | .loc m, v, hb, h => by
  simp only [bel, decide_eq_true_eq] at hb
  simp only [Rep] at h ⊢
  obtain ⟨a, h1, h2⟩ := h
  exact ⟨a, by show (if m < n then w.r m else none) = _; rw [if_pos hb]; exact h1, h2⟩
 | .tup ds, v, hb, h => by
  simp only [Rep] at h ⊢
  obtain ⟨a, xs, h1, h2, h3⟩ := h
  exact ⟨a, xs, h1, h2, reps_restr n ds xs (by simpa [bel] using hb) h3⟩
 | .lst ds, v, hb, h => by
  simp only [Rep] at h ⊢
  obtain ⟨a, xs, h1, h2, h3⟩ := h
  exact ⟨a, xs, h1, h2, reps_restr n ds xs (by simpa [bel] using hb) h3⟩
 | .dct ks ds, v, hb, h => by
  simp only [Rep] at h ⊢
  obtain ⟨a, xs, h1, h2, h3, h4⟩ := h
  exact ⟨a, xs, h1, h2, h3, reps_restr n ds _ (by simpa [bel] using hb) h4⟩
theorem reps_restr (n : Nat) : ∀ (ds : List D) (vs : List V), bels n ds = true → Reps K w ds vs → Reps K (restr n w) ds vs
 | [], _, _, h => by simpa [Reps] using h
 | d :: ds, vs, hb, h => by
  simp only [bels, Bool.and_eq_true] at hb
  simp only [Reps] at h ⊢
  obtain ⟨x, r, h1, h2, h3⟩ := h
  exact ⟨x, r, h1, rep_restr n d x hb.1 h2, reps_restr n ds r hb.2 h3⟩
end
mutual
theorem rep_bel (n : Nat) (ht : ∀ k, n ≤ k → w.r k = none) : ∀ (d : D) (v : V), Rep K w d v → bel n d = true
 | .non, _, _ => by simp [bel]
 | .bl _, _, _ => by simp [bel]
 | .int _, _, _ => by simp [bel]
 | .str _, _, _ => by simp [bel]
 | .ty _, _, _ => by simp [bel]
 | .fd, _, _ => by simp [bel]
 | .fn _, _, _ => by simp [bel]
 | .scr _, _, _ => by simp [bel]
 | .stc _, _, _ => by simp [bel]
 | .loc m, v, h => by
  simp only [Rep] at h
  obtain ⟨a, h1, h2⟩ := h
  simp only [bel, decide_eq_true_eq]
  rcases Nat.lt_or_ge m n with q | q
  ·exact q
  ·rw [ht m q] at h1; cases h1
 | .tup ds, v, h => by
  simp only [Rep] at h
  obtain ⟨a, xs, h1, h2, h3⟩ := h
  simp only [bel]; exact reps_bel n ht ds xs h3
 | .lst ds, v, h => by
  simp only [Rep] at h
  obtain ⟨a, xs, h1, h2, h3⟩ := h
  simp only [bel]; exact reps_bel n ht ds xs h3
 | .dct ks ds, v, h => by
  simp only [Rep] at h
  obtain ⟨a, xs, h1, h2, h3, h4⟩ := h
  simp only [bel]; exact reps_bel n ht ds _ h4
theorem reps_bel (n : Nat) (ht : ∀ k, n ≤ k → w.r k = none) : ∀ (ds : List D) (vs : List V), Reps K w ds vs → bels n ds = true
 | [], _, _ => by simp [bels]
 | d :: ds, vs, h => by
  simp only [Reps] at h
  obtain ⟨x, r, h1, h2, h3⟩ := h
  simp only [bels, Bool.and_eq_true]
  exact ⟨rep_bel n ht d x h2, reps_bel n ht ds r h3⟩
end
theorem repO_restr (n : Nat) : ∀ {o : MO} {u : HO}, belO n o = true → RepO K w o u → RepO K (restr n w) o u
 | .lst ds, u, hb, ⟨xs, h1, h2⟩ => ⟨xs, h1, reps_restr n ds xs hb h2⟩
 | .dct ks ds, u, hb, ⟨xs, h1, h2, h3⟩ => ⟨xs, h1, h2, reps_restr n ds _ hb h3⟩
 | .feed _, u, _, h => h
 | .ins C ks ds, u, hb, ⟨dx, fs, h1, h2, h3⟩ => ⟨dx, fs, h1, h2, reps_restr n ds _ hb h3⟩
 | .ddt F ks, u, hb, ⟨a, bs, h1, h2⟩ => ⟨a, bs, h1, reps_restr n ks _ hb h2⟩
theorem repO_bel (n : Nat) (ht : ∀ k, n ≤ k → w.r k = none) : ∀ {o : MO} {u : HO}, RepO K w o u → belO n o = true
 | .lst ds, u, ⟨xs, h1, h2⟩ => reps_bel n ht ds xs h2
 | .dct ks ds, u, ⟨xs, h1, h2, h3⟩ => reps_bel n ht ds _ h3
 | .feed _, u, h => rfl
 | .ins C ks ds, u, ⟨dx, fs, h1, h2, h3⟩ => reps_bel n ht ds _ h3
 | .ddt F ks, u, ⟨a, bs, h1, h2⟩ => reps_bel n ht ks _ h2
noncomputable def out (n : Nat) (S1 : Sto) : R → Option R
 | .dat (.loc m) => if m < n then some (.dat (.loc m)) else match S1[m]? with
  | some (some o) => if belO n o = true then some (.new o) else none
  | _ => none
 | .dat d => if bel n d = true then some (.dat d) else none
 | .new o => if belO n o = true then some (.new o) else none
noncomputable def chg (S0 S1 : Sto) : Prop := ∀ k o, k < S0.length → S1[k]? = some (some o) → S0[k]? = some (some o) ∨ belO S0.length o = true
noncomputable def ret (S0 S1 : Sto) (r : R) (Q : AK) : Prop := ∃ r', out S0.length S1 r = some r' ∧ chg S0 S1 ∧ Q r' (S1.take S0.length)
theorem ret_ok {r : R} {v : V} {Qa : AK} {Q : VK} (ok : Ok K w H S0) (le : w.le w1) (ok1 : Ok K w1 H1 S1) (rep : RepR K w1 H1 S1 r v) (h : ret S0 S1 r Qa) (bk : BackV K w Qa Q) : Q v H1 := by
 obtain ⟨r', ho, hc, q⟩ := h
 generalize hn : S0.length = n at *
 have lt : ∀ k a, w.r k = some a → k < n := fun k a e => by
  rcases Nat.lt_or_ge k n with z | z
  ·exact z
  ·rw [ok.top k (by omega)] at e; cases e
 have at_ : ∀ k o, (S1.take n)[k]? = some (some o) → k < n ∧ S1[k]? = some (some o) := fun k o e => by
  rw [List.getElem?_take] at e
  by_cases z : k < n
  ·rw [if_pos z] at e; exact ⟨z, e⟩
  ·rw [if_neg z] at e; cases e
 have le2 : w.le (restr n w1) := ⟨le.b, fun k a e => by show (if k < n then w1.r k else none) = _; rw [if_pos (lt k a e)]; exact le.r k a e⟩
 have bl : ∀ k o, k < n → S1[k]? = some (some o) → belO n o = true := fun k o hk e => by
  rcases hc k o (by omega) e with z | z
  ·obtain ⟨a, u, _, _, _, h4⟩ := ok.live k o z
   exact repO_bel n (fun k hk => ok.top k (by omega)) h4
  ·rw [hn] at z; exact z
 have ok2 : Ok K (restr n w1) H1 (S1.take n) := ⟨ok1.base, fun k o e => by
   obtain ⟨hk, e⟩ := at_ k o e
   obtain ⟨a, u, h1, h2, h3, h4⟩ := ok1.live k o e
   exact ⟨a, u, by show (if k < n then w1.r k else none) = _; rw [if_pos hk]; exact h1, h2, h3, repO_restr n (bl k o hk e) h4⟩,
  fun k m o o' e e' z => by
   obtain ⟨hk, e⟩ := at_ k o e
   obtain ⟨hm, e'⟩ := at_ m o' e'
   have z : (if k < n then w1.r k else none) = (if m < n then w1.r m else none) := z
   rw [if_pos hk, if_pos hm] at z
   exact ok1.inj k m o o' e e' z,
  fun k hk => by
   show (if k < n then w1.r k else none) = none
   by_cases z : k < n
   ·rw [if_pos z]
    rw [List.length_take] at hk
    exact ok1.top k (by omega)
   ·rw [if_neg z]⟩
 refine bk r' (S1.take n) v (restr n w1) H1 le2 ok2 ?_ q
 have fresh : ∀ m o a, n ≤ m → S1[m]? = some (some o) → w1.r m = some a → ∀ k o', (S1.take n)[k]? = some (some o') → (restr n w1).r k ≠ some a := fun m o a hm e ha k o' e' z => by
  obtain ⟨hk, e'⟩ := at_ k o' e'
  have z : (if k < n then w1.r k else none) = some a := z
  rw [if_pos hk] at z
  have := ok1.inj k m o' o e' e (z.trans ha.symm)
  omega
 cases r with
 | new o =>
  simp only [out] at ho
  split at ho
  next hb =>
   cases ho
   obtain ⟨a, u, rfl, h1, h2, h3, h4⟩ := rep
   refine ⟨a, u, rfl, h1, h2, repO_restr n hb h3, fun k o' e z => ?_⟩
   obtain ⟨hk, e⟩ := at_ k o' e
   have z : (if k < n then w1.r k else none) = some a := z
   rw [if_pos hk] at z
   exact h4 k o' e z
  next => cases ho
 | dat d =>
  have gen : (if bel n d = true then some (R.dat d) else none) = some r' → RepR K (restr n w1) H1 (S1.take n) r' v := fun ho => by
   split at ho
   next hb => cases ho; exact rep_restr n d v hb rep
   next => cases ho
  cases d with
  | loc m =>
   simp only [out] at ho
   split at ho
   next hm => exact gen (by simp [bel, hm, ho])
   next hm =>
    have hm : n ≤ m := by omega
    split at ho
    next o e =>
     split at ho
     next hb =>
      cases ho
      have rep : Rep K w1 (.loc m) v := rep
      simp only [Rep] at rep
      obtain ⟨a, ha, rfl⟩ := rep
      obtain ⟨a', u, h1, h2, h3, h4⟩ := ok1.live m o e
      rw [ha] at h1; cases h1
      exact ⟨a, u, rfl, h2, h3, repO_restr n hb h4, fresh m o a hm e ha⟩
     next => cases ho
    next => cases ho
  | _ => exact gen (by simpa only [out] using ho)
end
noncomputable def startA (N : List Str) (ds : List D) : AEnv := ds.map some ++ List.replicate (N.length - ds.length) none
theorem env_start {K : PySem.W.Frag} {w : Wd} {N : List Str} {ds : List D} {vs : List V} (h : Reps K w ds vs) : EnvR K w (startA N ds) (L2.start N vs) := by
 have hl := h.length
 refine ⟨by simp [startA, L2.start, hl], fun i d e => ?_⟩
 unfold startA at e
 by_cases hi : i < ds.length
 ·rw [List.getElem?_append_left (by simpa using hi), List.getElem?_map] at e
  cases z : ds[i]? with
  | none => rw [z] at e; cases e
  | some d' =>
   rw [z] at e
   have e : d' = d := by simpa using e
   subst e
   obtain ⟨v, h1, h2⟩ := h.get z
   refine ⟨v, ?_, h2⟩
   unfold L2.start
   rw [List.getElem?_append_left (by rw [List.length_map, hl]; exact hi), List.getElem?_map, h1]; rfl
 ·rw [List.getElem?_append_right (by simpa using hi), List.getElem?_replicate] at e
  split at e <;> cases e
section
variable {P : Program} {w : World} {K : PySem.W.Frag} {mg : Str → Option Value} {base : Heap}
theorem defA {x : Str} {st : Stmt} {N ps : List Str} {k : Nat} {sp : AN} (F : Src K mg x ps st) (S : FnScope N ps (defScope st)) (len : ∀ ds S Q, sp ds S Q → ds.length = ps.length)
  (hbody : ∀ (f : Addr) (cdv : Value) (A : Around) (outer : List Env) (s : Shared) (H : Hp) (E : XK), Room k (A.deeper (envOfC x (defScope st) s.heap.objs.size f cdv)) →
   ∃ a, GSs (cxOf CX0 P w K mg base N x (defScope st) f cdv A outer s H E).nox (defBody st) a ∧ ∀ ds S Q, sp ds S Q → a { nx := fun _ S' => ret S S' (.dat .non) Q, rt := fun r S' => ret S S' r Q } (startA N ds) S) : Def P w K mg base (k + 1) x ps (conSp K sp) :=
 F.def S (fun vs H Q E h => by
  obtain ⟨w, ds, S, Qa, ok, rep, q, bk⟩ := h
  rw [rep.length]; exact len ds S Qa q) fun f cdv A outer s H vs Q E hr h => by
  obtain ⟨a, ha, hd⟩ := hbody f cdv A outer s H E hr
  obtain ⟨w, ds, S, Qa, ok, rep, q, bk⟩ := h
  refine ⟨_, ha.p, w, startA N ds, S, _, ok, env_start rep, hd ds S Qa q, ⟨fun δ S' σ w' H' le ok' env q' => ?_, fun r S' v w' H' le ok' rep' q' => ?_, fun _ _ _ _ _ _ _ _ z => z.elim, fun _ _ _ _ _ _ _ _ z => z.elim⟩⟩
  ·exact ret_ok (r := .dat .non) (v := .non) ok le ok' (show Rep K w' .non .non from .non) q' bk
  ·exact ret_ok ok le ok' rep' q' bk
end
end M
namespace M
open PySem PySem.Spec PyProof.Rows PySem.SeqAt L2
section
variable {X : Cx} {K : PySem.W.Frag} {w : Wd} {H : Hp} {S : Sto} {d : D} {v : V}
theorem reps1 {vs : List V} (h : Reps K w [d] vs) : ∃ v, vs = [v] ∧ Rep K w d v := by
 simp only [Reps] at h
 obtain ⟨x, r, rfl, h1, rfl⟩ := h
 exact ⟨x, rfl, h1⟩
theorem reps2 {e : D} {vs : List V} (h : Reps K w [d, e] vs) : ∃ v u, vs = [v, u] ∧ Rep K w d v ∧ Rep K w e u := by
 simp only [Reps] at h
 obtain ⟨x, r, rfl, h1, y, r', rfl, h2, rfl⟩ := h
 exact ⟨x, y, rfl, h1, h2⟩
noncomputable def lenD : D → Option Nat
 | .lst ds => some ds.length
 | .tup ds => some ds.length
 | .scr ns => some ns.length
 | .dct ks _ => some ks.length
 | .str z => if z.length ≤ sizeLine then some z.length else none
 | _ => none
noncomputable def aLen : AN := fun ds S Q => ∃ d n, ds = [d] ∧ lenD (see S d) = some n ∧ Q (.dat (.int n)) S
theorem o_len : OpC X (.builtin "len") aLen := ⟨mC (orC L2.call_len L2.call_lenD) fun xs H Q h => by
 obtain ⟨w, ds, S, Qa, ok, rep, ⟨d, n, rfl, e, q⟩, bk⟩ := h
 obtain ⟨v, rfl, r1⟩ := reps1 rep
 cases z : see S d with
 | lst ds =>
  rw [z] at e
  have e : ds.length = n := by simpa [lenD] using e
  obtain ⟨a, xs, rfl, h1, h2⟩ := see_lst ok r1 z
  exact .inl ⟨_, n, rfl, .inl ⟨xs, SqL.of h1, by rw [h2.length, e]⟩, bk.dat .refl ok .int q⟩
 | tup ds =>
  rw [z] at e
  have e : ds.length = n := by simpa [lenD] using e
  obtain ⟨a, xs, rfl, h1, h2⟩ := see_tup ok r1 z
  exact .inl ⟨_, n, rfl, .inr ⟨xs, SqT.of h1, by rw [h2.length, e]⟩, bk.dat .refl ok .int q⟩
 | scr ns =>
  rw [z] at e
  have e : ns.length = n := by simpa [lenD] using e
  obtain ⟨a, rfl, h1⟩ := see_scr ok r1 z
  exact .inl ⟨_, n, rfl, .inl ⟨_, h1, by rw [List.length_map, e]⟩, bk.dat .refl ok .int q⟩
 | str y =>
  rw [z] at e
  simp only [lenD] at e
  split at e
  next hl =>
   cases e
   exact .inl ⟨_, _, rfl, (by rw [see_str r1 z]; exact ⟨hl, rfl⟩), bk.dat .refl ok .int q⟩
  next => cases e
 | dct ks ds =>
  rw [z] at e
  have e : ks.length = n := by simpa [lenD] using e
  obtain ⟨a, kvs, rfl, h1, h2, _⟩ := see_dct ok r1 z
  refine .inr ⟨a, kvs, rfl, h1, ?_⟩
  rw [← List.length_map (f := (·.1)), h2, e]
  exact bk.dat .refl ok .int q
 | _ => rw [z] at e; simp [lenD] at e⟩
noncomputable def tyD : D → Option String
 | .non => some "NoneType"
 | .bl _ => some "bool"
 | .int _ => some "int"
 | .str _ => some "str"
 | .tup _ => some "tuple"
 | .lst _ => some "list"
 | _ => none
noncomputable def isiD (d : D) (T : String) : Option Bool := (tyD d).bind fun t => if T == "str" || T == "int" || T == "bool" || T == "tuple" || T == "list" then some (t == T || (t == "bool" && T == "int")) else none
noncomputable def aIsi : AN := fun ds S Q => ∃ d T b, ds = [d, .ty T] ∧ isiD (see S d) T = some b ∧ Q (.dat (.bl b)) S
theorem ty_see (ok : Ok K w H S) (h : Rep K w d v) {t : String} (e : tyD (see S d) = some t) : TyOf K H v (.type t) := by
 cases z : see S d with
 | lst ds =>
  rw [z] at e; cases e
  obtain ⟨a, xs, rfl, h1, h2⟩ := see_lst ok h z
  exact .lst h1
 | tup ds =>
  rw [z] at e; cases e
  obtain ⟨a, xs, rfl, h1, h2⟩ := see_tup ok h z
  exact .tup h1
 | non => rw [z] at e; cases e; rw [see_non h z]; exact .non
 | bl b => rw [z] at e; cases e; rw [see_bl h z]; exact .bl b
 | int b => rw [z] at e; cases e; rw [see_int h z]; exact .int b
 | str b => rw [z] at e; cases e; rw [see_str h z]; exact .str b
 | _ => rw [z] at e; simp [tyD] at e
theorem kit_of {t T : String} {b : Bool} (ht : t = "NoneType" ∨ t = "bool" ∨ t = "int" ∨ t = "str" ∨ t = "tuple" ∨ t = "list")
  (e : (if T == "str" || T == "int" || T == "bool" || T == "tuple" || T == "list" then some (t == T || (t == "bool" && T == "int")) else none) = some b) : PySem.W.kitOne K (.type t) (.type T) = some b := by
 split at e
 next hT =>
  simp only [Bool.or_eq_true, beq_iff_eq] at hT
  cases e
  rcases hT with (((rfl | rfl) | rfl) | rfl) | rfl <;> rcases ht with rfl | rfl | rfl | rfl | rfl | rfl <;> rfl
 next => cases e
theorem tyD_in {t : String} (e : tyD d = some t) : t = "NoneType" ∨ t = "bool" ∨ t = "int" ∨ t = "str" ∨ t = "tuple" ∨ t = "list" := by
 cases d <;> simp [tyD] at e <;> subst e <;> simp
theorem o_isi : OpC X (.builtin "isinstance") aIsi := ⟨mC L2.call_isi fun xs H Q h => by
 obtain ⟨w, ds, S, Qa, ok, rep, ⟨d, T, b, rfl, e, q⟩, bk⟩ := h
 obtain ⟨v, u, rfl, r1, r2⟩ := reps2 rep
 unfold isiD at e
 cases z : tyD (see S d) with
 | none => rw [z] at e; cases e
 | some t =>
  rw [z] at e
  refine ⟨v, .ty T, _, _, b, (by rw [rep_ty r2 rfl]), relTy.1, relTy.2, ty_see ok r1 z, kit_of (tyD_in z) e, bk.dat .refl ok .bl q⟩⟩
noncomputable def aRepr : AN := fun ds S Q => ∃ d, ds = [d] ∧ pur (see S d) = true ∧ (py (see S d)).showable = true ∧ (py (see S d)).depth ≤ 100 ∧ (py (see S d)).shown.length ≤ sizeLine ∧ Q (.dat (.str (py (see S d)).shown)) S
theorem o_repr {k : Nat} (hr : Room k X.A) : OpC X (.builtin "repr") aRepr := ⟨mC (L2.call_repr hr) fun xs H Q h => by
 obtain ⟨w, ds, S, Qa, ok, rep, ⟨d, rfl, h1, h2, h3, h4, q⟩, bk⟩ := h
 obtain ⟨v, rfl, r1⟩ := reps1 rep
 exact ⟨v, _, rfl, see_dat ok r1 h1, h2, h3, h4, bk.dat .refl ok .str q⟩⟩
noncomputable def aListOf : AN := fun ds S Q => ∃ d, ds = [d] ∧ match see S d with
 | .lst es => Q (.new (.lst es)) S
 | .tup es => Q (.new (.lst es)) S
 | .scr ns => Q (.new (.lst (ns.map D.int))) S
 | _ => False
theorem o_listOf : OpC X (.type "list") aListOf := ⟨mC L2.call_list_of fun xs H Q h => by
 obtain ⟨w, ds, S, Qa, ok, rep, ⟨d, rfl, q⟩, bk⟩ := h
 obtain ⟨v, rfl, r1⟩ := reps1 rep
 split at q
 next es z =>
  obtain ⟨a, xs, rfl, h1, h2⟩ := see_lst ok r1 z
  exact ⟨a, xs, rfl, .inl (SqL.of h1), fun p hp => bk (.new (.lst _)) S _ w _ .refl (ok.alloc hp) (ok.fresh hp ⟨_, rfl, h2⟩) q⟩
 next es z =>
  obtain ⟨a, xs, rfl, h1, h2⟩ := see_tup ok r1 z
  exact ⟨a, xs, rfl, .inr (SqT.of h1), fun p hp => bk (.new (.lst _)) S _ w _ .refl (ok.alloc hp) (ok.fresh hp ⟨_, rfl, h2⟩) q⟩
 next ns z =>
  obtain ⟨a, rfl, h1⟩ := see_scr ok r1 z
  exact ⟨a, _, rfl, .inl h1, fun p hp => bk (.new (.lst _)) S _ w _ .refl (ok.alloc hp) (ok.fresh hp ⟨_, rfl, reps_ints ns⟩) q⟩
 next => exact q.elim⟩
noncomputable def aTupleOf : AN := fun ds S Q => ∃ d, ds = [d] ∧ match see S d with
 | .lst es => Q (.dat (.tup es)) S
 | .tup es => Q (.dat (.tup es)) S
 | _ => False
theorem o_tupleOf : OpC X (.type "tuple") aTupleOf := ⟨mC L2.call_tuple_of fun xs H Q h => by
 obtain ⟨w, ds, S, Qa, ok, rep, ⟨d, rfl, q⟩, bk⟩ := h
 obtain ⟨v, rfl, r1⟩ := reps1 rep
 split at q
 next es z =>
  obtain ⟨a, xs, rfl, h1, h2⟩ := see_lst ok r1 z
  refine ⟨a, xs, rfl, .inl ⟨SqL.of h1, fun p hp => ?_⟩⟩
  obtain ⟨w2, le2, ok2, rep2⟩ := ok.newTup hp h2
  exact bk.dat le2 ok2 rep2 q
 next es z =>
  obtain ⟨a, xs, rfl, h1, h2⟩ := see_tup ok r1 z
  refine ⟨a, xs, rfl, .inr ⟨SqT.of h1, ?_⟩⟩
  cases d <;> simp only [see] at z
  case tup => cases z; exact bk.dat .refl ok r1 q
  case loc n => split at z <;> first | (rename_i o _; cases o <;> simp [MO.d] at z) | cases z
  all_goals cases z
 next => exact q.elim⟩
noncomputable def aMin2 : AN := fun ds S Q => ∃ i j, ds = [.int i, .int j] ∧ Q (.dat (.int (if j < i then j else i))) S
theorem o_min2 (hc : X.calm = true) : OpC X (.builtin "min") aMin2 := ⟨mC (L2.call_min2 hc) fun xs H Q h => by
 obtain ⟨w, ds, S, Qa, ok, rep, ⟨i, j, rfl, q⟩, bk⟩ := h
 obtain ⟨v, u, rfl, r1, r2⟩ := reps2 rep
 exact ⟨i, j, by rw [rep_int r1 rfl, rep_int r2 rfl], bk.dat .refl ok .int q⟩⟩
theorem ints_reps : ∀ {ns : List Int} {xs : List V}, Reps K w (ns.map D.int) xs → xs = ns.map V.int
 | [], _, h => by simpa [Reps] using h
 | n :: ns, xs, h => by
  simp only [List.map_cons, Reps, Rep] at h
  obtain ⟨x, r, rfl, rfl, h⟩ := h
  rw [ints_reps h]; rfl
theorem bls_reps : ∀ {ns : List Bool} {xs : List V}, Reps K w (ns.map D.bl) xs → xs = ns.map V.bl
 | [], _, h => by simpa [Reps] using h
 | n :: ns, xs, h => by
  simp only [List.map_cons, Reps, Rep] at h
  obtain ⟨x, r, rfl, rfl, h⟩ := h
  rw [bls_reps h]; rfl
theorem strs_reps : ∀ {ns : List Str} {xs : List V}, Reps K w (ns.map D.str) xs → xs = ns.map V.str
 | [], _, h => by simpa [Reps] using h
 | n :: ns, xs, h => by
  simp only [List.map_cons, Reps, Rep] at h
  obtain ⟨x, r, rfl, rfl, h⟩ := h
  rw [strs_reps h]; rfl
noncomputable def aMinL : AN := fun ds S Q => ∃ (d : D) (ns : List Int), ds = [d] ∧ see S d = .lst (ns.map D.int) ∧ 0 < ns.length ∧ ∀ m, m ∈ ns → (∀ n ∈ ns, m ≤ n) → Q (.dat (.int m)) S
theorem o_minL (hc : X.calm = true) : OpC X (.builtin "min") aMinL := ⟨mC (L2.call_minL hc) fun xs H Q h => by
 obtain ⟨w, ds, S, Qa, ok, rep, ⟨d, ns, rfl, z, hn, q⟩, bk⟩ := h
 obtain ⟨v, rfl, r1⟩ := reps1 rep
 obtain ⟨a, xs, rfl, h1, h2⟩ := see_lst ok r1 z
 rw [ints_reps h2] at h1
 exact ⟨a, ns, rfl, SqL.of h1, hn, fun m hm hl => bk.dat .refl ok .int (q m hm hl)⟩⟩
noncomputable def aAll : AN := fun ds S Q => ∃ (d : D) (bs : List Bool), ds = [d] ∧ see S d = .lst (bs.map D.bl) ∧ Q (.dat (.bl (bs.all id))) S
theorem o_all (hc : X.calm = true) : OpC X (.builtin "all") aAll := ⟨mC (L2.call_all hc) fun xs H Q h => by
 obtain ⟨w, ds, S, Qa, ok, rep, ⟨d, bs, rfl, z, q⟩, bk⟩ := h
 obtain ⟨v, rfl, r1⟩ := reps1 rep
 obtain ⟨a, xs, rfl, h1, h2⟩ := see_lst ok r1 z
 rw [bls_reps h2] at h1
 exact ⟨a, bs, rfl, SqL.of h1, bk.dat .refl ok .bl q⟩⟩
noncomputable def aInt1 : AN := fun ds S Q => (∃ i, ds = [.int i] ∧ Q (.dat (.int i)) S) ∨ ∃ b : Bool, ds = [.bl b] ∧ Q (.dat (.int (if b then 1 else 0))) S
theorem o_int1 : OpC X (.type "int") aInt1 := ⟨mC L2.call_int1 fun xs H Q h => by
 obtain ⟨w, ds, S, Qa, ok, rep, q, bk⟩ := h
 rcases q with ⟨i, rfl, q⟩ | ⟨b, rfl, q⟩
 ·obtain ⟨v, rfl, r1⟩ := reps1 rep
  exact .inl ⟨i, by rw [rep_int r1 rfl], bk.dat .refl ok .int q⟩
 ·obtain ⟨v, rfl, r1⟩ := reps1 rep
  exact .inr ⟨b, by rw [rep_bl r1 rfl], bk.dat .refl ok .int q⟩⟩
end
end M
namespace M
open PySem PySem.Spec PyProof.Rows PySem.SeqAt L2
noncomputable abbrev AM := D → List D → Sto → AK → Prop
structure OpM (X : Cx) (id : String) (r : AM) : Prop where
 p : MtR X id (conM X.K r)
noncomputable def isTy (T : String) : D → Prop
 | .lst _ => T = "list"
 | .str _ => T = "str"
 | .scr _ => T = "list"
 | .dct _ _ => T = "dict"
 | _ => False
noncomputable def aBM (T : String) (r : AM) (a : AE) (b : AA) : AE := fun δ S Q => a δ S fun x S1 => isTy T (see S1 x.d) ∧ b δ S1 fun ds S2 => r x.d ds S2 Q
section
variable {X : Cx} {K : PySem.W.Frag} {w : Wd} {H : Hp} {S : Sto} {d : D} {v : V}
theorem ty_is {T : String} (ok : Ok K w H S) (h : Rep K w d v) (t : isTy T (see S d)) : tyV K T v H := by
 cases z : see S d with
 | lst ds =>
  rw [z] at t; cases t
  obtain ⟨a, xs, rfl, h1, h2⟩ := see_lst ok h z
  exact .inl ⟨rfl, xs, SqL.of h1⟩
 | str y => rw [z] at t; cases t; rw [see_str h z]; exact rfl
 | scr ns =>
  rw [z] at t; cases t
  obtain ⟨a, rfl, h1⟩ := see_scr ok h z
  exact .inl ⟨rfl, _, h1⟩
 | dct ks ds =>
  rw [z] at t; cases t
  obtain ⟨a, kvs, rfl, h1, _⟩ := see_dct ok h z
  exact .inr (.inr (.inl ⟨rfl, .inl ⟨kvs, h1⟩⟩))
 | _ => rw [z] at t; exact t.elim
theorem s_bm {T : String} {r : AM} {a : AE} {b : AA} : ∀ σ H Q, conE K (aBM T r a b) σ H Q → tBM K T (conM K r) (conE K a) (conA K b) σ H Q := by
 rintro σ H Q ⟨w, δ, S, Qa, ok, env, q, bk⟩
 refine ⟨w, δ, S, _, ok, env, q, .go fun r1 S1 v1 w1 H1 le1 ok1 rep1 ⟨ty, q1⟩ => ⟨ty_is ok1 rep1 ty, ?_⟩⟩
 refine ⟨w1, δ, S1, _, ok1, env.le le1, q1, fun ds S2 vs w2 H2 le2 ok2 rep2 q2 => ?_⟩
 exact ⟨w2, r1.d, ds, S2, Qa, ok2, rep1.le le2, rep2, q2, bk.le (le1.trans le2)⟩
theorem pe_bm {o e : Expr} {es : List Expr} {to : AE} {t : AA} {name : Str} {apos cpos : Pos} {T id : String} {r : AM} (pa : PlainAttrs T) (slot : Slot T name id) (hty : typeOf (.builtin id) = pure (.type "method_descriptor")) (hm : OpM X id r) (ho : GE X o to) (ha : GA X (e :: es) t)
  (hbase : attributeBase o name X.env (eval o X.env) = eval o X.env := by rfl) (hs : (e :: es).all notStar = true := by rfl) (hfew : decide ((e :: es).length + 0 + 0 < 30) = true := by rfl)
  (hline : (apos.endLine == cpos.line) = true := by rfl) : GE X (.Call (.Attribute o name apos) (e :: es) [] cpos) (aBM T r to t) := ⟨mE (L2.pe_bmK pa slot hty hm.p ho.p ha.p hbase hs hfew hline) s_bm⟩
theorem mM {id : String} {t u : V → List V → Hp → VK → Prop} (h : MtR X id t) (m : ∀ x xs H Q, u x xs H Q → t x xs H Q) : MtR X id u := fun pins s σ H x xs v us Q I rx rs q => h pins s σ H x xs v us Q I rx rs (m x xs H Q q)
theorem loc_at {n : Nat} {ds : List D} (ok : Ok K w H S) (h : Rep K w (.loc n) v) (e : S[n]? = some (some (.lst ds))) : ∃ a xs, v = .ref a ∧ w.r n = some a ∧ H a = some (.lst xs) ∧ Reps K w ds xs := by
 simp only [Rep] at h
 obtain ⟨a, h1, rfl⟩ := h
 obtain ⟨a', u, g1, g2, g3, xs, rfl, g5⟩ := ok.live n _ e
 rw [h1] at g1; cases g1
 exact ⟨a, xs, rfl, h1, g3, g5⟩
theorem repO_lst {ds : List D} {xs : List V} (h : Reps K w ds xs) : RepO K w (.lst ds) (.lst xs) := ⟨xs, rfl, h⟩
noncomputable def aAppend : AM := fun x ds S Q => ∃ n es e, x = .loc n ∧ ds = [e] ∧ S[n]? = some (some (.lst es)) ∧ es.length < sizeLine ∧ Q (.dat .non) (S.set n (some (.lst (es ++ [e]))))
theorem m_append : OpM X "list.append" aAppend := ⟨mM (X := X) (t := rAppend) L2.mt_append fun x xs H Q h => by
 obtain ⟨w, d, ds, S, Qa, ok, r1, r2, ⟨n, es, e, rfl, rfl, hS, hl, q⟩, bk⟩ := h
 obtain ⟨a, ys, rfl, ha, hH, hr⟩ := loc_at ok r1 hS
 obtain ⟨v, rfl, r3⟩ := reps1 r2
 exact ⟨a, ys, v, rfl, rfl, hH, by rw [hr.length]; exact hl, bk.dat .refl (ok.put hS ha (repO_lst (hr.snoc r3))) .non q⟩⟩
noncomputable def rExtendT (K : PySem.W.Frag) : V → List V → Hp → VK → Prop := fun x vs H Q => ∃ l b xs zs, x = .ref l ∧ vs = [.ref b] ∧ H l = some (.lst xs) ∧ H b = some (.tup zs) ∧ xs.length + zs.length ≤ sizeLine ∧ Q .non (upd H l (.lst (xs ++ zs)))
theorem ext_tup {l b : Addr} {xs zs : Array Value} {n k : Nat} {dd : Option Addr} {sl : Array (Option Value)} (h0 : ¬(!xs.isEmpty && Builtin.List.listTooLong (xs.size + zs.size)) = true) (h1 : xs.size ≤ sizeLine) (h2 : xs.size + zs.size ≤ sizeLine + 1) :
  Meets (Builtin.«list.extend» ⟨[.ref l, .ref b], []⟩) (fun _ R s => s.heap.get? l = some { cls := .type "list", dict := none, data := .seq xs n, slots := #[] } ∧ s.heap.get? b = some { cls := .type "tuple", dict := dd, data := .seq zs k, slots := sl } ∧ R (.ok (.ret Value.none)) { s with heap := s.heap.update l (Obj.mapSeq fun x => x ++ zs), toks := s.toks }) :=
 .of_wp fun prog w A R s h => by
  obtain ⟨hl, hb, q⟩ := h
  obtain ⟨hp, g, dr, tk, os⟩ := s
  have e1 := AutoSeq1.idx_int
  have e2 := AutoSeq1.sub_tuple_tuple
  have e3 := AutoSeq1.sub_list_list
  have e4 := AutoSeq1.sub_tuple_list
  have e5 := AutoSeq1.sub_list_tuple
  have z : (xs ++ zs).size ≤ sizeLine + 1 := by rw [Array.size_append]; exact h2
  wp_walk using (wpAny_updateSeq hl rfl (hz := h1) (_hz' := z)), AutoSeq1.wpAny_loadPart' hl, AutoSeq1.wpAny_loadPart' hb
  exact ⟨_, rfl, q⟩
theorem mt_extendT : MtR X "list.extend" (rExtendT X.K) := by
 intro pins s σ H x vs v us Q I rx rv h
 obtain ⟨l, b, xs, zs, rfl, rfl, hH, hB, hz, q⟩ := h
 cases rx
 obtain ⟨u, rfl, ru⟩ := rv.one
 cases ru
 obtain ⟨z, its, n, r, hl, e⟩ := I.lstM hH
 obtain ⟨its2, r2, ⟨⟨c2, dd, da, sl⟩, e2, hc2, n2, d2⟩, z2⟩ := I.tuple (SqT.of hB)
 simp only at hc2 d2
 subst hc2 d2
 have hl2 := r2.length
 have hsz : its.toArray.size + its2.toArray.size ≤ sizeLine := by rw [List.size_toArray, List.size_toArray]; omega
 have hlong : ¬ (!its.toArray.isEmpty && Builtin.List.listTooLong (its.toArray.size + its2.toArray.size)) = true := by
  rw [notLongL hsz, Bool.and_false]
  exact Bool.false_ne_true
 refine call_meets F.slot_list_extend ⟨_, e, rfl⟩ F.entry_list_extend (F.args_list_extend_2 _ _)
  (ext_tup (n := n) (k := n2) (dd := dd) (sl := sl) hlong (by rw [List.size_toArray]; omega) (by omega)) ⟨e, e2, ?_⟩
 refine ⟨.non, _, I.lset (its' := its ++ its2) hH e (by simp) (r.append r2) ?_, rfl, q⟩
 rw [List.length_append]
 omega
noncomputable def aExtend : AM := fun x ds S Q => ∃ n es e fs, x = .loc n ∧ ds = [e] ∧ S[n]? = some (some (.lst es)) ∧ (see S e = .lst fs ∨ see S e = .tup fs) ∧ es.length + fs.length ≤ sizeLine ∧ Q (.dat .non) (S.set n (some (.lst (es ++ fs))))
theorem m_extend : OpM X "list.extend" aExtend := ⟨mM (MtR.or (X := X) (r := rExtend) L2.mt_extend mt_extendT) fun x xs H Q h => by
 obtain ⟨w, d, ds, S, Qa, ok, r1, r2, ⟨n, es, e, fs, rfl, rfl, hS, hf, hl, q⟩, bk⟩ := h
 obtain ⟨a, ys, rfl, ha, hH, hr⟩ := loc_at ok r1 hS
 obtain ⟨v, rfl, r3⟩ := reps1 r2
 rcases hf with hf | hf
 ·obtain ⟨b, zs, rfl, g1, g2⟩ := see_lst ok r3 hf
  exact .inl ⟨a, b, ys, zs, rfl, rfl, hH, g1, by rw [hr.length, g2.length]; exact hl, bk.dat .refl (ok.put hS ha (repO_lst (hr.append g2))) .non q⟩
 ·obtain ⟨b, zs, rfl, g1, g2⟩ := see_tup ok r3 hf
  exact .inr ⟨a, b, ys, zs, rfl, rfl, hH, g1, by rw [hr.length, g2.length]; exact hl, bk.dat .refl (ok.put hS ha (repO_lst (hr.append g2))) .non q⟩⟩
noncomputable def aFind : AM := fun x ds S Q => ∃ y z, x = .str y ∧ ds = [.str z] ∧ Q (.dat (.int (Txt.find y z))) S
theorem m_find : OpM X "str.find" aFind := ⟨mM L2.mt_find fun x xs H Q h => by
 obtain ⟨w, d, ds, S, Qa, ok, r1, r2, ⟨y, z, rfl, rfl, q⟩, bk⟩ := h
 obtain ⟨v, rfl, r3⟩ := reps1 r2
 exact ⟨y, z, rep_str r1 rfl, by rw [rep_str r3 rfl], bk.dat .refl ok .int q⟩⟩
noncomputable def aJoin : AM := fun x ds S Q => ∃ (y : Str) (e : D) (ys : List Str), x = .str y ∧ ds = [e] ∧ see S e = .lst (ys.map D.str) ∧ (ys.map (·.length)).sum + ys.length * y.length ≤ 16777216 ∧ Q (.dat (.str (Txt.join y ys))) S
theorem m_join : OpM X "str.join" aJoin := ⟨mM L2.mt_join fun x xs H Q h => by
 obtain ⟨w, d, ds, S, Qa, ok, r1, r2, ⟨y, e, ys, rfl, rfl, z, hl, q⟩, bk⟩ := h
 obtain ⟨v, rfl, r3⟩ := reps1 r2
 obtain ⟨a, zs, rfl, g1, g2⟩ := see_lst ok r3 z
 rw [strs_reps g2] at g1
 exact ⟨y, a, ys, rep_str r1 rfl, rfl, SqL.of g1, hl, bk.dat .refl ok .str q⟩⟩
end
end M
namespace M
open PySem L2
theorem loop_by {P : Sto → Prop} {g : AG} {b : AS} {D : AEnds} (I : List M.D → AEnv → Sto → Prop) (hn : ∀ δ S, I [] δ S → P S ∧ D.nx δ S)
  (hc : ∀ x xs δ S N, I (x :: xs) δ S → (∀ δ' S', I xs δ' S' → N δ' S') → P S ∧ g x δ S fun δ2 S2 => b { D with nx := N, ct := N, bk := D.nx } δ2 S2) : ∀ ds δ S, I ds δ S → loopD P g b ds D δ S
 | [], δ, S, h => hn δ S h
 | x :: xs, δ, S, h => hc x xs δ S _ h fun δ' S' h' => loop_by I hn hc xs δ' S' h'
theorem comp_map {P : Sto → Prop} {e : AE} {Q : List M.D → Sto → Prop} {δ : AEnv} {S : Sto} (f : M.D → M.D) (hP : P S) : ∀ (xs acc : List M.D) (δ' : AEnv), δ'.set 0 none = δ.set 0 none → (∀ x ∈ xs, ∀ Q : AK, Q (.dat (f x)) S → e (δ.set 0 (some x)) S Q) → acc.length + xs.length ≤ sizeLine → Q (acc ++ xs.map f) S →
  compD P (agName 0) aYes e xs acc δ' S Q
 | [], acc, δ', _, _, _, q => ⟨hP, by simpa using q⟩
 | x :: xs, acc, δ', hd, h, hl, q => by
  refine ⟨hP, ?_⟩
  have e1 : δ'.set 0 (some x) = δ.set 0 (some x) := by
   have := congrArg (fun l => l.set 0 (some x)) hd
   simpa [List.set_set] using this
  simp only [agName, aYes, if_true]
  rw [e1]
  refine h x (by simp) _ ⟨by simp at hl; omega, ?_⟩
  refine comp_map f hP xs _ _ (by simp [List.set_set]) (fun y hy => h y (by simp [hy])) (by simp at hl ⊢; omega) ?_
  simpa [R.d, List.append_assoc] using q
theorem see_pur {S : Sto} {d : D} (h : pur d = true) : see S d = d := by
 cases d <;> first | rfl | simp [pur] at h
theorem see_int' {S : Sto} {i : Int} : see S (.int i) = .int i := rfl
theorem see_str' {S : Sto} {i : Str} : see S (.str i) = .str i := rfl
theorem see_bl' {S : Sto} {i : Bool} : see S (.bl i) = .bl i := rfl
theorem see_non' {S : Sto} : see S .non = .non := rfl
theorem see_tup' {S : Sto} {i : List D} : see S (.tup i) = .tup i := rfl
theorem see_lst' {S : Sto} {i : List D} : see S (.lst i) = .lst i := rfl
theorem see_stc' {S : Sto} {i : List Str} : see S (.stc i) = .stc i := rfl
theorem see_scr' {S : Sto} {i : List Int} : see S (.scr i) = .scr i := rfl
theorem rd_dat {d : D} : (R.dat d).d = d := rfl
theorem rd_new {o : MO} : (R.new o).d = o.d := rfl
theorem mod_lst {ds : List D} : (MO.lst ds).d = .lst ds := rfl
theorem le_int' {i j : Int} {S : Sto} {Q : AK} : aLe (.int i) (.int j) S Q = Q (.dat (.bl (decide (i ≤ j)))) S := rfl
theorem lt_int' {i j : Int} {S : Sto} {Q : AK} : aLt (.int i) (.int j) S Q = Q (.dat (.bl (decide (i < j)))) S := rfl
theorem le_str' {i j : Str} {S : Sto} {Q : AK} : aLe (.str i) (.str j) S Q = Q (.dat (.bl (!decide (j.cps.toList < i.cps.toList)))) S := rfl
theorem aI_int {C : Int → Int → Prop} {g : Int → Int → D} {i j : Int} {S : Sto} {Q : AK} : aI C g (.int i) (.int j) S Q = (C i j ∧ Q (.dat (g i j)) S) := by
 refine propext ⟨fun ⟨a, b, e1, e2, h⟩ => ?_, fun h => ⟨i, j, rfl, rfl, h⟩⟩
 cases e1; cases e2; exact h
theorem add_int' {i j : Int} {S : Sto} {Q : AK} : aAdd (.int i) (.int j) S Q = Q (.dat (.int (i + j))) S := rfl
theorem add_lst' {i j : List D} {S : Sto} {Q : AK} : aAdd (.lst i) (.lst j) S Q = (i.length + j.length ≤ sizeLine ∧ Q (.new (.lst (i ++ j))) S) := rfl
theorem eq_int' {i j : Int} {S : Sto} {Q : AK} : aEq (.int i) (.int j) S Q = Q (.dat (.bl (decide (i = j)))) S := rfl
theorem eq_str' {i j : Str} {S : Sto} {Q : AK} : aEq (.str i) (.str j) S Q = Q (.dat (.bl (decide (i = j)))) S := rfl
theorem tru_bl {b : Bool} : aTruD (.bl b) = some b := rfl
theorem tru_lst {ds : List D} : aTruD (.lst ds) = some (!ds.isEmpty) := rfl
theorem tru_tup {ds : List D} : aTruD (.tup ds) = some (!ds.isEmpty) := rfl
theorem out_dat {n : Nat} {S : Sto} {d : D} (h : pur d = true) : out n S (.dat d) = some (.dat d) := by
 have b := bel_pur n d h
 cases d <;> first | (simp [pur] at h; done) | (simp only [out]; rw [if_pos b])
theorem chg_same {S : Sto} : chg S S := fun _ _ _ e => .inl e
theorem ret_pur {S : Sto} {d : D} {Q : AK} (h : pur d = true) (q : Q (.dat d) S) : ret S S (.dat d) Q := ⟨_, out_dat h, chg_same, by rw [List.take_length]; exact q⟩
theorem ret_bl {S : Sto} {b : Bool} {Q : AK} : ret S S (.dat (.bl b)) Q = Q (.dat (.bl b)) S := by
 refine propext ⟨fun ⟨r, h1, _, h2⟩ => ?_, ret_pur rfl⟩
 simp [out, bel] at h1
 subst h1
 rw [List.take_length] at h2; exact h2
theorem ret_int {S : Sto} {b : Int} {Q : AK} : ret S S (.dat (.int b)) Q = Q (.dat (.int b)) S := by
 refine propext ⟨fun ⟨r, h1, _, h2⟩ => ?_, ret_pur rfl⟩
 simp [out, bel] at h1
 subst h1
 rw [List.take_length] at h2; exact h2
theorem ret_new {S : Sto} {ds : List D} {Q : AK} (h : purs ds = true) (q : Q (.new (.lst ds)) S) : ret S S (.new (.lst ds)) Q :=
 ⟨_, by simp only [out]; rw [if_pos (show belO _ (.lst ds) = true from bels_pur _ ds h)], chg_same, by rw [List.take_length]; exact q⟩
theorem ret_loc {S : Sto} {ds : List D} {Q : AK} {S' : Sto} {n : Nat} (hn : S.length ≤ n) (h : purs ds = true) (e : S'[n]? = some (some (.lst ds))) (hs : S'.take S.length = S) (q : Q (.new (.lst ds)) S) : ret S S' (.dat (.loc n)) Q := by
 refine ⟨.new (.lst ds), ?_, fun k o hk e => .inl ?_, by rw [hs]; exact q⟩
 ·simp only [out]
  rw [if_neg (by omega), e]
  show (if belO S.length (.lst ds) = true then some (R.new (.lst ds)) else none) = _
  rw [if_pos (show belO _ (.lst ds) = true from bels_pur _ ds h)]
 ·rw [← hs, List.getElem?_take, if_pos hk]; exact e
noncomputable def okS (x : Str) : Bool := x.cps.toList.all (fun c => decide (c < 128)) && decide (x.length ≤ 100)
noncomputable def thB : Nat → D → Bool
 | _, .non => true
 | _, .bl _ => true
 | _, .int _ => true
 | _, .str x => okS x
 | n + 1, .tup ds => decide (ds.length ≤ 100) && ds.all (thB n)
 | n + 1, .lst ds => decide (ds.length ≤ 100) && ds.all (thB n)
 | _, _ => false
theorem okS_ok {x : Str} (h : okS x = true) : PyData.strOk x = true := by
 unfold okS at h
 rw [Bool.and_eq_true] at h
 unfold PyData.strOk
 rw [← Array.all_toList]
 refine List.all_eq_true.mpr fun c hc => ?_
 have := of_decide_eq_true (List.all_eq_true.mp h.1 c hc)
 exact decide_eq_true (by omega)
theorem th_all : ∀ (n : Nat) (d : D), thB n d = true → pur d = true ∧ (py d).canLay0 = true ∧ (py d).depth ≤ n := by
 intro n
 induction n with
 | zero =>
  intro d h
  cases d <;> first | (simp [thB] at h; done) | skip
  ·simp [pur, py, PyData.canLay0, PyData.depth]
  ·simp [pur, py, PyData.canLay0, PyData.depth]
  ·simp [pur, py, PyData.canLay0, PyData.depth]
  ·simp only [thB] at h
   simp [pur, py, PyData.canLay0, PyData.depth, okS_ok h]
 | succ n ih =>
  have all : ∀ ds : List D, (ds.all (thB n)) = true → purs ds = true ∧ PyData.canLayAll0 (pys ds) = true ∧ PyData.depthAll (pys ds) ≤ n := by
   intro ds
   induction ds with
   | nil => intro _; simp [purs, pys, PyData.canLayAll0, PyData.depthAll]
   | cons d ds ih2 =>
    intro h
    rw [List.all_cons, Bool.and_eq_true] at h
    obtain ⟨a1, a2, a3⟩ := ih d h.1
    obtain ⟨b1, b2, b3⟩ := ih2 h.2
    refine ⟨by simp [purs, a1, b1], by simp [pys, PyData.canLayAll0, a2, b2], ?_⟩
    simp only [pys, PyData.depthAll]
    omega
  intro d h
  cases d <;> first | (simp [thB] at h; done) | skip
  ·simp [pur, py, PyData.canLay0, PyData.depth]
  ·simp [pur, py, PyData.canLay0, PyData.depth]
  ·simp [pur, py, PyData.canLay0, PyData.depth]
  ·simp only [thB] at h
   simp [pur, py, PyData.canLay0, PyData.depth, okS_ok h]
  ·simp only [thB, Bool.and_eq_true] at h
   obtain ⟨a1, a2, a3⟩ := all _ h.2
   exact ⟨by simpa [pur] using a1, by simpa [py, PyData.canLay0] using a2, by simp only [py, PyData.depth]; omega⟩
  ·simp only [thB, Bool.and_eq_true] at h
   obtain ⟨a1, a2, a3⟩ := all _ h.2
   exact ⟨by simpa [pur] using a1, by simpa [py, PyData.canLay0] using a2, by simp only [py, PyData.depth]; omega⟩
theorem th_pur {n : Nat} {d : D} (h : thB n d = true) : pur d = true := (th_all n d h).1
theorem th_fit {n : Nat} {d : D} (h : thB n d = true) (hn : n ≤ 64) : fit d = true := by
 obtain ⟨a, b, c⟩ := th_all n d h
 unfold fit PySem.SeqAt.shaped
 rw [a, b, decide_eq_true (by omega)]; rfl
noncomputable def isS (x : D) (s : Str) : Bool := match x with
 | .str a => decide (a = s)
 | _ => false
noncomputable def inS (x : D) (ss : List Str) : Bool := ss.any fun s => isS x s
theorem eqv_str {x : D} {s : Str} (h : pur x = true) : PyData.eqv (.str s) (py x) = isS x s := by
 cases x <;> first | (simp [pur] at h; done) | simp only [py, PyData.eqv, isS]
 rename_i a
 by_cases e : s = a
 ·subst e; simp
 ·rw [decide_eq_false (fun z => e z.symm)]
  exact beq_eq_false_iff_ne.mpr e
theorem inD_strs {x : D} (h : pur x = true) : ∀ ss : List Str, inD x (ss.map D.str) = inS x ss
 | [] => rfl
 | s :: ss => by
  have := inD_strs h ss
  unfold inD inS at this ⊢
  rw [List.map_cons, List.any_cons, List.any_cons, this]
  rw [show PyData.eqv (py (.str s)) (py x) = isS x s from eqv_str h]
theorem in_texts {n : Nat} {x : D} {ss : List Str} {neg : Bool} {S : Sto} {Q : AK} (h : thB n x = true) (hn : n ≤ 64) (hs : ss.all okS = true) (q : Q (.dat (.bl (neg != inS x ss))) S) (hl : ss.length ≤ 100 := by decide) : aIn neg x (.tup (ss.map D.str)) S Q := by
 have hp := th_pur h
 unfold aIn
 rw [see_pur hp, see_tup']
 refine ⟨th_fit h hn, th_fit (n := 1) ?_ (by decide), ?_⟩
 ·simp only [thB, List.all_map, List.length_map, decide_eq_true hl, Bool.true_and]
  exact hs
 ·rw [inD_strs hp]; exact q
theorem in_stc {n : Nat} {x : D} {ss : List Str} {neg : Bool} {S : Sto} {Q : AK} (h : thB n x = true) (hn : n ≤ 64) (hs : ss.all okS = true) (q : Q (.dat (.bl (neg != inS x ss))) S) (hl : ss.length ≤ 100 := by decide) : aIn neg x (.stc ss) S Q := by
 have hp := th_pur h
 unfold aIn
 rw [see_pur hp, see_stc']
 refine ⟨th_fit h hn, th_fit (n := 1) ?_ (by decide), ?_⟩
 ·simp only [thB, List.all_map, List.length_map, decide_eq_true hl, Bool.true_and]
  exact hs
 ·rw [inD_strs hp]; exact q
end M
namespace M
open PySem PySem.Spec PyProof.Rows PySem.SeqAt L2
section
variable {X : Cx}
end
end M
namespace M
open PySem PySem.Spec PyProof.Rows L2
section
variable {X : Cx}
theorem reps_of_strs {K : PySem.W.Frag} {w : Wd} : ∀ ss : List Str, Reps K w (ss.map D.str) (ss.map V.str)
 | [] => by simp [Reps]
 | s :: ss => by
  simp only [List.map_cons, Reps]
  exact ⟨_, _, rfl, by simp [Rep], reps_of_strs ss⟩
end
end M
namespace M1
open PySem PySem.Spec PyProof.Rows
namespace F
end F
section
variable {prog : Program} {w : World} {A : Around} {E : Value → Shared → Prop} {s : Shared}
end
section
variable {prog : Program} {w : World} {A : Around} {s : Shared} {R : Result → Shared → Prop} {I l : Addr} {items : Array Value}
variable {wr : List Addr} {G : Array GenState → Array GenState → Prop} {n : Nat} {P : Nat → Value → Prop} {St : Nat → Shared → Prop}
end
section
variable {prog : Program} {w : World} {A : Around} {E : Value → Shared → Prop} {s : Shared} {I l : Addr} {items : Array Value}
end
end M1
namespace L2
open PySem PySem.Spec PyProof.Rows
section
variable {X : Cx} {e : Expr} {ta : TE} {p p2 pos pos2 : Pos}
end
end L2
namespace M
open PySem PySem.Spec PyProof.Rows L2
section
variable {K : PySem.W.Frag}
end
section
variable {X : Cx} {e o value : Expr} {es : List Expr} {p p2 pos pos2 apos tpos : Pos}
noncomputable def putD (f : Str) (d : D) : List Str → List D → List Str × List D
 | k :: ks, e :: ds => if k = f then (k :: ks, d :: ds) else (k :: (putD f d ks ds).1, e :: (putD f d ks ds).2)
 | _, _ => ([f], [d])
theorem put_rep {K : PySem.W.Frag} {w : Wd} {f : Str} {d : D} {v : V} (g : Rep K w d v) : ∀ (fs : List (Str × V)) (ds : List D), Reps K w ds (fs.map (·.2)) → (putF f v fs).map (·.1) = (putD f d (fs.map (·.1)) ds).1 ∧ Reps K w (putD f d (fs.map (·.1)) ds).2 ((putF f v fs).map (·.2))
 | [], ds, h => by
  cases ds with
  | nil => exact ⟨rfl, .cons g .nil⟩
  | cons _ _ => exact ⟨rfl, .cons g .nil⟩
 | (k, x) :: fs, ds, h => by
  cases ds with
  | nil => simp [Reps] at h
  | cons e ds =>
   simp only [List.map_cons, Reps] at h
   obtain ⟨y, r, h1, h2, h3⟩ := h
   have e1 := (List.cons.inj h1).1
   have e2 := (List.cons.inj h1).2
   subst e1; subst e2
   obtain ⟨i1, i2⟩ := put_rep g fs ds h3
   simp only [putF, List.map_cons, putD]
   by_cases hk : k = f
   ·rw [if_pos hk, if_pos hk]; exact ⟨rfl, .cons g h3⟩
   ·rw [if_neg hk, if_neg hk]
    exact ⟨by rw [List.map_cons, i1], .cons h2 i2⟩
theorem look_rep {K : PySem.W.Frag} {w : Wd} {f : Str} {d : D} : ∀ (fs : List (Str × V)) (ds : List D), Reps K w ds (fs.map (·.2)) → ((fs.map (·.1)).zip ds).lookup f = some d → ∃ v, fs.lookup f = some v ∧ Rep K w d v
 | [], ds, h, q => by simp at q
 | (k, x) :: fs, ds, h, q => by
  cases ds with
  | nil => simp at q
  | cons e ds =>
   simp only [List.map_cons, Reps] at h
   obtain ⟨y, r, h1, h2, h3⟩ := h
   have e1 := (List.cons.inj h1).1
   have e2 := (List.cons.inj h1).2
   subst e1; subst e2
   rw [List.map_cons, List.zip_cons_cons, List.lookup_cons] at q
   rw [List.lookup_cons]
   split at q
   ·rename_i hb
    have : e = d := by simpa using q
    subst this
    exact ⟨x, by rw [hb], h2⟩
   ·rename_i hb
    obtain ⟨v, e, r⟩ := look_rep fs ds h3 q
    exact ⟨v, by rw [hb]; exact e, r⟩
theorem look_none {f : Str} : ∀ (fs : List (Str × V)), f ∉ fs.map (·.1) → fs.lookup f = none
 | [], _ => rfl
 | (k, x) :: fs, h => by
  rw [List.lookup_cons]
  have : (f == k) = false := by
   rw [beq_eq_false_iff_ne]; intro z; exact h (by simp [z])
  rw [this]
  exact look_none fs fun z => h (by simp only [List.map_cons, List.mem_cons]; exact .inr z)
theorem ins_at {K : PySem.W.Frag} {w : Wd} {H : Hp} {S : Sto} {n : Nat} {v : V} {C : Addr} {ks : List Str} {ds : List D} (ok : Ok K w H S) (h : Rep K w (.loc n) v) (e : S[n]? = some (some (.ins C ks ds))) :
  ∃ a dx fs, v = .ref a ∧ w.r n = some a ∧ H a = some (.ins C dx fs) ∧ fs.map (·.1) = ks ∧ Reps K w ds (fs.map (·.2)) := by
 simp only [Rep] at h
 obtain ⟨a, h1, rfl⟩ := h
 obtain ⟨a', u, g1, g2, g3, dx, fs, rfl, g5, g6⟩ := ok.live n _ e
 rw [h1] at g1; cases g1
 exact ⟨a, dx, fs, rfl, h1, g3, g5, g6⟩
noncomputable def aFld (C : Addr) (a : AE) (f : Str) : AE := fun δ S Q => a δ S fun r S1 => ∃ n ks ds d, r = .dat (.loc n) ∧ S1[n]? = some (some (.ins C ks ds)) ∧ (ks.zip ds).lookup f = some d ∧ Q (.dat d) S1
theorem pe_fld {C : Addr} {f : Str} {ta : AE} (he : GE X e ta) (c : Cls X.K C) (nf : NoAttr X.K C f) (hb : attributeBase e f X.env (eval e X.env) = eval e X.env := by rfl) : GE X (.Attribute e f pos) (aFld C ta f) :=
 ⟨mE (L2.pe_fld he.p hb) fun σ H Q h => by
  obtain ⟨w, δ, S, Qa, ok, env, q, bk⟩ := h
  refine ⟨w, δ, S, _, ok, env, q, fun r S1 v w1 H1 le1 ok1 rep1 ⟨n, ks, ds, d, er, hS, hl, q1⟩ => ?_⟩
  subst er
  obtain ⟨a, dx, fs, rfl, _, ha, hk, hd⟩ := ins_at ok1 rep1 hS
  subst hk
  obtain ⟨v, l, rv⟩ := look_rep fs ds hd hl
  exact ⟨a, C, dx, fs, v, rfl, ha, c, nf, l, bk.dat le1 ok1 rv q1⟩⟩
noncomputable def sFldA (C : Addr) (a v : AE) (f : Str) : AS := fun D δ S => v δ S fun y S1 => a δ S1 fun r S2 => ∃ n ks ds, r = .dat (.loc n) ∧ S2[n]? = some (some (.ins C ks ds)) ∧ ks.length < 1000 ∧ D.nx δ (S2.set n (some (.ins C (putD f y.d ks ds).1 (putD f y.d ks ds).2)))
theorem ps_fld {C : Addr} {f : Str} {ta tv : AE} (ha : GE X o ta) (hv : GE X value tv) (c : Cls X.K C) (nf : NoAttr X.K C f) (hs : swapsWith value (some (.Attribute o f pos2)) pos.line X.env = pure false := by rfl) :
  GS X (.Assign [.Attribute o f pos2] value pos) (sFldA C ta tv f) :=
 ⟨mS (L2.ps_fld ha.p hv.p hs) fun Dx σ H h => by
  obtain ⟨w, δ, S, Da, ok, env, q, bk⟩ := h
  refine ⟨w, δ, S, _, ok, env, q, .go fun y S1 v1 w1 H1 le1 ok1 rep1 q1 => ?_⟩
  refine ⟨w1, δ, S1, _, ok1, env.le le1, q1, fun r S2 v2 w2 H2 le2 ok2 rep2 ⟨n, ks, ds, er, hS, hl, q2⟩ => ?_⟩
  subst er
  obtain ⟨a, dx, fs, rfl, hr, ha, hk, hd⟩ := ins_at ok2 rep2 hS
  subst hk
  obtain ⟨i1, i2⟩ := put_rep (f := f) (rep1.le le2) fs ds hd
  refine ⟨a, C, dx, fs, rfl, ha, c, nf, by simpa using hl, ?_⟩
  exact bk.nx _ _ _ w2 _ (le1.trans le2) (ok2.put hS hr (o' := .ins C (putD f y.d (fs.map (·.1)) ds).1 (putD f y.d (fs.map (·.1)) ds).2) ⟨dx, _, rfl, i1, i2⟩) (env.le (le1.trans le2)) q2⟩
noncomputable def sFldAdd (C : Addr) (a v : AE) (f : Str) : AS := fun D δ S => a δ S fun r S1 => ∃ n ks ds i, r = .dat (.loc n) ∧ S1[n]? = some (some (.ins C ks ds)) ∧ (ks.zip ds).lookup f = some (.int i) ∧
 v δ S1 fun y S2 => ∃ j ks' ds', y.d = .int j ∧ S2[n]? = some (some (.ins C ks' ds')) ∧ ks'.length < 1000 ∧ D.nx δ (S2.set n (some (.ins C (putD f (.int (i + j)) ks' ds').1 (putD f (.int (i + j)) ks' ds').2)))
theorem ps_fldAdd {C : Addr} {f : Str} {ta tv : AE} (ha : GE X o ta) (hv : GE X value tv) (c : Cls X.K C) (nf : NoAttr X.K C f) :
  GS X (.AugAssign (.Attribute o f tpos) .Add value pos) (sFldAdd C ta tv f) :=
 ⟨mS (L2.ps_fldaug ha.p hv.p L2.in_add) fun Dx σ H h => by
  obtain ⟨w, δ, S, Da, ok, env, q, bk⟩ := h
  refine ⟨w, δ, S, _, ok, env, q, fun r S1 v1 w1 H1 le1 ok1 rep1 ⟨n, ks, ds, i, er, hS, hl, q1⟩ => ?_⟩
  subst er
  obtain ⟨a, dx, fs, rfl, hr, ha, hk, hd⟩ := ins_at ok1 rep1 hS
  subst hk
  obtain ⟨v, l, rv⟩ := look_rep fs ds hd hl
  have ev := rep_int rv rfl
  subst ev
  refine ⟨a, C, dx, fs, _, rfl, ha, c, nf, l, ?_⟩
  refine ⟨w1, δ, S1, _, ok1, env.le le1, q1, .go fun y S2 v2 w2 H2 le2 ok2 rep2 ⟨j, ks', ds', ey, hS2, hl2, q2⟩ => ?_⟩
  have ev2 := rep_int rep2 ey
  subst ev2
  obtain ⟨a2, dx2, fs2, e2, hr2, ha2, hk2, hd2⟩ := ins_at ok2 (show Rep X.K w2 (.loc n) (.ref a) by simp only [Rep]; exact ⟨a, le2.r _ _ hr, rfl⟩) hS2
  cases e2
  subst hk2
  obtain ⟨i1, i2⟩ := put_rep (f := f) (Rep.int (K := X.K) (w := w2) (b := i + j)) fs2 ds' hd2
  refine ⟨i, j, rfl, rfl, dx2, fs2, ha2, by simpa using hl2, ?_⟩
  exact bk.nx _ _ _ w2 _ (le1.trans le2) (ok2.put hS2 hr2 (o' := .ins C (putD f (.int (i + j)) (fs2.map (·.1)) ds').1 (putD f (.int (i + j)) (fs2.map (·.1)) ds').2) ⟨dx2, _, rfl, i1, i2⟩) (env.le (le1.trans le2)) q2⟩
end
structure SrcM (K : PySem.W.Frag) (C : Addr) (m qual : Str) (ps : List Str) (st : Stmt) : Prop where
 ex : ∃ f fd, Fun K m qual st f fd ∧ Meth K C m f ∧ Binds K fd ps []
structure DefM (P : Program) (w : World) (K : PySem.W.Frag) (mg : Str → Option Value) (base : Heap) (k : Nat) (C : Addr) (m : Str) (ps : List Str) (sp : AN) : Prop where
 ex : ∃ f fd, FnOk P w K mg base CX0 k f fd ps (conSp K sp) ∧ Meth K C m f ∧ Binds K fd ps []
section
variable {P : Program} {w : World} {K : PySem.W.Frag} {mg : Str → Option Value} {base : Heap} {C : Addr}
theorem okB {x qual : Str} {st : Stmt} {f : Addr} {fd : FuncData} {N ps : List Str} {k : Nat} {sp : AN} (F : Fun K x qual st f fd) (S : FnScope N ps (defScope st)) (len : ∀ ds S Q, sp ds S Q → ds.length = ps.length)
  (hbody : ∀ (f : Addr) (cdv : Value) (A : Around) (outer : List Env) (s : Shared) (H : Hp) (E : XK), Room k (A.deeper (PyProof.Rows.envOfC qual (defScope st) s.heap.objs.size f cdv)) →
   ∃ a, GSs (cxOf CX0 P w K mg base N qual (defScope st) f cdv A outer s H E).nox (defBody st) a ∧ ∀ ds S Q, sp ds S Q → a { nx := fun _ S' => M.ret S S' (.dat .non) Q, rt := fun r S' => M.ret S S' r Q } (startA N ds) S) : FnOk P w K mg base CX0 (k + 1) f fd ps (conSp K sp) :=
 F.ok S (fun vs H Q E h => by
  obtain ⟨w, ds, S, Qa, ok, rep, q, bk⟩ := h
  rw [rep.length]; exact len ds S Qa q) fun cdv A outer s H vs Q E hr h => by
  obtain ⟨a, ha, hd⟩ := hbody f cdv A outer s H E hr
  obtain ⟨w, ds, S, Qa, ok, rep, q, bk⟩ := h
  refine ⟨_, ha.p, w, startA N ds, S, _, ok, env_start rep, hd ds S Qa q, ⟨fun δ S' σ w' H' le ok' env q' => ?_, fun r S' v w' H' le ok' rep' q' => ?_, fun _ _ _ _ _ _ _ _ z => z.elim, fun _ _ _ _ _ _ _ _ z => z.elim⟩⟩
  ·exact ret_ok (r := .dat .non) (v := .non) ok le ok' (show Rep K w' .non .non from .non) q' bk
  ·exact ret_ok ok le ok' rep' q' bk
theorem defM {m qual : Str} {st : Stmt} {N ps : List Str} {k : Nat} {sp : AN} (F : SrcM K C m qual ps st) (S : FnScope N ps (defScope st)) (len : ∀ ds S Q, sp ds S Q → ds.length = ps.length)
  (hbody : ∀ (f : Addr) (cdv : Value) (A : Around) (outer : List Env) (s : Shared) (H : Hp) (E : XK), Room k (A.deeper (PyProof.Rows.envOfC qual (defScope st) s.heap.objs.size f cdv)) →
   ∃ a, GSs (cxOf CX0 P w K mg base N qual (defScope st) f cdv A outer s H E).nox (defBody st) a ∧ ∀ ds S Q, sp ds S Q → a { nx := fun _ S' => M.ret S S' (.dat .non) Q, rt := fun r S' => M.ret S S' r Q } (startA N ds) S) : DefM P w K mg base (k + 1) C m ps sp := by
 obtain ⟨f, fd, F, hm, hb⟩ := F.ex
 exact ⟨f, fd, okB F S len hbody, hm, hb⟩
end
section
variable {X : Cx} {e o : Expr} {es : List Expr} {p pos apos : Pos} {C : Addr} {k : Nat} {m : Str} {ps : List Str} {sp : AN}
noncomputable def aMeth (C : Addr) (m : Str) (sp : AN) (a : AE) (t : AA) : AE := fun δ S Q => a δ S fun r S1 => ∃ n ks ds, r = .dat (.loc n) ∧ S1[n]? = some (some (.ins C ks ds)) ∧ m ∉ ks ∧ t δ S1 fun es S2 => sp (.loc n :: es) S2 Q
theorem s_meth {K : PySem.W.Frag} {E : XK} {a : AE} {t : AA} : ∀ σ H Q, conE K (aMeth C m sp a t) σ H Q → tMeth C m (conSp K sp) [] E (conE K a) (conA K t) σ H Q := by
 rintro σ H Q ⟨w, δ, S, Qa, ok, env, q, bk⟩
 refine ⟨w, δ, S, _, ok, env, q, fun r S1 v w1 H1 le1 ok1 rep1 ⟨n, ks, ds, er, hS, hm, q1⟩ => ?_⟩
 subst er
 obtain ⟨a, dx, fs, rfl, hr, ha, hk, hd⟩ := ins_at ok1 rep1 hS
 subst hk
 refine ⟨a, dx, fs, rfl, ha, look_none fs hm, w1, δ, S1, _, ok1, env.le le1, q1, fun es S2 vs w2 H2 le2 ok2 rep2 q2 => ?_⟩
 refine ⟨w2, .loc n :: es, S2, Qa, ok2, ?_, q2, bk.le (le1.trans le2)⟩
 rw [List.append_nil]
 exact .cons (by simp only [Rep]; exact ⟨a, le2.r _ _ hr, rfl⟩) rep2
theorem pe_meth {pl : Sem Bool} {ta : AE} {t : AA} (he : GE X o ta) (c : Cls X.K C) (D : DefM X.prog X.w X.K X.mg X.base k C m ps sp) (hr : Room k X.A) (ha : GA X (e :: es) t)
  (hst : starEach (e :: es) X.env = (false, eval e X.env) :: starEach es X.env := by rfl) (hpl : (backTo pos (starEach es X.env)).any (·.1) = false := by rfl)
  (ht : eval (.Call (.Attribute o m apos) (e :: es) [] pos) X.env = (do
   let ov ← eval o X.env
   standAt apos.atName
   let (f, first) ← holding [ov] (getMethod ov m pl)
   callWith pos f first (backTo pos (starEach (e :: es) X.env)) (backToKw pos (keywordEach [] X.env))) := by rfl) :
  GE X (.Call (.Attribute o m apos) (e :: es) [] pos) (aMeth C m sp ta t) := by
 obtain ⟨f, fd, F, hm, hb⟩ := D.ex
 exact ⟨mE (L2.pe_meth he.p c hm F hr hb .nil pass0 ha.p hst hpl ht) s_meth⟩
theorem pe_meth0 {pl : Sem Bool} {ta : AE} (he : GE X o ta) (c : Cls X.K C) (D : DefM X.prog X.w X.K X.mg X.base k C m ps sp) (hr : Room k X.A)
  (ht : eval (.Call (.Attribute o m apos) [] [] pos) X.env = (do
   let ov ← eval o X.env
   standAt apos.atName
   let (f, first) ← holding [ov] (getMethod ov m pl)
   callWith pos f first (backTo pos (starEach [] X.env)) (backToKw pos (keywordEach [] X.env))) := by rfl) :
  GE X (.Call (.Attribute o m apos) [] [] pos) (aMeth C m sp ta aNil) := by
 obtain ⟨f, fd, F, hm, hb⟩ := D.ex
 exact ⟨mE (L2.pe_meth0 he.p c hm F hr hb .nil pass0 ht) fun σ H Q h => by
  obtain ⟨w, δ, S, Qa, ok, env, q, bk⟩ := h
  refine ⟨w, δ, S, _, ok, env, q, fun r S1 v w1 H1 le1 ok1 rep1 ⟨n, ks, ds, er, hS, hm, q1⟩ => ?_⟩
  subst er
  obtain ⟨a, dx, fs, rfl, hr, ha, hk, hd⟩ := ins_at ok1 rep1 hS
  subst hk
  refine ⟨a, dx, fs, rfl, ha, look_none fs hm, w1, [.loc n], S1, Qa, ok1, ?_, q1, bk.le le1⟩
  rw [List.nil_append]
  exact .cons rep1 .nil⟩
noncomputable def aMake (C : Addr) (sp : AN) (t : AA) : AE := fun δ S Q => t δ S fun es S1 => sp (.loc S1.length :: es) (S1 ++ [some (.ins C [] [])]) fun r S2 => r = .dat .non ∧ Q (.dat (.loc S1.length)) S2
theorem pe_make {x : Str} {t : AA} {f : Addr} {fd : FuncData} (MK : Mk X.K C f) (F : FnOk X.prog X.w X.K X.mg X.base CX0 k f fd ps (conSp X.K sp)) (hb : Binds X.K fd ps []) (hr : Room (k + 1) X.A) (hg : Gl X x) (hm : X.mg x = some (.ref C)) (ha : GA X (e :: es) t)
  (hdb : (x == ("__debug__" : Str)) = false := by decide +kernel) (hs : (e :: es).all notStar = true := by rfl) : GE X (.Call (.Name x p) (e :: es) [] pos) (aMake C sp t) := by
 have h2 := hs
 rw [List.all_cons, Bool.and_eq_true] at h2
 refine ⟨mE (L2.pe_make MK F hr hg hm hb .nil pass0 ha.p hdb (star_cons es X.env h2.1) (star_back es h2.2)) fun σ H Q h => ?_⟩
 obtain ⟨w, δ, S, Qa, ok, env, q, bk⟩ := h
 refine ⟨w, δ, S, _, ok, env, q, fun ds S1 vs w1 H1 le1 ok1 rep1 q1 a dx na nd ne => ?_⟩
 have hax : (upd H1 dx (HO.own a)) a = none := by rw [upd_ne (Ne.symm ne)]; exact na
 have ok2 := (ok1.alloc (o := .own a) nd)
 obtain ⟨w2, le2, ok3, rep3⟩ := store (ok2.alloc (o := .ins C dx []) hax) (ok2.fresh hax (m := .ins C [] []) ⟨dx, [], rfl, rfl, .nil⟩)
 refine ⟨w2, _, _, _, ok3, by rw [List.append_nil]; exact .cons rep3 (rep1.le le2), q1, fun r S2 v w3 H3 le3 ok4 rep4 ⟨er, q4⟩ => ?_⟩
 subst er
 have ev := rep_non rep4 rfl
 exact ⟨ev, bk.dat (le1.trans (le2.trans le3)) ok4 (rep3.le le3) q4⟩
structure FnV (P : Program) (w : World) (K : PySem.W.Frag) (mg : Str → Option Value) (base : Heap) (k : Nat) (f : Addr) (ps : List Str) (sp : AN) : Prop where
 ex : ∃ fd, FnOk P w K mg base CX0 k f fd ps (conSp K sp) ∧ PySem.W.keepIn K (.ref f) = true ∧ Binds K fd ps []
theorem pe_fn {x : Str} {f : Addr} (hg : Gl X x) (hm : X.mg x = some (.ref f)) (hd : (x == ("__debug__" : Str)) = false := by decide +kernel) : GE X (.Name x pos) (aC (.fn f)) := pe_glob hg hm (v := .ref f) rfl (fun w => by simp [Rep]) hd
noncomputable def aCallV (V : Addr → AN → Prop) (i : Nat) (t : AA) : AE := fun δ S Q => ∃ f sp, δ[i]? = some (some (.fn f)) ∧ V f sp ∧ t δ S fun ds S1 => sp ds S1 Q
theorem pe_callV (k : Nat) {i : Nat} {x : Str} {t : AA} (hv : PE X (.Name x p) (tVar i)) (hr : Room k X.A) (ha : GA X (e :: es) t) (hs : (e :: es).all notStar = true := by rfl) :
  GE X (.Call (.Name x p) (e :: es) [] pos) (aCallV (fun f sp => ∃ ps, FnV X.prog X.w X.K X.mg X.base k f ps sp) i t) := by
 have h2 := hs
 rw [List.all_cons, Bool.and_eq_true] at h2
 refine ⟨fun pins s σ H Q I h => ?_⟩
 obtain ⟨w, δ, S, Qa, ok, env, ⟨f, sp, hδ, ⟨ps, V⟩, q⟩, bk⟩ := h
 obtain ⟨fd, F, hk, hb⟩ := V.ex
 obtain ⟨v, hσ, rv⟩ := env.2 i _ hδ
 have ev : v = .ref f := by simpa [Rep] using rv
 subst ev
 refine wpAny_Call_Name_kw (thn (hv pins s σ H (fun v H' => v = .ref f ∧ H' = H) I ⟨_, hσ, rfl, rfl⟩) fun u s1 ⟨x, H1, I1, rx, ex, eH⟩ => ?_)
 subst ex; subst eH
 obtain rfl : u = Value.ref f := rx
 have hA : conA X.K t σ H1 (fun vs H2 => conSp X.K sp (vs ++ []) H2 Q E0) := ⟨w, δ, S, _, ok, env, q, fun ds S1 vs w1 H2 le1 ok1 rep1 q1 => ⟨w1, ds, S1, Qa, ok1, by rw [List.append_nil]; exact rep1, q1, bk.le le1⟩⟩
 refine PySem.W.callWith_K (h₀ := X.base) I1.ok.mod.kin hk (thn (ha.p pos pins s1 σ H1 _ I1 hA) fun us s2 ⟨vs, H2, I2, r, q2⟩ => ⟨I2.kIn, ?_⟩) (star_cons es X.env h2.1) (star_back es h2.2)
 exact run_fn F hr hb .nil pass0 I2 r q2
noncomputable def aNever : AS := fun _ _ _ => False
theorem ps_never {st : Stmt} : GS X st aNever := ⟨mS L2.ps_never fun D σ H h => by obtain ⟨_, _, _, _, _, _, z, _⟩ := h; exact z.elim⟩
end
end M
namespace L2
open PySem PySem.Spec PyProof.Rows
open Builtin Builtin.Str
section
variable {prog : Program} {w : World} {A : Around} {E : Value → Shared → Prop} {s : Shared} {x : Str} {t : Tok} {Q : Value → Shared → Prop}
theorem split_at {y : Str} {u : Tok} (hy : (y.length == 0) = false)
  (h : ∀ l k, l.map (·.1) = Txt.split x y → Q (.ref s.heap.objs.size) { s with heap := s.heap.push { cls := .type "list", data := .seq (strValues l).toArray }, toks := k })
  (hsz : x.length + 2 ≤ sizeLine) :
  wpAny (model prog w) A (call (.builtin "str.split") [.str x t, .str y u]) Q E s := by
 have hn : (partsBetween x (occurrences x y 0 x.length (x.length + 1)) y.length).length ≤ sizeLine := by
  have e1 := StrLaws.occ_length_le x y 0 x.length (x.length + 1)
  rw [length_partsBetween]; omega
 cases h1 : (decide (x.length < y.length) || decide (strKind x < strKind y))
 ·cases hf : (occurrences x y 0 x.length (x.length + 1)).isEmpty
  ·refine call_meets PySem.F.slot_str_split (typeIs_str _ _ _) PySem.F.entry_str_split (PySem.F.args_str_split_2 _ _) (meets_str_split_sep x y t u h1 hy hf (by omega) hn) ?_
   show wants Q E _ { s with toks := _, heap := s.heap.push { cls := .type "list", data := .seq (strsFrom s.toks (partsBetween x (occurrences x y 0 x.length (x.length + 1)) y.length)).toArray } }
   rw [strsFrom_eq]
   exact h (numbered s.toks _) _ ((numbered_texts _ _).trans ((if_neg (ne_true_of_eq_false h1)).trans (if_neg (ne_true_of_eq_false hf))).symm)
  ·exact call_meets PySem.F.slot_str_split (typeIs_str _ _ _) PySem.F.entry_str_split (PySem.F.args_str_split_2 _ _) (meets_str_split_not_found x y t u h1 hy hf)
    (h [(x, t)] s.toks ((if_neg (ne_true_of_eq_false h1)).trans (if_pos hf)).symm)
 ·exact call_meets PySem.F.slot_str_split (typeIs_str _ _ _) PySem.F.entry_str_split (PySem.F.args_str_split_2 _ _) (meets_str_split_cannot_occur x y t u h1)
   (h [(x, t)] s.toks (if_pos h1).symm)
end
section
variable {X : Cx}
theorem vals_numbered : ∀ l : List (Str × Tok), Vals ((l.map (·.1)).map V.str) (strValues l)
 | [] => .nil
 | p :: r => .cons ⟨p.2, rfl⟩ (vals_numbered r)
theorem mt_split : MtR X "str.split" (fun x vs H Q => ∃ y z, x = .str y ∧ vs = [.str z] ∧ (z.length == 0) = false ∧ y.length + 2 ≤ sizeLine ∧ ∀ p, H p = none → Q (.ref p) (upd H p (.lst ((Txt.split y z).map V.str)))) := by
 intro pins s σ H x vs v us Q I rx rv h
 obtain ⟨y, z, rfl, rfl, hz, hy, q⟩ := h
 obtain ⟨t, rfl⟩ := rx
 obtain ⟨u, rfl, ru⟩ := vals1 rv
 obtain ⟨tu, rfl⟩ := ru
 refine split_at hz (fun l k e => ?_) hy
 refine ⟨.ref s.heap.objs.size, _, I.laid (t' := k) (o := .lst ((Txt.split y z).map V.str)) (fun b o e => Heap.get?_push_of_some _ e) (Nat.le_refl _) ⟨?_, strValues l, _, by rw [← e]; exact vals_numbered l, Heap.get?_push_size _ rfl⟩, rfl, q _ (I.hok.fresh (Nat.le_refl _))⟩
 rw [List.length_map]
 have := split_le y z
 omega
end
theorem cut_eq {c : Nat} : ∀ {a b r r' : List Nat}, c ∉ a → c ∉ b → a ++ c :: r = b ++ c :: r' → a = b ∧ r = r'
 | [], [], _, _, _, _, h => by simpa using h
 | [], y :: b, _, _, _, hb, h => by
  simp at h; exact absurd h.1 (fun z => hb (by simp [z]))
 | x :: a, [], _, _, ha, _, h => by
  simp at h; exact absurd h.1 (fun z => ha (by simp [z]))
 | x :: a, y :: b, _, _, ha, hb, h => by
  simp at h
  obtain ⟨h1, h2⟩ := cut_eq (fun z => ha (by simp [z])) (fun z => hb (by simp [z])) h.2
  exact ⟨by rw [h.1, h1], h2⟩
theorem cps_app (x y : Str) : (x ++ y).cps.toList = x.cps.toList ++ y.cps.toList := by
 show (x.cps ++ y.cps).toList = _
 simp
theorem join_inj {c : Nat} : ∀ {xs ys : List Str}, xs ≠ [] → ys ≠ [] → (∀ x ∈ xs, c ∉ x.cps.toList) → (∀ x ∈ ys, c ∉ x.cps.toList) → (Str.join ⟨#[c]⟩ xs).cps.toList = (Str.join ⟨#[c]⟩ ys).cps.toList → xs = ys
 | [], _, h, _, _, _, _ => absurd rfl h
 | _, [], _, h, _, _, _ => absurd rfl h
 | [x], [y], _, _, _, _, h => by
  have h : x.cps.toList = y.cps.toList := h
  rw [Str.ext' (Array.toList_inj.mp h)]
 | [x], y :: z :: r, _, _, hx, _, h => by
  have h : x.cps.toList = (y ++ ⟨#[c]⟩ ++ Str.join ⟨#[c]⟩ (z :: r)).cps.toList := h
  rw [cps_app, cps_app] at h
  exact absurd (by rw [h]; simp) (hx x (by simp))
 | x :: z :: r, [y], _, _, _, hy, h => by
  have h : (x ++ ⟨#[c]⟩ ++ Str.join ⟨#[c]⟩ (z :: r)).cps.toList = y.cps.toList := h
  rw [cps_app, cps_app] at h
  exact absurd (by rw [← h]; simp) (hy y (by simp))
 | x :: z :: r, y :: z' :: r', _, _, hx, hy, h => by
  have h : (x ++ ⟨#[c]⟩ ++ Str.join ⟨#[c]⟩ (z :: r)).cps.toList = (y ++ ⟨#[c]⟩ ++ Str.join ⟨#[c]⟩ (z' :: r')).cps.toList := h
  rw [cps_app, cps_app, cps_app, cps_app] at h
  have h : x.cps.toList ++ c :: (Str.join ⟨#[c]⟩ (z :: r)).cps.toList = y.cps.toList ++ c :: (Str.join ⟨#[c]⟩ (z' :: r')).cps.toList := by simpa using h
  obtain ⟨h1, h2⟩ := cut_eq (hx x (by simp)) (hy y (by simp)) h
  rw [Str.ext' (Array.toList_inj.mp h1), join_inj (by simp) (by simp) (fun w hw => hx w (by simp only [List.mem_cons] at hw ⊢; exact .inr hw)) (fun w hw => hy w (by simp only [List.mem_cons] at hw ⊢; exact .inr hw)) h2]
theorem split_join {ws : List Str} (h0 : ws ≠ []) (h : ∀ x ∈ ws, (32 : Nat) ∉ x.cps.toList) : Txt.split (Txt.join " " ws) " " = ws := by
 have e : (" " : Str) = ⟨#[32]⟩ := by decide +kernel
 have j : Txt.join " " ws = Str.join ⟨#[32]⟩ ws := by rw [e]; exact PySem.StrLaws.glued_eq_join _ _
 rw [j, e]
 refine join_inj (c := 32) (fun z => ?_) h0 (fun x hx => PySem.StrLaws.split_free _ 32 x hx) h ?_
 ·have := split_pos (Str.join ⟨#[32]⟩ ws) ⟨#[32]⟩
  rw [z] at this; simp at this
 ·rw [PySem.StrLaws.join_split]
end L2
namespace M
open PySem PySem.Spec PyProof.Rows L2
section
variable {X : Cx}
noncomputable def aSplit : AM := fun x ds S Q => ∃ y z : Str, x = .str y ∧ ds = [.str z] ∧ (z.length == 0) = false ∧ y.length + 2 ≤ sizeLine ∧ Q (.new (.lst ((Txt.split y z).map D.str))) S
theorem m_split : OpM X "str.split" aSplit := ⟨mM L2.mt_split fun x xs H Q h => by
 obtain ⟨w, d, ds, S, Qa, ok, r1, r2, ⟨y, z, rfl, rfl, hz, hy, q⟩, bk⟩ := h
 obtain ⟨v, rfl, r3⟩ := reps1 r2
 refine ⟨y, z, rep_str r1 rfl, by rw [rep_str r3 rfl], hz, hy, fun p hp => ?_⟩
 exact bk (.new (.lst _)) S _ w _ .refl (ok.alloc hp) (ok.fresh hp ⟨_, rfl, reps_of_strs _⟩) q⟩
end
end M
namespace Srt
open PySem PySem.W PyProof.Rows
structure Ord (α : Type) where
 lt : α → α → Bool
 irr : ∀ a, lt a a = false
 tr : ∀ a b c, lt a b = true → lt b c = true → lt a c = true
 nt : ∀ a b c, lt a c = true → lt a b = true ∨ lt b c = true
noncomputable def run {β : Type} (f : Nat → Nat → Bool) : KasT β → β
 | .ret a => a
 | .ask i j k => run f (k (f i j))
section
variable {α : Type} (O : Ord α)
noncomputable def le (a b : α) : Prop := O.lt b a = false
variable {O}
end
section
variable {α : Type} {O : Ord α} {k : Nat → α} {p : Array Nat}
noncomputable def val (k : Nat → α) (p : Array Nat) (i : Nat) : α := k (p.getD i 0)
variable (O k)
noncomputable abbrev ask (i j : Nat) : Bool := O.lt (k i) (k j)
variable {O k}
end
end Srt
namespace M5
open PySem PySem.Spec PyProof.Rows
section
variable {prog : Program} {w : World} {A : Around} {E : Value → Shared → Prop} {s : Shared}
end
section
variable {prog : Program} {w : World} {A : Around} {R : Result → Shared → Prop} {I : Addr} {fp wr : List Addr} {G : Array GenState → Array GenState → Prop} {n : Nat} {P : Nat → Value → Prop} {St : Nat → Shared → Prop}
end
namespace F
end F
section
variable {prog : Program} {w : World} {A : Around} {E : Value → Shared → Prop} {s : Shared}
end
end M5
namespace M5
open PySem PySem.Spec PyProof.Rows
namespace F
end F
section
variable {prog : Program} {w : World} {A : Around} {E : Value → Shared → Prop} {s : Shared}
end
end M5
namespace M5
open PySem PySem.Spec PyProof.Rows
section
variable {prog : Program} {w : World} {A : Around} {E : Value → Shared → Prop} {s : Shared}
end
end M5
namespace M5
open PySem PySem.Spec PyProof.Rows
section
variable {prog : Program} {w : World} {A : Around} {E : Value → Shared → Prop} {s : Shared}
end
end M5
namespace M5
open PySem PySem.Spec PyProof.Rows
section
variable {prog : Program} {w : World} {A : Around} {E : Value → Shared → Prop} {s : Shared}
end
end M5
namespace M5
open PySem PySem.Spec PyProof.Rows
namespace F
end F
section
variable {prog : Program} {w : World} {A : Around} {E : Value → Shared → Prop} {s : Shared}
end
end M5
namespace L2
open PySem PySem.Spec PyProof.Rows
section
variable {X : Cx} {e : Expr} {ta : TE} {p p2 pos pos2 : Pos}
end
end L2
namespace M
open PySem PySem.Spec PyProof.Rows L2
section
variable {K : PySem.W.Frag}
end
section
variable {X : Cx} {e o i value : Expr} {p p2 pos pos2 pos' pc pu : Pos}
end
end M
namespace M
open PySem PySem.Spec PyProof.Rows L2
section
variable {K : PySem.W.Frag}
noncomputable def trs (K : PySem.W.Frag) : List Str → List AE → List (TE × TE)
 | k :: ks, a :: as => (tC (.str k), conE K a) :: trs K ks as
 | _, _ => []
noncomputable def sb (m : Nat) (e : D) : D → D
 | .loc n => if n = m then e else .loc n
 | d => d
end
section
variable {X : Cx} {e : Expr} {pos : Pos}
end
end M
namespace M6
open PySem PySem.Spec PyProof.Rows
section
variable {prog : Program} {w : World}
end
noncomputable instance : DecidableEq PyData := fun _ _ => Classical.propDecidable _
end M6
namespace M6
open PySem PySem.Spec PyProof.Rows
section
variable {prog : Program} {w : World} {A : Around} {E : Value → Shared → Prop} {s : Shared}
end
end M6
namespace M6
open PySem PySem.Spec PyProof.Rows
section
variable {prog : Program} {w : World}
section
variable {n : Nat}
end
end
end M6
namespace M6
open PySem PySem.Spec PyProof.Rows
section
variable {prog : Program} {w : World} {A : Around} {E : Value → Shared → Prop} {s : Shared}
end
end M6
namespace L2
open PySem PySem.Spec PyProof.Rows M6
section
variable {X : Cx} {pins : List (Addr × Obj)} {σ : St} {H : Hp} {s : Shared} {A : Around} {E : Value → Shared → Prop}
end
section
variable {X : Cx} {o i value : Expr} {td ty tv : TE} {pos pos' : Pos}
end
end L2
namespace M6
open PySem PySem.Spec PyProof.Rows
section
variable {prog : Program} {w : World} {A : Around} {E : Value → Shared → Prop} {s : Shared}
end
end M6
namespace L2
open PySem PySem.Spec PyProof.Rows M6
section
variable {X : Cx}
end
end L2
namespace M6
open PySem PySem.Spec PyProof.Rows
section
variable {prog : Program} {w : World} {A : Around} {E : Value → Shared → Prop} {s : Shared}
end
section
variable {prog : Program} {w : World} {A : Around} {E : Value → Shared → Prop} {s : Shared} {K : Type} [DecidableEq K] {knd : KeyKind prog w K}
end
end M6
namespace L2
open PySem PySem.Spec PyProof.Rows M6
section
variable {X : Cx}
end
end L2
namespace M
open PySem PySem.Spec PyProof.Rows L2 M6
section
variable {K : PySem.W.Frag}
end
section
variable {X : Cx} {o i value : Expr} {pos pos' : Pos}
end
end M
namespace M
open PySem PySem.Spec PyProof.Rows L2 M6
section
variable {K : PySem.W.Frag}
end
section
variable {X : Cx} {o i value : Expr} {pos pos' : Pos}
end
end M
namespace M
open PySem PySem.Spec PyProof.Rows L2 M6
section
variable {K : PySem.W.Frag}
end
section
variable {X : Cx} {e : Expr}
end
end M
namespace M7
open PySem PySem.Spec PyProof.Rows M5
section
variable {prog : Program} {w : World} {A : Around} {E : Value → Shared → Prop} {s : Shared}
end
section
variable {prog : Program} {w : World} {A : Around} {R : Result → Shared → Prop} {I : Addr} {fp wr : List Addr} {G : Array GenState → Array GenState → Prop} {n : Nat} {P : Nat → Value → Prop} {St : Nat → Shared → Prop}
end
section
variable {prog : Program} {w : World} {A : Around} {E : Value → Shared → Prop} {s : Shared}
end
end M7
namespace M7
open PySem PySem.Spec PyProof.Rows M5
section
variable {prog : Program} {w : World} {A : Around} {E : Value → Shared → Prop} {s : Shared}
end
end M7
namespace L2
open PySem PySem.Spec PyProof.Rows
section
variable {X : Cx} {e : Expr} {ta : TE} {p p2 pos pos2 : Pos}
end
end L2
namespace M
open PySem PySem.Spec PyProof.Rows L2
section
variable {K : PySem.W.Frag}
end
section
variable {X : Cx} {e : Expr} {p p2 pos pos2 : Pos}
end
end M
namespace M6
open PySem PySem.Spec PyProof.Rows
section
variable {prog : Program} {w : World} {A : Around} {E : Value → Shared → Prop} {s : Shared}
end
end M6
namespace L2
open PySem PySem.Spec PyProof.Rows M6
section
variable {X : Cx} {pos : Pos}
end
end L2
namespace M
open PySem PySem.Spec PyProof.Rows L2
section
variable {K : PySem.W.Frag}
end
section
variable {X : Cx} {es : List Expr} {pos : Pos}
end
section
variable {X : Cx} {pos : Pos}
end
end M
namespace M
open PySem L2
section
variable {X : Cx}
end
end M
namespace M8
open PySem PySem.Spec PyProof.Rows HT
section
variable {prog : Program} {w : World} {A : Around} {E : Value → Shared → Prop} {s : Shared}
end
end M8
namespace L2
open PySem PySem.Spec PyProof.Rows
section
variable {X : Cx} {e : Expr} {ta : TE} {p2 pos : Pos}
end
end L2
namespace M
open PySem L2
section
variable {K : PySem.W.Frag}
end
section
variable {X : Cx} {e : Expr} {p2 pos pc pu : Pos}
end
end M
namespace M
open PySem PySem.Spec PyProof.Rows L2 M6
section
variable {X : Cx}
end
end M
namespace M8
open PySem PySem.Spec PyProof.Rows
open PySem.SetTable (Probe bits runEnd leap turns)
noncomputable def adv (m : Nat) (p : Probe) : Probe :=
 if p.more > 0 then { p with j := p.j + 1, more := p.more - 1 } else
 { p with j := (leap m p.i p.perturb).1, more := runEnd m (leap m p.i p.perturb).1 - (leap m p.i p.perturb).1, i := (leap m p.i p.perturb).1, perturb := (leap m p.i p.perturb).2 }
theorem adv_of (t : SetTable) (p : Probe) : t.advance p = adv t.mask p := rfl
noncomputable def at0 (m : Nat) (q : Nat × Nat) : Probe := { j := q.1, more := runEnd m q.1 - q.1, i := q.1, perturb := q.2, dummy := none }
noncomputable def ru (m : Nat) (h : Int) : Nat → Nat × Nat
 | 0 => (bits h % (m + 1), bits h)
 | k + 1 => leap m (ru m h k).1 (ru m h k).2
noncomputable def road (m : Nat) (h : Int) : Nat → Probe
 | 0 => at0 m (ru m h 0)
 | n + 1 => adv m (road m h n)
theorem start_of (t : SetTable) (h : Int) : t.probeStart h = road t.mask h 0 := rfl
noncomputable def nk (m : Nat) (h : Int) : Nat → Nat
 | 0 => 0
 | k + 1 => nk m h k + (runEnd m (ru m h k).1 - (ru m h k).1) + 1
noncomputable def lcg (m i : Nat) : Nat := (i * 5 + 1) % (m + 1)
noncomputable def it (m : Nat) : Nat → Nat → Nat
 | 0, i => i
 | k + 1, i => it m k (lcg m i)
noncomputable def Way (m : Nat) (occ : Nat → Prop) (h : Int) (j : Nat) : Prop := ∃ n, (road m h n).j = j ∧ ∀ n' < n, occ (road m h n').j
end M8
namespace M8
open PySem PySem.Spec PyProof.Rows M7
open PySem.SetTable (Probe bits runEnd leap turns)
noncomputable abbrev Ent := Nat × (Int × Value)
noncomputable def fs (l : List Ent) : List Nat := l.map (·.1)
structure Tab (t : SetTable) (es : Array (Int × Value)) (l : List Ent) : Prop where
 dm : t.dummies = #[]
 pl : t.place.toList = fs l
 el : es.toList = l.map (·.2)
 up : (fs l).Pairwise (· < ·)
 mm : t.mask = 7 ∨ t.mask = 31 ∨ t.mask = 127
 nf : l.length * 5 < t.mask * 3
 le : ∀ e ∈ l, e.1 ≤ t.mask
 way : ∀ e ∈ l, Way t.mask (· ∈ fs l) e.2.1 e.1
section
variable {t : SetTable} {es : Array (Int × Value)} {l : List Ent}
noncomputable def more (l : List Ent) (p : Nat) (e : Ent) : List Ent := l.take p ++ e :: l.drop p
end
noncomputable def occO (ow : Array (Option Nat)) (j : Nat) : Prop := ∃ i, ow[j]? = some (some i)
structure Own (m : Nat) (hs : List Int) (ow : Array (Option Nat)) : Prop where
 sz : ow.size = m + 1
 wy : ∀ (j i : Nat), ow[j]? = some (some i) → i < hs.length ∧ Way m (occO ow) (hs.getD i 0) j
 al : ∀ (i : Nat), i < hs.length → ∃ j : Nat, ow[j]? = some (some i)
 un : ∀ (j j' i : Nat), ow[j]? = some (some i) → ow[j']? = some (some i) → j = j'
end M8
namespace M8
open PySem PySem.Spec PyProof.Rows M5 M6 M7
open PySem.SetTable (Probe bits runEnd leap turns)
section
variable {prog : Program} {w : World} {A : Around} {E : Value → Shared → Prop} {s : Shared}
end
end M8
namespace M8
open PySem PySem.Spec PyProof.Rows M5 M6 M7
open PySem.SetTable (Probe bits runEnd leap turns)
section
variable {prog : Program} {w : World} {A : Around} {E : Value → Shared → Prop} {s : Shared}
end
end M8
namespace M8
open PySem PySem.Spec PyProof.Rows M5 M6 M7
section
variable {prog : Program} {w : World} {A : Around} {R : Result → Shared → Prop} {I : Addr} {fp wr : List Addr} {G : Array GenState → Array GenState → Prop} {n : Nat} {P : Nat → Value → Prop} {St : Nat → Shared → Prop}
end
section
variable {prog : Program} {w : World} {A : Around} {E : Value → Shared → Prop} {s : Shared}
end
end M8
namespace L2
open PySem PySem.Spec PyProof.Rows M6 M8
section
variable {X : Cx} {e : Expr} {ta : TE} {p p2 pos pos2 : Pos}
end
end L2
namespace M
open PySem PySem.Spec PyProof.Rows L2 M6
section
variable {K : PySem.W.Frag}
end
section
variable {X : Cx} {e : Expr} {p p2 pos pos2 : Pos}
end
end M
namespace M9
open PySem PySem.Spec PyProof.Rows
section
variable {prog : Program} {w : World} {A : Around} {E : Value → Shared → Prop} {s : Shared}
structure ZAt (h : Heap) (z TI TO i1 i2 l1 l2 : Addr) (f : Value) (k : Nat) : Prop where
 hz : IsZip h z TI TO f
 hTI : IsPair h TI (.ref i1) (.ref i2)
 hTO : ∃ a b, IsPair h TO a b
 h1 : h.IsTupleIter i1 l1 k
 h2 : h.IsTupleIter i2 l2 k
noncomputable abbrev tio (l : Addr) : Obj := { cls := .type "tuple_iterator", data := .fields #[.ref l, .int 0 0] }
noncomputable abbrev prO (a b : Value) : Obj := { cls := .type "tuple", data := .seq #[a, b] }
noncomputable abbrev zO (a b : Addr) : Obj := { cls := .type "zip", data := .fields #[.none, .bool false, .bool false, .ref a, .ref b] }
noncomputable abbrev q2 (h : Heap) (l1 l2 : Addr) : Heap := (h.push (tio l1)).push (tio l2)
noncomputable abbrev q3 (h : Heap) (l1 l2 : Addr) : Heap := (q2 h l1 l2).push (prO (.ref h.objs.size) (.ref (h.push (tio l1)).objs.size))
noncomputable abbrev q4 (h : Heap) (l1 l2 : Addr) : Heap := (q3 h l1 l2).push (prO .none .none)
noncomputable abbrev q5 (h : Heap) (l1 l2 : Addr) : Heap := (q4 h l1 l2).push (zO (q2 h l1 l2).objs.size (q3 h l1 l2).objs.size)
end
end M9
namespace L2
open PySem PySem.Spec PyProof.Rows M9
section
variable {X : Cx} {pins : List (Addr × Obj)} {σ : List (Option V)} {H : Hp} {s : Shared} {h' : Heap}
end
end L2
namespace M
open PySem PySem.Spec PyProof.Rows L2
end M
namespace M10
open PySem PyProof.Rows
section
variable {prog : Program} {w : World} {A : Around} {E : Value → Shared → Prop} {s : Shared}
end
end M10
namespace M10
open PySem PyProof.Rows
section
variable {R : Keyed → Int}
end
section
variable {prog : Program} {w : World} {A : Around} {E : Value → Shared → Prop} {s : Shared} {R : Keyed → Int} {κ : SortKind} {T : Keyed → Prop}
end
end M10
namespace M10
open PySem PyProof.Rows
section
variable {prog : Program} {w : World} {A : Around} {E : Value → Shared → Prop} {s : Shared} {R : Keyed → Int} {κ : SortKind} {T : Keyed → Prop}
end
end M10
namespace M10
open PySem PyProof.Rows
section
variable {R : Keyed → Int}
end
section
variable {prog : Program} {w : World} {A : Around} {E : Value → Shared → Prop} {s : Shared} {R : Keyed → Int} {κ : SortKind} {T : Keyed → Prop}
end
end M10
namespace M10
open PySem PyProof.Rows
section
variable {prog : Program} {w : World} {A : Around} {E : Value → Shared → Prop} {s : Shared} {R : Keyed → Int} {κ : SortKind} {T : Keyed → Prop} {a₀ b : Array Keyed} {p : Array (Nat × Nat × Nat)} {lo : Nat}
noncomputable def t3 (lo n nrem : Nat) : StateT SortSt Sem (Option Nat) := do
 let mut n := n
 reverseSlice' lo (lo + n)
 for _ in [n:nrem] do
  let some sm ← ltAt' (lo + n) (lo + n - 1) | return none
  if sm then break
  n := n + 1
 return some n
end
end M10
namespace M10
open PySem PyProof.Rows
section
variable {R : Keyed → Int} {xs ys : Array Keyed}
end
section
variable {prog : Program} {w : World} {A : Around} {E : Value → Shared → Prop} {s : Shared} {R : Keyed → Int} {κ : SortKind} {T : Keyed → Prop} {a₀ : Array Keyed}
end
end M10
namespace M10
open PySem PyProof.Rows
section
variable {prog : Program} {w : World} {A : Around} {E : Value → Shared → Prop} {s : Shared} {R : Keyed → Int} {κ : SortKind} {T : Keyed → Prop} {a₀ : Array Keyed}
end
end M10
namespace M10
open PySem PySem.Spec PyProof.Rows
section
variable {prog : Program} {w : World} {A : Around} {E : Value → Shared → Prop} {s : Shared} {R : Keyed → Int} {T : Keyed → Prop}
noncomputable def TS (ss : List Str) (p : Keyed) : Prop := ∃ x t, p.1 = .str x t ∧ x ∈ ss
end
end M10
namespace M
open PySem PySem.Spec PyProof.Rows L2
section
variable {X : Cx}
end
end M
namespace L2
open PySem PySem.Spec PyProof.Rows
section
variable {X : Cx} {e : Expr} {ta : TE} {p p2 pos pos2 : Pos}
end
end L2
namespace M
open PySem PySem.Spec PyProof.Rows L2
section
variable {K : PySem.W.Frag}
end
section
variable {X : Cx} {e : Expr} {p p2 pos pos2 : Pos}
end
end M
namespace M6
open PySem PySem.Spec PyProof.Rows
section
variable {prog : Program} {w : World}
end
section
variable {prog : Program} {w : World} {A : Around} {E : Value → Shared → Prop} {s : Shared}
end
end M6
namespace M5
open PySem PySem.Spec PyProof.Rows
section
variable {prog : Program} {w : World} {A : Around} {E : Value → Shared → Prop} {s : Shared}
end
end M5
namespace M5
open PySem PySem.Spec PyProof.Rows
section
variable {prog : Program} {w : World} {A : Around} {E : Value → Shared → Prop} {s : Shared}
end
end M5
namespace L2
open PySem PySem.Spec PyProof.Rows M6
section
variable {X : Cx} {e : Expr} {ta : TE} {p p2 pos pos2 : Pos}
end
section
variable {X : Cx}
end
end L2
namespace M
open PySem PySem.Spec PyProof.Rows L2 M6
section
variable {P : Program} {w : World} {K : PySem.W.Frag} {mg : Str → Option Value} {base : Heap} {C : Addr}
theorem okC {x qual : Str} {st : Stmt} {f : Addr} {fd : FuncData} {N ps : List Str} {k : Nat} {sp : AN} (F : Fun K x qual st f fd) (S : FnScope N ps (defScope st)) (len : ∀ ds S Q, sp ds S Q → ds.length = ps.length)
  (hbody : ∀ (f : Addr) (cdv : Value) (A : Around) (outer : List Env) (s : Shared) (H : Hp) (E : XK), Room k (A.deeper (PyProof.Rows.envOfC qual (defScope st) s.heap.objs.size f cdv)) →
   ∃ a, GSs (cxOf CX0 P w K mg base N qual (defScope st) f cdv A outer s H E).nox (defBody st) a ∧ ∀ ds S Q, sp ds S Q → a { nx := fun _ S' => Q (.dat .non) S', rt := Q } (startA N ds) S) : FnOk P w K mg base CX0 (k + 1) f fd ps (conSp K sp) :=
 F.ok S (fun vs H Q E h => by
  obtain ⟨w, ds, S, Qa, ok, rep, q, bk⟩ := h
  rw [rep.length]; exact len ds S Qa q) fun cdv A outer s H vs Q E hr h => by
  obtain ⟨a, ha, hd⟩ := hbody f cdv A outer s H E hr
  obtain ⟨w, ds, S, Qa, ok, rep, q, bk⟩ := h
  refine ⟨_, ha.p, w, startA N ds, S, _, ok, env_start rep, hd ds S Qa q, ⟨fun δ S' σ w' H' le ok' env q' => ?_, bk, fun _ _ _ _ _ _ _ _ z => z.elim, fun _ _ _ _ _ _ _ _ z => z.elim⟩⟩
  exact bk (.dat .non) S' .non w' H' le ok' (show Rep K w' .non .non from .non) q'
end
section
variable {X : Cx} {e o : Expr} {es : List Expr} {p p2 pos pos2 : Pos} {C : Addr} {k : Nat} {m : Str} {ps : List Str} {sp : AN} {K : PySem.W.Frag}
end
end M
namespace L2
open PySem PySem.Spec PyProof.Rows
noncomputable def XN (C : Addr) (d0 : Option Addr) (x : Addr) : HO := .ext fun h => ∃ t0 : Addr, h.get? x = some (PySem.W.excOb C d0 #[.ref t0, .none, .none, .none, .bool false, .none])
noncomputable def XT (C : Addr) (d0 : Option Addr) (T x : Addr) : HO := .ext fun h => ∃ (t0 : Addr) (a2 a3 a4 a5 : Value), h.get? x = some (PySem.W.excOb C d0 #[.ref t0, .ref T, a2, a3, a4, a5])
noncomputable def TB (T : Addr) : HO := .ext fun h => ∃ (ob : Obj) (ts : Array Value), h.get? T = some ob ∧ ob.data = .fields ts ∧ ts[3]? = some .none
section
variable {P : Program} {w : World} {H : Hp} {h : Heap}
theorem XN.ok {C x : Addr} {d0 : Option Addr} {t0 : Addr} (e : h.get? x = some (PySem.W.excOb C d0 #[.ref t0, .none, .none, .none, .bool false, .none])) : ObjOk P w H h x (XN C d0 x) :=
 ⟨⟨t0, e⟩, ⟨_, e⟩, fun h1 h2 ⟨t, q⟩ k => ⟨t, k _ q⟩⟩
theorem XN.get {C x : Addr} {d0 : Option Addr} (ok : HOk P w H h) (e : H x = some (XN C d0 x)) : ∃ t0 : Addr, h.get? x = some (PySem.W.excOb C d0 #[.ref t0, .none, .none, .none, .bool false, .none]) := (ok x _ e).1
theorem XT.ok {C x T : Addr} {d0 : Option Addr} {t0 : Addr} {a2 a3 a4 a5 : Value} (e : h.get? x = some (PySem.W.excOb C d0 #[.ref t0, .ref T, a2, a3, a4, a5])) : ObjOk P w H h x (XT C d0 T x) :=
 ⟨⟨t0, a2, a3, a4, a5, e⟩, ⟨_, e⟩, fun h1 h2 ⟨t, b2, b3, b4, b5, q⟩ k => ⟨t, b2, b3, b4, b5, k _ q⟩⟩
theorem XT.get {C x T : Addr} {d0 : Option Addr} (ok : HOk P w H h) (e : H x = some (XT C d0 T x)) : ∃ (t0 : Addr) (a2 a3 a4 a5 : Value), h.get? x = some (PySem.W.excOb C d0 #[.ref t0, .ref T, a2, a3, a4, a5]) := (ok x _ e).1
theorem TB.ok {T : Addr} {ob : Obj} {ts : Array Value} (e : h.get? T = some ob) (d : ob.data = .fields ts) (n : ts[3]? = some .none) : ObjOk P w H h T (TB T) :=
 ⟨⟨ob, ts, e, d, n⟩, ⟨_, e⟩, fun h1 h2 ⟨o, t, q, r⟩ k => ⟨o, t, k _ q, r⟩⟩
theorem TB.get {T : Addr} (ok : HOk P w H h) (e : H T = some (TB T)) : ∃ (ob : Obj) (ts : Array Value), h.get? T = some ob ∧ ob.data = .fields ts ∧ ts[3]? = some .none := (ok T _ e).1
end
section
variable {M : Model} {A : Around} {E : Value → Shared → Prop} {s : Shared}
theorem entry_new {base : Heap} {env : Env} {outer : List Env} {L e : Addr} {oe : Obj} {vs : Array Value} {head : Value} {hadNext : Bool} {Q : Unit → Shared → Prop}
  (hfr : A.frames = some (env :: outer)) (hl : s.heap.FunFrames base (env :: outer)) (hf : env.frame = some L)
  (he : s.heap.get? e = some oe) (hd : oe.data = .fields vs) (hsz : 1 < vs.size)
  (h : ∀ h' T, s.heap.objs.size ≤ T → h'.get? e = some (Obj.mapFields (·.setIfInBounds 1 (Value.ref T)) oe) → (∃ ob ts, h'.get? T = some ob ∧ ob.data = .fields ts ∧ ts[3]? = some .none) →
   (∀ b o, b ≠ e → b ∉ frs (env :: outer) → s.heap.get? b = some o → h'.get? b = some o) → (∀ b o, b ≠ e → s.heap.get? b = some o → ∃ sl, h'.get? b = some { o with slots := sl }) → Q () { s with heap := h' }) :
  wpAny M A (do let a ← frameOf env; let pl ← entryPlaceOf L hadNext; let b ← EntryCells.newEntry head a .none (rawInt L) .none pl; setField (.ref e) 1 b) (fun _ s' => wpAny M A (setFlight (.ref e) none) Q E s') E s := by
 have hene : e ∉ (env :: outer).filterMap (·.frame) := fun hm => by
  obtain ⟨_, o, ho, hnf⟩ := hl.mem hm
  rw [he] at ho; injection ho with ho; subst ho; exact hnf vs hd
 refine wpAny_bind (wpAny_frameOf_fun hfr hl hf fun h₁ hs₁ => ?_)
 refine wpAny_bind (wpAny_entryPlaceOf fun pl hpl => ?_)
 unfold EntryCells.newEntry newFields
 refine wpAny_bind (wpAny_newObj_type ?_ (hpl.sizeOk5 _ _ _ _ _))
 have he₁ : h₁.get? e = some oe := (hs₁.2.1 e hene).trans he
 have he₂ := Heap.get?_push_of_some (h := h₁) { cls := .type "traceback", dict := none, data := .fields ([head, .ref L, .none, rawInt L, .none] ++ (if pl.isEmpty then List.replicate 6 Value.none else pl)).toArray } he₁
 refine wpAny_setField he₂ hd hsz ?_
 have hTe : h₁.objs.size ≠ e := Nat.ne_of_gt (Heap.lt_size he₁)
 have hd₃ := Obj.data_mapFields hd (·.setIfInBounds 1 (Value.ref h₁.objs.size))
 have he₃ := Heap.get?_update_self (Obj.mapFields (·.setIfInBounds 1 (Value.ref h₁.objs.size))) he₂ (Obj.isFreed_of_fields hd₃)
 have hT₃ := (Heap.get?_update_other (h₁.push { cls := .type "traceback", dict := none, data := .fields ([head, .ref L, .none, rawInt L, .none] ++ (if pl.isEmpty then List.replicate 6 Value.none else pl)).toArray })
  (Obj.mapFields (·.setIfInBounds 1 (Value.ref h₁.objs.size))) (Ne.symm hTe)).trans (Heap.get?_push_size h₁ rfl)
 unfold setFlight
 refine wpAny_bind (wpAny_field he₃ hd₃ (x := .ref h₁.objs.size) (by simp [hsz]) ?_)
 rw [if_pos (show (Value.ref h₁.objs.size != Value.none) = true from by simp)]
 have keep : ∀ b o, b ≠ e → h₁.get? b = some o →
   (((h₁.push { cls := .type "traceback", dict := none, data := .fields ([head, .ref L, .none, rawInt L, .none] ++ (if pl.isEmpty then List.replicate 6 Value.none else pl)).toArray }).update e (Obj.mapFields (·.setIfInBounds 1 (Value.ref h₁.objs.size)))).update h₁.objs.size
    (Obj.mapFields (·.setIfInBounds 3 ((none : Option Addr).elim Value.none fun f => rawInt f)))).get? b = some o := fun b o hbe hb => by
  have hbT : h₁.objs.size ≠ b := Nat.ne_of_gt (Heap.lt_size hb)
  rw [Heap.get?_update_other _ _ hbT, Heap.get?_update_other _ _ (Ne.symm hbe)]
  exact Heap.get?_push_of_some _ hb
 refine wpAny_setField hT₃ rfl (by simp only [List.size_toArray, List.length_append, List.length_cons, List.length_nil] <;> omega) (h _ h₁.objs.size (by rw [hs₁.1]; exact Nat.le_refl _) ?_ ⟨_, _, Heap.get?_update_self _ hT₃ (Obj.isFreed_of_fields (Obj.data_mapFields rfl _)), Obj.data_mapFields rfl _, by first | (simp; done) | (rcases hpl with rfl | ⟨_, _, _, _, _, _, _, rfl⟩ <;> simp)⟩ (fun b o hb hf' e' => keep b o hb ((hs₁.2.1 b hf').trans e')) fun b o hb e' => ?_)
 ·rw [Heap.get?_update_other _ _ hTe]; exact he₃
 ·obtain ⟨sl, q⟩ := hs₁.2.2 b o e'
  exact ⟨sl, keep b _ hb q⟩
end
structure Inmost (X : Cx) (A : Around) : Prop where
 st : X.stack = X.env :: X.outer
 fr : X.env.frame = some X.env.locals
 af : A.frames = some (X.env :: X.outer)
section
variable {X : Cx} {M : Model} {A : Around} {E : Value → Shared → Prop} {pins : List (Addr × Obj)} {σ : St} {H : Hp} {s : Shared} {C x T : Addr} {d0 : Option Addr} {Q : Unit → Shared → Prop}
theorem Inv.noted {h' : Heap} {u : HO} {u' : HO} (I : Inv X pins σ H s) (hs : X.stack = X.env :: X.outer) (e : H x = some u) (mu : Mut (some u)) (hT : s.heap.objs.size ≤ T)
  (hx : ∀ H', ObjOk X.prog X.w H' h' x u') (hxo : ∃ o, h'.get? x = some o) (ht : ∃ ob ts, h'.get? T = some ob ∧ ob.data = .fields ts ∧ ts[3]? = some .none)
  (k1 : ∀ b o, b ≠ x → b ∉ frs (X.env :: X.outer) → s.heap.get? b = some o → h'.get? b = some o) (k2 : ∀ b o, b ≠ x → s.heap.get? b = some o → ∃ sl, h'.get? b = some { o with slots := sl }) :
  Inv X pins σ (upd (upd H x u') T (TB T)) { s with heap := h' } := by
 have nT : H T = none := I.hok.fresh hT
 have xT : x ≠ T := fun z => by rw [z, nT] at e; cases e
 have ne : ∀ {b o}, s.heap.get? b = some o → b ≠ T := fun {b o} q => Nat.ne_of_lt (Nat.lt_of_lt_of_le (Heap.lt_size q) hT)
 have old : ∀ {b v}, H b = some v → b ≠ x → upd (upd H x u') T (TB T) b = some v := fun {b v} q hb => by
  rw [upd_ne (ne_of_none q nT), upd_ne hb]; exact q
 have nx : ∀ {b v}, H b = some v → (Mut (some v) → False) → b ≠ x := fun {b v} q hm z => by
  subst z; rw [e] at q; cases q; exact hm mu
 refine I.call (g' := s.gens) (d' := s.drawn) (t' := s.toks) (ch := []) ⟨fun b o q n hb _ => ?_, fun b o q n hb _ => ?_, fun b o q n _ => ?_, fun b o q _ => ?_, fun b xs q => ?_, fun b o v q => ?_, fun b ps q => ?_⟩ (fun b v q => ?_) I.bare (fun b z => absurd z (by simp))
 ·rw [hs] at hb
  exact k1 b o (fun z => by rw [z, e] at n; cases n) hb q
 ·exact k2 b o (fun z => by rw [z, e] at n; cases n) q
 ·rw [upd_ne (ne q), upd_ne (fun z => by rw [z, e] at n; cases n)]; exact n
 ·by_cases hb : b = x
  ·subst hb; exact hxo
  ·obtain ⟨sl, q'⟩ := k2 b o hb q; exact ⟨_, q'⟩
 ·exact old q (nx q id)
 ·exact old q (nx q id)
 ·exact ⟨#[], by rw [Array.append_empty]; exact old q (nx q id)⟩
 ·by_cases h1 : b = T
  ·subst h1; rw [upd_same] at q; cases q
   obtain ⟨ob, ts, r1, r2, r3⟩ := ht
   exact TB.ok r1 r2 r3
  ·rw [upd_ne h1] at q
   by_cases h2 : b = x
   ·subst h2; rw [upd_same] at q; cases q; exact hx _
   ·rw [upd_ne h2] at q
    refine (I.hok b v q).stay (fun c o hc r => ?_) (fun c r => old r (nx r id)) fun c xs r => old r (nx r id)
    have hc' : ∃ v', H c = some v' ∧ c ≠ x := by
     rcases hc with z | z
     ·subst z; exact ⟨v, q, h2⟩
     ·exact ⟨_, z, nx z id⟩
    obtain ⟨v', z1, z2⟩ := hc'
    refine k1 c o z2 (fun z => ?_) r
    rw [← hs] at z
    rw [I.stkFree c z] at z1; cases z1
theorem note_first (I : Inv X pins σ H s) (im : Inmost X A) (e : H x = some (XN C d0 x))
  (h : ∀ T s', H T = none → T ≠ x → Inv X pins σ (upd (upd H x (XT C d0 T x)) T (TB T)) s' → Q () s') :
  wpAny M A (noteFrame (.ref x) X.env) (fun _ s' => wpAny M A (setFlight (.ref x) none) Q E s') E s := by
 obtain ⟨t0, hx⟩ := XN.get I.hok e
 have hl : s.heap.FunFrames X.base (X.env :: X.outer) := by have := I.stack; rw [im.st] at this; exact this
 unfold noteFrame
 simp only [im.fr]
 refine wpAny_bind (wpAny_field hx rfl (x := .none) rfl ?_)
 rw [if_neg (by decide)]
 refine entry_new im.af hl im.fr hx rfl (by simp) fun h' T hT h1 h2 h3 h4 => h T _ (I.hok.fresh hT) (fun z => ?_) (I.noted im.st e trivial hT (fun H' => XT.ok h1) ⟨_, h1⟩ h2 h3 h4)
 exact absurd (Heap.lt_size hx) (by rw [← z]; exact Nat.not_lt.mpr hT)
theorem note_next {T0 : Addr} (I : Inv X pins σ H s) (im : Inmost X A) (e : H x = some (XT C d0 T0 x)) (e0 : H T0 = some (TB T0)) (hne : T0 ≠ x)
  (h : ∀ T s', H T = none → T ≠ x → Inv X pins σ (upd (upd H x (XT C d0 T x)) T (TB T)) s' → Q () s') :
  wpAny M A (noteFrame (.ref x) X.env) (fun _ s' => wpAny M A (setFlight (.ref x) none) Q E s') E s := by
 obtain ⟨t0, a2, a3, a4, a5, hx⟩ := XT.get I.hok e
 obtain ⟨ob, ts, g1, g2, g3⟩ := TB.get I.hok e0
 have hsz : 3 < ts.size := (Array.getElem?_eq_some_iff.mp g3).1
 unfold noteFrame
 simp only [im.fr]
 refine wpAny_bind (wpAny_field hx rfl (x := .ref T0) rfl ?_)
 rw [if_pos (show (Value.ref T0 != Value.none) = true from by simp)]
 refine wpAny_bind (wpAny_field g1 g2 g3 ?_)
 rw [if_neg (by simp [rawInt])]
 refine wpAny_bind (wpAny_setField g1 g2 hsz ?_)
 have d3 := Obj.data_mapFields g2 (·.setIfInBounds 3 Value.none)
 have u3 := Heap.get?_update_self (Obj.mapFields (·.setIfInBounds 3 Value.none)) g1 (Obj.isFreed_of_fields d3)
 have I1 : Inv X pins σ (upd H T0 (TB T0)) { s with heap := s.heap.update T0 (Obj.mapFields (·.setIfInBounds 3 Value.none)), toks := s.toks } :=
  I.write (x := T0) (e := T0) (by rw [e0]; exact True.intro) (.inl rfl) (fun b q hb z => by rw [Heap.get?_update_other _ _ (Ne.symm hb)]; exact z) ⟨_, u3⟩ (TB.ok u3 d3 (by simp [hsz]))
 have eH : upd H T0 (TB T0) = H := by
  funext b
  by_cases hb : b = T0
  ·subst hb; rw [upd_same, e0]
  ·rw [upd_ne hb]
 rw [eH] at I1
 obtain ⟨t0', b2, b3, b4, b5, hx1⟩ := XT.get I1.hok e
 have hl : (s.heap.update T0 (Obj.mapFields (·.setIfInBounds 3 Value.none))).FunFrames X.base (X.env :: X.outer) := by have := I1.stack; rw [im.st] at this; exact this
 refine entry_new (s := { s with heap := s.heap.update T0 (Obj.mapFields (·.setIfInBounds 3 Value.none)), toks := s.toks }) im.af hl im.fr hx1 rfl (by simp) fun h' T hT h1 h2 h3 h4 => h T _ (I1.hok.fresh hT) (fun z => ?_) (I1.noted im.st e trivial hT (fun H' => XT.ok h1) ⟨_, h1⟩ h2 h3 h4)
 exact absurd (Heap.lt_size hx1) (by rw [← z]; exact Nat.not_lt.mpr hT)
end
end L2
namespace L2
open PySem PySem.Spec PyProof.Rows
theorem Inv.re {X : Cx} {pins : List (Addr × Obj)} {σ : St} {H : Hp} {s : Shared} {A' : Around} {c : Bool} {xe : Value → Shared → Prop} (I : Inv X pins σ H s) (hf : A'.frames = X.A.frames) (hc : c = true → A'.handled = none) :
  Inv { X with A := A', calm := c, xe := xe } pins σ H s :=
 ⟨⟨I.ok.mod, I.ok.kind, I.ok.glob, I.ok.blt, I.ok.above, I.ok.inj, I.ok.has, I.ok.cab, hc, hf.trans I.ok.frames, I.ok.stk, I.ok.exf, I.ok.bs, I.ok.bsz, I.ok.noex, I.ok.exfs, I.ok.funs, I.ok.frf⟩, I.os, I.bare, I.base, I.loc, I.cell, I.free, I.freeC, I.pin, I.hok, I.len⟩
noncomputable abbrev Cx.at (X : Cx) (e : Value) : Cx := { X with A := X.A.mark (some e), calm := false, xe := fun _ _ => False }
theorem Inv.into {X : Cx} {pins : List (Addr × Obj)} {σ : St} {H : Hp} {s : Shared} (I : Inv X pins σ H s) (e : Value) : Inv (X.at e) pins σ H s := I.re rfl (fun z => by cases z)
theorem Inv.outof {X : Cx} {pins : List (Addr × Obj)} {σ : St} {H : Hp} {s : Shared} {e : Value} (I : Inv (X.at e) pins σ H s) (ok : X.Ok) : Inv X pins σ H s := ⟨ok, I.os, I.bare, I.base, I.loc, I.cell, I.free, I.freeC, I.pin, I.hok, I.len⟩
noncomputable def CXr (P : Program) (w : World) : CXT := fun outer H s E e s' => ∃ H', s'.os = s.os ∧ AllBare s'.gens ∧ Un (frs outer) [] H H' s.heap s'.heap ∧ HOk P w H' s'.heap ∧ E e none H'
section
variable {P : Program} {w : World} {K : PySem.W.Frag} {mg : Str → Option Value} {base : Heap} {N : List Str} {qual : Str} {scope : Scope} {f : Addr} {cd : Value} {A : Around} {outer : List Env} {s s1 : Shared} {H H1 : Hp} {E : XK}
theorem raise_out {pins : List (Addr × Obj)} {σ : St} {a C : Addr} {d0 : Option Addr} (I : Inv (cxOf (CXr P w) P w K mg base N qual scope f cd A outer s H E) pins σ H1 s1) (e : H1 a = some (XN C d0 a))
  (h : ∀ T, H1 T = none → T ≠ a → E (.ref a) none (upd (upd H1 a (XT C d0 T a)) T (TB T))) : (cxOf (CXr P w) P w K mg base N qual scope f cd A outer s H E).xe (.ref a) s1 := by
 show wpAny _ _ (leaving _ _) _ _ _
 unfold leaving
 exact wpAny_bind (note_first I ⟨rfl, rfl, I.ok.frames⟩ e fun T s' hT hne I' => ⟨_, I'.os, I'.bare, I'.base, I'.hok, h T hT hne⟩)
theorem Fun.okR {x : Str} {st : Stmt} {fd : FuncData} {ps : List Str} {k : Nat} {sp : Sp} (F : Fun K x qual st f fd) (S : FnScope N ps (defScope st)) (len : ∀ vs H Q E, sp vs H Q E → vs.length = ps.length)
  (hbody : ∀ (cdv : Value) (A : Around) (outer : List Env) (s : Shared) (H : Hp) (vs : List V) (Q : VK) (E : XK), Room k (A.deeper (envOfC qual (defScope st) s.heap.objs.size f cdv)) → sp vs H Q E →
   ∃ t, PSs (cxOf (CXr P w) P w K mg base N qual (defScope st) f cdv A outer s H E) (defBody st) t ∧ t { nx := fun _ H' => Q .non H', rt := Q } (start N vs) H) : FnOk P w K mg base (CXr P w) (k + 1) f fd ps sp := by
 obtain ⟨oc, od, kV, doc, pm, an, cdv, ct, osl, rfl, lk, hcd⟩ := F.ex
 exact fn_of lk hcd S len fun A outer s H vs Q E hr hsp => hbody cdv A outer s H vs Q E hr hsp
end
structure DefR (P : Program) (w : World) (K : PySem.W.Frag) (mg : Str → Option Value) (base : Heap) (k : Nat) (x : Str) (ps : List Str) (sp : Sp) : Prop where
 ex : ∃ f fd, FnOk P w K mg base (CXr P w) k f fd ps sp ∧ mg x = some (.ref f) ∧ PySem.W.keepIn K (.ref f) = true ∧ Binds K fd ps []
section
variable {X : Cx} {e : Expr} {te : TE} {pos : Pos}
noncomputable def tRaise (K : PySem.W.Frag) (R : Addr → Addr → Option Addr → Hp → Prop) (te : TE) : TS := fun _ σ H => te σ H fun v H1 => ∃ a C d0, v = .ref a ∧ H1 a = some (XN C d0 a) ∧ XCls K C ∧ R a C d0 H1
theorem ps_raise {R : Addr → Addr → Option Addr → Hp → Prop} (hc : X.calm = true) (hR : ∀ pins σ H s a C d0, Inv X pins σ H s → H a = some (XN C d0 a) → R a C d0 H → X.xe (.ref a) s) (he : PE X e te) : PS X (.Raise (some e) none pos) (tRaise X.K R te) := by
 intro pins s σ H D I h
 rw [arm_exec_Raise]
 refine wpAny_bind (wpAny_standAt ?_)
 unfold raiseStmt
 simp only [evalOpt, Option.map]
 refine wpAny_bind (wpAny_bind (thn (he pins s σ H _ I h) fun u s1 ⟨v, H1, I1, r, a, C, d0, ev, ea, ec, q⟩ => wpAny_bind (wpAny_standAt (wpAny_pure ?_))))
 subst ev
 obtain rfl : u = Value.ref a := r
 obtain ⟨t0, hx⟩ := XN.get I1.hok ea
 obtain ⟨nm, qq, N, bs, bm, hdct, sn, sub, ab, col, dd, k0, k1, k2, k3, k5, hl, hB, _, _⟩ := exc_ob ec.ex
 have hC := I1.kIn _ _ hl
 have hh : X.A.handled = none := I1.ok.hd hc
 have hE := hR pins σ H1 s1 a C d0 I1 ea q
 have L0 := PySem.W.looks_subIn (M := model X.prog X.w) I1.kIn ec.sb
 obtain ⟨hp, g, d, tk, os⟩ := s1
 repeat (first | with_reducible refine wpAny_loadPart_at hx ?_ | with_reducible refine wpAny_loadPart_at hC ?_ | with_reducible refine PySem.W.Looks.at L0 ?_ | wp_step)
 exact wpAny_raiseNew_none hh hE
end
end L2
namespace L2
open PySem PySem.Spec PyProof.Rows
noncomputable def sFldN0 (K : PySem.W.Frag) (ta tv : TE) (f : Str) : TS := fun D σ H => tv σ H fun y H1 => ta σ H1 fun x H2 => ∃ a C, x = .ref a ∧ H2 a = some (XN C none a) ∧ XCls K C ∧ PySem.W.findIn K (.ref C) f = some none ∧
 ∀ dx, H2 dx = none → D.nx σ (upd (upd H2 a (XN C (some dx) a)) dx (XDt [(f, y)] dx))
noncomputable def tInitN (K : PySem.W.Frag) (t : TA) : TE := fun σ H Q => t σ H fun vs H1 => ∃ x rest C d0, vs = .ref x :: rest ∧ rest.length ≤ 1000 ∧ H1 x = some (XN C d0 x) ∧ excIn K C = true ∧ Q .non H1
section
variable {X : Cx} {pins : List (Addr × Obj)} {σ : St} {H : Hp} {s : Shared}
theorem setN0_ok {A : Around} {E : Value → Shared → Prop} {x C : Addr} {f : Str} {y : V} {u : Value} {Q : Unit → Shared → Prop} (I : Inv X pins σ H s) (e : H x = some (XN C none x)) (c : XCls X.K C) (n : PySem.W.findIn X.K (.ref C) f = some none) (ry : RelV y u)
  (h : ∀ dx s', H dx = none → Inv X pins σ (upd (upd H x (XN C (some dx) x)) dx (XDt [(f, y)] dx)) s' → Q () s') : wpAny (model X.prog X.w) A (setAttr (.ref x) f u) Q E s := by
 obtain ⟨t0, hx⟩ := XN.get I.hok e
 refine PySem.W.set_exc0 I.kIn hx c.sa c.ov n fun h' hn hx' hk => h s.heap.objs.size _ (I.hok.fresh (Nat.le_refl _)) ?_
 have hne : s.heap.objs.size ≠ x := Nat.ne_of_gt (Heap.lt_size hx)
 have Iw : Inv X pins σ (upd H x (XN C (some s.heap.objs.size) x)) { s with heap := h', toks := s.toks + 2 } :=
  I.write (x := x) (e := x) (by rw [e]; exact True.intro) (.inl rfl) (fun b q hb z => hk b q hb z) ⟨_, hx'⟩ (XN.ok hx')
 refine Iw.track (by rw [upd_ne hne]; exact I.hok.fresh (Nat.le_refl _)) I.sz (Nat.ne_of_gt I.lt) (fun z cc ez => ?_) (fun p hp => ?_) ?_
 ·obtain ⟨v, o, ho, _⟩ := I.cell z cc ez
  exact Nat.ne_of_lt (Heap.lt_size ho)
 ·exact Nat.ne_of_lt (Heap.lt_size (I.pin p hp).1)
 ·exact XDt.ok (by simp) hn (fun g => putF_rel (fs := []) (mA := fun _ => none) ry fun g => by trivial) (putF_in (fs := []) (mA := fun _ => none) fun g hg => absurd rfl hg)
end
section
variable {X : Cx} {o e value : Expr} {es : List Expr} {f d : Str} {pos pos' apos p : Pos} {ta tv : TE} {t : TA} {K : PySem.W.Frag}
theorem ps_fldN0 (ha : PE X o ta) (hv : PE X value tv) (hs : swapsWith value (some (.Attribute o f pos')) pos.line X.env = pure false := by rfl) (hK : X.K = K := by rfl) : PS X (.Assign [.Attribute o f pos'] value pos) (sFldN0 K ta tv f) := by
 subst hK
 intro pins s σ H D I h
 refine plainObj_wpAny_Assign_Attribute (thn (hv pins s σ H _ I h) fun u s1 h1 => ?_) hs
 obtain ⟨y, H1, I1, ry, q⟩ := h1
 refine thn (ha pins s1 σ H1 _ I1 q) fun ov s2 h2 => ?_
 obtain ⟨x, H2, I2, rx, a, C, ex, ea, c, n, q2⟩ := h2
 subst ex
 obtain rfl : ov = Value.ref a := rx
 exact setN0_ok I2 ea c n ry fun dx s3 nd I3 => ⟨σ, _, I3, q2 dx nd⟩
theorem pe_initN {pl : Sem Bool} {B : Addr} (hg : Gl X d) (hm : X.mg d = some (.ref B)) (b : XBase X.K B) (ha : PA X (e :: es) t) (hdb : (d == ("__debug__" : Str)) = false := by decide +kernel)
  (hst : (e :: es).all notStar = true := by rfl)
  (ht : eval (.Call (.Attribute (.Name d p) "__init__" apos) (e :: es) [] pos) X.env = (do
   let ov ← eval (.Name d p) X.env
   standAt apos.atName
   let (g0, first) ← holding [ov] (getMethod ov "__init__" pl)
   callWith pos g0 first (backTo pos (starEach (e :: es) X.env)) (backToKw pos (keywordEach [] X.env))) := by rfl) (hK : X.K = K := by rfl) :
  PE X (.Call (.Attribute (.Name d p) "__init__" apos) (e :: es) [] pos) (tInitN K t) := by
 subst hK
 have h2 := hst
 rw [List.all_cons, Bool.and_eq_true] at h2
 intro pins s σ H Q I h
 refine PySem.W.methodCall_KW (pl := pl) (ld_glob I hg hm ?_ hdb) ht
 refine PySem.W.method_cls I.kIn b.ga (PySem.W.cls_value I.kIn b.rd b.fc (by decide +kernel) ?_)
 refine PyProof.Rows.callWith_builtin1 (thn (ha pos pins { s with toks := s.toks + 1 } σ H _ (I.tok _) h) fun us s1 hh => ?_) (star_cons es X.env h2.1) (star_back es h2.2)
 obtain ⟨vs, H1, I1, r1, x, rest, C, d0, ev, hz, ex, ec, q1⟩ := hh
 subst ev
 cases r1 with
 | @cons _ ux _ ur rx rr =>
  obtain rfl : ux = Value.ref x := rx
  obtain ⟨t0, hx⟩ := XN.get I1.hok ex
  obtain ⟨nm, q, N, bs, bm, hdct, sn, sub, ab, col, dd, k0, k1, k2, k3, k5, hl, hB, _, _⟩ := exc_ob ec
  refine PySem.W.init_run (I1.kIn _ _ hl) hB hx (by have := rr.length; rw [sizeLine_eq]; omega) fun h' hx' hk => ⟨.non, H1, ?_, rfl, q1⟩
  have Iw : Inv X pins σ (upd H1 x (XN C d0 x)) { s1 with heap := h', toks := s1.toks } :=
   I1.write (x := x) (e := x) (by rw [ex]; exact True.intro) (.inl rfl) (fun b q hb z => hk b q hb z) ⟨_, hx'⟩ (XN.ok hx')
  have eH : upd H1 x (XN C d0 x) = H1 := by
   funext b
   by_cases hb : b = x
   ·subst hb; rw [upd_same, ex]
   ·rw [upd_ne hb]
  rw [eH] at Iw
  exact Iw
end
section
variable {X : Cx} {C f : Addr} {fd : FuncData} {ps : List Str} {k : Nat} {sp : Sp} {ds : List Value} {dvs : List V} {CX : CXT} {E : XK}
theorem run_makeN {pins : List (Addr × Obj)} {σ : St} {H : Hp} {s : Shared} {Q : VK} {us : List Value} {vs : List V} (M : XMk X.K C f) (F : FnOk X.prog X.w X.K X.mg X.base CX k f fd ps sp) (hr : Room (k + 1) X.A) (hb : Binds X.K fd ps ds) (hd : Vals dvs ds)
  (hx : Passes CX X E) (I : Inv X pins σ H s) (r : Vals vs us) (hz : vs.length ≤ 1000)
  (h : ∀ x, H x = none → sp (.ref x :: (vs ++ dvs)) (upd H x (XN C none x)) (fun v H2 => v = .non ∧ Q (.ref x) H2) E) :
  wpAny (model X.prog X.w) X.A (call (.ref C) us) (EP X pins σ Q) X.xe s := by
 have hq := h (s.heap.objs.size + 1) (I.hok.fresh (Nat.le_succ _))
 have kk : ∀ b o, s.heap.get? b = some o → ((s.heap.push { cls := .type "tuple", data := .seq us.toArray }).push (PySem.W.excOb C none #[.ref s.heap.objs.size, .none, .none, .none, .bool false, .none])).get? b = some o := fun b o e => Heap.get?_push_of_some _ (Heap.get?_push_of_some _ e)
 have hx0 : ((s.heap.push { cls := .type "tuple", data := .seq us.toArray }).push (PySem.W.excOb C none #[.ref s.heap.objs.size, .none, .none, .none, .bool false, .none])).get? (s.heap.objs.size + 1) = some (PySem.W.excOb C none #[.ref s.heap.objs.size, .none, .none, .none, .bool false, .none]) := by heap_get
 have I2 : Inv X pins σ (upd H (s.heap.objs.size + 1) (XN C none (s.heap.objs.size + 1))) { s with heap := (s.heap.push { cls := .type "tuple", data := .seq us.toArray }).push (PySem.W.excOb C none #[.ref s.heap.objs.size, .none, .none, .none, .bool false, .none]), toks := s.toks } :=
  I.laid kk (Nat.le_succ _) (XN.ok hx0)
 have r2 : Vals (V.ref (s.heap.objs.size + 1) :: (vs ++ dvs)) (Value.ref (s.heap.objs.size + 1) :: (us ++ ds)) := .cons rfl (r.append hd)
 have hl : (Value.ref (s.heap.objs.size + 1) :: us ++ ds).length = ps.length := by
  have e := r2.length
  rw [F.len _ _ _ _ hq] at e
  exact e.symm
 obtain ⟨nm, q, N, bs, bm, hdct, sn, sub, ab, col, dd, k0, k1, k2, k3, k5, hlk, hB, hA, hN⟩ := exc_ob M.ex
 obtain ⟨hp, g, d, t, os⟩ := s
 refine wpAny_call (PySem.W.make_exc (f := f) (I.kIn _ _ hlk) hB hA hN (by have := r.length; rw [sizeLine_eq]; omega) (PySem.W.looks_findIn I.kIn M.init) (fun self => PySem.W.bind_fn I.kIn self (beq_iff_eq.mp M.fn)) (codeAny_mono (F.run _ X.stack _ _ ⟨Value.ref (hp.objs.size + 1) :: us, []⟩ (Value.ref (hp.objs.size + 1) :: (us ++ ds)) _ _ E (hr.make C us [])
  (I2.env0.make C us []) (hb _ (Value.ref (hp.objs.size + 1) :: us) I2.kIn hl) r2 hq) fun r s' hq' => ?_))
 cases r with
 | error e => exact hx pins σ _ _ e s' I2 hq'
 | ok fl =>
  cases fl with
  | ret u =>
   obtain ⟨v, H', I3, rv, ev, q3⟩ := I2.after hq'
   subst ev
   exact ⟨rv, ⟨V.ref (hp.objs.size + 1), H', I3, rfl, q3⟩⟩
  | next => exact False.elim hq'
  | brk => exact False.elim hq'
  | cont => exact False.elim hq'
noncomputable def tMakeN (C : Addr) (sp : Sp) (t : TA) : TE := fun σ H Q => t σ H fun vs H1 => vs.length ≤ 1000 ∧ ∀ x, H1 x = none → sp (.ref x :: (vs ++ [])) (upd H1 x (XN C none x)) (fun v H2 => v = .non ∧ Q (.ref x) H2) E0
theorem pe_makeN {x : Str} {e : Expr} {es : List Expr} {t : TA} {p pos : Pos} (D : XDef X.prog X.w X.K X.mg X.base k x C ps sp) (hr : Room (k + 1) X.A) (hg : Gl X x) (hx : Passes CX0 X E0) (ha : PA X (e :: es) t) (hdb : (x == ("__debug__" : Str)) = false := by decide +kernel) (hs : (e :: es).all notStar = true := by rfl) :
  PE X (.Call (.Name x p) (e :: es) [] pos) (tMakeN C sp t) := by
 obtain ⟨⟨f, fd, M, F, hb⟩, hm⟩ := D
 have h2 := hs
 rw [List.all_cons, Bool.and_eq_true] at h2
 intro pins s σ H Q I h
 refine wpAny_Call_Name_kw (ld_glob I hg hm ?_ hdb)
 refine PySem.W.callWith_K (h₀ := X.base) I.ok.mod.kin M.kp (thn (ha pos pins s σ H _ I h) fun us s1 ⟨vs, H1, I1, r, hz, q⟩ => ⟨I1.kIn, ?_⟩) (star_cons es X.env h2.1) (star_back es h2.2)
 exact run_makeN (dvs := []) M F hr hb .nil hx I1 r hz q
end
section
variable {P : Program} {w : World} {K : PySem.W.Frag} {mg : Str → Option Value} {base : Heap}
end
section
variable {X : Cx} {e : Expr} {es : List Expr} {t : TA} {x : Str} {p pos : Pos} {k : Nat} {ps : List Str} {sp : Sp}
end
end L2
namespace L2
open PySem PySem.Spec PyProof.Rows
section
variable {M : Model} {A : Around} {E : Value → Shared → Prop}
theorem matches_own {K : PySem.W.Frag} {h : Heap} {g : Array GenState} {d : Drawn} {t : Nat} {os : OsState} {e C B : Addr} {oe : Obj} {Q : Bool → Shared → Prop} (X : K.In h) (he : h.get? e = some oe) (hc : oe.cls = .ref C) (hB : excIn K B = true)
  (s1 : PySem.W.subIn K (.ref B) (.type "BaseException") = some true) (s2 : PySem.W.subIn K (.ref C) (.ref B) = some true) (hq : Q true ⟨h, g, d, t, os⟩) : wpAny M A (excMatches (.ref e) (.ref B)) Q E ⟨h, g, d, t, os⟩ := by
 obtain ⟨nm, qq, N, bs, bm, hdct, sn, sub, ab, col, dd, k0, k1, k2, k3, k5, hl, _, _, _⟩ := exc_ob hB
 have hC := X _ _ hl
 have L1 := PySem.W.looks_subIn (M := M) X s1
 have L2 := PySem.W.looks_subIn (M := M) X s2
 have f := tc_notTuple
 unfold excMatches
 repeat (first | (with_reducible refine wpAny_loadPart_at he ?_; rw [hc]) | with_reducible refine wpAny_loadPart_at hC ?_ | with_reducible refine PySem.W.Looks.at L1 ?_ | with_reducible refine PySem.W.Looks.at L2 ?_ | wp_step)
 exact hq
end
section
variable {X : Cx} {pins : List (Addr × Obj)} {σ : St} {H : Hp} {s : Shared}
theorem Inv.drop {M : Model} {A : Around} {E : Value → Shared → Prop} {i : Nat} {n : Str} {v : V} {pos : Pos} {Q : Unit → Shared → Prop} (I : Inv X pins σ H s) (hN : X.N.Nodup) (hi : X.N[i]? = some n) (hx : X.env.scope.names.lookup n = some .local) (hv : σ[i]? = some (some v))
  (h : ∀ s', Inv X pins (σ.set i none) H s' → Q () s') : wpAny M A (unbindBehindTheSuite X.env n pos) Q E s := by
 obtain ⟨m, hn, hl⟩ := id I.loc
 obtain ⟨u, ru, lk⟩ := hl i n v hi hv (.inl hx)
 have hm : m n = some u := by
  rcases lk with ⟨_, z⟩ | ⟨z, _⟩
  ·exact z
  ·have hx' : X.env.kindOf n = some .local := hx
   rw [hx'] at z; rcases z with z | z <;> cases z
 have hcls : (X.env.scope.kind == .class || (X.env.scope.kind == .module && X.env.locals != X.env.globals)) = false := by rw [I.ok.kind]; rfl
 obtain ⟨oL, _, _, hoL, _⟩ := id hn
 unfold unbindBehindTheSuite
 refine wpAny_onRaise (wpAny_unbindName_local hx hn hm hcls fun h' u' hn' hs => h _ ?_)
 have I0 : Inv X pins (σ.set i none) H s := I.weak (by simp) fun j w' e => by
  by_cases hj : j = i
  ·subst hj
   rw [List.getElem?_set] at e
   simp only [if_true] at e
   split at e <;> cases e
  ·rw [List.getElem?_set_ne (Ne.symm hj)] at e; exact e
 have tracked : HOk X.prog X.w H h' := fun b ob e => by
  refine (I.hok b ob e).stay (fun c w' hc q => (hs.2 c ?_).trans q) (fun _ q => q) fun _ _ q => q
  rintro rfl
  rcases hc with rfl | hc
  ·rw [I.free] at e; cases e
  ·rw [I.free] at hc; cases hc
 refine ⟨I.ok, I.os, I.bare, ⟨fun b o e n hb hx => ?_, fun b o e n hb hx => ?_, I.base.free, fun b o e hx => ?_, I.base.tups, I.base.frzs, I.base.tbls⟩, ⟨_, hn', fun j y v' e1 e2 e3 => ?_⟩, fun y c e => ?_, I.free, I.freeC, fun p hp => ?_, tracked, by simpa using I.len⟩
 ·exact (hs.2 b (Nat.ne_of_lt (Nat.lt_of_lt_of_le (Heap.lt_size e) I.ok.above))).trans (I.base.keep b o e n hb hx)
 ·obtain ⟨sl, e1⟩ := I.base.slot b o e n hb hx
  exact ⟨sl, (hs.2 b (Nat.ne_of_lt (Nat.lt_of_lt_of_le (Heap.lt_size e) I.ok.above))).trans e1⟩
 ·obtain ⟨o', e1⟩ := I.base.there b o e hx
  exact ⟨o', (hs.2 b (Nat.ne_of_lt (Nat.lt_of_lt_of_le (Heap.lt_size e) I.ok.above))).trans e1⟩
 ·by_cases hj : j = i
  ·subst hj
   rw [List.getElem?_set] at e2
   simp only [if_true] at e2
   split at e2 <;> cases e2
  ·rw [List.getElem?_set_ne (Ne.symm hj)] at e2
   obtain ⟨u', r', q⟩ := hl j y v' e1 e2 e3
   refine ⟨u', r', ?_⟩
   rcases q with ⟨k, e⟩ | ⟨k, c, e, z⟩
   ·refine .inl ⟨k, ?_⟩
    have : y ≠ n := fun e => hj (nodup_ix hN e1 (e ▸ hi))
    simp [this, e]
   ·exact .inr ⟨k, c, e, z.sameBut hs (I.cne y c e)⟩
 ·obtain ⟨w', z⟩ := I.cell y c e
  exact ⟨w', z.sameBut hs (I.cne y c e)⟩
 ·obtain ⟨e, n, ne, nf, d⟩ := I.pin p hp
  exact ⟨(hs.2 p.1 ne).trans e, n, ne, nf, d⟩
theorem flight_ok {M : Model} {A : Around} {E : Value → Shared → Prop} {x C T : Addr} {d0 : Option Addr} {Q : Unit → Shared → Prop} (I : Inv X pins σ H s) (e : H x = some (XT C d0 T x)) (e0 : H T = some (TB T))
  (h : ∀ s', Inv X pins σ (upd H x (XO C d0 x)) s' → Q () s') : wpAny M A (setFlight (.ref x) none) Q E s := by
 obtain ⟨t0, a2, a3, a4, a5, hx⟩ := XT.get I.hok e
 obtain ⟨ob, ts, g1, g2, g3⟩ := TB.get I.hok e0
 have hsz : 3 < ts.size := (Array.getElem?_eq_some_iff.mp g3).1
 unfold setFlight
 refine wpAny_bind (wpAny_field hx rfl (x := .ref T) rfl ?_)
 rw [if_pos (show (Value.ref T != Value.none) = true from by simp)]
 refine wpAny_setField g1 g2 hsz (h _ ?_)
 have d3 := Obj.data_mapFields g2 (·.setIfInBounds 3 ((none : Option Addr).elim Value.none fun f => rawInt f))
 have u3 := Heap.get?_update_self (Obj.mapFields (·.setIfInBounds 3 ((none : Option Addr).elim Value.none fun f => rawInt f))) g1 (Obj.isFreed_of_fields d3)
 have I1 : Inv X pins σ (upd H T (TB T)) { s with heap := s.heap.update T (Obj.mapFields (·.setIfInBounds 3 ((none : Option Addr).elim Value.none fun f => rawInt f))), toks := s.toks } :=
  I.write (x := T) (e := T) (by rw [e0]; exact True.intro) (.inl rfl) (fun b q hb z => by rw [Heap.get?_update_other _ _ (Ne.symm hb)]; exact z) ⟨_, u3⟩ (TB.ok u3 d3 (by simp [hsz]))
 have eH : upd H T (TB T) = H := by
  funext b
  by_cases hb : b = T
  ·subst hb; rw [upd_same, e0]
  ·rw [upd_ne hb]
 rw [eH] at I1
 obtain ⟨t0', b2, b3, b4, b5, hx1⟩ := XT.get I1.hok e
 exact I1.write (x := x) (e := x) (by rw [e]; exact True.intro) (.inl rfl) (fun b q hb z => z) ⟨_, hx1⟩ (XO.ok hx1)
end
structure Rsd (K : PySem.W.Frag) (B : Addr) (H : Hp) (a C dx T : Addr) (fs : List (Str × V)) : Prop where
 x : H a = some (XT C (some dx) T a)
 t : H T = some (TB T)
 d : H dx = some (XDt fs dx)
 n1 : T ≠ a
 n2 : dx ≠ a
 sb : PySem.W.subIn K (.ref C) (.ref B) = some true
section
variable {X : Cx} {e : Expr} {es : List Expr} {t : TA} {x c n : Str} {p p1 p2 p3 p4 pos : Pos} {k i : Nat} {ps : List Str} {sp : Sp} {b₀ : Stmt} {suite : List Stmt} {u : TS} {B : Addr}
end
end L2
namespace L2
open PySem PySem.Spec PyProof.Rows
noncomputable def RX (K : PySem.W.Frag) (B C : Addr) (fn : Str) (v : V) : XK := fun ev _ H' => ∃ a dx T, ev = .ref a ∧ Rsd K B H' a C dx T [(fn, v)]
noncomputable def spN1 (C : Addr) (fn : Str) : Sp := fun vs H Q _ => ∃ x v, vs = [.ref x, v] ∧ H x = some (XN C none x) ∧ ∀ dx, H dx = none → Q .non (upd (upd H x (XN C (some dx) x)) dx (XDt [(fn, v)] dx))
section
variable {P : Program} {w : World} {K : PySem.W.Frag} {mg : Str → Option Value} {base : Heap} {N : List Str} {qual : Str} {scope : Scope} {f : Addr} {cd : Value} {A : Around} {outer : List Env} {s : Shared} {H : Hp} {E : XK} {B C : Addr} {fn : Str} {v : V}
theorem pown : PassesOwn (model P w) (A.deeper (envOfC qual scope s.heap.objs.size f cd)) (envOfC qual scope s.heap.objs.size f cd) (cxOf (CXr P w) P w K mg base N qual scope f cd A outer s H E).xe := PassesOwn.leaving (Q₁ := fun e s'' => CXr P w outer H s E e s'')
theorem pass_on : Passes (CXr P w) (cxOf (CXr P w) P w K mg base N qual scope f cd A outer s H (RX K B C fn v)) (RX K B C fn v) := by
 intro pins σ H1 s1 e s' I h
 obtain ⟨H2, ho, hb, un, hok, a, dx, T, rfl, R⟩ := h
 have I2 := I.call' (ch := []) ho un hok hb (fun b z => absurd z (by simp))
 show wpAny _ _ (leaving _ _) _ _ _
 unfold leaving
 refine wpAny_bind (note_next I2 ⟨rfl, rfl, I.ok.frames⟩ R.x R.t R.n1 fun T' s3 nT hT I3 => ⟨_, I3.os, I3.bare, I3.base, I3.hok, a, dx, T', rfl, ⟨?_, upd_same, ?_, hT, R.n2, R.sb⟩⟩)
 ·rw [upd_ne (Ne.symm hT), upd_same]
 ·rw [upd_ne (ne_of_none R.d nT), upd_ne R.n2]; exact R.d
end
theorem FnOk.x0 {P : Program} {w : World} {K : PySem.W.Frag} {mg : Str → Option Value} {base : Heap} {CX : CXT} {k : Nat} {f : Addr} {fd : FuncData} {ps : List Str} {sp : Sp} (F : FnOk P w K mg base CX0 k f fd ps sp) : FnOk P w K mg base CX k f fd ps sp :=
 ⟨F.len, fun A outer s H args us vs Q E hr e0 hb r h => codeAny_mono (F.run A outer s H args us vs Q E hr e0 hb r h) fun r s' q => by
  cases r with
  | ok fl => cases fl <;> exact q
  | error e => exact False.elim q⟩
theorem FnOk.or {P : Program} {w : World} {K : PySem.W.Frag} {mg : Str → Option Value} {base : Heap} {CX : CXT} {k : Nat} {f : Addr} {fd : FuncData} {ps : List Str} {sp sq : Sp} (F : FnOk P w K mg base CX k f fd ps sp) (G : FnOk P w K mg base CX k f fd ps sq) : FnOk P w K mg base CX k f fd ps fun vs H Q E => sp vs H Q E ∨ sq vs H Q E :=
 ⟨fun vs H Q E h => h.elim (F.len vs H Q E) (G.len vs H Q E), fun A outer s H args us vs Q E hr e0 hb r h => h.elim (F.run A outer s H args us vs Q E hr e0 hb r) (G.run A outer s H args us vs Q E hr e0 hb r)⟩
noncomputable def emp : Hp := fun _ => none
theorem Env0.emp {P : Program} {w : World} {K : PySem.W.Frag} {mg : Str → Option Value} {base : Heap} {A : Around} {outer : List Env} {s : Shared} {H : Hp} (e : Env0 P w K mg base A outer s H) : Env0 P w K mg base A outer s L2.emp :=
 ⟨e.frames, e.mod, fun b o h => ⟨(e.bs b o h).1, rfl⟩, e.bsz, e.funs, fun _ _ => rfl, (fun a o h => nomatch h), e.bare⟩
noncomputable def beside (H H' : Hp) : Hp := fun b => match H b with
 | some o => some o
 | none => H' b
theorem beside_some {H H' : Hp} {b : Addr} {o : HO} (e : H b = some o) : beside H H' b = some o := by unfold beside; rw [e]
theorem beside_none {H H' : Hp} {b : Addr} (e : H b = none) : beside H H' b = H' b := by unfold beside; rw [e]
theorem ObjOk.there {P : Program} {w : World} {H : Hp} {h : Heap} {a : Addr} {o : HO} (x : ObjOk P w H h a o) : ∃ ob, h.get? a = some ob := by
 induction o with
 | lst xs => obtain ⟨_, _, _, _, e⟩ := x; exact ⟨_, e⟩
 | tup xs => obtain ⟨_, _, _, ob, e, _⟩ := x; exact ⟨_, e⟩
 | dK kvs => obtain ⟨_, _, _, _, o, _, _, e, _⟩ := x; exact ⟨_, e⟩
 | dT kvs => obtain ⟨_, _, _, _, o, _, _, e, _⟩ := x; exact ⟨_, e⟩
 | set S n => obtain ⟨ob, _, _, _, e, _⟩ := x; exact ⟨_, e⟩
 | ins C dx fs => obtain ⟨_, _, _, e, _⟩ := x; exact ⟨_, e⟩
 | own _ => exact x
 | xd fs => obtain ⟨mA, ⟨o, _, _, e, _⟩, _⟩ := x; exact ⟨_, e⟩
 | rng lo hi => obtain ⟨_, _, _, e⟩ := x; exact ⟨_, e⟩
 | frz o u => exact ⟨_, x.1⟩
 | tbl ps => exact ⟨_, x⟩
 | met f x' => exact ⟨_, x⟩
 | ext φ => exact x.2.1
theorem Un.beside {P : Program} {w : World} {fs : List Addr} {H H' : Hp} {h h' : Heap} (u : Un fs [] emp H' h h') (ok : HOk P w H h) (ok' : HOk P w H' h') (hf : ∀ b ∈ fs, H b = none) :
  Un fs [] H (L2.beside H H') h h' ∧ HOk P w (L2.beside H H') h' ∧ Same H (L2.beside H H') ∧ Same H' (L2.beside H H') := by
 have no : ∀ b, b ∉ ([] : List Addr) := fun b => by simp
 have new : Same H' (L2.beside H H') := fun b o e => by
  cases q : H b with
  | none => rw [beside_none q]; exact e
  | some v =>
   obtain ⟨ob, hob⟩ := (ok b v q).there
   rw [u.free b ob hob rfl (no b)] at e; cases e
 have old : Same H (L2.beside H H') := fun b o e => beside_some e
 refine ⟨⟨fun b o e n hb hx => u.keep b o e rfl hb hx, fun b o e n hb hx => u.slot b o e rfl hb hx, fun b o e n hx => ?_, fun b o e hx => u.there b o e hx, fun b xs e => old b _ e, fun b o v e => old b _ e, fun b ps e => ⟨#[], by rw [Array.append_empty]; exact old b _ e⟩⟩, fun b v e => ?_, old, new⟩
 ·rw [beside_none n]; exact u.free b o e rfl hx
 ·cases q : H b with
  | some v' =>
   rw [beside_some q] at e
   cases e
   refine (ok b v q).stay (fun c o hc r => u.keep c o r rfl (fun z => ?_) (no c)) (fun c r => old c _ r) fun c xs r => old c _ r
   have hn := hf c z
   rcases hc with hc | hc
   ·subst hc; rw [hn] at q; cases q
   ·rw [hn] at hc; cases hc
  | none =>
   rw [beside_none q] at e
   exact (ok' b v e).stay (fun c o _ r => r) (fun c r => new c _ r) fun c xs r => new c _ r
section
variable {X : Cx} {e : Expr} {es : List Expr} {t : TA} {x y c n : Str} {p p1 p2 p3 p4 p5 pos : Pos} {k i j : Nat} {ps : List Str} {sp : Sp} {b₀ : Stmt} {suite : List Stmt} {u : TS} {B : Addr}
end
end L2
namespace M
open PySem PySem.Spec PyProof.Rows L2
noncomputable def badSp (K : PySem.W.Frag) (B C : Addr) (fn : Str) (bad : List D → Sto → V → Prop) : Sp := fun vs H _ E => ∃ w ds S v, Ok K w H S ∧ Reps K w ds vs ∧ bad ds S v ∧ E = RX K B C fn v
section
variable {P : Program} {w : World} {K : PySem.W.Frag} {mg : Str → Option Value} {base : Heap} {B C : Addr} {fn : Str} {bad : List D → Sto → V → Prop}
theorem okX {x qual : Str} {st : Stmt} {f : Addr} {fd : FuncData} {N ps : List Str} {k : Nat} (F : Fun K x qual st f fd) (S : FnScope N ps (defScope st)) (len : ∀ ds S v, bad ds S v → ds.length = ps.length)
  (hbody : ∀ (cdv : Value) (A : Around) (outer : List Env) (s : Shared) (H : Hp) (v : V), Room k (A.deeper (envOfC qual (defScope st) s.heap.objs.size f cdv)) →
   ∃ a, GSs (cxOf (CXr P w) P w K mg base N qual (defScope st) f cdv A outer s H (RX K B C fn v)) (defBody st) a ∧ ∀ ds S, bad ds S v → a { nx := fun _ _ => False, rt := fun _ _ => False } (startA N ds) S) : FnOk P w K mg base (CXr P w) (k + 1) f fd ps (badSp K B C fn bad) :=
 F.okR S (fun vs H Q E h => by
  obtain ⟨w, ds, S, v, _, rep, q, _⟩ := h
  rw [rep.length]; exact len ds S v q) fun cdv A outer s H vs Q E hr h => by
  obtain ⟨w, ds, S, v, ok, rep, q, rfl⟩ := h
  obtain ⟨a, ha, hd⟩ := hbody cdv A outer s H v hr
  exact ⟨_, ha.p, w, startA N ds, S, _, ok, env_start rep, hd ds S q, ⟨fun _ _ _ _ _ _ _ _ z => z.elim, fun _ _ _ _ _ _ _ _ z => z.elim, fun _ _ _ _ _ _ _ _ z => z.elim, fun _ _ _ _ _ _ _ _ z => z.elim⟩⟩
end
noncomputable def aRaise (ae : AE) (v : V) : AS := fun _ δ S => ae δ S fun r _ => ∃ n : Int, r = .dat (.int n) ∧ v = .int n
section
variable {P : Program} {w : World} {K : PySem.W.Frag} {mg : Str → Option Value} {base : Heap} {N : List Str} {qual : Str} {scope : Scope} {f : Addr} {cd : Value} {A : Around} {outer : List Env} {s : Shared} {H : Hp} {B C : Addr} {fn : Str} {v : V} {k : Nat} {ps : List Str}
theorem ps_raise {x : Str} {e : Expr} {ae : AE} {p p1 pos : Pos} (Dx : XDef P w K mg base k x C ps (spN1 C fn)) (c : XCls K C) (sb : PySem.W.subIn K (.ref C) (.ref B) = some true)
  (hr : Room (k + 1) (cxOf (CXr P w) P w K mg base N qual scope f cd A outer s H (RX K B C fn v)).A) (hg : Gl (cxOf (CXr P w) P w K mg base N qual scope f cd A outer s H (RX K B C fn v)) x) (he : GE (cxOf (CXr P w) P w K mg base N qual scope f cd A outer s H (RX K B C fn v)) e ae)
  (hdb : (x == ("__debug__" : Str)) = false := by decide +kernel) (hs : [e].all notStar = true := by rfl) :
  GS (cxOf (CXr P w) P w K mg base N qual scope f cd A outer s H (RX K B C fn v)) (.Raise (some (.Call (.Name x p) [e] [] p1)) none pos) (aRaise ae v) := by
 have ht : notStar e = true := by rw [List.all_cons, Bool.and_eq_true] at hs; exact hs.1
 refine ⟨mS (L2.ps_raise (R := fun a C' d0 H1 => C' = C ∧ ∃ dx, d0 = some dx ∧ H1 dx = some (XDt [(fn, v)] dx) ∧ dx ≠ a) rfl (fun pins σ H1 s1 a C' d0 I ex ⟨ec, dx, ed, hd, hne⟩ => ?_) (pe_makeN Dx hr hg pass0 (L2.pac he.p L2.pa_nil ht) hdb hs)) fun D σ H1 h => ?_⟩
 ·subst ec ed
  refine raise_out I ex fun T nT hT => ⟨a, dx, T, rfl, ⟨by rw [upd_ne (Ne.symm hT), upd_same], upd_same, ?_, hT, hne, sb⟩⟩
  rw [upd_ne (ne_of_none hd nT), upd_ne hne]; exact hd
 ·obtain ⟨w1, δ, S, Da, ok, env, q, bk⟩ := h
  refine ⟨w1, δ, S, _, ok, env, q, fun r S' u w2 H2 le2 ok2 rep hn => ?_⟩
  obtain ⟨n, rfl, rfl⟩ := hn
  have eu : u = .int n := rep_int rep rfl
  subst eu
  refine ⟨by show 1 ≤ 1000; decide, fun y ny => ⟨y, .int n, rfl, upd_same, fun dx ndx => ⟨rfl, y, C, some dx, rfl, ?_, c, rfl, dx, rfl, upd_same, ?_⟩⟩⟩
  ·have xd : y ≠ dx := fun z => by rw [← z, upd_same] at ndx; cases ndx
   rw [upd_ne xd, upd_same]
  ·exact fun z => by rw [z, upd_same] at ndx; cases ndx
noncomputable def aMethX (C0 : Addr) (m : Str) (sp : AN) (bad : List D → Sto → V → Prop) (v : V) (a : AE) (t : AA) : AE := fun δ S Q => a δ S fun r S1 => ∃ n ks ds, r = .dat (.loc n) ∧ S1[n]? = some (some (.ins C0 ks ds)) ∧ m ∉ ks ∧ t δ S1 fun es S2 => sp (.loc n :: es) S2 Q ∨ bad (.loc n :: es) S2 v
structure DefMX (P : Program) (w : World) (K : PySem.W.Frag) (mg : Str → Option Value) (base : Heap) (k : Nat) (C0 : Addr) (m : Str) (ps : List Str) (sp : AN) (B C : Addr) (fn : Str) (bad : List D → Sto → V → Prop) : Prop where
 ex : ∃ f fd, FnOk P w K mg base (CXr P w) k f fd ps (fun vs H Q E => conSp K sp vs H Q E ∨ badSp K B C fn bad vs H Q E) ∧ Meth K C0 m f ∧ Binds K fd ps []
theorem s_methX {C0 : Addr} {m : Str} {sp : AN} {bad : List D → Sto → V → Prop} {a : AE} {t : AA} : ∀ σ H Q, conE K (aMethX C0 m sp bad v a t) σ H Q → tMeth C0 m (fun vs H Q E => conSp K sp vs H Q E ∨ badSp K B C fn bad vs H Q E) [] (RX K B C fn v) (conE K a) (conA K t) σ H Q := by
 rintro σ H Q ⟨w, δ, S, Qa, ok, env, q, bk⟩
 refine ⟨w, δ, S, _, ok, env, q, fun r S1 u w1 H1 le1 ok1 rep1 ⟨n, ks, ds, er, hS, hm, q1⟩ => ?_⟩
 subst er
 obtain ⟨a, dx, fs, rfl, hr, ha, hk, hd⟩ := ins_at ok1 rep1 hS
 subst hk
 refine ⟨a, dx, fs, rfl, ha, look_none fs hm, w1, δ, S1, _, ok1, env.le le1, q1, fun es S2 vs w2 H2 le2 ok2 rep2 q2 => ?_⟩
 have rr : Reps K w2 (.loc n :: es) (.ref a :: (vs ++ [])) := by
  rw [List.append_nil]
  exact .cons (by simp only [Rep]; exact ⟨a, le2.r _ _ hr, rfl⟩) rep2
 rcases q2 with q2 | q2
 ·exact .inl ⟨w2, .loc n :: es, S2, Qa, ok2, rr, q2, bk.le (le1.trans le2)⟩
 ·exact .inr ⟨w2, .loc n :: es, S2, v, ok2, rr, q2, rfl⟩
theorem pe_methX {C0 : Addr} {m : Str} {sp : AN} {bad : List D → Sto → V → Prop} {o e : Expr} {es : List Expr} {apos pos : Pos} {pl : Sem Bool} {ta : AE} {t : AA}
  (he : GE (cxOf (CXr P w) P w K mg base N qual scope f cd A outer s H (RX K B C fn v)) o ta) (c : Cls K C0) (Dm : DefMX P w K mg base k C0 m ps sp B C fn bad) (hr : Room k (cxOf (CXr P w) P w K mg base N qual scope f cd A outer s H (RX K B C fn v)).A) (ha : GA (cxOf (CXr P w) P w K mg base N qual scope f cd A outer s H (RX K B C fn v)) (e :: es) t)
  (hst : starEach (e :: es) (cxOf (CXr P w) P w K mg base N qual scope f cd A outer s H (RX K B C fn v)).env = (false, eval e (cxOf (CXr P w) P w K mg base N qual scope f cd A outer s H (RX K B C fn v)).env) :: starEach es (cxOf (CXr P w) P w K mg base N qual scope f cd A outer s H (RX K B C fn v)).env := by rfl) (hpl : (backTo pos (starEach es (cxOf (CXr P w) P w K mg base N qual scope f cd A outer s H (RX K B C fn v)).env)).any (·.1) = false := by rfl)
  (ht : eval (.Call (.Attribute o m apos) (e :: es) [] pos) (cxOf (CXr P w) P w K mg base N qual scope f cd A outer s H (RX K B C fn v)).env = (do
   let ov ← eval o (cxOf (CXr P w) P w K mg base N qual scope f cd A outer s H (RX K B C fn v)).env
   standAt apos.atName
   let (g0, first) ← holding [ov] (getMethod ov m pl)
   callWith pos g0 first (backTo pos (starEach (e :: es) (cxOf (CXr P w) P w K mg base N qual scope f cd A outer s H (RX K B C fn v)).env)) (backToKw pos (keywordEach [] (cxOf (CXr P w) P w K mg base N qual scope f cd A outer s H (RX K B C fn v)).env))) := by rfl) :
  GE (cxOf (CXr P w) P w K mg base N qual scope f cd A outer s H (RX K B C fn v)) (.Call (.Attribute o m apos) (e :: es) [] pos) (aMethX C0 m sp bad v ta t) := by
 obtain ⟨f', fd, F, hm, hb⟩ := Dm.ex
 exact ⟨mE (L2.pe_meth he.p c hm F hr hb .nil pass_on ha.p hst hpl ht) s_methX⟩
end
end M
namespace L2
open PySem PySem.Spec PyProof.Rows
noncomputable def tTryB (K : PySem.W.Frag) (B : Addr) (i j : Nat) (sp : Sp) (t : TA) (u : TS) : TS := fun D σ H => t σ H fun vs H1 => sp vs emp (fun v H2 => D.nx (σ.set j (some v)) (beside H1 H2)) fun ev _ H2 => ∃ a C dx T fs, ev = .ref a ∧ Rsd K B H2 a C dx T fs ∧
 ∀ H3, H1 a = none → H1 dx = none → H3 a = some (XO C (some dx) a) → H3 dx = some (XDt fs dx) → Same H1 H3 → u { nx := fun σ' H' => (∃ v, σ'[i]? = some (some v)) ∧ D.nx (σ'.set i none) H', rt := fun _ _ => False } (σ.set i (some (.ref a))) H3
section
variable {X : Cx} {e : Expr} {es : List Expr} {t : TA} {x y c n : Str} {p p1 p2 p3 p4 p5 pos : Pos} {k i j : Nat} {ps : List Str} {sp : Sp} {b₀ : Stmt} {suite : List Stmt} {u : TS} {B : Addr}
theorem ps_tryB (hxe : X.xe = fun _ _ => False) (hst : X.stack = X.env :: X.outer) (hfr : X.env.frame = some X.env.locals) (Df : DefR X.prog X.w X.K X.mg X.base k x ps sp) (hr : Room k X.A) (hg : Gl X x) (ha : PA X (e :: es) t)
  (hgc : Gl X c) (hmc : X.mg c = some (.ref B)) (hB : excIn X.K B = true) (sB : PySem.W.subIn X.K (.ref B) (.type "BaseException") = some true) (hN : X.N.Nodup) (hj : X.N[j]? = some y) (hy : X.env.scope.names.lookup y = some .local) (hi : X.N[i]? = some n) (hx : X.env.scope.names.lookup n = some .local)
  (hu : ∀ a : Addr, PSs (X.at (.ref a)) (b₀ :: suite) u) (hs : swapsWith (.Call (.Name x p) (e :: es) [] p1) (some (.Name y p5)) p2.line X.env = pure false := by rfl)
  (hdb : (x == ("__debug__" : Str)) = false := by decide +kernel) (hdc : (c == ("__debug__" : Str)) = false := by decide +kernel) (hss : (e :: es).all notStar = true := by rfl) :
  PS X (.Try [.Assign [.Name y p5] (.Call (.Name x p) (e :: es) [] p1) p2] [.ExceptHandler (some (.Name c p3)) (some n) (b₀ :: suite) p4] [] [] pos) (tTryB X.K B i j sp t u) := by
 obtain ⟨f, fd, F, hm, hk, hb⟩ := Df.ex
 have h2 := hss
 rw [List.all_cons, Bool.and_eq_true] at h2
 intro pins s σ H D I h
 have im : Inmost X X.A := ⟨hst, hfr, by rw [I.ok.frames, hst]⟩
 refine wpAny_Try_except (wpAny_execs_cons ?_)
 refine wpAny_Assign_Name ?_ hs
 refine wpAny_Call_Name_kw (ld_glob I hg hm ?_ hdb)
 refine PySem.W.callWith_K (h₀ := X.base) I.ok.mod.kin hk (wpAny_mono (ha p1 pins s σ H _ I h) (fun us s1 ⟨vs, H1, I1, r, q⟩ => ⟨I1.kIn, ?_⟩) (fun _ _ z => by rw [hxe] at z; exact False.elim z)) (star_cons es X.env h2.1) (star_back es h2.2)
 have hl : us.length = ps.length := by rw [← r.length]; exact F.len _ _ _ _ q
 have hb1 := hb s1 us I1.kIn (by rw [List.append_nil]; exact hl)
 rw [List.append_nil] at hb1
 refine wpAny_call (codeAny_mono (F.run X.A X.stack s1 emp ⟨us, []⟩ us vs _ _ hr I1.env0.emp hb1 r q) fun r s' hq => ?_)
 cases r with
 | ok fl =>
  cases fl with
  | ret u =>
   obtain ⟨v, H', ho, hbare, un, hok, rv, q2⟩ := hq
   obtain ⟨un', hok', _, _⟩ := un.beside I1.hok hok I1.stkFree
   have I2 := I1.call' (ch := []) ho un' hok' hbare (fun b z => absurd z (by simp))
   refine store_ok I2 hN hj (.inl hy) rv (fun s3 I3 => ?_) (.inr hy)
   exact wpAny_execs_nil (wpAny_execs_nil ⟨_, _, I3, q2⟩)
  | next => exact False.elim hq
  | brk => exact False.elim hq
  | cont => exact False.elim hq
 | error ev =>
  obtain ⟨H2', ho, hbare, un, hok, a, C, dx, T, fs, eva, R, hu2⟩ := hq
  subst eva
  obtain ⟨un', hok', s1', s2'⟩ := un.beside I1.hok hok I1.stkFree
  have I2 := I1.call' (ch := []) ho un' hok' hbare (fun b z => absurd z (by simp))
  have na : H1 a = none := by
   cases q : H1 a with
   | none => rfl
   | some v =>
    obtain ⟨ob, hob⟩ := (I1.hok a v q).there
    have z := un.free a ob hob rfl (by simp)
    rw [R.x] at z; cases z
  have nd : H1 dx = none := by
   cases q : H1 dx with
   | none => rfl
   | some v =>
    obtain ⟨ob, hob⟩ := (I1.hok dx v q).there
    have z := un.free dx ob hob rfl (by simp)
    rw [R.d] at z; cases z
  refine note_next I2 im (s2' _ _ R.x) (s2' _ _ R.t) R.n1 fun T' s3 nT' hT' I3 => ?_
  have aT' : a ≠ T' := Ne.symm hT'
  refine wpAny_handleBy_cons (codeAny_handlers_test (ld_glob (X := X.at (.ref a)) (I3.into (.ref a)) hgc hmc ?_ hdc)) (by intro q; cases q)
  have ex3 : upd (upd (beside H1 H2') a (XT C (some dx) T' a)) T' (TB T') a = some (XT C (some dx) T' a) := by rw [upd_ne aT', upd_same]
  obtain ⟨t0, a2, a3, a4, a5, hx3⟩ := XT.get I3.hok ex3
  obtain ⟨hp, g, d, tk, os⟩ := s3
  refine matches_own I3.kIn hx3 rfl hB sB R.sb ?_
  refine codeAny_handlers_suite_as (flight_ok (I3.into (.ref a)) ex3 upd_same fun s4 I4 => ?_)
  refine store_ok (X := X.at (.ref a)) I4 hN hi (.inl hx) (v := .ref a) rfl (fun s5 I5 => ?_) (.inr hx)
  refine wpAny_mono (hu a pins s5 _ _ _ I5 (hu2 _ na nd upd_same ?_ fun b o eb => ?_)) (fun fl s6 hf => ?_) (fun _ _ z => False.elim z)
  ·rw [upd_ne R.n2, upd_ne (ne_of_none (s2' _ _ R.d) nT'), upd_ne R.n2]; exact s2' _ _ R.d
  ·have hba : b ≠ a := ne_of_none eb na
   rw [upd_ne hba, upd_ne (ne_of_none (s1' _ _ eb) nT'), upd_ne hba]; exact s1' _ _ eb
  ·cases fl with
   | next =>
    obtain ⟨σ', H', I6, ⟨v, hv⟩, q6⟩ := hf
    have I6 := I6.outof I.ok
    have hil : i < σ'.length := (List.getElem?_eq_some_iff.mp hv).1
    refine wpAny_bind (wpAny_bindName (store_ok I6 hN hi (.inl hx) (v := .non) rfl (fun s7 I7 => ?_) (.inr hx)))
    refine I7.drop hN hi hx (v := .non) (by rw [List.getElem?_set_self hil]) fun s8 I8 => ?_
    rw [List.set_set] at I8
    exact ⟨_, _, I8, q6⟩
   | ret u => obtain ⟨_, _, _, _, _, z⟩ := hf; exact False.elim z
   | brk => obtain ⟨_, _, _, z⟩ := hf; exact False.elim z
   | cont => obtain ⟨_, _, _, z⟩ := hf; exact False.elim z
theorem ps_tryN {body : List Stmt} {h0 : ExceptHandler} {hs : List ExceptHandler} {tb : TS} {pos : Pos} (hxe : X.xe = fun _ _ => False) (hb : PSs X body tb) : PS X (.Try body (h0 :: hs) [] [] pos) tb := by
 intro pins s σ H D I h
 refine wpAny_Try_except (wpAny_mono (hb pins s σ H D I h) (fun f s1 q => ?_) (fun _ _ z => by rw [hxe] at z; exact False.elim z))
 cases f with
 | next => exact wpAny_execs_nil q
 | ret v => exact q
 | brk => exact q
 | cont => exact q
end
end L2
namespace M
open PySem PySem.Spec PyProof.Rows L2
theorem ps_tryN {X : Cx} {body : List Stmt} {h0 : ExceptHandler} {hs : List ExceptHandler} {tb : AS} {pos : Pos} (hxe : X.xe = fun _ _ => False) (hb : GSs X body tb) : GS X (.Try body (h0 :: hs) [] [] pos) tb := ⟨L2.ps_tryN hxe hb.p⟩
noncomputable def badSpE (K : PySem.W.Frag) (B C : Addr) (fn : Str) (bad : List D → Sto → V → Prop) : Sp := fun vs H _ E => ∃ w ds S v, Ok K w H S ∧ Reps K w ds vs ∧ bad ds S v ∧ ∀ ev H', RX K B C fn v ev none H' → E ev none H'
theorem badE {P : Program} {w : World} {K : PySem.W.Frag} {mg : Str → Option Value} {base : Heap} {k : Nat} {x : Str} {ps : List Str} {B C : Addr} {fn : Str} {bad : List D → Sto → V → Prop} (Df : DefR P w K mg base k x ps (badSp K B C fn bad)) : DefR P w K mg base k x ps (badSpE K B C fn bad) := by
 obtain ⟨f, fd, F, hm, hk, hb⟩ := Df.ex
 refine ⟨f, fd, ⟨fun vs H Q E h => ?_, fun A outer s H args us vs Q E hr e0 hb' r h => ?_⟩, hm, hk, hb⟩
 ·obtain ⟨w, ds, S, v, h1, h2, h3, _⟩ := h
  exact F.len vs H (fun _ _ => False) _ ⟨w, ds, S, v, h1, h2, h3, rfl⟩
 ·obtain ⟨w, ds, S, v, h1, h2, h3, h4⟩ := h
  refine codeAny_mono (F.run A outer s H args us vs (fun _ _ => False) _ hr e0 hb' r ⟨w, ds, S, v, h1, h2, h3, rfl⟩) fun r s' q => ?_
  cases r with
  | ok fl =>
   cases fl with
   | ret u => obtain ⟨_, _, _, _, _, _, _, z⟩ := q; exact False.elim z
   | next => exact q
   | brk => exact q
   | cont => exact q
  | error e =>
   obtain ⟨H', g1, g2, g3, g4, g5⟩ := q
   exact ⟨H', g1, g2, g3, g4, h4 e H' g5⟩
end M
namespace K12
open PySem PySem.Spec L2 PyProof.Rows
noncomputable def top (i : Nat) : Stmt := PySem.Challenge.pw_pathask_k12_ways_written_and_read.main.body.getD i (.Pass ⟨0, 0, 0, 0⟩)
noncomputable abbrev sNoText : Stmt := inClass (top 10) 0
noncomputable abbrev NscNoText : List Str := ["self", "at"]
noncomputable abbrev PscNoText : List Str := ["self", "at"]
theorem scNoText : FnScope NscNoText PscNoText (defScope sNoText) := ⟨rfl, rfl, rfl, by decide +kernel, rfl, by decide +kernel, by decide +kernel⟩
noncomputable abbrev sName : Stmt := top 19
noncomputable abbrev NscName : List Str := ["thing"]
noncomputable abbrev PscName : List Str := ["thing"]
theorem scName : FnScope NscName PscName (defScope sName) := ⟨rfl, rfl, rfl, by decide +kernel, rfl, by decide +kernel, by decide +kernel⟩
noncomputable abbrev sSide : Stmt := top 25
noncomputable abbrev NscSide : List Str := ["word"]
noncomputable abbrev PscSide : List Str := ["word"]
theorem scSide : FnScope NscSide PscSide (defScope sSide) := ⟨rfl, rfl, rfl, by decide +kernel, rfl, by decide +kernel, by decide +kernel⟩
noncomputable abbrev sShown : Stmt := top 23
noncomputable abbrev NscShown : List Str := ["way", "words", "step"]
noncomputable abbrev PscShown : List Str := ["way"]
theorem scShown : FnScope NscShown PscShown (defScope sShown) := ⟨rfl, rfl, rfl, by decide +kernel, rfl, by decide +kernel, by decide +kernel⟩
noncomputable abbrev sRead : Stmt := top 24
noncomputable abbrev NscRead : List Str := ["text", "reader", "knot", "steps", "side", "word"]
noncomputable abbrev PscRead : List Str := ["text"]
theorem scRead : FnScope NscRead PscRead (defScope sRead) := ⟨rfl, rfl, rfl, by decide +kernel, rfl, by decide +kernel, by decide +kernel⟩
noncomputable abbrev sInit : Stmt := inClass (top 26) 0
noncomputable abbrev NscInit : List Str := ["self", "text"]
noncomputable abbrev PscInit : List Str := ["self", "text"]
theorem scInit : FnScope NscInit PscInit (defScope sInit) := ⟨rfl, rfl, rfl, by decide +kernel, rfl, by decide +kernel, by decide +kernel⟩
noncomputable abbrev sMore : Stmt := inClass (top 26) 1
noncomputable abbrev NscMore : List Str := ["self"]
noncomputable abbrev PscMore : List Str := ["self"]
theorem scMore : FnScope NscMore PscMore (defScope sMore) := ⟨rfl, rfl, rfl, by decide +kernel, rfl, by decide +kernel, by decide +kernel⟩
noncomputable abbrev sRWord : Stmt := inClass (top 26) 2
noncomputable abbrev NscRWord : List Str := ["self", "is_right"]
noncomputable abbrev PscRWord : List Str := ["self", "is_right"]
theorem scRWord : FnScope NscRWord PscRWord (defScope sRWord) := ⟨rfl, rfl, rfl, by decide +kernel, rfl, by decide +kernel, by decide +kernel⟩
noncomputable abbrev sOwn : Stmt := top 32
noncomputable abbrev NscOwn : List Str := ["_law_e", "_law_some", "_law_words_here"]
noncomputable abbrev PscOwn : List Str := ["_law_e"]
theorem scOwn : FnScope NscOwn PscOwn (defScope sOwn) := ⟨rfl, rfl, rfl, by decide +kernel, rfl, by decide +kernel, by decide +kernel⟩
noncomputable abbrev sWay : Stmt := top 33
noncomputable abbrev NscWay : List Str := ["_law_feed_here", "_law_names_here", "_law_many", "_law_steps", "_law_k", "_law_side"]
noncomputable abbrev PscWay : List Str := ["_law_feed_here", "_law_names_here", "_law_many"]
theorem scWay : FnScope NscWay PscWay (defScope sWay) := ⟨rfl, rfl, rfl, by decide +kernel, rfl, by decide +kernel, by decide +kernel⟩
noncomputable abbrev sWords : Stmt := top 34
noncomputable abbrev NscWords : List Str := ["_law_way_here", "_law_words_here", "_law_step"]
noncomputable abbrev PscWords : List Str := ["_law_way_here"]
theorem scWords : FnScope NscWords PscWords (defScope sWords) := ⟨rfl, rfl, rfl, by decide +kernel, rfl, by decide +kernel, by decide +kernel⟩
noncomputable abbrev sLName : Stmt := top 35
noncomputable abbrev NscLName : List Str := ["_law_word"]
noncomputable abbrev PscLName : List Str := ["_law_word"]
theorem scLName : FnScope NscLName PscLName (defScope sLName) := ⟨rfl, rfl, rfl, by decide +kernel, rfl, by decide +kernel, by decide +kernel⟩
noncomputable abbrev sWrong : Stmt := top 36
noncomputable abbrev NscWrong : List Str := ["_law_words_here", "_law_at"]
noncomputable abbrev PscWrong : List Str := ["_law_words_here"]
theorem scWrong : FnScope NscWrong PscWrong (defScope sWrong) := ⟨rfl, rfl, rfl, by decide +kernel, rfl, by decide +kernel, by decide +kernel⟩
noncomputable abbrev sSpoilt : Stmt := top 37
noncomputable abbrev NscSpoilt : List Str := ["_law_feed_here", "_law_words_here", "_law_names_here", "_law_some", "_law_at", "_law_word", "_law_spot", "_law_sign", "_law_other", "_law_head", "_law_tail", "_law_bent"]
noncomputable abbrev PscSpoilt : List Str := ["_law_feed_here", "_law_words_here", "_law_names_here"]
theorem scSpoilt : FnScope NscSpoilt PscSpoilt (defScope sSpoilt) := ⟨rfl, rfl, rfl, by decide +kernel, rfl, by decide +kernel, by decide +kernel⟩
noncomputable abbrev sRight : Stmt := top 38
noncomputable abbrev NscRight : List Str := ["_law_text", "_law_found", "_law_caught", "_law_e", "_law_due"]
noncomputable abbrev PscRight : List Str := ["_law_text"]
theorem scRight : FnScope NscRight PscRight (defScope sRight) := ⟨rfl, rfl, rfl, by decide +kernel, rfl, by decide +kernel, by decide +kernel⟩
noncomputable abbrev sLaw : Stmt := top 39
noncomputable abbrev NscLaw : List Str := ["_law_script", "_law_feed_here", "_law_names_here", "_law_k", "_law_many", "_law_way_here", "_law_words_here", "_law_text", "_law_found", "_law_j"]
noncomputable abbrev PscLaw : List Str := ["_law_script"]
theorem scLaw : FnScope NscLaw PscLaw (defScope sLaw) := ⟨rfl, rfl, rfl, by decide +kernel, rfl, by decide +kernel, by decide +kernel⟩
structure Txt (K : PySem.W.Frag) (mg : Str → Option Value) (cs : Nat → Addr) (CP C fi : Addr) : Prop where
 len : mg "len" = none
 isinstance : mg "isinstance" = none
 max : mg "max" = none
 min : mg "min" = none
 int : mg "int" = none
 str : mg "str" = none
 bool : mg "bool" = none
 all : mg "all" = none
 tuple : mg "tuple" = none
 reversed : mg "reversed" = none
 range : mg "range" = none
 list : mg "list" = none
 repr : mg "repr" = none
 ValueError : mg "ValueError" = none
 at_PathError : mg "PathError" = some (.ref CP)
 base_PathError : XBase K CP
 ex_PathError : excIn K CP = true
 sb_PathError : PySem.W.subIn K (.ref CP) (.type "BaseException") = some true
 g_NoKnot : mg "NoKnot" = some (.ref (cs 0))
 g_NoMark : mg "NoMark" = some (.ref (cs 1))
 g_NoName : mg "NoName" = some (.ref (cs 2))
 g_Twice : mg "Twice" = some (.ref (cs 3))
 g_TooMany : mg "TooMany" = some (.ref (cs 4))
 g_NoTie : mg "NoTie" = some (.ref (cs 5))
 g_NoMeet : mg "NoMeet" = some (.ref (cs 6))
 g_NoText : mg "NoText" = some (.ref (cs 7))
 g_NoLine : mg "NoLine" = some (.ref (cs 8))
 g_NoWay : mg "NoWay" = some (.ref (cs 9))
 g_TooLong : mg "TooLong" = some (.ref (cs 10))
 g_GoesRound : mg "GoesRound" = some (.ref (cs 11))
 g_NoSuch : mg "NoSuch" = some (.ref (cs 12))
 g_NoPair : mg "NoPair" = some (.ref (cs 13))
 xi : XIs K (cs 7)
 kit : ∀ j, j < 14 → PySem.W.kitOne K (.ref (cs 7)) (.ref (cs j)) = some (7 == j)
 kitV : PySem.W.kitOne K (.ref (cs 7)) (.type "ValueError") = some true
 sub7 : PySem.W.subIn K (.ref (cs 7)) (.ref CP) = some true
 fl : PySem.W.findIn K (.ref (cs 7)) "at" = some none
 longest : ∃ t, mg "LONGEST" = some (.int 8 t)
 steps : ∃ t, mg "MOST_STEPS" = some (.int 60 t)
 sides : ∃ a, mg "SIDES" = some (.ref a) ∧ ∀ H : Hp, SqT K H a ((["on", "back"] : List Str).map V.str)
 mg_Reader : mg "Reader" = some (.ref C)
 cl : Cls K C
 mks : Mk K C fi
 n_words : NoAttr K C "words"
 n_at : NoAttr K C "at"
 n_parts : NoAttr K C "parts"
section
variable {K : PySem.W.Frag} {mg : Str → Option Value} {cs : Nat → Addr} {CP C fi : Addr}
theorem Txt.pe_NoKnot {X : Cx} {pos : Pos} (T : Txt K mg cs CP C fi) (hg : Gl X "NoKnot" := by rfl) (hm : X.mg = mg := by rfl) : J.QE X (.Name "NoKnot" pos) (tC (.ref (cs 0))) := ⟨pe_glob hg (by rw [hm]; exact T.g_NoKnot) rfl (by decide +kernel)⟩
theorem Txt.pe_NoMark {X : Cx} {pos : Pos} (T : Txt K mg cs CP C fi) (hg : Gl X "NoMark" := by rfl) (hm : X.mg = mg := by rfl) : J.QE X (.Name "NoMark" pos) (tC (.ref (cs 1))) := ⟨pe_glob hg (by rw [hm]; exact T.g_NoMark) rfl (by decide +kernel)⟩
theorem Txt.pe_NoName {X : Cx} {pos : Pos} (T : Txt K mg cs CP C fi) (hg : Gl X "NoName" := by rfl) (hm : X.mg = mg := by rfl) : J.QE X (.Name "NoName" pos) (tC (.ref (cs 2))) := ⟨pe_glob hg (by rw [hm]; exact T.g_NoName) rfl (by decide +kernel)⟩
theorem Txt.pe_Twice {X : Cx} {pos : Pos} (T : Txt K mg cs CP C fi) (hg : Gl X "Twice" := by rfl) (hm : X.mg = mg := by rfl) : J.QE X (.Name "Twice" pos) (tC (.ref (cs 3))) := ⟨pe_glob hg (by rw [hm]; exact T.g_Twice) rfl (by decide +kernel)⟩
theorem Txt.pe_TooMany {X : Cx} {pos : Pos} (T : Txt K mg cs CP C fi) (hg : Gl X "TooMany" := by rfl) (hm : X.mg = mg := by rfl) : J.QE X (.Name "TooMany" pos) (tC (.ref (cs 4))) := ⟨pe_glob hg (by rw [hm]; exact T.g_TooMany) rfl (by decide +kernel)⟩
theorem Txt.pe_NoTie {X : Cx} {pos : Pos} (T : Txt K mg cs CP C fi) (hg : Gl X "NoTie" := by rfl) (hm : X.mg = mg := by rfl) : J.QE X (.Name "NoTie" pos) (tC (.ref (cs 5))) := ⟨pe_glob hg (by rw [hm]; exact T.g_NoTie) rfl (by decide +kernel)⟩
theorem Txt.pe_NoMeet {X : Cx} {pos : Pos} (T : Txt K mg cs CP C fi) (hg : Gl X "NoMeet" := by rfl) (hm : X.mg = mg := by rfl) : J.QE X (.Name "NoMeet" pos) (tC (.ref (cs 6))) := ⟨pe_glob hg (by rw [hm]; exact T.g_NoMeet) rfl (by decide +kernel)⟩
theorem Txt.pe_NoText {X : Cx} {pos : Pos} (T : Txt K mg cs CP C fi) (hg : Gl X "NoText" := by rfl) (hm : X.mg = mg := by rfl) : J.QE X (.Name "NoText" pos) (tC (.ref (cs 7))) := ⟨pe_glob hg (by rw [hm]; exact T.g_NoText) rfl (by decide +kernel)⟩
theorem Txt.pe_NoLine {X : Cx} {pos : Pos} (T : Txt K mg cs CP C fi) (hg : Gl X "NoLine" := by rfl) (hm : X.mg = mg := by rfl) : J.QE X (.Name "NoLine" pos) (tC (.ref (cs 8))) := ⟨pe_glob hg (by rw [hm]; exact T.g_NoLine) rfl (by decide +kernel)⟩
theorem Txt.pe_NoWay {X : Cx} {pos : Pos} (T : Txt K mg cs CP C fi) (hg : Gl X "NoWay" := by rfl) (hm : X.mg = mg := by rfl) : J.QE X (.Name "NoWay" pos) (tC (.ref (cs 9))) := ⟨pe_glob hg (by rw [hm]; exact T.g_NoWay) rfl (by decide +kernel)⟩
theorem Txt.pe_TooLong {X : Cx} {pos : Pos} (T : Txt K mg cs CP C fi) (hg : Gl X "TooLong" := by rfl) (hm : X.mg = mg := by rfl) : J.QE X (.Name "TooLong" pos) (tC (.ref (cs 10))) := ⟨pe_glob hg (by rw [hm]; exact T.g_TooLong) rfl (by decide +kernel)⟩
theorem Txt.pe_GoesRound {X : Cx} {pos : Pos} (T : Txt K mg cs CP C fi) (hg : Gl X "GoesRound" := by rfl) (hm : X.mg = mg := by rfl) : J.QE X (.Name "GoesRound" pos) (tC (.ref (cs 11))) := ⟨pe_glob hg (by rw [hm]; exact T.g_GoesRound) rfl (by decide +kernel)⟩
theorem Txt.pe_NoSuch {X : Cx} {pos : Pos} (T : Txt K mg cs CP C fi) (hg : Gl X "NoSuch" := by rfl) (hm : X.mg = mg := by rfl) : J.QE X (.Name "NoSuch" pos) (tC (.ref (cs 12))) := ⟨pe_glob hg (by rw [hm]; exact T.g_NoSuch) rfl (by decide +kernel)⟩
theorem Txt.pe_NoPair {X : Cx} {pos : Pos} (T : Txt K mg cs CP C fi) (hg : Gl X "NoPair" := by rfl) (hm : X.mg = mg := by rfl) : J.QE X (.Name "NoPair" pos) (tC (.ref (cs 13))) := ⟨pe_glob hg (by rw [hm]; exact T.g_NoPair) rfl (by decide +kernel)⟩
variable {X : Cx} {pos : Pos}
theorem g_int {x : Str} {i : Int} (e : ∃ t, mg x = some (.int i t)) (hg : Gl X x) (hm : X.mg = mg) (hd : (x == ("__debug__" : Str)) = false) : M.GE X (.Name x pos) (M.aC (.int i)) := by
 obtain ⟨t, e⟩ := e
 exact M.pe_glob (v := .int i) hg (by rw [hm]; exact e) ⟨t, rfl⟩ (fun _ => .int) hd
theorem g_stc {x : Str} {ss : List Str} (e : ∃ a, mg x = some (.ref a) ∧ ∀ H : Hp, SqT K H a (ss.map V.str)) (hg : Gl X x) (hm : X.mg = mg) (hK : X.K = K) (hd : (x == ("__debug__" : Str)) = false) : M.GE X (.Name x pos) (M.aC (.stc ss)) := by
 obtain ⟨a, e, h⟩ := e
 subst hK
 exact M.pe_glob (v := .ref a) hg (by rw [hm]; exact e) rfl (fun w => by simp only [M.Rep]; exact ⟨a, rfl, h _⟩) hd
theorem Txt.pe_LONGEST (T : Txt K mg cs CP C fi) (hg : Gl X "LONGEST" := by rfl) (hm : X.mg = mg := by rfl) : M.GE X (.Name "LONGEST" pos) (M.aC (.int 8)) := g_int T.longest hg hm (by decide +kernel)
theorem Txt.pe_MOST_STEPS (T : Txt K mg cs CP C fi) (hg : Gl X "MOST_STEPS" := by rfl) (hm : X.mg = mg := by rfl) : M.GE X (.Name "MOST_STEPS" pos) (M.aC (.int 60)) := g_int T.steps hg hm (by decide +kernel)
theorem Txt.pe_SIDES (T : Txt K mg cs CP C fi) (hg : Gl X "SIDES" := by rfl) (hm : X.mg = mg := by rfl) (hK : X.K = K := by rfl) : M.GE X (.Name "SIDES" pos) (M.aC (.stc ["on", "back"])) := g_stc T.sides hg hm hK (by decide +kernel)
end
noncomputable def isLow (c : Nat) : Bool := decide (97 ≤ c) && decide (c ≤ 122)
open PySem L2
noncomputable abbrev fd3 := M.fd3
noncomputable abbrev sCell : Stmt := top 28
noncomputable abbrev NscCell : List Str := ["_law_script", "_law_k", "_law_seed"]
noncomputable abbrev PscCell : List Str := ["_law_script", "_law_k"]
theorem scCell : FnScope NscCell PscCell (defScope sCell) := ⟨rfl, rfl, rfl, by decide +kernel, rfl, by decide +kernel, by decide +kernel⟩
noncomputable abbrev sFeed : Stmt := top 29
noncomputable abbrev NscFeed : List Str := ["_law_cell"]
noncomputable abbrev PscFeed : List Str := ["_law_cell"]
theorem scFeed : FnScope NscFeed PscFeed (defScope sFeed) := ⟨rfl, rfl, rfl, by decide +kernel, rfl, by decide +kernel, by decide +kernel⟩
noncomputable abbrev sNext : Stmt := top 30
noncomputable abbrev NscNext : List Str := ["_law_feed_here", "_law_many", "_law_found", "_law_one", "_law_two"]
noncomputable abbrev PscNext : List Str := ["_law_feed_here", "_law_many"]
theorem scNext : FnScope NscNext PscNext (defScope sNext) := ⟨rfl, rfl, rfl, by decide +kernel, rfl, by decide +kernel, by decide +kernel⟩
noncomputable abbrev sNames : Stmt := top 31
noncomputable abbrev NscNames : List Str := ["_law_feed_here", "_law_many", "_law_letters", "_law_word", "_law_way_here", "_law_turn", "_law_names_here", "_law_place", "_law_start", "_law_k", "_law_sign"]
noncomputable abbrev PscNames : List Str := ["_law_feed_here", "_law_many"]
theorem scNames : FnScope NscNames PscNames (defScope sNames) := ⟨rfl, rfl, rfl, by decide +kernel, rfl, by decide +kernel, by decide +kernel⟩
noncomputable def FeedAt (H : Hp) (p : Addr) (d : Nat) : Prop := ∃ l s : Int, H p = some (.dK (fd3 l s d)) ∧ 0 ≤ l ∧ 0 ≤ s ∧ s < 1000003
theorem f_left {l s d : Int} : valV (fd3 l s d) (Sum.inr "left") = some (.int l) := rfl
theorem f_seed {l s d : Int} : valV (fd3 l s d) (Sum.inr "seed") = some (.int s) := rfl
theorem f_drawn {l s d : Int} : valV (fd3 l s d) (Sum.inr "drawn") = some (.int d) := rfl
theorem p_drawn {l s d z : Int} : putK (fd3 l s d) (Sum.inr "drawn") (.int z) = fd3 l s z := rfl
theorem p_left {l s d z : Int} : putK (fd3 l s d) (Sum.inr "left") (.int z) = fd3 z s d := rfl
section
variable {P : Program} {w : World} {K : PySem.W.Frag} {mg : Str → Option Value} {base : Heap} {cs : Nat → Addr} {CP C fi : Addr}
noncomputable def spCell (K : PySem.W.Frag) : Sp := fun vs H Q _ => ∃ (a : Addr) (ns : List Int) (k : Nat), vs = [.ref a, .int k] ∧ SqL K H a (ns.map V.int) ∧ k < 1000 ∧ ∀ z, Q (.int z) H
theorem d_Cell (T : Txt K mg cs CP C fi) (F : Src K mg "_law_cell_at" PscCell sCell) : Def P w K mg base 1 "_law_cell_at" PscCell (spCell K) := by
 refine J.defQ F scCell (fun vs H Q E h => ?_) (fun f cdv A outer s H vs Q E hr h => ?_)
 ·obtain ⟨a, ns, k, rfl, _⟩ := h; rfl
 ·obtain ⟨a, ns, k, rfl, hS, hk, q⟩ := h
  refine ⟨_, (J.pss_cons (J.ps_if (J.pt_cmpR op_lt (J.pv 1) (J.pcb c_len (by rfl) T.len (by decide +kernel) (J.pac (J.pv 0) J.pa_nil)) (nomark _))
    (J.pss_one (J.ps_ret (J.pe_ix ixL (J.pv 0) (J.pv 1) (fun _ _ => rfl))))
    J.pss_nil)
   (J.pss_cons (J.ps_set (i := 2) scCell.nd rfl (Or.inl rfl) J.pe_int)
   (J.pss_cons (J.ps_if (J.pt_cmpR op_gt (J.pcb c_len (by rfl) T.len (by decide +kernel) (J.pac (J.pv 0) J.pa_nil)) J.pe_int (nomark _))
    (J.pss_one (J.ps_set (i := 2) scCell.nd rfl (Or.inl rfl) (J.pe_ix ixL (J.pv 0) (J.pe_op op_mod (J.pv 1) (J.pcb c_len (by rfl) T.len (by decide +kernel) (J.pac (J.pv 0) J.pa_nil))) (fun _ _ => rfl))))
    J.pss_nil)
   (J.pss_one (J.ps_ret (J.pe_op op_add (J.pe_op op_add (J.pe_op op_mul (J.pe_op op_mod (J.pv 2) J.pe_int) J.pe_int) (J.pe_op op_mul J.pe_int (J.pv 1))) J.pe_int)))))), ?_⟩
  have hl : LenV K (.ref a) H ns.length := .inl ⟨_, hS, by simp⟩
  refine ⟨_, rfl, _, rfl, _, _, rfl, hl, _, _, rfl, rfl, _, rfl, ?_⟩
  refine ite2 (fun h => ?_) (fun h => ?_)
  ·have hlt : k < ns.length := by simpa using h
   have e : (ns.map V.int)[k]? = some (V.int ns[k]) := by simp [hlt]
   exact ⟨_, rfl, _, rfl, a, _, _, _, rfl, rfl, hS, atI_nat e, q _⟩
  ·refine ⟨_, rfl, _, _, rfl, hl, _, _, rfl, rfl, _, rfl, ?_⟩
   have fin : ∀ z : Int, (tRet (tOp (rI0 fun i j => .int (i + j)) (tOp (rI0 fun i j => .int (i + j)) (tOp (rI CMul fun i j => .int (i * j)) (tOp (rI (fun _ j => 0 < j) fun i j => .int (i % j)) (tVar 2) (tC (.int 1000003))) (tC (.int 48271))) (tOp (rI CMul fun i j => .int (i * j)) (tC (.int 7919)) (tVar 1))) (tC (.int 1)))) { nx := fun _ H' => Q .non H', rt := Q } [some (.ref a), some (.int k), some (.int z)] H := fun z => by
    refine ⟨_, rfl, _, _, rfl, rfl, (by show (0 : Int) < 1000003; decide), _, _, rfl, rfl, .inr ⟨by decide, by decide⟩, _, rfl, _, _, rfl, rfl, .inl ⟨by decide, by decide⟩, _, _, rfl, rfl, _, _, rfl, rfl, q _⟩
   refine ite2 (fun h => ?_) (fun h => ?_)
   ·have hp : 0 < ns.length := by simpa using h
    have hm : k % ns.length < ns.length := Nat.mod_lt _ hp
    have e : (ns.map V.int)[k % ns.length]? = some (V.int ns[k % ns.length]) := by simp [hm]
    have e2 : ((k : Int) % (ns.length : Int)) = ((k % ns.length : Nat) : Int) := by simp
    refine ⟨_, rfl, _, rfl, _, rfl, _, _, rfl, hl, _, _, rfl, rfl, (by show (0 : Int) < (ns.length : Int); omega), a, _, _, _, rfl, rfl, hS, (by rw [e2]; exact atI_nat e), fin _⟩
   ·exact fin 0
noncomputable def spFeed : Sp := fun vs H Q _ => ∃ z : Int, vs = [.int z] ∧ ∀ p H', H p = none → FeedAt H' p 0 → (∀ b o, H b = some o → H' b = some o) → Q (.ref p) H'
theorem d_Feed (T : Txt K mg cs CP C fi) (F : Src K mg "_law_feed" PscFeed sFeed) : Def P w K mg base 1 "_law_feed" PscFeed spFeed := by
 refine J.defQ F scFeed (fun vs H Q E h => ?_) (fun f cdv A outer s H vs Q E hr h => ?_)
 ·obtain ⟨z, rfl, _⟩ := h; rfl
 ·obtain ⟨z, rfl, q⟩ := h
  refine ⟨_, (J.pss_one (J.ps_ret (J.pe_disp (J.pps_cons J.pe_str (J.pcb (call_max2 rfl) (by rfl) T.max (by decide +kernel) (J.pac J.pe_int (J.pac (J.pe_op op_sub (J.pv 0) (J.pe_op op_pow J.pe_int J.pe_int)) J.pa_nil))) (J.pps_cons J.pe_str (J.pe_op op_mod (J.pv 0) J.pe_int) (J.pps_cons J.pe_str J.pe_int J.pps_nil))) rfl rfl (by simp) (by decide)))), ?_⟩
  intro p hp
  refine ⟨_, rfl, _, _, rfl, rfl, ⟨by decide, by decide, by decide⟩, _, _, rfl, rfl, _, _, rfl, ?_⟩
  refine ⟨_, rfl, _, _, rfl, rfl, (by show (0 : Int) < 1000003; decide), upd_same, fd3 _ _ 0, rfl, (by show 3 ≤ 15; decide), ?_⟩
  refine q p _ hp ⟨_, _, upd_same, ?_, ?_, ?_⟩ fun b o e => ?_
  ·split <;> omega
  ·exact Int.emod_nonneg _ (by decide)
  ·exact Int.emod_lt_of_pos _ (by decide)
  ·rw [upd_ne (ne_of_none e hp), upd_ne (ne_of_none e hp)]; exact e
noncomputable def spNext : Sp := fun vs H Q _ => ∃ (p : Addr) (n : Int) (d : Nat), vs = [.ref p, .int n] ∧ FeedAt H p d ∧ d < 1000 ∧ 0 < n ∧ n < 1000 ∧
 ∀ (z : Int) (H' : Hp), 0 ≤ z → z < n → FeedAt H' p (d + 1) → (∀ b o, H b = some o → b ≠ p → H' b = some o) → Q (.int z) H'
theorem d_Next (T : Txt K mg cs CP C fi) (F : Src K mg "_law_next" PscNext sNext) : Def P w K mg base 1 "_law_next" PscNext spNext := by
 refine J.defQ F scNext (fun vs H Q E h => ?_) (fun f cdv A outer s H vs Q E hr h => ?_)
 ·obtain ⟨p, n, d, rfl, _⟩ := h; rfl
 ·obtain ⟨p, n, d, rfl, ⟨l, sd, hp, hl, hs0, hs1⟩, hd, hn0, hn1, q⟩ := h
  have hu := hu_of hr
  refine ⟨_, (J.pss_cons (J.ps_dput hu (J.pv 0) J.pe_str (J.pe_op op_add (J.pe_dget hu (J.pv 0) J.pe_str (fun _ _ => rfl)) J.pe_int) rfl)
   (J.pss_cons (J.ps_if (J.pt_cmpR op_gt (J.pe_dget hu (J.pv 0) J.pe_str (fun _ _ => rfl)) J.pe_int (nomark _))
    (J.pss_cons (J.ps_set (i := 2) scNext.nd rfl (Or.inl rfl) (J.pe_op op_mod (J.pe_dget hu (J.pv 0) J.pe_str (fun _ _ => rfl)) (J.pv 1)))
    (J.pss_cons (J.ps_dput hu (J.pv 0) J.pe_str (J.pe_op op_fdiv (J.pe_dget hu (J.pv 0) J.pe_str (fun _ _ => rfl)) (J.pv 1)) rfl)
    (J.pss_one (J.ps_ret (J.pv 2)))))
    J.pss_nil)
   (J.pss_cons (J.ps_set (i := 3) scNext.nd rfl (Or.inl rfl) (J.pe_op op_mod (J.pe_op op_mul (J.pe_op op_add (J.pe_dget hu (J.pv 0) J.pe_str (fun _ _ => rfl)) J.pe_int) (J.pe_op op_add (J.pe_op op_mul (J.pe_dget hu (J.pv 0) J.pe_str (fun _ _ => rfl)) (J.pe_dget hu (J.pv 0) J.pe_str (fun _ _ => rfl))) J.pe_int)) J.pe_int))
   (J.pss_cons (J.ps_set (i := 4) scNext.nd rfl (Or.inl rfl) (J.pe_op op_mod (J.pe_op op_add (J.pe_op op_mul (J.pv 3) (J.pv 3)) (J.pe_op op_mul J.pe_int (J.pe_dget hu (J.pv 0) J.pe_str (fun _ _ => rfl)))) J.pe_int))
   (J.pss_one (J.ps_ret (J.pe_op op_mod (J.pe_op op_mod (J.pe_op op_add (J.pe_op op_mul (J.pv 4) (J.pv 4)) (J.pe_op op_mul J.pe_int (J.pv 3))) J.pe_int) (J.pv 1)))))))), ?_⟩
  have e1 : ((d : Int) + 1) = ((d + 1 : Nat) : Int) := by omega
  refine ⟨_, rfl, p, _, rfl, DGet.k (k := Sum.inr "drawn") hp, _, _, rfl, rfl, _, rfl, p, _, rfl, DPut.k (k := Sum.inr "drawn") hp (by show 3 < sizeLine; decide +kernel), ?_⟩
  have h1 : (upd H p (.dK (putK (fd3 l sd d) (Sum.inr "drawn") (.int ((d : Int) + 1))))) p = some (.dK (fd3 l sd (d + 1 : Nat))) := by rw [upd_same, p_drawn, e1]
  generalize hH : upd H p (.dK (putK (fd3 l sd d) (Sum.inr "drawn") (.int ((d : Int) + 1)))) = H1 at h1
  have k1 : ∀ b o, H b = some o → b ≠ p → H1 b = some o := fun b o e hb => by rw [← hH, upd_ne hb]; exact e
  refine ⟨_, rfl, p, _, rfl, DGet.k (k := Sum.inr "left") h1, _, _, rfl, rfl, _, rfl, ?_⟩
  refine ite2 (fun h => ?_) (fun h => ?_)
  ·have hpos : 0 < l := by simpa using h
   refine ⟨_, rfl, p, _, rfl, DGet.k (k := Sum.inr "left") h1, _, rfl, _, _, rfl, rfl, hn0, ?_⟩
   refine ⟨_, rfl, p, _, rfl, DGet.k (k := Sum.inr "left") h1, _, rfl, _, _, rfl, rfl, ⟨hn0, by omega⟩, _, rfl, p, _, rfl, DPut.k (k := Sum.inr "left") h1 (by show 3 < sizeLine; decide +kernel), _, rfl, ?_⟩
   refine q _ _ (Int.emod_nonneg _ (by omega)) (Int.emod_lt_of_pos _ hn0) ⟨_, _, by rw [upd_same, p_left], Int.ediv_nonneg hl (by omega), hs0, hs1⟩ fun b o e hb => ?_
   rw [upd_ne hb]; exact k1 b o e hb
  ·have gs := DGet.k (k := Sum.inr "seed") h1
   have gd := DGet.k (k := Sum.inr "drawn") h1
   have b1 := Int.emod_nonneg ((sd + 1) * (((d + 1 : Nat) : Int) * ((d + 1 : Nat) : Int) + 48271)) (show (65537 : Int) ≠ 0 by decide)
   have b2 := Int.emod_lt_of_pos ((sd + 1) * (((d + 1 : Nat) : Int) * ((d + 1 : Nat) : Int) + 48271)) (show (0 : Int) < 65537 by decide)
   refine ⟨_, rfl, p, _, rfl, gs, _, _, rfl, rfl, _, rfl, p, _, rfl, gd, _, rfl, p, _, rfl, gd, _, _, rfl, rfl, .inl ⟨by omega, by omega⟩, _, _, rfl, rfl, _, _, rfl, rfl, .inl ⟨by omega, by omega⟩, _, _, rfl, rfl, (by show (0 : Int) < 65537; decide), ?_⟩
   generalize ((sd + 1) * (((d + 1 : Nat) : Int) * ((d + 1 : Nat) : Int) + 48271)) % 65537 = one at b1 b2 ⊢
   have c1 := Int.emod_nonneg (one * one + 30269 * ((d + 1 : Nat) : Int)) (show (65521 : Int) ≠ 0 by decide)
   have c2 := Int.emod_lt_of_pos (one * one + 30269 * ((d + 1 : Nat) : Int)) (show (0 : Int) < 65521 by decide)
   refine ⟨_, rfl, _, rfl, _, _, rfl, rfl, .inl ⟨by omega, by omega⟩, _, rfl, p, _, rfl, gd, _, _, rfl, rfl, .inl ⟨by decide, by decide⟩, _, _, rfl, rfl, _, _, rfl, rfl, (by show (0 : Int) < 65521; decide), ?_⟩
   generalize (one * one + 30269 * ((d + 1 : Nat) : Int)) % 65521 = two at c1 c2 ⊢
   refine ⟨_, rfl, _, rfl, _, _, rfl, rfl, .inl ⟨by omega, by omega⟩, _, rfl, _, _, rfl, rfl, .inl ⟨by decide, by decide⟩, _, _, rfl, rfl, _, _, rfl, rfl, (by show (0 : Int) < 65519; decide), _, rfl, _, _, rfl, rfl, hn0, ?_⟩
   exact q _ _ (Int.emod_nonneg _ (by omega)) (Int.emod_lt_of_pos _ hn0) ⟨l, sd, h1, hl, hs0, hs1⟩ k1
end
theorem alloc {H : Hp} {p : Addr} {o : HO} (h : H p = none) : Same H (upd H p o) := fun b u e => by rw [upd_ne (ne_of_none e h)]; exact e
noncomputable def Low (x : Str) : Prop := ∀ c ∈ x.cps.toList, isLow c = true
theorem Low.append {x y : Str} (h : Low x) (g : Low y) : Low (x ++ y) := fun c hc => by
 have e : (x ++ y).cps.toList = x.cps.toList ++ y.cps.toList := by show (x.cps ++ y.cps).toList = _; simp
 rw [e, List.mem_append] at hc
 exact hc.elim (h c) (g c)
noncomputable def lowB (x : Str) : Bool := x.cps.toList.all isLow
theorem low_of {x : Str} (h : lowB x = true) : Low x := fun c hc => List.all_eq_true.mp h c hc
theorem sl_asc {y : Str} {l u : Option Int} (h : Low y) : Low (Txt.slice y l u) := by
 unfold Txt.slice
 split
 ·exact h
 ·intro c hc
  have hc : c ∈ (Builtin.Str.strSliceIndices l u 1 y.length).filterMap (y.cps[·]?) := by simpa using hc
  obtain ⟨i, _, e⟩ := List.mem_filterMap.mp hc
  exact h c (by
   have : y.cps.toList[i]? = some c := by rw [← e]; simp
   exact List.mem_of_getElem? this)
theorem join_ok : ∀ ys : List Str, (∀ y ∈ ys, y.length = 1 ∧ Low y) → (Str.join "" ys).length = ys.length ∧ Low (Str.join "" ys)
 | [], _ => ⟨rfl, fun c hc => absurd hc (by simp [Str.join, Str.empty])⟩
 | [y], h => ⟨(h y (by simp)).1, (h y (by simp)).2⟩
 | y :: z :: r, h => by
  obtain ⟨h1, h2⟩ := join_ok (z :: r) fun x hx => h x (List.mem_cons_of_mem _ hx)
  obtain ⟨g1, g2⟩ := h y (by simp)
  have e : Str.join "" (y :: z :: r) = y ++ "" ++ Str.join "" (z :: r) := rfl
  rw [e]
  refine ⟨?_, (g2.append (low_of (by decide +kernel))).append h2⟩
  rw [strLen_append, strLen_append, h1, g1]
  show 1 + 0 + _ = _
  simp; omega
theorem one_ok {c : Nat} (h : isLow c = true) : (⟨#[c]⟩ : Str).length = 1 ∧ Low ⟨#[c]⟩ := ⟨rfl, fun d hd => by
 have : d = c := by simpa using hd
 rw [this]; exact h⟩
theorem sum_one : ∀ ys : List Str, (∀ y ∈ ys, y.length = 1 ∧ Low y) → (ys.map (·.length)).sum = ys.length
 | [], _ => rfl
 | y :: r, h => by
  rw [List.map_cons, List.sum_cons, sum_one r fun x hx => h x (List.mem_cons_of_mem _ hx), (h y (by simp)).1, List.length_cons]; omega
theorem FeedAt.same {H H' : Hp} {p : Addr} {d : Nat} (h : FeedAt H p d) (e : Same H H') : FeedAt H' p d := by
 obtain ⟨l, s, h1, h2⟩ := h
 exact ⟨l, s, e _ _ h1, h2⟩
theorem cut_from {xs : List V} {k : Nat} (h : k ≤ xs.length) : cutV xs (some (k : Int)) none = xs.drop k := by
 unfold cutV
 have e1 : HT.sIx xs.length 0 (some (k : Int)) = k := by rw [HT.sIx_nat]; omega
 have e2 : HT.sIx xs.length xs.length none = xs.length := by simp [HT.sIx]
 rw [e1, e2, List.take_of_length_le (by rw [List.length_drop]; omega)]
theorem cut_to {xs : List V} {k : Nat} (h : k ≤ xs.length) : cutV xs none (some (k : Int)) = xs.take k := by
 unfold cutV
 have e1 : HT.sIx xs.length xs.length (some (k : Int)) = k := by rw [HT.sIx_nat]; omega
 have e2 : HT.sIx xs.length 0 none = 0 := by simp [HT.sIx]
 rw [e1, e2, List.drop_zero, Nat.sub_zero]
noncomputable abbrev LET : Str := "abcdefghijklmnopqrstuvwxyz"
theorem let_len : LET.length = 26 := by decide +kernel
theorem let_asc : Low LET := low_of (by decide +kernel)
theorem let_at {k : Nat} (h : k < 26) : ∃ c, LET.cps.toList[k]? = some c ∧ isLow c = true := by
 have hl : LET.cps.toList.length = 26 := by rw [Array.length_toList]; exact let_len
 refine ⟨LET.cps.toList[k]'(by omega), List.getElem?_eq_getElem _, let_asc _ (List.getElem_mem _)⟩
noncomputable def Nm (y : Str) : Prop := 1 ≤ y.length ∧ y.length ≤ 8 ∧ Low y
theorem Nm.asc {y : Str} (h : Nm y) : Asc y := fun c hc => by
 have := h.2.2 c hc
 unfold isLow at this
 simp at this; omega
theorem sl_len {x : Str} {a b : Nat} (hab : a ≤ b) (hb : b ≤ x.length) : (Txt.slice x (some (a : Int)) (some (b : Int))).length = b - a := by
 unfold Txt.slice
 have e := PySem.StrLaws.sliced_plain x hab hb
 have e2 : (Builtin.Str.strSliceIndices (some (a : Int)) (some (b : Int)) 1 x.length).length = b - a := by rw [PySem.StrLaws.strSliceIndices_plain hab hb]; simp
 split
 ·rename_i h
  simp only [Bool.and_eq_true, beq_iff_eq] at h
  omega
 ·show ((Builtin.Str.strSliceIndices (some (a : Int)) (some (b : Int)) 1 x.length).filterMap (x.cps[·]?)).toArray.size = _
  rw [List.size_toArray, e, List.length_take, List.length_drop, Array.length_toList]
  have : x.cps.size = x.length := rfl
  omega
theorem sl_none {x : Str} {u : Int} : Txt.slice x none (some u) = Txt.slice x (some ((0 : Nat) : Int)) (some u) := by
 have e : Builtin.Str.strSliceIndices none (some u) 1 x.length = Builtin.Str.strSliceIndices (some ((0 : Nat) : Int)) (some u) 1 x.length := by
  unfold Builtin.Str.strSliceIndices
  have e0 : max (0 : Int) (min 0 (x.length : Int)) = 0 := by omega
  simp [e0]
 unfold Txt.slice
 rw [e]
theorem nm_lit {y : Str} (h : (decide (1 ≤ y.length) && decide (y.length ≤ 8) && lowB y) = true) : Nm y := by
 rw [Bool.and_eq_true, Bool.and_eq_true] at h
 exact ⟨of_decide_eq_true h.1.1, of_decide_eq_true h.1.2, low_of h.2⟩
theorem nd_of {α : Type} (f : Str → α) {zs : List Str} (h : (zs.map f).Nodup) : zs.Nodup := (List.pairwise_map.mp h).imp fun {a b} h e => h (by rw [e])
noncomputable def letAt (z : Int) (i : Nat) : Option Nat := LET.cps.toList[((z + 5 * (i : Int)) % 26).toNat]?
theorem let_inj : ∀ i j, i < 26 → j < 26 → LET.cps.toList[i]? = LET.cps.toList[j]? → i = j := by
 have hl : LET.cps.toList.length = 26 := by rw [Array.length_toList]; exact let_len
 have hn : LET.cps.toList.Nodup := by decide +kernel
 intro i j hi hj e
 exact (List.getElem?_inj (by omega) hn).mp e
theorem let_nd {z : Int} (h0 : 0 ≤ z) (h1 : z < 26) : ((List.range 8).map (letAt z)).Nodup := by
 refine List.pairwise_map.mpr (List.pairwise_iff_getElem.mpr fun i j hi hj hij e => ?_)
 rw [List.getElem_range, List.getElem_range] at e
 rw [List.length_range] at hi hj
 unfold letAt at e
 have := let_inj _ _ (by omega) (by omega) e
 omega
noncomputable def spNames : Sp := fun vs H Q _ => ∃ (p : Addr) (m d : Nat), vs = [.ref p, .int m] ∧ FeedAt H p d ∧ d + 20 < 1000 ∧ m ≤ 8 ∧
 ∀ (l : Addr) (ys : List Str) (H' : Hp) (d' : Nat), H l = none → H' l = some (.lst (ys.map V.str)) → ys.length = m → (∀ y ∈ ys, Nm y) → ys.Nodup → FeedAt H' p d' → d' ≤ d + 20 → (∀ b o, H b = some o → b ≠ p → H' b = some o) → Q (.ref l) H'
section
variable {P : Program} {w : World} {K : PySem.W.Frag} {mg : Str → Option Value} {base : Heap} {cs : Nat → Addr} {CP C fi : Addr}
theorem d_Names (T : Txt K mg cs CP C fi) (F : Src K mg "_law_names" PscNames sNames) (D_law_next : Def P w K mg base 1 "_law_next" PscNext spNext) : Def P w K mg base 2 "_law_names" PscNames spNames := by
 refine J.defQ F scNames (fun vs H Q E h => ?_) (fun f cdv A outer s H vs Q E hr h => ?_)
 ·obtain ⟨p, m, d, rfl, _⟩ := h; rfl
 ·obtain ⟨p, m, d, rfl, hf, hd, hm, q⟩ := h
  refine ⟨_, (J.pss_cons (J.ps_set (i := 2) scNames.nd rfl (Or.inr rfl) J.pe_str)
   (J.pss_cons (J.ps_set (i := 3) scNames.nd rfl (Or.inr rfl) (J.pe_bmK PySem.F.plainAttrs_str PySem.F.slot_str_join PySem.F.type_str_join m_join J.pe_str (J.pac (J.pe_comp (N := ["_law_k", "_law_letters", "_law_feed_here"]) (caps := [none, some 2, some 0]) (bs_mk (by decide +kernel)) (by rfl) (by rfl) rfl (J.pi_range1 (by rfl) T.range (J.pac J.pe_int J.pa_nil)) (fun _ _ _ _ => (J.pg_name (i := 0) (by decide +kernel : List.Nodup (["_law_k", "_law_letters", "_law_feed_here"] : List Str)) rfl (Or.inl rfl))) (fun _ _ _ _ => J.pts_nil) (fun _ _ _ _ => (J.pe_ix ix_str (J.pv 1) (J.pe_own D_law_next (hr.mono (by decide)) (by rfl) pass0 (J.pac (J.pv 2) (J.pac J.pe_int J.pa_nil))) (fun _ _ => rfl)))) J.pa_nil)))
   (J.pss_cons (J.ps_set (i := 4) scNames.nd rfl (Or.inl rfl) (J.pe_own D_law_next (hr.mono (by decide)) (by rfl) pass0 (J.pac (J.pv 0) (J.pac J.pe_int J.pa_nil))))
   (J.pss_cons (J.ps_set (i := 5) scNames.nd rfl (Or.inl rfl) (J.pe_own D_law_next (hr.mono (by decide)) (by rfl) pass0 (J.pac (J.pv 0) (J.pac J.pe_int J.pa_nil))))
   (J.pss_cons (J.ps_if (J.pt_cmpR op_eq (J.pv 4) J.pe_int (nomark _))
    (J.pss_one (J.ps_setComp (i := 6) scNames.nd rfl rfl (N := ["_law_k", "_law_word"]) (caps := [none, some 3]) (bs_mk (by decide +kernel)) (by rfl) (by rfl) rfl (J.pi_range1 (by rfl) T.range (J.pac J.pe_int J.pa_nil)) (fun _ _ _ _ => (J.pg_name (i := 0) (by decide +kernel : List.Nodup (["_law_k", "_law_word"] : List Str)) rfl (Or.inl rfl))) (fun _ _ _ _ => J.pts_nil) (fun _ _ _ _ => (J.pe_slice sl_str (J.pv 1) J.po_none (J.po_some (J.pe_op op_add (J.pv 0) J.pe_int))))))
    (J.pss_one (J.ps_if (J.pt_cmpR op_eq (J.pv 4) J.pe_int (nomark _))
     (J.pss_one (J.ps_set (i := 6) scNames.nd rfl (Or.inl rfl) (J.pe_lst (J.pac J.pe_str (J.pac J.pe_str (J.pac J.pe_str (J.pac J.pe_str (J.pac J.pe_str (J.pac J.pe_str (J.pac J.pe_str (J.pac J.pe_str J.pa_nil)))))))))))
     (J.pss_cons (J.ps_set (i := 7) scNames.nd rfl (Or.inl rfl) (J.pe_own D_law_next (hr.mono (by decide)) (by rfl) pass0 (J.pac (J.pv 0) (J.pac (J.pe_op op_add (J.pv 5) J.pe_int) J.pa_nil))))
     (J.pss_cons (J.ps_set (i := 8) scNames.nd rfl (Or.inl rfl) (J.pe_own D_law_next (hr.mono (by decide)) (by rfl) pass0 (J.pac (J.pv 0) (J.pac J.pe_int J.pa_nil))))
     (J.pss_cons (J.ps_set (i := 6) scNames.nd rfl (Or.inl rfl) (J.pe_lst J.pa_nil))
     (J.pss_one (J.ps_for PassesOwn.never rfl (J.pi_range1 (by rfl) T.range (J.pac J.pe_int J.pa_nil)) (J.pg_name (i := 9) scNames.nd rfl (Or.inl rfl))
      (J.pss_cons (J.ps_set (i := 10) scNames.nd rfl (Or.inl rfl) (J.pe_ix ix_str (J.pv 2) (J.pe_op op_mod (J.pe_op op_add (J.pv 8) (J.pe_op op_mul J.pe_int (J.pv 9))) J.pe_int) (fun _ _ => rfl)))
      (J.pss_one (J.ps_expr (J.pe_bmK PySem.F.plainAttrs_list PySem.F.slot_list_append PySem.F.type_list_append mt_append (J.pv 6) (J.pac (J.pe_op op_add_str (J.pe_op op_add_str (J.pe_slice sl_str (J.pv 3) J.po_none (J.po_some (J.pv 7))) (J.pv 10)) (J.pe_slice sl_str (J.pv 3) (J.po_some (J.pe_op op_add (J.pv 7) J.pe_int)) (J.po_some (J.pe_op op_add (J.pv 5) J.pe_int)))) J.pa_nil)))))))))))))
   (J.pss_one (J.ps_ret (J.pe_slice slL (J.pe_op op_cat (J.pe_slice slL (J.pv 6) (J.po_some (J.pv 5)) J.po_none) (J.pe_slice slL (J.pv 6) J.po_none (J.po_some (J.pv 5)))) J.po_none (J.po_some (J.pv 1)))))))))), ?_⟩
  obtain ⟨l0, s0, hp0, _⟩ := id hf
  have fin : ∀ (l : Addr) (ys : List Str) (H2 : Hp) (t : Nat) (d2 : Nat) (v2 v3 v4 v7 v8 v9 v10 : Option V), H l = none → H2 l = some (.lst (ys.map V.str)) → ys.length = 8 → (∀ y ∈ ys, Nm y) → ys.Nodup → t < 8 → FeedAt H2 p d2 → d2 ≤ d + 20 → (∀ b o, H b = some o → b ≠ p → H2 b = some o) →
    (tRet (tSl (rSlL K) (tOp rCat (tSl (rSlL K) (tVar 6) (tPart (tVar 5)) tNoPart) (tSl (rSlL K) (tVar 6) tNoPart (tPart (tVar 5)))) tNoPart (tPart (tVar 1)))) { nx := fun _ H' => Q .non H', rt := Q }
     [some (.ref p), some (.int m), v2, v3, v4, some (.int t), some (.ref l), v7, v8, v9, v10] H2 := by
   intro l ys H2 t d2 v2 v3 v4 v7 v8 v9 v10 nl hl hlen hnm hnd ht hf2 hd2 k2
   have L8 : (ys.map V.str).length = 8 := by rw [List.length_map]; exact hlen
   refine ⟨_, rfl, _, rfl, _, rfl, l, _, rfl, SqL.of hl, fun a1 n1 => ?_⟩
   refine ⟨_, rfl, _, rfl, _, rfl, l, _, rfl, SqL.of (alloc n1 _ _ hl), fun a2 n2 => ?_⟩
   refine ⟨a1, a2, _, _, rfl, rfl, alloc n2 _ _ upd_same, upd_same, ?_, fun a3 n3 => ?_⟩
   ·rw [cut_from (by omega), cut_to (by omega), List.length_drop, List.length_take, sizeLine_eq]; omega
   rw [cut_from (by omega), cut_to (by omega), ← List.map_drop, ← List.map_take, ← List.map_append] at *
   have L3 : ((ys.drop t ++ ys.take t).map V.str).length = 8 := by rw [List.length_map, List.length_append, List.length_drop, List.length_take]; omega
   refine ⟨_, rfl, _, rfl, a3, _, rfl, SqL.of upd_same, fun a4 n4 => ?_⟩
   rw [cut_to (by omega), ← List.map_take] at *
   have s3 : Same H2 (upd (upd (upd H2 a1 (.lst ((ys.drop t).map V.str))) a2 (.lst ((ys.take t).map V.str))) a3 (.lst ((ys.drop t ++ ys.take t).map V.str))) := (alloc n1).trans ((alloc n2).trans (alloc n3))
   have n40 : H a4 = none := by
    cases e : H a4 with
    | none => rfl
    | some o =>
     by_cases hb : a4 = p
     ·obtain ⟨l9, s9, e9, _⟩ := hf2
      have := s3 _ _ e9
      rw [hb, this] at n4; cases n4
     ·have := s3 _ _ (k2 _ _ e hb); rw [n4] at this; cases this
   refine q a4 ((ys.drop t ++ ys.take t).take m) _ d2 n40 upd_same ?_ ?_ (((List.perm_append_comm.trans (List.Perm.of_eq (List.take_append_drop t ys))).nodup_iff.mpr hnd).sublist (List.take_sublist _ _)) (hf2.same (s3.trans (alloc n4))) hd2 fun b o e hb => alloc n4 _ _ (s3 _ _ (k2 b o e hb))
   ·rw [List.length_take, List.length_append, List.length_drop, List.length_take]; omega
   ·intro y hy
    rcases List.mem_append.mp (List.mem_of_mem_take hy) with hy | hy
    ·exact hnm y (List.mem_of_mem_drop hy)
    ·exact hnm y (List.mem_of_mem_take hy)
  refine seqG fun N0 hN0 => ?_
  refine hN0 _ _ ?_
  refine seqG fun N hN => ?_
  refine ⟨rfl, 8, rfl, by decide, by decide, loop_range (fun j xs τ Hj => ∃ ys : List Str, xs = ys.map V.str ∧ ys.length = j ∧ (∀ y ∈ ys, y.length = 1 ∧ Low y) ∧ (∃ t0, τ = [t0, some (.str LET), some (.ref p)]) ∧ FeedAt Hj p (d + j) ∧ ∀ b o, H b = some o → b ≠ p → Hj b = some o) ⟨[], rfl, rfl, by simp, ⟨none, rfl⟩, hf, fun _ _ e _ => e⟩ ?_ ?_⟩
  ·rintro j xs τ Hj hj ⟨ys, rfl, hyl, hys, ⟨t0, rfl⟩, hfj, kj⟩
   have hj : j < 8 := hj
   refine gyes ?_
   refine ⟨_, rfl, _, rfl, p, 26, d + j, rfl, hfj, by omega, by decide, by decide, fun zc Hc c0 c1 hfc kc => ?_⟩
   obtain ⟨k, rfl⟩ : ∃ k : Nat, zc = k := ⟨zc.toNat, by omega⟩
   obtain ⟨c, hc, hc2⟩ := let_at (k := k) (by omega)
   refine ⟨_, _, c, rfl, rfl, (by rw [sizeLine_eq]; decide +kernel), atI_nat hc, ?_, ys ++ [⟨#[c]⟩], (by simp), (by simp [hyl]), ?_, ⟨_, rfl⟩, hfc, fun b o e hb => kc b o (kj b o e hb) hb⟩
   ·rw [List.length_map, sizeLine_eq]; omega
   ·intro y hy
    rcases List.mem_append.mp hy with hy | hy
    ·exact hys y hy
    ·have : y = ⟨#[c]⟩ := by simpa using hy
     subst this
     exact one_ok hc2
  ·rintro xs τ Hj ⟨ys, rfl, hyl, hys, ⟨t0, rfl⟩, hfj, kj⟩ b2 nb2
   have hyl : ys.length = 8 := hyl
   obtain ⟨j1, j2⟩ := join_ok ys hys
   rw [← PySem.StrLaws.glued_eq_join] at j1 j2
   have j1 : (Txt.join "" ys).length = ys.length := j1
   have j2 : Low (Txt.join "" ys) := j2
   refine ⟨"", b2, ys, rfl, rfl, SqL.of upd_same, (by rw [sum_one ys hys]; show _ + _ * 0 ≤ _; omega), ?_⟩
   refine hN _ _ ?_
   generalize hW : Txt.join "" ys = W at j1 j2
   have hfa := hfj.same (alloc (o := .lst (ys.map V.str)) nb2)
   have ka : ∀ b o, H b = some o → b ≠ p → upd Hj b2 (.lst (ys.map V.str)) b = some o := fun b o e hb => alloc nb2 _ _ (kj b o e hb)
   refine seqG fun N hN => ?_
   refine ⟨_, rfl, p, 3, _, rfl, hfa, by omega, by decide, by decide, fun zw Hw w0 w1 hfw kw => ?_⟩
   refine hN _ _ ?_
   refine seqG fun N hN => ?_
   refine ⟨_, rfl, p, 8, _, rfl, hfw, by omega, by decide, by decide, fun zt Ht t0 t1 hft kt => ?_⟩
   refine hN _ _ ?_
   obtain ⟨t, rfl⟩ : ∃ t : Nat, zt = t := ⟨zt.toNat, by omega⟩
   have ht : t < 8 := by omega
   have kt2 : ∀ b o, H b = some o → b ≠ p → Ht b = some o := fun b o e hb => kt b o (kw b o (ka b o e hb) hb) hb
   have free : ∀ {H3 : Hp} {dd : Nat} {a : Addr}, FeedAt H3 p dd → (∀ b o, H b = some o → b ≠ p → H3 b = some o) → H3 a = none → H a = none := fun {H3 dd a} hf3 k3 n => by
    cases e : H a with
    | none => rfl
    | some o =>
     by_cases hb : a = p
     ·obtain ⟨l9, s9, e9, _⟩ := hf3
      rw [hb, e9] at n; cases n
     ·have := k3 _ _ e hb; rw [n] at this; cases this
   refine ⟨_, rfl, rfl, _, rfl, ?_⟩
   refine ite2 (fun _ => ?_) (fun _ => ?_)
   ·-- parts of the word
    refine ⟨8, rfl, by decide, by decide, loop_range (fun j xs τ Hj => Hj = Ht ∧ ∃ zs : List Str, xs = zs.map V.str ∧ zs.length = j ∧ (∀ y ∈ zs, Nm y) ∧ zs.map (·.length) = (List.range j).map (· + 1) ∧ ∃ t0, τ = [t0, some (.str W)]) ⟨rfl, [], rfl, rfl, by simp, rfl, none, by rw [← hW]; rfl⟩ ?_ ?_⟩
    ·rintro j xs τ Hj hj ⟨rfl, zs, rfl, hzl, hzs, hzd, tt, rfl⟩
     have hj : j < 8 := hj
     refine gyes ?_
     have el : (Txt.slice W none (some (0 + (j : Int) + 1))).length = j + 1 := by
      rw [sl_none, show (0 + (j : Int) + 1) = ((j + 1 : Nat) : Int) by omega]
      exact sl_len (Nat.zero_le _) (by omega)
     refine ⟨_, rfl, _, rfl, _, _, rfl, rfl, _, rfl, W, rfl, (by rw [j1, sizeLine_eq]; omega), ?_, rfl, zs ++ [_], (by rw [List.map_append]; rfl), (by simp [hzl]), fun y hy => ?_, (by rw [List.map_append, hzd, List.range_succ, List.map_append, List.map_cons, List.map_nil, List.map_cons, List.map_nil, el]), _, rfl⟩
     ·rw [List.length_map, sizeLine_eq]; omega
     ·rcases List.mem_append.mp hy with hy | hy
      ·exact hzs y hy
      ·have : y = Txt.slice W none (some (0 + (j : Int) + 1)) := by simpa using hy
       subst this
       exact ⟨by omega, by omega, sl_asc j2⟩
    ·rintro xs τ Hj ⟨rfl, zs, rfl, hzl, hzs, hzd, tt, rfl⟩ a na
     have hzl : zs.length = 8 := hzl
     exact fin a zs _ t _ _ _ _ _ _ _ _ (free hft kt2 na) upd_same hzl hzs (nd_of (·.length) (by rw [hzd]; show ((List.range 8).map (· + 1)).Nodup; decide)) ht (hft.same (alloc na)) (by omega) fun b o e hb => alloc na _ _ (kt2 b o e hb)
   ·refine ⟨_, rfl, rfl, _, rfl, ?_⟩
    refine ite2 (fun _ => ?_) (fun _ => ?_)
    ·-- the words of the texts
     refine ⟨(by show 8 ≤ sizeLine; decide), fun a na => ?_⟩
     refine fin a ["on", "back", "at", "off", "stay", "many", "then", "either"] _ t _ _ _ _ _ _ _ _ (free hft kt2 na) upd_same rfl (fun y hy => ?_) (by decide +kernel) ht (hft.same (alloc na)) (by omega) fun b o e hb => alloc na _ _ (kt2 b o e hb)
     simp only [List.mem_cons, List.not_mem_nil, or_false] at hy
     rcases hy with rfl | rfl | rfl | rfl | rfl | rfl | rfl | rfl <;> exact nm_lit (by decide +kernel)
    ·-- one sign changed
     refine ⟨_, rfl, _, rfl, _, _, rfl, rfl, p, (t : Int) + 1, _, rfl, hft, by omega, by omega, by omega, fun zp Hp p0 p1 hfp kp => ?_⟩
     refine ⟨_, rfl, p, 26, _, rfl, hfp, by omega, by decide, by decide, fun zs Hs s0 s1 hfs ks => ?_⟩
     have ks2 : ∀ b o, H b = some o → b ≠ p → Hs b = some o := fun b o e hb => ks b o (kp b o (kt2 b o e hb) hb) hb
     refine ⟨Nat.zero_le _, fun a na => ?_⟩
     refine ⟨8, rfl, by decide, by decide, for_range (fun j σ Hj => ∃ zl : List Str, Hj a = some (.lst (zl.map V.str)) ∧ zl.length = j ∧ (∀ y ∈ zl, Nm y) ∧ zl.map (fun y => y.cps.toList[zp.toNat]?) = (List.range j).map (letAt zs) ∧ (∀ b o, Hs b = some o → Hj b = some o) ∧ ∃ v9 v10, σ = [some (.ref p), some (.int m), some (.str LET), some (.str W), some (.int zw), some (.int t), some (.ref a), some (.int zp), some (.int zs), v9, v10])
      ⟨[], upd_same, rfl, by simp, rfl, alloc na, none, none, by rw [← hW]; rfl⟩ ?_ ?_⟩
     ·rintro j σ Hj hj ⟨zl, ha, hzl, hzs, hzd, kj2, v9, v10, rfl⟩
      have hj : j < 8 := hj
      obtain ⟨c, hc, hc2⟩ := let_at (k := ((zs + 5 * (0 + (j : Int))) % 26).toNat) (by omega)
      refine ⟨_, rfl, _, rfl, _, rfl, _, _, rfl, rfl, .inl ⟨by decide, by decide⟩, _, _, rfl, rfl, _, _, rfl, rfl, (by show (0 : Int) < 26; decide), LET, _, c, rfl, rfl, (by rw [sizeLine_eq]; decide +kernel), ?_, ?_⟩
      ·have e : ((zs + 5 * (0 + (j : Int))) % 26) = ((((zs + 5 * (0 + (j : Int))) % 26).toNat : Nat) : Int) := by omega
       rw [e]; exact atI_nat hc
      ·have w1 : W.length ≤ sizeLine := by rw [j1, sizeLine_eq]; omega
       have l1 : (Txt.slice W none (some zp)).length ≤ 8 := by have := Txt.slice_le W none (some zp); omega
       have l2 : (Txt.slice W (some (zp + 1)) (some ((t : Int) + 1))).length ≤ 8 := by have := Txt.slice_le W (some (zp + 1)) (some ((t : Int) + 1)); omega
       have l3 : (⟨#[c]⟩ : Str).length = 1 := rfl
       refine ⟨_, rfl, .inl ⟨rfl, _, SqL.of ha⟩, _, rfl, _, rfl, _, rfl, W, rfl, w1, _, rfl, _, _, rfl, rfl, (by rw [l3, sizeLine_eq]; omega), _, rfl, _, rfl, _, _, rfl, rfl, _, rfl, _, rfl, _, _, rfl, rfl, _, rfl, W, rfl, w1, _, _, rfl, rfl, (by rw [strLen_append, l3, sizeLine_eq]; omega), a, _, _, rfl, rfl, ha, (by rw [List.length_map, sizeLine_eq]; omega), ?_⟩
       refine ⟨zl ++ [_], by rw [upd_same, List.map_append]; rfl, by simp [hzl], fun y hy => ?_, ?_, fun b o e => ?_, _, _, rfl⟩
       ·rcases List.mem_append.mp hy with hy | hy
        ·exact hzs y hy
        ·have : y = Txt.slice W none (some zp) ++ ⟨#[c]⟩ ++ Txt.slice W (some (zp + 1)) (some ((t : Int) + 1)) := by simpa using hy
         subst this
         obtain ⟨zp, rfl⟩ : ∃ z : Nat, zp = z := ⟨zp.toNat, by omega⟩
         have g1 : (Txt.slice W none (some (zp : Int))).length = zp := by rw [sl_none]; exact sl_len (Nat.zero_le _) (by omega)
         have g2 : (Txt.slice W (some ((zp : Int) + 1)) (some ((t : Int) + 1))).length = (t + 1) - (zp + 1) := sl_len (a := zp + 1) (b := t + 1) (by omega) (by omega)
         refine ⟨by rw [strLen_append, strLen_append, l3]; omega, by rw [strLen_append, strLen_append, l3]; omega, ((sl_asc j2).append (one_ok hc2).2).append (sl_asc j2)⟩
       ·rw [List.map_append, hzd, List.range_succ, List.map_append, List.map_cons, List.map_nil, List.map_cons, List.map_nil]
        have g1 : (Txt.slice W none (some zp)).cps.toList.length = zp.toNat := by
         obtain ⟨z, rfl⟩ : ∃ z : Nat, zp = z := ⟨zp.toNat, by omega⟩
         have : (Txt.slice W none (some (z : Int))).length = z := by rw [sl_none]; exact sl_len (Nat.zero_le _) (by omega)
         rw [Array.length_toList]; exact this
        have e9 : (Txt.slice W none (some zp) ++ ⟨#[c]⟩ ++ Txt.slice W (some (zp + 1)) (some ((t : Int) + 1))).cps.toList = (Txt.slice W none (some zp)).cps.toList ++ [c] ++ (Txt.slice W (some (zp + 1)) (some ((t : Int) + 1))).cps.toList := by
         show ((Txt.slice W none (some zp)).cps ++ #[c] ++ (Txt.slice W (some (zp + 1)) (some ((t : Int) + 1))).cps).toList = _
         simp
        have e8 : (Txt.slice W none (some zp) ++ ⟨#[c]⟩ ++ Txt.slice W (some (zp + 1)) (some ((t : Int) + 1))).cps.toList[zp.toNat]? = letAt zs j := by
         rw [e9, List.append_assoc, List.getElem?_append_right (by omega), g1, Nat.sub_self]
         unfold letAt
         rw [show zs + 5 * (j : Int) = zs + 5 * (0 + (j : Int)) by omega, hc]; rfl
        rw [e8]
       ·rw [upd_ne (ne_of_none e na)]; exact kj2 b o e
     ·rintro σ Hj ⟨zl, ha, hzl, hzs, hzd, kj2, v9, v10, rfl⟩
      have hzl : zl.length = 8 := hzl
      exact fin a zl _ t _ _ _ _ _ _ _ _ (free hfs ks2 na) ha hzl hzs (nd_of (fun y => y.cps.toList[zp.toNat]?) (by rw [hzd]; exact let_nd s0 s1)) ht (hfs.same kj2) (by omega) fun b o e hb => kj2 _ _ (ks2 b o e hb)
end
theorem reps_strs {K : PySem.W.Frag} {w : M.Wd} : ∀ (ys : List Str), M.Reps K w (ys.map M.D.str) (ys.map V.str)
 | [] => .nil
 | y :: ys => .cons .str (reps_strs ys)
open M
section
variable {K : PySem.W.Frag} {w : Wd} {H H' : Hp} {S : Sto}
theorem put_gen {n : Nat} {a : Addr} {o o' : MO} {u' : HO} (k : Ok K w H S) (e : S[n]? = some (some o)) (ha : w.r n = some a) (h : RepO K w o' u') (hu : H' a = some u') (hk : ∀ b q, H b = some q → b ≠ a → H' b = some q) : Ok K w H' (S.set n (some o')) := by
 have g := k.put e ha h
 obtain ⟨a0, u0, h1, h2, h3, _⟩ := k.live n o e
 rw [ha] at h1; cases h1
 refine ⟨fun b q z => hk b q (k.base b q z) (by intro y; subst y; rw [h2] at z; cases z), fun m q z => ?_, g.inj, g.top⟩
 obtain ⟨b, u, g1, g2, g3, g4⟩ := g.live m q z
 by_cases hb : b = a
 ·subst hb
  rw [upd_same] at g3; cases g3
  exact ⟨b, u', g1, g2, hu, g4⟩
 ·rw [upd_ne hb] at g3
  exact ⟨b, u, g1, g2, hk b u g3 hb, g4⟩
theorem feed_at {p n : Nat} {v : V} (ok : Ok K w H S) (h : Rep K w (.loc p) v) (e : S[p]? = some (some (.feed n))) : ∃ a, v = .ref a ∧ w.r p = some a ∧ FeedAt H a n := by
 simp only [Rep] at h
 obtain ⟨a, h1, rfl⟩ := h
 obtain ⟨a', u, g1, g2, g3, l, s, rfl, g5⟩ := ok.live p _ e
 rw [h1] at g1; cases g1
 exact ⟨a, rfl, h1, l, s, g3, g5⟩
theorem repO_feed {a : Addr} {n : Nat} (h : FeedAt H' a n) : ∃ u, H' a = some u ∧ RepO K w (.feed n) u := by
 obtain ⟨l, s, h1, h2⟩ := h
 exact ⟨_, h1, l, s, rfl, h2⟩
end
noncomputable def spNextA : AN := fun ds S Q => ∃ (p : Nat) (m : Int) (n : Nat), ds = [.loc p, .int m] ∧ S[p]? = some (some (.feed n)) ∧ n < 1000 ∧ 0 < m ∧ m < 1000 ∧ ∀ z, 0 ≤ z → z < m → Q (.dat (.int z)) (S.set p (some (.feed (n + 1))))
noncomputable def spFeedA : AN := fun ds S Q => ∃ z : Int, ds = [.int z] ∧ Q (.dat (.loc S.length)) (S ++ [some (.feed 0)])
noncomputable def spCellA : AN := fun ds S Q => ∃ (ns : List Int) (k : Nat), ds = [.scr ns, .int k] ∧ k < 1000 ∧ ∀ z, Q (.dat (.int z)) S
noncomputable def spNamesA : AN := fun ds S Q => ∃ (p m n : Nat), ds = [.loc p, .int m] ∧ S[p]? = some (some (.feed n)) ∧ n + 20 < 1000 ∧ m ≤ 8 ∧ ∀ (ys : List Str) (n' : Nat), ys.length = m → (∀ y ∈ ys, Nm y) → ys.Nodup → n' ≤ n + 20 → Q (.new (.lst (ys.map D.str))) (S.set p (some (.feed n')))
section
variable {P : Program} {w : World} {K : PySem.W.Frag} {mg : Str → Option Value} {base : Heap} {cs : Nat → Addr} {CP C fi : Addr}
theorem a_Next (D : Def P w K mg base 1 "_law_next" PscNext spNext) : Def P w K mg base 1 "_law_next" PscNext (conSp K spNextA) := D.imp fun vs H Q E h => by
 obtain ⟨w, ds, S, Qa, ok, rep, ⟨p, m, n, rfl, hS, hn, h0, h1, q⟩, bk⟩ := h
 obtain ⟨v, u, rfl, r1, r2⟩ := reps2 rep
 obtain ⟨a, rfl, ha, hf⟩ := feed_at ok r1 hS
 refine ⟨a, m, n, by rw [rep_int r2 rfl], hf, hn, h0, h1, fun z H' z0 z1 hf' hk => ?_⟩
 obtain ⟨u', hu, ho⟩ := repO_feed (K := K) (w := w) hf'
 exact bk.dat .refl (put_gen ok hS ha ho hu hk) .int (q z z0 z1)
theorem a_Feed (D : Def P w K mg base 1 "_law_feed" PscFeed spFeed) : Def P w K mg base 1 "_law_feed" PscFeed (conSp K spFeedA) := D.imp fun vs H Q E h => by
 obtain ⟨w, ds, S, Qa, ok, rep, ⟨z, rfl, q⟩, bk⟩ := h
 obtain ⟨v, rfl, r1⟩ := reps1 rep
 refine ⟨z, by rw [rep_int r1 rfl], fun p H' hp hf hk => ?_⟩
 obtain ⟨u', hu, ho⟩ := repO_feed (K := K) (w := w) hf
 have ok2 : Ok K w H' S := ⟨fun b o e => hk b o (ok.base b o e), fun n o e => by
  obtain ⟨a, u, h1, h2, h3, h4⟩ := ok.live n o e
  exact ⟨a, u, h1, h2, hk a u h3, h4⟩, ok.inj, ok.top⟩
 have rr : RepR K w H' S (.new (.feed 0)) (.ref p) := ⟨p, u', rfl, ok.free hp, hu, ho, fun n o' e z => by
  obtain ⟨a, u, h1, h2, h3, h4⟩ := ok.live n o' e
  rw [z] at h1; cases h1
  rw [hp] at h3; cases h3⟩
 obtain ⟨w2, le2, ok3, rep3⟩ := store ok2 rr
 exact bk.dat le2 ok3 rep3 q
theorem a_Cell (D : Def P w K mg base 1 "_law_cell_at" PscCell (spCell K)) : Def P w K mg base 1 "_law_cell_at" PscCell (conSp K spCellA) := D.imp fun vs H Q E h => by
 obtain ⟨w, ds, S, Qa, ok, rep, ⟨ns, k, rfl, hk, q⟩, bk⟩ := h
 obtain ⟨v, u, rfl, r1, r2⟩ := reps2 rep
 obtain ⟨a, rfl, h1⟩ := see_scr ok r1 (see_scr' (S := S))
 exact ⟨a, ns, k, by rw [rep_int r2 rfl], h1, hk, fun z => bk.dat .refl ok .int (q z)⟩
theorem a_Names (D : Def P w K mg base 2 "_law_names" PscNames spNames) : Def P w K mg base 2 "_law_names" PscNames (conSp K spNamesA) := D.imp fun vs H Q E h => by
 obtain ⟨w, ds, S, Qa, ok, rep, ⟨p, m, n, rfl, hS, hn, hm, q⟩, bk⟩ := h
 obtain ⟨v, u, rfl, r1, r2⟩ := reps2 rep
 obtain ⟨a, rfl, ha, hf⟩ := feed_at ok r1 hS
 refine ⟨a, m, n, by rw [rep_int r2 rfl], hf, hn, hm, fun l ys H' d' hl hl' hlen hnm hnd hf' hd' hk => ?_⟩
 obtain ⟨u', hu, ho⟩ := repO_feed (K := K) (w := w) hf'
 have ok2 := put_gen ok hS ha ho hu hk
 refine bk (.new (.lst (ys.map M.D.str))) _ _ w H' .refl ok2 ⟨l, _, rfl, ok.free hl, hl', ⟨_, rfl, reps_strs ys⟩, fun k o' e z => ?_⟩ (q ys d' hlen hnm hnd hd')
 obtain ⟨b, u, g1, g2, g3, g4⟩ := ok.live p _ hS
 by_cases hkp : k = p
 ·subst hkp
  rw [z] at g1; cases g1
  rw [hl] at g3; cases g3
 ·rw [List.getElem?_set_ne (Ne.symm hkp)] at e
  obtain ⟨b', u', k1, k2, k3, k4⟩ := ok.live k o' e
  rw [z] at k1; cases k1
  rw [hl] at k3; cases k3
end
open PySem L2
noncomputable def bs7 : List Bool := [7 == 0, 7 == 1, 7 == 2, 7 == 3, 7 == 4, 7 == 5, 7 == 6, 7 == 7, 7 == 8, 7 == 9, 7 == 10, 7 == 11, 7 == 12, 7 == 13]
theorem bs_count : bs7.count true = 1 := by decide
theorem bs_at : bs7[7]? = some true := by decide
theorem bs_no : ∀ m, m < 7 → bs7[m]? ≠ some true := by decide
noncomputable def wl : List Str := ["knot", "mark", "name", "twice", "toomany", "tie", "meet", "text", "line", "way", "toolong", "round", "such", "pair"]
theorem wlV_at : (wl.map V.str)[7]? = some (V.str "text") := rfl
structure XSrc (K : PySem.W.Frag) (mg : Str → Option Value) (x : Str) (C : Addr) (qual : Str) (ps : List Str) (st : Stmt) : Prop where
 ex : ∃ f fd, XMk K C f ∧ Fun K "__init__" qual st f fd ∧ Binds K fd ps []
section
variable {P : Program} {w : World} {K : PySem.W.Frag} {mg : Str → Option Value} {base : Heap} {cs : Nat → Addr} {CP C fi : Addr}
noncomputable def spOwn (cs : Nat → Addr) : Sp := fun vs H Q _ => ∃ (x : Addr) (fs : List (Str × V)), vs = [.ref x] ∧ XAt (cs 7) H x fs ∧ ∀ H', Same H H' → Q (.str "text") H'
theorem d_Own (T : Txt K mg cs CP C fi) (F : Src K mg "_law_own" PscOwn sOwn) : Def P w K mg base 1 "_law_own" PscOwn (spOwn cs) := by
 refine J.defQ F scOwn (fun vs H Q E h => ?_) (fun f cdv A outer s H vs Q E hr h => ?_)
 ·obtain ⟨x, fs, rfl, _⟩ := h; rfl
 ·obtain ⟨x, fs, rfl, ⟨dx, hx, hd, hne⟩, q⟩ := h
  refine ⟨_, (J.pss_cons (J.ps_set (i := 1) scOwn.nd rfl (Or.inl rfl) (J.pe_lst (J.pac (J.pcb c_isiX (by rfl) T.isinstance (by decide +kernel) (J.pac (J.pv 0) (J.pac T.pe_NoKnot J.pa_nil))) (J.pac (J.pcb c_isiX (by rfl) T.isinstance (by decide +kernel) (J.pac (J.pv 0) (J.pac T.pe_NoMark J.pa_nil))) (J.pac (J.pcb c_isiX (by rfl) T.isinstance (by decide +kernel) (J.pac (J.pv 0) (J.pac T.pe_NoName J.pa_nil))) J.pa_nil)))))
   (J.pss_cons (J.ps_set (i := 1) scOwn.nd rfl (Or.inl rfl) (J.pe_op op_cat (J.pv 1) (J.pe_lst (J.pac (J.pcb c_isiX (by rfl) T.isinstance (by decide +kernel) (J.pac (J.pv 0) (J.pac T.pe_Twice J.pa_nil))) (J.pac (J.pcb c_isiX (by rfl) T.isinstance (by decide +kernel) (J.pac (J.pv 0) (J.pac T.pe_TooMany J.pa_nil))) (J.pac (J.pcb c_isiX (by rfl) T.isinstance (by decide +kernel) (J.pac (J.pv 0) (J.pac T.pe_NoTie J.pa_nil))) J.pa_nil))))))
   (J.pss_cons (J.ps_set (i := 1) scOwn.nd rfl (Or.inl rfl) (J.pe_op op_cat (J.pv 1) (J.pe_lst (J.pac (J.pcb c_isiX (by rfl) T.isinstance (by decide +kernel) (J.pac (J.pv 0) (J.pac T.pe_NoMeet J.pa_nil))) (J.pac (J.pcb c_isiX (by rfl) T.isinstance (by decide +kernel) (J.pac (J.pv 0) (J.pac T.pe_NoText J.pa_nil))) (J.pac (J.pcb c_isiX (by rfl) T.isinstance (by decide +kernel) (J.pac (J.pv 0) (J.pac T.pe_NoLine J.pa_nil))) J.pa_nil))))))
   (J.pss_cons (J.ps_set (i := 1) scOwn.nd rfl (Or.inl rfl) (J.pe_op op_cat (J.pv 1) (J.pe_lst (J.pac (J.pcb c_isiX (by rfl) T.isinstance (by decide +kernel) (J.pac (J.pv 0) (J.pac T.pe_NoWay J.pa_nil))) (J.pac (J.pcb c_isiX (by rfl) T.isinstance (by decide +kernel) (J.pac (J.pv 0) (J.pac T.pe_TooLong J.pa_nil))) (J.pac (J.pcb c_isiX (by rfl) T.isinstance (by decide +kernel) (J.pac (J.pv 0) (J.pac T.pe_GoesRound J.pa_nil))) J.pa_nil))))))
   (J.pss_cons (J.ps_set (i := 1) scOwn.nd rfl (Or.inl rfl) (J.pe_op op_cat (J.pv 1) (J.pe_lst (J.pac (J.pcb c_isiX (by rfl) T.isinstance (by decide +kernel) (J.pac (J.pv 0) (J.pac T.pe_NoSuch J.pa_nil))) (J.pac (J.pcb c_isiX (by rfl) T.isinstance (by decide +kernel) (J.pac (J.pv 0) (J.pac T.pe_NoPair J.pa_nil))) J.pa_nil)))))
   (J.pss_cons (J.ps_if (J.pw_pt (J.pw_or (J.pt_not (J.pt_val (J.pcb c_isiX (by rfl) T.isinstance (by decide +kernel) (J.pac (J.pv 0) (J.pac (J.pe_ty "ValueError" (by rfl) T.ValueError (by decide +kernel)) J.pa_nil))))) (J.pw_or1 (J.pt_cmpR op_ne (J.pe_bmK PySem.F.plainAttrs_list PySem.F.slot_list_count PySem.F.type_list_count mt_countB (J.pv 1) (J.pac J.pe_bl J.pa_nil)) J.pe_int (nomark _)))))
    (J.pss_one (J.ps_ret J.pe_str))
    J.pss_nil)
   (J.pss_cons (J.ps_set (i := 2) scOwn.nd rfl (Or.inl rfl) (J.pe_lst (J.pac J.pe_str (J.pac J.pe_str (J.pac J.pe_str (J.pac J.pe_str (J.pac J.pe_str (J.pac J.pe_str (J.pac J.pe_str (J.pac J.pe_str (J.pac J.pe_str (J.pac J.pe_str (J.pac J.pe_str (J.pac J.pe_str J.pa_nil))))))))))))))
   (J.pss_one (J.ps_ret (J.pe_ix ixL (J.pe_op op_cat (J.pv 2) (J.pe_lst (J.pac J.pe_str (J.pac J.pe_str J.pa_nil)))) (J.pe_bmK PySem.F.plainAttrs_list PySem.F.slot_list_index PySem.F.type_list_index mt_indexB (J.pv 1) (J.pac J.pe_bl J.pa_nil)) (fun _ _ => rfl))))))))))), ?_⟩
  refine seqG fun N hN => ?_
  refine ⟨_, rfl, x, cs 7, some dx, _, _, _, rfl, hx, .inr ⟨dx, fs, rfl, hd⟩, T.xi, relRef.1, relRef.2, T.kit 0 (by decide), _, rfl, x, cs 7, some dx, _, _, _, rfl, hx, .inr ⟨dx, fs, rfl, hd⟩, T.xi, relRef.1, relRef.2, T.kit 1 (by decide), _, rfl, x, cs 7, some dx, _, _, _, rfl, hx, .inr ⟨dx, fs, rfl, hd⟩, T.xi, relRef.1, relRef.2, T.kit 2 (by decide), (by show 3 ≤ sizeLine; decide), fun a1 n1 => ?_⟩
  have s1 := alloc (o := .lst [.bl (7 == 0), .bl (7 == 1), .bl (7 == 2)]) n1
  refine hN _ _ ?_
  refine seqG fun N hN => ?_
  refine ⟨_, rfl, _, rfl, x, cs 7, some dx, _, _, _, rfl, s1 _ _ hx, .inr ⟨dx, fs, rfl, s1 _ _ hd⟩, T.xi, relRef.1, relRef.2, T.kit 3 (by decide), _, rfl, x, cs 7, some dx, _, _, _, rfl, s1 _ _ hx, .inr ⟨dx, fs, rfl, s1 _ _ hd⟩, T.xi, relRef.1, relRef.2, T.kit 4 (by decide), _, rfl, x, cs 7, some dx, _, _, _, rfl, s1 _ _ hx, .inr ⟨dx, fs, rfl, s1 _ _ hd⟩, T.xi, relRef.1, relRef.2, T.kit 5 (by decide), (by show 3 ≤ sizeLine; decide), fun a2 n2 => ?_⟩
  have t1 := s1.trans (alloc (o := .lst [.bl (7 == 3), .bl (7 == 4), .bl (7 == 5)]) n2)
  refine ⟨a1, a2, _, _, rfl, rfl, alloc n2 _ _ upd_same, upd_same, (by show 6 ≤ sizeLine; decide), fun a3 n3 => ?_⟩
  have s2 := t1.trans (alloc (o := .lst ([.bl (7 == 0), .bl (7 == 1), .bl (7 == 2)] ++ [.bl (7 == 3), .bl (7 == 4), .bl (7 == 5)])) n3)
  refine hN _ _ ?_
  refine seqG fun N hN => ?_
  refine ⟨_, rfl, _, rfl, x, cs 7, some dx, _, _, _, rfl, s2 _ _ hx, .inr ⟨dx, fs, rfl, s2 _ _ hd⟩, T.xi, relRef.1, relRef.2, T.kit 6 (by decide), _, rfl, x, cs 7, some dx, _, _, _, rfl, s2 _ _ hx, .inr ⟨dx, fs, rfl, s2 _ _ hd⟩, T.xi, relRef.1, relRef.2, T.kit 7 (by decide), _, rfl, x, cs 7, some dx, _, _, _, rfl, s2 _ _ hx, .inr ⟨dx, fs, rfl, s2 _ _ hd⟩, T.xi, relRef.1, relRef.2, T.kit 8 (by decide), (by show 3 ≤ sizeLine; decide), fun a4 n4 => ?_⟩
  have t2 := s2.trans (alloc (o := .lst [.bl (7 == 6), .bl (7 == 7), .bl (7 == 8)]) n4)
  refine ⟨a3, a4, _, _, rfl, rfl, alloc n4 _ _ upd_same, upd_same, (by show 9 ≤ sizeLine; decide), fun a5 n5 => ?_⟩
  have s3 := t2.trans (alloc (o := .lst ([.bl (7 == 0), .bl (7 == 1), .bl (7 == 2)] ++ [.bl (7 == 3), .bl (7 == 4), .bl (7 == 5)] ++ [.bl (7 == 6), .bl (7 == 7), .bl (7 == 8)])) n5)
  refine hN _ _ ?_
  refine seqG fun N hN => ?_
  refine ⟨_, rfl, _, rfl, x, cs 7, some dx, _, _, _, rfl, s3 _ _ hx, .inr ⟨dx, fs, rfl, s3 _ _ hd⟩, T.xi, relRef.1, relRef.2, T.kit 9 (by decide), _, rfl, x, cs 7, some dx, _, _, _, rfl, s3 _ _ hx, .inr ⟨dx, fs, rfl, s3 _ _ hd⟩, T.xi, relRef.1, relRef.2, T.kit 10 (by decide), _, rfl, x, cs 7, some dx, _, _, _, rfl, s3 _ _ hx, .inr ⟨dx, fs, rfl, s3 _ _ hd⟩, T.xi, relRef.1, relRef.2, T.kit 11 (by decide), (by show 3 ≤ sizeLine; decide), fun a6 n6 => ?_⟩
  have t3 := s3.trans (alloc (o := .lst [.bl (7 == 9), .bl (7 == 10), .bl (7 == 11)]) n6)
  refine ⟨a5, a6, _, _, rfl, rfl, alloc n6 _ _ upd_same, upd_same, (by show 12 ≤ sizeLine; decide), fun a7 n7 => ?_⟩
  have s4 := t3.trans (alloc (o := .lst ([.bl (7 == 0), .bl (7 == 1), .bl (7 == 2)] ++ [.bl (7 == 3), .bl (7 == 4), .bl (7 == 5)] ++ [.bl (7 == 6), .bl (7 == 7), .bl (7 == 8)] ++ [.bl (7 == 9), .bl (7 == 10), .bl (7 == 11)])) n7)
  refine hN _ _ ?_
  refine seqG fun N hN => ?_
  refine ⟨_, rfl, _, rfl, x, cs 7, some dx, _, _, _, rfl, s4 _ _ hx, .inr ⟨dx, fs, rfl, s4 _ _ hd⟩, T.xi, relRef.1, relRef.2, T.kit 12 (by decide), _, rfl, x, cs 7, some dx, _, _, _, rfl, s4 _ _ hx, .inr ⟨dx, fs, rfl, s4 _ _ hd⟩, T.xi, relRef.1, relRef.2, T.kit 13 (by decide), (by show 2 ≤ sizeLine; decide), fun a8 n8 => ?_⟩
  have t4 := s4.trans (alloc (o := .lst [.bl (7 == 12), .bl (7 == 13)]) n8)
  refine ⟨a7, a8, _, _, rfl, rfl, alloc n8 _ _ upd_same, upd_same, (by show 14 ≤ sizeLine; decide), fun a9 n9 => ?_⟩
  have s5 := t4.trans (alloc (o := .lst ([.bl (7 == 0), .bl (7 == 1), .bl (7 == 2)] ++ [.bl (7 == 3), .bl (7 == 4), .bl (7 == 5)] ++ [.bl (7 == 6), .bl (7 == 7), .bl (7 == 8)] ++ [.bl (7 == 9), .bl (7 == 10), .bl (7 == 11)] ++ [.bl (7 == 12), .bl (7 == 13)])) n9)
  refine hN _ _ ?_
  refine seqG fun N hN => ?_
  refine ⟨_, rfl, x, cs 7, some dx, _, _, _, rfl, s5 _ _ hx, .inr ⟨dx, fs, rfl, s5 _ _ hd⟩, T.xi, relTy.1, relTy.2, T.kitV, _, rfl, iteF ?_⟩
  refine ⟨_, rfl, .inl ⟨rfl, _, SqL.of upd_same⟩, a9, bs7, true, rfl, rfl, SqL.of (xs := (bs7).map V.bl) upd_same, rfl, _, rfl, ?_⟩
  refine iteNS (by rw [bs_count]; rfl) ?_
  refine hN _ _ ?_
  refine seqG fun N hN => ?_
  refine ⟨(by show 12 ≤ sizeLine; decide), fun c1 m1 => ?_⟩
  refine hN _ _ ?_
  refine ⟨_, rfl, (by show 2 ≤ sizeLine; decide), fun c2 m2 => ?_⟩
  refine ⟨c1, c2, _, _, rfl, rfl, alloc m2 _ _ upd_same, upd_same, (by show 14 ≤ sizeLine; decide), fun c3 m3 => ?_⟩
  refine ⟨_, rfl, .inl ⟨rfl, _, SqL.of (alloc m3 _ _ (alloc m2 _ _ (alloc m1 _ _ upd_same)))⟩, a9, bs7, true, 7, rfl, rfl, SqL.of (xs := (bs7).map V.bl) (alloc m3 _ _ (alloc m2 _ _ (alloc m1 _ _ upd_same))), bs_at, bs_no, ?_⟩
  exact ⟨c3, wl.map V.str, _, V.str ("text"), rfl, rfl, SqL.of (xs := wl.map V.str) upd_same, atI_nat (wlV_at), q _ (s5.trans ((alloc m1).trans ((alloc m2).trans (alloc m3))))⟩
theorem d_NoText (T : Txt K mg cs CP C fi) (F : XSrc K mg "NoText" (cs 7) "NoText.__init__" PscNoText sNoText) : XDef P w K mg base 1 "NoText" (cs 7) PscNoText (spN1 (cs 7) "at") := by
 obtain ⟨f, fd, M, F', hb⟩ := F.ex
 refine ⟨⟨f, fd, M, F'.ok scNoText (fun vs H Q E h => ?_) (fun cdv A outer s H vs Q E hr h => ?_), hb⟩, T.g_NoText⟩
 ·obtain ⟨x, v, rfl, _⟩ := h; rfl
 ·obtain ⟨x, v, rfl, hx, q⟩ := h
  refine ⟨_, pss_cons (ps_expr (pe_initN (by rfl) T.at_PathError T.base_PathError (L2.pac (pv 0) (L2.pac (pv 1) pa_nil)))) (pss_one (ps_fldN0 (pv 0) (pv 1))), ?_⟩
  exact ⟨_, rfl, _, rfl, x, [v], cs 7, none, rfl, (by show 1 ≤ 1000; decide), hx, T.xi.ex, _, rfl, _, rfl, x, cs 7, rfl, hx, T.xi.toXCls, T.fl, fun dx nd => q dx nd⟩
end
open PySem L2 M
theorem set_at {S : Sto} {p : Nat} {o : Option MO} {o' : MO} (h : S[p]? = some o) : (S.set p (some o'))[p]? = some (some o') := by
 rw [List.getElem?_set, if_pos rfl, if_pos (List.getElem?_eq_some_iff.mp h).1]
local macro_rules
 | `(tactic| push_cast [$xs,*]) => `(tactic| simp only [$xs,*, aRet, aRetN, aAndV, aOrV, aNotV, aCall, aCons, aNil, aVar, aC, aOp, aUn, aB, aTru, aIf, aSeq, aIfS, aNot, aAnd, aOr, aAsg, agName, aNext, aChain, aSl, aPart, aNoPart, aDrop, aTup, aLst, rd_dat, rd_new, mod_lst, le_int', lt_int', aI_int, add_int', add_lst', eq_int', eq_str', tru_bl, tru_lst, tru_tup, true_and, aIsi, aLen, see_int', see_str', see_bl', see_non', see_tup', see_lst', see_stc', see_scr', List.getElem?_cons_zero, List.getElem?_cons_succ, List.set_cons_zero, List.set_cons_succ, Option.some.injEq, exists_eq_left', List.cons.injEq, and_true, D.ty.injEq, D.bl.injEq, D.int.injEq, D.str.injEq, and_assoc, exists_and_left, exists_eq_left, exists_and_right, ret_bl, ret_int, Bool.false_eq_true, if_true, if_false, Bool.not_true, Bool.not_false])
section
variable {P : Program} {w : World} {K : PySem.W.Frag} {mg : Str → Option Value} {base : Heap} {cs : Nat → Addr} {CP C fi : Addr}
theorem isi_of {S : Sto} {x : D} (h : pur x = true) : isiD (see S x) "tuple" = some (match x with | .tup _ => true | _ => false) ∧ isiD (see S x) "str" = some (match x with | .str _ => true | _ => false) := by
 rw [see_pur h]
 cases x <;> first | (simp [pur] at h; done) | exact ⟨rfl, rfl⟩
noncomputable def isName (x : D) : Bool := match x with
 | .str s => decide (1 ≤ s.length) && decide (s.length ≤ 8) && s.cps.toList.all isLow
 | _ => false
noncomputable def lowD : D → D
 | .str s => .bl (s.cps.toList.all isLow)
 | d => d
theorem lt1 (a b : Nat) : decide ([a] < [b]) = decide (a < b) := by
 by_cases h : a < b
 ·rw [decide_eq_true h]; exact decide_eq_true (by simpa [List.cons_lt_cons_iff] using h)
 ·rw [decide_eq_false h]; exact decide_eq_false (by simpa [List.cons_lt_cons_iff] using h)
theorem low_sign {c : Nat} {δ : AEnv} {S : Sto} {Q : AK} (q : Q (.dat (lowD (.str ⟨#[c]⟩))) S) : aChain aLe aLe (aC (.str "a")) (aVar 0) (aC (.str "z")) ((captA [none] δ).set 0 (some (.str ⟨#[c]⟩))) S Q := by
 have e1 : (("a" : Str)).cps.toList = [97] := by decide +kernel
 have e2 : (("z" : Str)).cps.toList = [122] := by decide +kernel
 have e3 : (⟨#[c]⟩ : Str).cps.toList = [c] := rfl
 simp only [captA, List.map_cons, List.map_nil, Option.bind_none, List.set_cons_zero, aChain, aC, aVar, List.getElem?_cons_zero, Option.some.injEq, exists_eq_left', rd_dat, le_str', D.bl.injEq, e1, e2, e3, lt1]
 have q : Q (.dat (.bl ((decide (97 ≤ c) && decide (c ≤ 122)) && true))) S := q
 rw [Bool.and_true] at q
 refine ite2 (fun h => ?_) (fun h => ?_)
 ·have h : 97 ≤ c := by simpa using h
  rw [decide_eq_true h, Bool.true_and] at q
  have : (!decide (122 < c)) = decide (c ≤ 122) := by
   by_cases z : c ≤ 122
   ·simp [z]
   ·simp [z]; omega
  rw [this]; exact q
 ·have h : ¬ 97 ≤ c := by intro z; exact h (by simp; omega)
  rw [decide_eq_false h, Bool.false_and] at q
  exact q
noncomputable def spName : AN := fun ds S Q => ∃ x, ds = [x] ∧ pur x = true ∧ (∀ s, x = .str s → s.length ≤ 1000) ∧ Q (.dat (.bl (isName x))) S
theorem d_Name (T : Txt K mg cs CP C fi) (F : Src K mg "is_name" PscName sName) : Def P w K mg base 1 "is_name" PscName (conSp K spName) := by
 refine defA F scName (fun ds S Q h => ?_) (fun f cdv A outer s H E hr => ?_)
 ·obtain ⟨x, rfl, _⟩ := h; rfl
 ·refine ⟨_, (M.pss_cons (M.ps_if (M.pt_not (M.pt_val (M.pcb M.o_isi (by rfl) T.isinstance (by decide +kernel) (M.pac (M.pv 0) (M.pac (M.pe_ty "str" (by rfl) T.str (by decide +kernel)) M.pa_nil)))))
    (M.pss_one (M.ps_ret M.pe_bl))
    M.pss_nil)
   (M.pss_one (M.ps_ret (M.pe_and (M.pe_chain M.o_le M.o_le M.pe_int (M.pcb M.o_len (by rfl) T.len (by decide +kernel) (M.pac (M.pv 0) M.pa_nil)) T.pe_LONGEST) (M.pe_one (M.pcb (M.o_all rfl) (by rfl) T.all (by decide +kernel) (M.pac (M.pe_comp (N := ["sign"]) (caps := [none]) (bs_mk (by decide +kernel)) (by rfl) (by rfl) rfl (M.pi_any (M.pv 0)) (fun _ _ _ _ => (M.pg_name (i := 0) (by decide +kernel : List.Nodup (["sign"] : List Str)) rfl (Or.inl rfl))) (fun _ _ _ _ => M.pts_nil) (fun _ _ _ _ => (M.pe_chain M.o_le M.o_le M.pe_str (M.pv 0) M.pe_str))) M.pa_nil))))))), fun ds S Q h => ?_⟩
  obtain ⟨x, rfl, hp, hl, q⟩ := h
  have e0 : startA NscName [x] = [some x] := rfl
  rw [e0]
  push_cast [(isi_of (S := S) hp).2]
  cases x <;> first | (simp [pur] at hp; done) | skip
  case str y =>
   push_cast [true_and]
   have hy := hl y rfl
   refine ⟨y.length, by simp only [lenD]; rw [if_pos (by rw [sizeLine_eq]; omega)], ?_⟩
   have hn : isName (.str y) = (decide (1 ≤ y.length) && decide (y.length ≤ 8) && y.cps.toList.all isLow) := rfl
   rw [hn] at q
   refine ite2 (fun h1 => ?_) (fun h1 => ?_)
   ·have h1 : 1 ≤ y.length := by have := of_decide_eq_true h1; omega
    refine ite2 (fun h2 => ?_) (fun h2 => ?_)
    ·have h2 : y.length ≤ 8 := by have := of_decide_eq_true h2; omega
     rw [decide_eq_true h1, decide_eq_true h2] at q
     simp only [aComp, iAny, iAnyD, aVar, List.getElem?_cons_zero, Option.some.injEq, exists_eq_left', rd_dat]
     have hlen : (M.signs y).length = y.length := by simp [M.signs, Str.length]
     refine comp_map (δ := captA [none] [some (.str y)]) lowD trivial (M.signs y) [] _ rfl (fun x hx Q' q' => ?_) (by rw [hlen, sizeLine_eq]; simp; omega) ?_
     ·obtain ⟨c, hc, rfl⟩ := List.mem_map.mp hx
      exact low_sign q'
     ·rw [List.nil_append]
      refine ⟨_, y.cps.toList.map isLow, rfl, ?_, ?_⟩
      ·simp only [rd_new, mod_lst, see_lst', M.signs, List.map_map]
       refine congrArg D.lst (List.map_congr_left fun c _ => ?_)
       show D.bl (isLow c && true) = D.bl (isLow c)
       rw [Bool.and_true]
      ·show M.ret S S _ Q
       rw [ret_bl]
       simpa [List.all_map] using q
    ·have h2 : ¬ y.length ≤ 8 := by intro z; exact h2 (decide_eq_true (by omega))
     rw [decide_eq_false h2, Bool.and_false, Bool.false_and] at q
     exact q
   ·have h1 : ¬ 1 ≤ y.length := by intro z; exact h1 (decide_eq_true (by omega))
    rw [decide_eq_false h1, Bool.false_and, Bool.false_and] at q
    exact q
  all_goals (push_cast [true_and]; exact q)
noncomputable def spP (p : Str → Bool) : AN := fun ds S Q => ∃ y, ds = [.str y] ∧ okS y = true ∧ Q (.dat (.bl (p y))) S
noncomputable abbrev SD : List Str := ["on", "back"]
theorem d_Side (T : Txt K mg cs CP C fi) (F : Src K mg "is_side" PscSide sSide) : Def P w K mg base 1 "is_side" PscSide (conSp K (spP fun y => inS (.str y) SD)) := by
 refine defA F scSide (fun ds S Q h => ?_) (fun f cdv A outer s H E hr => ?_)
 ·obtain ⟨y, rfl, _⟩ := h; rfl
 ·refine ⟨_, (M.pss_one (M.ps_ret (M.pe_cmpR (M.o_in hr) (M.pv 0) T.pe_SIDES rfl))), fun ds S Q h => ?_⟩
  obtain ⟨y, rfl, hy, q⟩ := h
  have e0 : startA NscSide [.str y] = [some (.str y)] := rfl
  rw [e0]
  push_cast [true_and]
  refine in_stc (n := 0) (by show okS y = true; exact hy) (by decide) (by decide +kernel) ?_ (by decide)
  rw [Bool.false_bne, ret_bl]; exact q
noncomputable abbrev RK : List Str := ["words", "at", "parts"]
noncomputable abbrev rdr (C : Addr) (ws : List Str) (i n : Nat) : MO := .ins C RK [.lst (ws.map D.str), .int i, .int n]
theorem bels_strs (m : Nat) : ∀ ss : List Str, bels m (ss.map D.str) = true
 | [] => by simp [bels]
 | s :: ss => by simp only [List.map_cons, bels, bel, Bool.true_and]; exact bels_strs m ss
theorem rdr_bel (m : Nat) {ws : List Str} {i n : Nat} : belO m (rdr C ws i n) = true := by
 simp only [belO, bels, bel, Bool.and_true]; exact bels_strs m ws
theorem ret_rdr {S : Sto} {p : Nat} {ws : List Str} {i n : Nat} {d : D} {Q : AK} (h : pur d = true) (q : Q (.dat d) (S.set p (some (rdr C ws i n)))) : M.ret S (S.set p (some (rdr C ws i n))) (.dat d) Q := by
 refine ⟨_, out_dat h, fun k o hk e => ?_, by rw [List.take_of_length_le (by simp)]; exact q⟩
 by_cases hkp : p = k
 ·subst hkp
  rw [List.getElem?_set, if_pos rfl, if_pos hk] at e
  have e : rdr C ws i n = o := by simpa using e
  subst e
  exact .inr (rdr_bel _)
 ·rw [List.getElem?_set_ne hkp] at e
  exact .inl e
theorem set_same {S : Sto} {p : Nat} {o : MO} (h : S[p]? = some (some o)) : S.set p (some o) = S := by
 refine List.ext_getElem? fun k => ?_
 by_cases hk : p = k
 ·subst hk
  have hl : p < S.length := by
   rcases Nat.lt_or_ge p S.length with z | z
   ·exact z
   ·rw [List.getElem?_eq_none z] at h; cases h
  rw [List.getElem?_set, if_pos rfl, if_pos hl, h]
 ·rw [List.getElem?_set_ne hk]
noncomputable def spInit (C : Addr) : AN := fun ds S Q => ∃ n t, ds = [.loc n, .str t] ∧ S[n]? = some (some (.ins C [] [])) ∧ t.length ≤ 10000 ∧ Q (.dat .non) (S.set n (some (rdr C (PySem.Txt.split t " ") 0 0)))
noncomputable def spMore (C : Addr) : AN := fun ds S Q => ∃ n ws i m, ds = [.loc n] ∧ S[n]? = some (some (rdr C ws i m)) ∧ ws.length ≤ 10000 ∧ Q (.dat (.bl (decide (i < ws.length)))) S
theorem d_Init (T : Txt K mg cs CP C fi) {fd : FuncData} (F : Fun K "__init__" "Reader.__init__" sInit fi fd) : FnOk P w K mg base CX0 1 fi fd PscInit (conSp K (spInit C)) := by
 refine okB F scInit (fun ds S Q h => ?_) (fun f cdv A outer s H E hr => ?_)
 ·obtain ⟨n, t, rfl, _⟩ := h; rfl
 ·refine ⟨_, (M.pss_cons (M.ps_fld (M.pv 0) (M.pe_bm PySem.F.plainAttrs_str PySem.F.slot_str_split PySem.F.type_str_split M.m_split (M.pv 1) (M.pac M.pe_str M.pa_nil)) T.cl T.n_words)
   (M.pss_cons (M.ps_fld (M.pv 0) M.pe_int T.cl T.n_at)
   (M.pss_one (M.ps_fld (M.pv 0) M.pe_int T.cl T.n_parts)))), fun ds S Q h => ?_⟩
  obtain ⟨n, t, rfl, hS, ht, q⟩ := h
  have e0 : startA NscInit [.loc n, .str t] = [some (.loc n), some (.str t)] := rfl
  rw [e0]
  push_cast [aBM, isTy, true_and, sFldA]
  refine ⟨t, " ", rfl, rfl, by decide +kernel, (by rw [sizeLine_eq]; omega), ?_⟩
  refine ⟨n, rfl, [], [], hS, by decide, n, rfl, _, _, set_at hS, (by simp [putD]), ?_⟩
  simp only [List.set_set]
  have wa : ¬ (("words" : Str) = "at") := by decide +kernel
  refine ⟨n, rfl, _, _, set_at hS, (by simp [putD, wa]), ?_⟩
  simp only [List.set_set]
  exact ret_rdr rfl q
theorem lk_words {ws : List Str} {i n : Nat} : (RK.zip ([.lst (ws.map D.str), .int i, .int n] : List D)).lookup ("words" : Str) = some (D.lst (ws.map D.str)) := rfl
theorem lk_at {ws : List Str} {i n : Nat} : (RK.zip ([.lst (ws.map D.str), .int i, .int n] : List D)).lookup ("at" : Str) = some (D.int i) := by
 simp only [RK, List.zip_cons_cons, List.lookup_cons]; rfl
theorem d_More (T : Txt K mg cs CP C fi) (F : SrcM K C "has_more" "Reader.has_more" PscMore sMore) : DefM P w K mg base 1 C "has_more" PscMore (spMore C) := by
 refine defM F scMore (fun ds S Q h => ?_) (fun f cdv A outer s H E hr => ?_)
 ·obtain ⟨n, ws, i, m, rfl, _⟩ := h; rfl
 ·refine ⟨_, (M.pss_one (M.ps_ret (M.pe_cmpR M.o_lt (M.pe_fld (M.pv 0) T.cl T.n_at) (M.pcb M.o_len (by rfl) T.len (by decide +kernel) (M.pac (M.pe_fld (M.pv 0) T.cl T.n_words) M.pa_nil)) (nomark _)))), fun ds S Q h => ?_⟩
  obtain ⟨n, ws, i, m, rfl, hS, hl, q⟩ := h
  have e0 : startA NscMore [.loc n] = [some (.loc n)] := rfl
  rw [e0]
  push_cast [aFld]
  refine ⟨n, rfl, RK, _, hS, _, lk_at, n, rfl, RK, _, hS, _, lk_words, ws.length, by simp only [see_lst', lenD, List.length_map], ?_⟩
  rw [lt_int', ret_bl]
  have : decide ((i : Int) < (ws.length : Int)) = decide (i < ws.length) := by
   by_cases h : i < ws.length
   ·rw [decide_eq_true h]; exact decide_eq_true (by omega)
   ·rw [decide_eq_false h]; exact decide_eq_false (by omega)
  rw [this]; exact q
theorem put_at {ws : List Str} {i m k : Int} : putD "at" (.int k) RK [.lst (ws.map D.str), .int i, .int m] = (RK, [.lst (ws.map D.str), .int k, .int m]) := by
 have wa : ¬ (("words" : Str) = "at") := by decide +kernel
 simp [putD, wa]
noncomputable def IsP (P : Program) (w : World) (K : PySem.W.Frag) (mg : Str → Option Value) (base : Heap) (f : Addr) (p : Str → Bool) : Prop := ∃ ps, FnV P w K mg base 3 f ps (spP p)
noncomputable def spRWord (P : Program) (w : World) (K : PySem.W.Frag) (mg : Str → Option Value) (base : Heap) (C : Addr) : AN := fun ds S Q => ∃ n f p ws i m y, ds = [.loc n, .fn f] ∧ IsP P w K mg base f p ∧ S[n]? = some (some (rdr C ws i m)) ∧ ws.length ≤ 10000 ∧ ws[i]? = some y ∧ okS y = true ∧ p y = true ∧ Q (.dat (.str y)) (S.set n (some (rdr C ws (i + 1) m)))
theorem f_RWord {fr : Addr} {fd : FuncData} (T : Txt K mg cs CP C fi) (F : Fun K "read_word" "Reader.read_word" sRWord fr fd) (D_has_more : DefM P w K mg base 1 C "has_more" PscMore (spMore C)) : FnOk P w K mg base CX0 4 fr fd PscRWord (conSp K (spRWord P w K mg base C)) := by
 refine okB F scRWord (fun ds S Q h => ?_) (fun f cdv A outer s H E hr => ?_)
 ·obtain ⟨n, f, p, ws, i, m, y, rfl, _⟩ := h; rfl
 ·refine ⟨_, (M.pss_cons (M.ps_if (M.pw_pt (M.pw_or (M.pt_not (M.pt_val (M.pe_meth0 (M.pv 0) T.cl D_has_more (hr.mono (by decide))))) (M.pw_or1 (M.pt_not (M.pt_val (M.pe_callV 3 (L2.pv 1) (hr.mono (by decide)) (M.pac (M.pe_ix M.o_ix (M.pe_fld (M.pv 0) T.cl T.n_words) (M.pe_fld (M.pv 0) T.cl T.n_at) (fun _ _ => rfl)) M.pa_nil)))))))
    (M.pss_one M.ps_never)
    M.pss_nil)
   (M.pss_cons (M.ps_fldAdd (M.pv 0) M.pe_int T.cl T.n_at)
   (M.pss_one (M.ps_ret (M.pe_ix M.o_ix (M.pe_fld (M.pv 0) T.cl T.n_words) (M.pe_op M.o_sub (M.pe_fld (M.pv 0) T.cl T.n_at) M.pe_int) (fun _ _ => rfl)))))), fun ds S Q h => ?_⟩
  obtain ⟨n, f, p, ws, i, m, y, rfl, hp, hS, hl, hy, hok, hpy, q⟩ := h
  have e0 : startA NscRWord [.loc n, .fn f] = [some (.loc n), some (.fn f)] := rfl
  rw [e0]
  have hi : i < ws.length := by
   rcases Nat.lt_or_ge i ws.length with z | z
   ·exact z
   ·rw [List.getElem?_eq_none z] at hy; cases hy
  have hat : ∀ k : Nat, ws[k]? = some y → atI (ws.map D.str) (k : Int) = some (.str y) := fun k h => atI_nat (by rw [List.getElem?_map, h]; rfl)
  push_cast [aMeth]
  refine ⟨n, rfl, RK, ⟨_, hS⟩, by decide +kernel, n, ws, i, m, rfl, hS, hl, _, rfl, ?_⟩
  rw [decide_eq_true hi, if_neg (by decide)]
  refine ⟨f, spP p, rfl, hp, ⟨_, rfl, n, RK, _, _, rfl, hS, lk_words, _, rfl, n, RK, _, _, rfl, hS, lk_at, .str y, hat i hy, y, rfl, hok, _, rfl, ?_⟩⟩
  rw [hpy, if_neg (by decide)]
  refine ⟨_, rfl, n, RK, _, _, rfl, hS, lk_at, 1, RK, _, rfl, hS, by decide, ?_⟩
  have ep : ∀ k : Int, putD "at" (.int k) RK [.lst (ws.map D.str), .int i, .int m] = (RK, [.lst (ws.map D.str), .int k, .int m]) := fun k => put_at
  have e1 : (i : Int) + 1 = ((i + 1 : Nat) : Int) := by omega
  rw [ep, e1]
  have hS2 := set_at (o' := rdr C ws (i + 1) m) hS
  refine ⟨_, rfl, n, RK, _, _, rfl, hS2, lk_words, _, rfl, n, RK, _, _, rfl, hS2, lk_at, _, _, rfl, rfl, trivial, .str y, ?_, ret_rdr rfl q⟩
  have e2 : ((i + 1 : Nat) : Int) - 1 = (i : Int) := by omega
  rw [e2]
  exact hat i hy
end
open PySem L2 M
noncomputable abbrev Ti := Str × Str × Str
noncomputable abbrev T3 (t : Ti) : D := .tup [.str t.1, .str t.2.1, .str t.2.2]
noncomputable abbrev wayD (k : Str) (us : List Ti) : D := .tup [.str k, .tup (us.map T3)]
theorem purs_T3 : ∀ us : List Ti, purs (us.map T3) = true
 | [] => rfl
 | t :: us => by simp [purs, M.pur, purs_T3 us]
theorem pur_way (k : Str) (us : List Ti) : pur (wayD k us) = true := by
 simp only [wayD, M.pur, purs, Bool.true_and, Bool.and_true]; exact purs_T3 us
noncomputable def fl3 : List Ti → List Str
 | [] => []
 | u :: us => u.1 :: u.2.1 :: u.2.2 :: fl3 us
theorem fl3_app : ∀ (us : List Ti) (t : Ti), fl3 (us ++ [t]) = fl3 us ++ [t.1, t.2.1, t.2.2]
 | [], _ => rfl
 | u :: us, t => by simp [fl3, fl3_app us t]
theorem fl3_len : ∀ us : List Ti, (fl3 us).length = 3 * us.length
 | [] => rfl
 | u :: us => by simp only [fl3, List.length_cons, fl3_len us]; omega
noncomputable def okAt (i : Nat) (y : Str) : Bool := if i % 3 = 1 then inS (.str y) SD && decide (i ≤ 180) else isName (.str y)
noncomputable def wrg : Nat → List Str → Option Nat
 | i, [] => if i % 3 = 1 then none else some i
 | i, y :: r => if okAt i y = true then wrg (i + 1) r else some i
theorem wrg_yes {i n : Nat} {y : Str} {r : List Str} (h : wrg i (y :: r) = some n) (hy : okAt i y = true) : wrg (i + 1) r = some n := by
 unfold wrg at h; rw [if_pos hy] at h; exact h
theorem wrg_no {i n : Nat} {y : Str} {r : List Str} (h : wrg i (y :: r) = some n) (hy : ¬ okAt i y = true) : n = i := by
 unfold wrg at h; rw [if_neg hy] at h; exact (Option.some.inj h).symm
noncomputable def badW (P : Program) (w : World) (K : PySem.W.Frag) (mg : Str → Option Value) (base : Heap) (C : Addr) : List D → Sto → V → Prop := fun ds S v => ∃ n f p ws i m, ds = [.loc n, .fn f] ∧ IsP P w K mg base f p ∧ S[n]? = some (some (rdr C ws i m)) ∧ ws.length ≤ 10000 ∧ v = .int (i : Int) ∧ (ws.length ≤ i ∨ ∃ y, ws[i]? = some y ∧ okS y = true ∧ p y = false)
section
variable {P : Program} {w : World} {K : PySem.W.Frag} {mg : Str → Option Value} {base : Heap} {cs : Nat → Addr} {CP C fi : Addr}
theorem f_RBad {fr : Addr} {fd : FuncData} (T : Txt K mg cs CP C fi) (F : Fun K "read_word" "Reader.read_word" sRWord fr fd) (D_has_more : DefM P w K mg base 1 C "has_more" PscMore (spMore C)) (D_NoText : XDef P w K mg base 1 "NoText" (cs 7) PscNoText (spN1 (cs 7) "at")) : FnOk P w K mg base (CXr P w) 4 fr fd PscRWord (badSp K CP (cs 7) "at" (badW P w K mg base C)) := by
 refine okX F scRWord (fun ds S v h => ?_) (fun cdv A outer s H v hr => ?_)
 ·obtain ⟨n, f, p, ws, i, m, rfl, _⟩ := h; rfl
 ·refine ⟨_, (M.pss_cons (M.ps_if (M.pw_pt (M.pw_or (M.pt_not (M.pt_val (M.pe_meth0 (M.pv 0) T.cl D_has_more (hr.mono (by decide))))) (M.pw_or1 (M.pt_not (M.pt_val (M.pe_callV 3 (L2.pv 1) (hr.mono (by decide)) (M.pac (M.pe_ix M.o_ix (M.pe_fld (M.pv 0) T.cl T.n_words) (M.pe_fld (M.pv 0) T.cl T.n_at) (fun _ _ => rfl)) M.pa_nil))))))) (M.pss_one (M.ps_raise D_NoText T.xi.toXCls T.sub7 (hr.mono (by decide)) (by rfl) (M.pe_fld (M.pv 0) T.cl T.n_at))) M.pss_nil) (M.pss_cons M.ps_never (M.pss_one M.ps_never))), fun ds S h => ?_⟩
  obtain ⟨n, f, p, ws, i, m, rfl, hp, hS, hl, rfl, hb⟩ := h
  have e0 : startA NscRWord [.loc n, .fn f] = [some (.loc n), some (.fn f)] := rfl
  rw [e0]
  have hat : ∀ (k : Nat) (y : Str), ws[k]? = some y → atI (ws.map D.str) (k : Int) = some (.str y) := fun k y h => atI_nat (by rw [List.getElem?_map, h]; rfl)
  push_cast [aMeth]
  refine ⟨n, rfl, RK, ⟨_, hS⟩, by decide +kernel, n, ws, i, m, rfl, hS, hl, _, rfl, ?_⟩
  by_cases hi : i < ws.length
  ·obtain ⟨y, hy, hok, hpy⟩ : ∃ y, ws[i]? = some y ∧ okS y = true ∧ p y = false := by
    rcases hb with z | z
    ·omega
    ·exact z
   rw [decide_eq_true hi, if_neg (by decide)]
   refine ⟨f, spP p, rfl, hp, ⟨_, rfl, n, RK, _, _, rfl, hS, lk_words, _, rfl, n, RK, _, _, rfl, hS, lk_at, .str y, hat i y hy, y, rfl, hok, _, rfl, ?_⟩⟩
   rw [hpy]
   exact iteT ⟨_, rfl, n, RK, _, _, rfl, hS, lk_at, _, rfl, rfl⟩
  ·rw [decide_eq_false hi]
   exact iteT ⟨_, rfl, n, RK, _, _, rfl, hS, lk_at, _, rfl, rfl⟩
theorem d_RX (T : Txt K mg cs CP C fi) (F : SrcM K C "read_word" "Reader.read_word" PscRWord sRWord) (D_has_more : DefM P w K mg base 1 C "has_more" PscMore (spMore C)) (D_NoText : XDef P w K mg base 1 "NoText" (cs 7) PscNoText (spN1 (cs 7) "at")) :
  DefM P w K mg base 4 C "read_word" PscRWord (spRWord P w K mg base C) ∧ DefMX P w K mg base 4 C "read_word" PscRWord (spRWord P w K mg base C) CP (cs 7) "at" (badW P w K mg base C) := by
 obtain ⟨f, fd, F', hm, hb⟩ := F.ex
 have g := f_RWord (P := P) (w := w) (base := base) T F' D_has_more
 exact ⟨⟨f, fd, g, hm, hb⟩, ⟨f, fd, g.x0.or (f_RBad T F' D_has_more D_NoText), hm, hb⟩⟩
structure Qs (P : Program) (w : World) (K : PySem.W.Frag) (mg : Str → Option Value) (base : Heap) (fa fb : Addr) : Prop where
 name : mg "is_name" = some (.ref fa)
 side : mg "is_side" = some (.ref fb)
 p1 : IsP P w K mg base fa fun y => isName (.str y)
 p2 : IsP P w K mg base fb fun y => inS (.str y) SD
theorem two_at {S : Sto} {a b : Option MO} : (S ++ [a, b])[S.length]? = some a ∧ (S ++ [a, b])[S.length + 1]? = some b := by
 constructor
 ·rw [List.getElem?_append_right (Nat.le_refl _), Nat.sub_self]; rfl
 ·rw [List.getElem?_append_right (by omega), show S.length + 1 - S.length = 1 by omega]; rfl
theorem two_set {S : Sto} {a b c : Option MO} : (S ++ [a, b]).set S.length c = S ++ [c, b] ∧ (S ++ [a, b]).set (S.length + 1) c = S ++ [a, c] := by
 constructor
 ·rw [List.set_append, if_neg (by omega), Nat.sub_self]; rfl
 ·rw [List.set_append, if_neg (by omega), show S.length + 1 - S.length = 1 by omega]; rfl
theorem one_at {S : Sto} {a : Option MO} : (S ++ [a])[S.length]? = some a := by
 rw [List.getElem?_append_right (Nat.le_refl _), Nat.sub_self]; rfl
theorem one_set {S : Sto} {a c : Option MO} : (S ++ [a]).set S.length c = S ++ [c] := by
 rw [List.set_append, if_neg (by omega), Nat.sub_self]; rfl
theorem drop_cons {ws r : List Str} {i : Nat} {y : Str} (h : ws.drop i = y :: r) : ws[i]? = some y ∧ ws.drop (i + 1) = r ∧ i < ws.length := by
 have hi : i < ws.length := by
  rcases Nat.lt_or_ge i ws.length with z | z
  ·exact z
  ·rw [List.drop_eq_nil_of_le z] at h; cases h
 rw [List.drop_eq_getElem_cons hi] at h
 injection h with h1 h2
 exact ⟨by rw [List.getElem?_eq_getElem hi, h1], h2, hi⟩
theorem wrg_nil {i n : Nat} (h : wrg i [] = some n) : n = i := by
 unfold wrg at h
 by_cases z : i % 3 = 1
 ·rw [if_pos z] at h; cases h
 ·rw [if_neg z] at h; exact (Option.some.inj h).symm
theorem read_at {S : Sto} {N fp i n : Nat} {ws r : List Str} {p : Str → Bool} {Q : AK} (hS : S[N]? = some (some (rdr C ws i 0))) (hp : IsP P w K mg base fp p) (hwl : ws.length ≤ 10000) (hok : ∀ y ∈ ws, okS y = true) (hr : ws.drop i = r) (hw : wrg i r = some n) (hpi : ∀ y, okAt i y = p y)
  (k : ∀ y r', ws.drop (i + 1) = r' → p y = true → wrg (i + 1) r' = some n → r = y :: r' → Q (.dat (.str y)) (S.set N (some (rdr C ws (i + 1) 0)))) :
  spRWord P w K mg base C [.loc N, .fn fp] S Q ∨ badW P w K mg base C [.loc N, .fn fp] S (.int (n : Int)) := by
 cases r with
 | nil =>
  have hn := wrg_nil hw
  subst hn
  exact .inr ⟨N, fp, p, ws, n, 0, rfl, hp, hS, hwl, rfl, .inl (by
   rcases Nat.lt_or_ge n ws.length with z | z
   ·rw [List.drop_eq_getElem_cons z] at hr; cases hr
   ·exact z)⟩
 | cons y r' =>
  obtain ⟨hy, hd, hi⟩ := drop_cons hr
  have hoy := hok y (List.mem_of_getElem? hy)
  by_cases hpy : p y = true
  ·exact .inl ⟨N, fp, p, ws, i, 0, y, rfl, hp, hS, hwl, hy, hoy, hpy, k y r' hd hpy (wrg_yes hw (by rw [hpi]; exact hpy)) rfl⟩
  ·have hn := wrg_no hw (by rw [hpi]; exact hpy)
   subst hn
   exact .inr ⟨N, fp, p, ws, n, 0, rfl, hp, hS, hwl, rfl, .inr ⟨y, hy, hoy, by simpa using hpy⟩⟩
noncomputable def WS (C : Addr) (t k : Str) (ws : List Str) (o : Option Nat) (S : Sto) (m : Nat) (δ : AEnv) (S' : Sto) : Prop := ∃ (us : List Ti) (r : List Str) (v4 v5 : Option D), ws = k :: (fl3 us ++ r) ∧ m = r.length ∧ wrg (3 * us.length + 1) r = o ∧ us.length ≤ 60 ∧ δ = [some (.str t), some (.loc S.length), some (.str k), some (.loc (S.length + 1)), v4, v5] ∧ S' = S ++ [some (rdr C ws (3 * us.length + 1) 0), some (.lst (us.map T3))]
noncomputable def NS (C : Addr) (t k : Str) (ws : List Str) (o : Option Nat) (S : Sto) (m : Nat) (δ : AEnv) (S' : Sto) : Prop := ∃ m', m' < m ∧ WS C t k ws o S m' δ S'
theorem ws_drop {k : Str} {ws r : List Str} {us : List Ti} (h : ws = k :: (fl3 us ++ r)) : ws.drop (3 * us.length + 1) = r := by
 rw [h, List.drop_succ_cons, ← fl3_len us, List.drop_left' rfl]
theorem ok_side {j : Nat} (hj : j < 60) (y : Str) : okAt (3 * j + 1) y = inS (.str y) SD := by
 unfold okAt
 rw [if_pos (by omega), decide_eq_true (by omega), Bool.and_true]
theorem ok_name {i : Nat} (hi : i % 3 ≠ 1) (y : Str) : okAt i y = isName (.str y) := by
 unfold okAt
 rw [if_neg hi]
noncomputable def badR : List D → Sto → V → Prop := fun ds S v => ∃ (t : Str) (n : Nat), ds = [.str t] ∧ t.length ≤ 10000 ∧ (PySem.Txt.split t " ").length ≤ 10000 ∧ (∀ y ∈ PySem.Txt.split t " ", okS y = true) ∧ wrg 0 (PySem.Txt.split t " ") = some n ∧ v = .int (n : Int)
theorem d_ReadBad {fd0 : FuncData} {fa fb : Addr} (T : Txt K mg cs CP C fi) (q2 : Qs P w K mg base fa fb) (F : Src K mg "read_way" PscRead sRead) (F_Reader : FnOk P w K mg base CX0 1 fi fd0 PscInit (conSp K (spInit C))) (B_Reader : Binds K fd0 PscInit []) (D_has_more : DefM P w K mg base 1 C "has_more" PscMore (spMore C))
  (D_readX : DefMX P w K mg base 4 C "read_word" PscRWord (spRWord P w K mg base C) CP (cs 7) "at" (badW P w K mg base C)) (D_NoText : XDef P w K mg base 1 "NoText" (cs 7) PscNoText (spN1 (cs 7) "at")) : DefR P w K mg base 6 "read_way" PscRead (badSp K CP (cs 7) "at" badR) := by
 have FV_is_name := q2.name
 have FV_is_side := q2.side
 obtain ⟨f, fd, F', hm, hb⟩ := F.ex
 refine ⟨f, fd, okX F' scRead (fun ds S v h => ?_) (fun cdv A outer s H v hr => ?_), hm, F'.kp, hb⟩
 ·obtain ⟨t, n, rfl, _⟩ := h; rfl
 ·refine ⟨_, (M.pss_cons (M.ps_set (i := 1) scRead.nd rfl (Or.inl rfl) (M.pe_make T.mks F_Reader B_Reader (hr.mono (by decide)) (by rfl) T.mg_Reader (M.pac (M.pv 0) M.pa_nil)))
   (M.pss_cons (M.ps_set (i := 2) scRead.nd rfl (Or.inl rfl) (M.pe_methX (M.pv 1) T.cl D_readX (hr.mono (by decide)) (M.pac (M.pe_fn (by rfl) FV_is_name) M.pa_nil)))
   (M.pss_cons (M.ps_set (i := 3) scRead.nd rfl (Or.inl rfl) (M.alo (M.pe_lst M.pa_nil)))
   (M.pss_cons (M.ps_while pown (M.pt_val (M.pe_meth0 (M.pv 1) T.cl D_has_more (hr.mono (by decide))))
    (M.pss_cons (M.ps_if (M.pt_cmpR (M.o_eq hr) (M.pcb M.o_len (by rfl) T.len (by decide +kernel) (M.pac (M.pv 3) M.pa_nil)) T.pe_MOST_STEPS (nomark _))
     (M.pss_one (M.ps_raise D_NoText T.xi.toXCls T.sub7 (hr.mono (by decide)) (by rfl) (M.pe_fld (M.pv 1) T.cl T.n_at)))
     M.pss_nil)
    (M.pss_cons (M.ps_set (i := 4) scRead.nd rfl (Or.inl rfl) (M.pe_methX (M.pv 1) T.cl D_readX (hr.mono (by decide)) (M.pac (M.pe_fn (by rfl) FV_is_side) M.pa_nil)))
    (M.pss_cons (M.ps_set (i := 5) scRead.nd rfl (Or.inl rfl) (M.pe_methX (M.pv 1) T.cl D_readX (hr.mono (by decide)) (M.pac (M.pe_fn (by rfl) FV_is_name) M.pa_nil)))
    (M.pss_one (M.ps_expr (M.pe_bm PySem.F.plainAttrs_list PySem.F.slot_list_append PySem.F.type_list_append M.m_append (M.pv 3) (M.pac (M.pe_tup (M.pac (M.pv 4) (M.pac (M.pv 5) (M.pac (M.pe_methX (M.pv 1) T.cl D_readX (hr.mono (by decide)) (M.pac (M.pe_fn (by rfl) FV_is_name) M.pa_nil)) M.pa_nil)))) M.pa_nil))))))))
   (M.pss_one (M.ps_ret (M.pe_tup (M.pac (M.pv 2) (M.pac (M.pct M.o_tupleOf (by rfl) T.tuple (by decide +kernel) (M.pac (M.pv 3) M.pa_nil)) M.pa_nil))))))))), fun ds S h => ?_⟩
  obtain ⟨t, n, rfl, htl, hwl, hok, hw, rfl⟩ := h
  have e0 : startA NscRead [.str t] = [some (.str t), none, none, none, none, none] := rfl
  rw [e0]
  push_cast [aMethX]
  have s0 : (S ++ [some (MO.ins C [] [])]).set S.length (some (rdr C (PySem.Txt.split t " ") 0 0)) = S ++ [some (rdr C (PySem.Txt.split t " ") 0 0)] := one_set
  refine ⟨_, rfl, S.length, _, rfl, one_at, htl, rfl, ?_⟩
  rw [s0]
  generalize hws : PySem.Txt.split t " " = ws at hwl hok hw
  refine ⟨S.length, rfl, RK, ⟨_, one_at⟩, by decide +kernel, read_at one_at q2.p1 hwl hok rfl hw (fun y => by simp [okAt]) fun k r1 hr1 hk hw1 hk1 => ?_⟩
  have hk1 : ws = k :: r1 := hk1
  rw [one_set]
  push_cast [aAlloc]
  refine ⟨Nat.zero_le _, ?_⟩
  have eL : (S ++ [some (rdr C ws (0 + 1) 0)]).length = S.length + 1 := by simp
  have eS : S ++ [some (rdr C ws (0 + 1) 0)] ++ [some (MO.lst [])] = S ++ [some (rdr C ws (0 + 1) 0), some (MO.lst [])] := by simp
  rw [eL, eS]
  refine ⟨WS C t k ws (some n) S, ⟨r1.length, [], r1, none, none, hk1, rfl, hw1, by simp, rfl, rfl⟩, ?_⟩
  rintro m δ S' ⟨us, r, v4, v5, hr, rfl, hw2, ul, rfl, rfl⟩
  have i3 : (3 * us.length + 1) % 3 = 1 := by omega
  have hdr := ws_drop hr
  push_cast [aMeth]
  refine ⟨S.length, rfl, RK, ⟨_, two_at.1⟩, by decide +kernel, S.length, ws, 3 * us.length + 1, 0, rfl, two_at.1, hwl, _, rfl, ?_⟩
  cases r with
  | nil =>
   unfold wrg at hw2
   rw [if_pos i3] at hw2; cases hw2
  | cons y r' =>
   obtain ⟨hy, hd, hi⟩ := drop_cons hdr
   rw [decide_eq_true hi, if_pos rfl]
   refine ⟨NS C t k ws (some n) S (y :: r').length, fun _ _ z => z, ?_⟩
   have e3 : see (S ++ [some (rdr C ws (3 * us.length + 1) 0), some (MO.lst (us.map T3))]) (.loc (S.length + 1)) = .lst (us.map T3) := by simp only [see, two_at.2, MO.d]
   push_cast [aMethX, e3]
   refine ⟨us.length, by simp only [lenD, List.length_map], ?_⟩
   refine ite2 (fun h60 => ?_) (fun h60 => ?_)
   ·have h60 : us.length = 60 := by have := of_decide_eq_true h60; omega
    have hn := wrg_no hw2 (by unfold okAt; rw [if_pos i3, decide_eq_false (by omega), Bool.and_false]; decide)
    subst hn
    exact ⟨_, rfl, S.length, RK, _, _, rfl, two_at.1, lk_at, _, rfl, rfl⟩
   ·have h60 : us.length < 60 := by
     rcases Nat.lt_or_ge us.length 60 with z | z
     ·exact z
     ·exact absurd (decide_eq_true (by omega)) h60
    refine ⟨S.length, rfl, RK, ⟨_, two_at.1⟩, by decide +kernel, read_at two_at.1 q2.p2 hwl hok hdr hw2 (ok_side h60) fun y1 r2 hr2 hy1 hw3 er => ?_⟩
    rw [two_set.1]
    refine ⟨S.length, rfl, RK, ⟨_, two_at.1⟩, by decide +kernel, read_at two_at.1 q2.p1 hwl hok hr2 hw3 (ok_name (by omega)) fun y2 r3 hr3 hy2 hw4 er2 => ?_⟩
    rw [two_set.1]
    have e5 : ∀ i, see (S ++ [some (rdr C ws i 0), some (MO.lst (us.map T3))]) (.loc (S.length + 1)) = .lst (us.map T3) := fun i => by simp only [see, two_at.2, MO.d]
    push_cast [aMethX, aBM, e5, isTy, true_and]
    refine ⟨S.length, rfl, RK, ⟨_, two_at.1⟩, by decide +kernel, read_at two_at.1 q2.p1 hwl hok hr3 hw4 (ok_name (by omega)) fun y3 r4 hr4 hy3 hw5 er3 => ?_⟩
    rw [two_set.1]
    refine ⟨by show 3 ≤ sizeLine; decide, _, _, _, rfl, rfl, two_at.2, by rw [List.length_map, sizeLine_eq]; omega, ?_⟩
    rw [two_set.2]
    have ei : 3 * us.length + 1 + 1 + 1 + 1 = 3 * (us ++ [(y1, y2, y3)]).length + 1 := by simp; omega
    refine ⟨r4.length, by rw [er, er2, er3]; simp; omega, us ++ [(y1, y2, y3)], r4, some (.str y1), some (.str y2), ?_, rfl, by rw [← ei]; exact hw5, by simp; omega, rfl, ?_⟩
    ·rw [hr, er, er2, er3, fl3_app]; simp
    ·rw [← ei, List.map_append]; rfl
end
open PySem L2 M
noncomputable def StG (u : Ti) : Prop := inS (.str u.1) SD = true ∧ isName (.str u.2.1) = true ∧ isName (.str u.2.2) = true
theorem wrg_some {i : Nat} {y : Str} {r : List Str} (h : wrg i (y :: r) = none) : okAt i y = true ∧ wrg (i + 1) r = none := by
 unfold wrg at h
 by_cases hy : okAt i y = true
 ·rw [if_pos hy] at h; exact ⟨hy, h⟩
 ·rw [if_neg hy] at h; cases h
theorem wrg_nil' {i : Nat} (h : wrg i [] = none) : i % 3 = 1 := by
 unfold wrg at h
 by_cases z : i % 3 = 1
 ·exact z
 ·rw [if_neg z] at h; cases h
theorem wrg_tri : ∀ (m : Nat) (r : List Str) (j : Nat), r.length ≤ m → j ≤ 60 → wrg (3 * j + 1) r = none → ∃ us : List Ti, r = fl3 us ∧ (∀ u ∈ us, StG u) ∧ j + us.length ≤ 60
 | _, [], j, _, hj, _ => ⟨[], rfl, by simp, by simpa using hj⟩
 | 0, _ :: _, _, hm, _, _ => by simp at hm
 | m + 1, [a], j, _, _, h => by
  have := wrg_nil' (wrg_some h).2
  omega
 | m + 1, [a, b], j, _, _, h => by
  have := wrg_nil' (wrg_some (wrg_some h).2).2
  omega
 | m + 1, a :: b :: c :: r, j, hm, hj, h => by
  obtain ⟨h1, h⟩ := wrg_some h
  obtain ⟨h2, h⟩ := wrg_some h
  obtain ⟨h3, h⟩ := wrg_some h
  rw [ok_name (by omega)] at h2 h3
  unfold okAt at h1
  rw [if_pos (by omega), Bool.and_eq_true] at h1
  have hj2 : j + 1 ≤ 60 := by have := of_decide_eq_true h1.2; omega
  obtain ⟨us, e, hu, hl⟩ := wrg_tri m r (j + 1) (by simp at hm; omega) hj2 (by rw [show 3 * (j + 1) + 1 = 3 * j + 1 + 1 + 1 + 1 by omega]; exact h)
  refine ⟨(a, b, c) :: us, by rw [e]; rfl, fun u hu' => ?_, by simp; omega⟩
  rcases List.mem_cons.mp hu' with z | z
  ·subst z; exact ⟨h1.1, h2, h3⟩
  ·exact hu u z
theorem wrg_way {ws : List Str} (h : wrg 0 ws = none) : ∃ (k : Str) (us : List Ti), ws = k :: fl3 us ∧ isName (.str k) = true ∧ (∀ u ∈ us, StG u) ∧ us.length ≤ 60 := by
 cases ws with
 | nil => have := wrg_nil' h; omega
 | cons k r =>
  obtain ⟨h1, h⟩ := wrg_some h
  rw [ok_name (by decide)] at h1
  obtain ⟨us, e, hu, hl⟩ := wrg_tri r.length r 0 (Nat.le_refl _) (by decide) h
  exact ⟨k, us, by rw [e], h1, hu, by omega⟩
noncomputable def WG (C : Addr) (t k : Str) (us : List Ti) (S : Sto) (m : Nat) (δ : AEnv) (S' : Sto) : Prop := ∃ (u1 u2 : List Ti) (v4 v5 : Option D), u1 ++ u2 = us ∧ m = u2.length ∧ δ = [some (.str t), some (.loc S.length), some (.str k), some (.loc (S.length + 1)), v4, v5] ∧ S' = S ++ [some (rdr C (k :: fl3 us) (3 * u1.length + 1) 0), some (.lst (u1.map T3))]
noncomputable def NG (C : Addr) (t k : Str) (us : List Ti) (S : Sto) (m : Nat) (δ : AEnv) (S' : Sto) : Prop := ∃ m', m' < m ∧ WG C t k us S m' δ S'
theorem fl3_app2 : ∀ (a b : List Ti), fl3 (a ++ b) = fl3 a ++ fl3 b
 | [], _ => rfl
 | u :: a, b => by simp [fl3, fl3_app2 a b]
theorem at_ws {k : Str} {u1 u2 : List Ti} {u : Ti} : (k :: fl3 (u1 ++ u :: u2))[3 * u1.length + 1]? = some u.1 ∧ (k :: fl3 (u1 ++ u :: u2))[3 * u1.length + 1 + 1]? = some u.2.1 ∧ (k :: fl3 (u1 ++ u :: u2))[3 * u1.length + 1 + 1 + 1]? = some u.2.2 := by
 rw [fl3_app2]
 have hl := fl3_len u1
 refine ⟨?_, ?_, ?_⟩
 ·rw [List.getElem?_cons_succ, List.getElem?_append_right (by omega), hl, Nat.sub_self]; rfl
 ·rw [List.getElem?_cons_succ, List.getElem?_append_right (by omega), hl, show 3 * u1.length + 1 - 3 * u1.length = 1 by omega]; rfl
 ·rw [List.getElem?_cons_succ, List.getElem?_append_right (by omega), hl, show 3 * u1.length + 1 + 1 - 3 * u1.length = 2 by omega]; rfl
theorem ret_two {S : Sto} {a b : Option MO} {d : D} {Q : AK} (h : pur d = true) (q : Q (.dat d) S) : ret S (S ++ [a, b]) (.dat d) Q :=
 ⟨_, out_dat h, fun k o hk e => .inl (by rw [List.getElem?_append_left hk] at e; exact e), by rw [List.take_left' rfl]; exact q⟩
section
variable {P : Program} {w : World} {K : PySem.W.Frag} {mg : Str → Option Value} {base : Heap} {cs : Nat → Addr} {CP C fi : Addr}
noncomputable def spRead : AN := fun ds S Q => ∃ (t k : Str) (us : List Ti), ds = [.str t] ∧ t.length ≤ 10000 ∧ PySem.Txt.split t " " = k :: fl3 us ∧ us.length ≤ 60 ∧ (∀ y ∈ PySem.Txt.split t " ", okS y = true) ∧ isName (.str k) = true ∧ (∀ u ∈ us, StG u) ∧ Q (.dat (wayD k us)) S
theorem d_Read {fd0 : FuncData} {fa fb : Addr} (T : Txt K mg cs CP C fi) (q2 : Qs P w K mg base fa fb) (F : Src K mg "read_way" PscRead sRead) (F_Reader : FnOk P w K mg base CX0 1 fi fd0 PscInit (conSp K (spInit C))) (B_Reader : Binds K fd0 PscInit []) (D_has_more : DefM P w K mg base 1 C "has_more" PscMore (spMore C))
  (D_read_word : DefM P w K mg base 4 C "read_word" PscRWord (spRWord P w K mg base C)) : Def P w K mg base 6 "read_way" PscRead (conSp K spRead) := by
 have FV_is_name := q2.name
 have FV_is_side := q2.side
 refine defA F scRead (fun ds S Q h => ?_) (fun f cdv A outer s H E hr => ?_)
 ·obtain ⟨t, k, us, rfl, _⟩ := h; rfl
 ·refine ⟨_, (M.pss_cons (M.ps_set (i := 1) scRead.nd rfl (Or.inl rfl) (M.pe_make T.mks F_Reader B_Reader (hr.mono (by decide)) (by rfl) T.mg_Reader (M.pac (M.pv 0) M.pa_nil)))
   (M.pss_cons (M.ps_set (i := 2) scRead.nd rfl (Or.inl rfl) (M.pe_meth (M.pv 1) T.cl D_read_word (hr.mono (by decide)) (M.pac (M.pe_fn (by rfl) FV_is_name) M.pa_nil)))
   (M.pss_cons (M.ps_set (i := 3) scRead.nd rfl (Or.inl rfl) (M.alo (M.pe_lst M.pa_nil)))
   (M.pss_cons (M.ps_while PassesOwn.never (M.pt_val (M.pe_meth0 (M.pv 1) T.cl D_has_more (hr.mono (by decide))))
    (M.pss_cons (M.ps_if (M.pt_cmpR (M.o_eq hr) (M.pcb M.o_len (by rfl) T.len (by decide +kernel) (M.pac (M.pv 3) M.pa_nil)) T.pe_MOST_STEPS (nomark _))
     (M.pss_one M.ps_never)
     M.pss_nil)
    (M.pss_cons (M.ps_set (i := 4) scRead.nd rfl (Or.inl rfl) (M.pe_meth (M.pv 1) T.cl D_read_word (hr.mono (by decide)) (M.pac (M.pe_fn (by rfl) FV_is_side) M.pa_nil)))
    (M.pss_cons (M.ps_set (i := 5) scRead.nd rfl (Or.inl rfl) (M.pe_meth (M.pv 1) T.cl D_read_word (hr.mono (by decide)) (M.pac (M.pe_fn (by rfl) FV_is_name) M.pa_nil)))
    (M.pss_one (M.ps_expr (M.pe_bm PySem.F.plainAttrs_list PySem.F.slot_list_append PySem.F.type_list_append M.m_append (M.pv 3) (M.pac (M.pe_tup (M.pac (M.pv 4) (M.pac (M.pv 5) (M.pac (M.pe_meth (M.pv 1) T.cl D_read_word (hr.mono (by decide)) (M.pac (M.pe_fn (by rfl) FV_is_name) M.pa_nil)) M.pa_nil)))) M.pa_nil))))))))
   (M.pss_one (M.ps_ret (M.pe_tup (M.pac (M.pv 2) (M.pac (M.pct M.o_tupleOf (by rfl) T.tuple (by decide +kernel) (M.pac (M.pv 3) M.pa_nil)) M.pa_nil))))))))), fun ds S Q h => ?_⟩
  obtain ⟨t, k, us, rfl, htl, hsp, hul, hok, hk, hus, q⟩ := h
  have e0 : startA NscRead [.str t] = [some (.str t), none, none, none, none, none] := rfl
  rw [e0]
  push_cast [aMeth]
  have s0 : (S ++ [some (MO.ins C [] [])]).set S.length (some (rdr C (PySem.Txt.split t " ") 0 0)) = S ++ [some (rdr C (PySem.Txt.split t " ") 0 0)] := one_set
  refine ⟨_, rfl, S.length, _, rfl, one_at, htl, rfl, ?_⟩
  rw [s0]
  rw [hsp] at hok ⊢
  have hwl : (k :: fl3 us).length ≤ 10000 := by simp only [List.length_cons, fl3_len]; omega
  refine ⟨S.length, rfl, RK, ⟨_, one_at⟩, by decide +kernel, S.length, fa, _, k :: fl3 us, 0, 0, k, rfl, q2.p1, one_at, hwl, rfl, hok k (by simp), hk, ?_⟩
  rw [one_set]
  push_cast [aAlloc]
  refine ⟨Nat.zero_le _, ?_⟩
  have eL : (S ++ [some (rdr C (k :: fl3 us) (0 + 1) 0)]).length = S.length + 1 := by simp
  have eS : S ++ [some (rdr C (k :: fl3 us) (0 + 1) 0)] ++ [some (MO.lst [])] = S ++ [some (rdr C (k :: fl3 us) (0 + 1) 0), some (MO.lst [])] := by simp
  rw [eL, eS]
  refine ⟨WG C t k us S, ⟨us.length, [], us, none, none, rfl, rfl, rfl, rfl⟩, ?_⟩
  rintro m δ S' ⟨u1, u2, v4, v5, hu, rfl, rfl, rfl⟩
  push_cast [aMeth]
  refine ⟨S.length, rfl, RK, ⟨_, two_at.1⟩, by decide +kernel, S.length, k :: fl3 us, 3 * u1.length + 1, 0, rfl, two_at.1, hwl, _, rfl, ?_⟩
  have e3 : ∀ i, see (S ++ [some (rdr C (k :: fl3 us) i 0), some (MO.lst (u1.map T3))]) (.loc (S.length + 1)) = .lst (u1.map T3) := fun i => by simp only [see, two_at.2, MO.d]
  cases u2 with
  | nil =>
   rw [List.append_nil] at hu
   subst hu
   rw [decide_eq_false (by simp only [List.length_cons, fl3_len]; omega), if_neg (by decide)]
   push_cast [aTupleOf, e3]
   exact ⟨by show 2 ≤ sizeLine; decide, ret_two (pur_way k u1) q⟩
  | cons u u2 =>
   subst hu
   rw [decide_eq_true (by simp only [List.length_cons, fl3_len, List.length_append]; omega), if_pos rfl]
   refine ⟨NG C t k (u1 ++ u :: u2) S (u :: u2).length, fun _ _ z => z, ?_⟩
   obtain ⟨a1, a2, a3⟩ := at_ws (k := k) (u1 := u1) (u2 := u2) (u := u)
   obtain ⟨g1, g2, g3⟩ := hus u (by simp)
   have ok := fun {i : Nat} {y : Str} (h : (k :: fl3 (u1 ++ u :: u2))[i]? = some y) => hok y (List.mem_of_getElem? h)
   have h60 : u1.length < 60 := by simp at hul; omega
   push_cast [e3]
   refine ⟨u1.length, by simp only [lenD, List.length_map], ?_⟩
   rw [decide_eq_false (by omega), if_neg (by decide)]
   refine ⟨S.length, rfl, RK, ⟨_, two_at.1⟩, by decide +kernel, S.length, fb, _, _, _, 0, u.1, rfl, q2.p2, two_at.1, hwl, a1, ok a1, g1, ?_⟩
   rw [two_set.1]
   refine ⟨S.length, rfl, RK, ⟨_, two_at.1⟩, by decide +kernel, S.length, fa, _, _, _, 0, u.2.1, rfl, q2.p1, two_at.1, hwl, a2, ok a2, g2, ?_⟩
   rw [two_set.1]
   push_cast [aBM, aMeth, e3, isTy, true_and]
   refine ⟨S.length, rfl, RK, ⟨_, two_at.1⟩, by decide +kernel, S.length, fa, _, _, _, 0, u.2.2, rfl, q2.p1, two_at.1, hwl, a3, ok a3, g3, ?_⟩
   rw [two_set.1]
   refine ⟨by show 3 ≤ sizeLine; decide, _, _, _, rfl, rfl, two_at.2, by rw [List.length_map, sizeLine_eq]; omega, ?_⟩
   rw [two_set.2]
   have ei : 3 * u1.length + 1 + 1 + 1 + 1 = 3 * (u1 ++ [u]).length + 1 := by simp; omega
   refine ⟨u2.length, by simp, u1 ++ [u], u2, some (.str u.1), some (.str u.2.1), by simp, rfl, rfl, ?_⟩
   rw [← ei, List.map_append]; rfl
end
open PySem L2 M
theorem find_low : ∀ c < 128, decide (0 ≤ PySem.Txt.find "abcdefghijklmnopqrstuvwxyz" ⟨#[c]⟩) = isLow c := by decide +kernel
theorem all_min {l : List Nat} {m : Int} (ha : ∀ c ∈ l, c < 128) (h1 : m ∈ l.map fun c => PySem.Txt.find "abcdefghijklmnopqrstuvwxyz" ⟨#[c]⟩) (h2 : ∀ n ∈ l.map fun c => PySem.Txt.find "abcdefghijklmnopqrstuvwxyz" ⟨#[c]⟩, m ≤ n) : decide (0 ≤ m) = l.all isLow := by
 by_cases h : l.all isLow = true
 ·rw [h]
  obtain ⟨c, hc, rfl⟩ := List.mem_map.mp h1
  rw [find_low c (ha c hc)]
  exact List.all_eq_true.mp h c hc
 ·have : l.all isLow = false := by simpa using h
  rw [this]
  obtain ⟨c, hc, hl⟩ : ∃ c ∈ l, isLow c = false := by
   have := List.all_eq_false.mp this
   obtain ⟨c, hc, hl⟩ := this
   exact ⟨c, hc, by simpa using hl⟩
  have h3 := h2 _ (List.mem_map.mpr ⟨c, hc, rfl⟩)
  have h4 := find_low c (ha c hc)
  rw [hl] at h4
  have h5 := of_decide_eq_false h4
  exact decide_eq_false (by omega)
noncomputable def findD : D → D
 | .str s => .int (PySem.Txt.find "abcdefghijklmnopqrstuvwxyz" s)
 | d => d
theorem app_at {S : Sto} {n : Nat} {o : Option MO} {X : Sto} (h : S[n]? = some o) : (S ++ X)[n]? = some o := by
 rw [List.getElem?_append_left (List.getElem?_eq_some_iff.mp h).1]; exact h
theorem see_loc {S : Sto} {n : Nat} {o : MO} (h : S[n]? = some (some o)) : see S (.loc n) = o.d := by simp only [see, h]
theorem ret_app {S X : Sto} {d : D} {Q : AK} (h : pur d = true) (q : Q (.dat d) S) : ret S (S ++ X) (.dat d) Q :=
 ⟨_, out_dat h, fun k o hk e => .inl (by rw [List.getElem?_append_left hk] at e; exact e), by rw [List.take_left' rfl]; exact q⟩
theorem next_of {S : Sto} {p n : Nat} {m : Int} {Q : AK} (hS : S[p]? = some (some (.feed n))) (hn : n < 1000) (h0 : 0 < m) (h1 : m < 1000) (k : ∀ z : Nat, (z : Int) < m → Q (.dat (.int z)) (S.set p (some (.feed (n + 1))))) : spNextA [.loc p, .int m] S Q :=
 ⟨p, m, n, rfl, hS, hn, h0, h1, fun z z0 z1 => by
  obtain ⟨y, rfl⟩ : ∃ y : Nat, z = y := ⟨z.toNat, by omega⟩
  exact k y z1⟩
theorem at_lt {ds : List D} {z : Nat} (h : z < ds.length) : ∃ e, atI ds (z : Int) = some e ∧ e ∈ ds := ⟨ds[z], atI_nat (List.getElem?_eq_getElem h), List.getElem_mem h⟩
theorem pick {ds : List D} {z : Nat} {S : Sto} {Q : AK} (h : z < ds.length) (k : ∀ e ∈ ds, Q (.dat e) S) : aIx (.lst ds) (.int z) S Q := by
 obtain ⟨e, h1, h2⟩ := at_lt h
 exact ⟨e, h1, k e h2⟩
theorem pickS {ys : List Str} {z : Nat} {S : Sto} {Q : AK} (h : z < ys.length) (k : ∀ y ∈ ys, Q (.dat (.str y)) S) : aIx (.lst (ys.map D.str)) (.int z) S Q :=
 pick (by rw [List.length_map]; exact h) fun e he => by
  obtain ⟨y, hy, rfl⟩ := List.mem_map.mp he
  exact k y hy
theorem ret_feed {S X : Sto} {p n : Nat} {d : D} {Q : AK} (h : pur d = true) (q : Q (.dat d) (S.set p (some (.feed n)))) : ret S (S.set p (some (.feed n)) ++ X) (.dat d) Q := by
 refine ⟨_, out_dat h, fun k o hk e => ?_, ?_⟩
 ·rw [List.getElem?_append_left (by rw [List.length_set]; exact hk)] at e
  by_cases hkp : p = k
  ·subst hkp
   rw [List.getElem?_set, if_pos rfl, if_pos hk] at e
   have e : MO.feed n = o := by simpa using e
   subst e
   exact .inr rfl
  ·rw [List.getElem?_set_ne hkp] at e
   exact .inl e
 ·have : (S.set p (some (.feed n)) ++ X).take S.length = S.set p (some (.feed n)) := by
   rw [show S.length = (S.set p (some (MO.feed n))).length by rw [List.length_set]]
   exact List.take_left' rfl
  rw [this]; exact q
theorem sx_get {B X : Sto} {L i : Nat} (h : L = B.length + i) : (B ++ X)[L]? = X[i]? := by
 rw [h, List.getElem?_append_right (by omega)]; congr 1; omega
theorem sx_put {B X : Sto} {L i : Nat} {o : Option MO} (h : L = B.length + i) : (B ++ X).set L o = B ++ X.set i o := by
 rw [h, List.set_append, if_neg (by omega)]; congr 2; omega
theorem sx_feed {S X : Sto} {p : Nat} {a b : Option MO} (hp : p < S.length) : (S.set p a ++ X).set p b = S.set p b ++ X := by
 rw [List.set_append, if_pos (by rw [List.length_set]; exact hp), List.set_set]
theorem sx_at {S X : Sto} {p n : Nat} {o : Option MO} (h : S[p]? = some o) : (S.set p (some (.feed n)) ++ X)[p]? = some (some (.feed n)) := by
 have hl := (List.getElem?_eq_some_iff.mp h).1
 exact app_at (by rw [List.getElem?_set, if_pos rfl, if_pos hl])
noncomputable def NamesD (A B : List Str) (x : D) : Prop := x = .lst [.lst (A.map D.str), .lst (B.map D.str)] ∧ A.length = 4 ∧ B.length = 3 ∧ (∀ y ∈ A, Nm y) ∧ ∀ y ∈ B, Nm y
noncomputable def StN (u : Ti) : Prop := (u.1 = "on" ∨ u.1 = "back") ∧ Nm u.2.1 ∧ Nm u.2.2
noncomputable def wrgD : Option Nat → D
 | none => .non
 | some n => .int n
theorem ne_int' {i j : Int} {S : Sto} {Q : AK} : aNe (.int i) (.int j) S Q = Q (.dat (.bl (!decide (i = j)))) S := rfl
theorem purs_strs : ∀ l : List Str, purs (l.map D.str) = true
 | [] => rfl
 | s :: l => by simp [purs, M.pur, purs_strs l]
theorem wrg_step {ws : List Str} {j : Nat} {y : Str} (hy : ws[j]? = some y) : wrg j (ws.drop j) = if okAt j y = true then wrg (j + 1) (ws.drop (j + 1)) else some j := by
 have hj := (List.getElem?_eq_some_iff.mp hy).1
 rw [List.drop_eq_getElem_cons hj]
 have e : ws[j] = y := (List.getElem?_eq_some_iff.mp hy).2
 rw [e]; rfl
theorem rng_drop {m j : Nat} {x : D} {xs : List D} (h : x :: xs = (iRngD 0 m).drop j) : j < m ∧ x = .int (j : Int) ∧ xs = (iRngD 0 m).drop (j + 1) := by
 have hj : j < (iRngD 0 m).length := by
  rcases Nat.lt_or_ge j (iRngD 0 m).length with z | z
  ·exact z
  ·rw [List.drop_eq_nil_of_le z] at h; cases h
 rw [List.drop_eq_getElem_cons hj] at h
 injection h with h1 h2
 have hm : j < m := by simpa [iRngD] using hj
 refine ⟨hm, ?_, h2⟩
 rw [h1]
 simp [iRngD]
section
variable {P : Program} {w : World} {K : PySem.W.Frag} {mg : Str → Option Value} {base : Heap} {cs : Nat → Addr} {CP C fi : Addr}
noncomputable def spLName : AN := fun ds S Q => ∃ y, ds = [.str y] ∧ okS y = true ∧ Q (.dat (.bl (isName (.str y)))) S
theorem d_LName (T : Txt K mg cs CP C fi) (F : Src K mg "_law_is_name" PscLName sLName) : Def P w K mg base 1 "_law_is_name" PscLName (conSp K spLName) := by
 refine defA F scLName (fun ds S Q h => ?_) (fun f cdv A outer s H E hr => ?_)
 ·obtain ⟨x, rfl, _⟩ := h; rfl
 ·refine ⟨_, (M.pss_cons (M.ps_if (M.pt_not (M.pt_chain M.o_le M.o_le M.pe_int (M.pcb M.o_len (by rfl) T.len (by decide +kernel) (M.pac (M.pv 0) M.pa_nil)) M.pe_int))
    (M.pss_one (M.ps_ret M.pe_bl))
    M.pss_nil)
   (M.pss_one (M.ps_ret (M.pe_cmpR M.o_ge (M.pcb (M.o_minL rfl) (by rfl) T.min (by decide +kernel) (M.pac (M.pe_comp (N := ["_law_sign"]) (caps := [none]) (bs_mk (by decide +kernel)) (by rfl) (by rfl) rfl (M.pi_any (M.pv 0)) (fun _ _ _ _ => (M.pg_name (i := 0) (by decide +kernel : List.Nodup (["_law_sign"] : List Str)) rfl (Or.inl rfl))) (fun _ _ _ _ => M.pts_nil) (fun _ _ _ _ => (M.pe_bm PySem.F.plainAttrs_str PySem.F.slot_str_find PySem.F.type_str_find M.m_find M.pe_str (M.pac (M.pv 0) M.pa_nil)))) M.pa_nil)) M.pe_int (nomark _))))), fun ds S Q h => ?_⟩
  obtain ⟨y, rfl, ht, q⟩ := h
  have e0 : startA NscLName [.str y] = [some (.str y)] := rfl
  rw [e0]
  have hy : y.length ≤ 1000 := by
   have h := ht
   unfold okS at h
   rw [Bool.and_eq_true] at h
   have := of_decide_eq_true h.2
   omega
  have hasc : ∀ c ∈ y.cps.toList, c < 128 := by
   have h : okS y = true := ht
   unfold okS at h
   rw [Bool.and_eq_true] at h
   exact fun c hc => of_decide_eq_true (List.all_eq_true.mp h.1 c hc)
  push_cast [true_and]
  have hlen : lenD (.str y) = some y.length := by simp only [lenD]; rw [if_pos (by rw [sizeLine_eq]; omega)]
  have hn : isName (.str y) = (decide (1 ≤ y.length) && decide (y.length ≤ 8) && y.cps.toList.all isLow) := rfl
  rw [hn] at q
  refine ⟨y.length, hlen, ?_⟩
  refine ite2 (fun h1 => ?_) (fun h1 => ?_)
  ·have h1 : 1 ≤ y.length := by have := of_decide_eq_true h1; omega
   refine ite2 (fun h2 => ?_) (fun h2 => ?_)
   ·have h2 : ¬ y.length ≤ 8 := by
     intro z
     rw [decide_eq_true (show ((y.length : Nat) : Int) ≤ 8 by omega)] at h2
     cases h2
    rw [decide_eq_false h2, Bool.and_false, Bool.false_and] at q
    exact q
   ·have h2 : y.length ≤ 8 := by
     rcases Nat.lt_or_ge 8 y.length with z | z
     ·exact absurd (by rw [decide_eq_false (show ¬ ((y.length : Nat) : Int) ≤ 8 by omega)]; rfl) h2
     ·exact z
    rw [decide_eq_true h1, decide_eq_true h2] at q
    simp only [aComp, iAny, iAnyD, aVar, List.getElem?_cons_zero, Option.some.injEq, exists_eq_left', rd_dat]
    have hsl : (M.signs y).length = y.length := by simp [M.signs, Str.length]
    refine comp_map (δ := captA [none] [some (.str y)]) findD trivial (M.signs y) [] _ rfl (fun x hx Q' q' => ?_) (by rw [hsl, sizeLine_eq]; simp; omega) ?_
    ·obtain ⟨c, hc, rfl⟩ := List.mem_map.mp hx
     push_cast [captA, List.map_cons, List.map_nil, List.set_cons_zero, aBM, isTy, true_and]
     exact ⟨_, _, rfl, rfl, q'⟩
    ·rw [List.nil_append]
     refine ⟨_, y.cps.toList.map (fun c => PySem.Txt.find "abcdefghijklmnopqrstuvwxyz" ⟨#[c]⟩), rfl, ?_, ?_, fun m hm hle => ?_⟩
     ·simp only [rd_new, mod_lst, see_lst', M.signs, List.map_map]; rfl
     ·rw [List.length_map]; show 0 < y.length; omega
     ·simp only [rd_dat, aI_int, true_and]
      rw [ret_bl, all_min hasc hm hle]
      exact q
  ·have h1 : ¬ 1 ≤ y.length := by intro z; exact h1 (decide_eq_true (by omega))
   rw [decide_eq_false h1, Bool.false_and, Bool.false_and] at q
   exact q
noncomputable def spWrong : AN := fun ds S Q => ∃ ws : List Str, ds = [.lst (ws.map D.str)] ∧ ws.length ≤ 10000 ∧ (∀ y ∈ ws, okS y = true) ∧ Q (.dat (wrgD (wrg 0 ws))) S
theorem d_Wrong (T : Txt K mg cs CP C fi) (F : Src K mg "_law_wrong" PscWrong sWrong) (D_law_is_name : Def P w K mg base 1 "_law_is_name" PscLName (conSp K spLName)) : Def P w K mg base 2 "_law_wrong" PscWrong (conSp K spWrong) := by
 refine defA F scWrong (fun ds S Q h => ?_) (fun f cdv A outer s H E hr => ?_)
 ·obtain ⟨ws, rfl, _⟩ := h; rfl
 ·refine ⟨_, (M.pss_cons (M.ps_for PassesOwn.never rfl (M.pi_range1 (by rfl) T.range (M.pac (M.pcb M.o_len (by rfl) T.len (by decide +kernel) (M.pac (M.pv 0) M.pa_nil)) M.pa_nil)) (M.pg_name (i := 1) scWrong.nd rfl (Or.inl rfl))
    (M.pss_cons (M.ps_if (M.pw_pt (M.pw_and (M.pt_cmpR (M.o_eq hr) (M.pe_op M.o_mod (M.pv 1) M.pe_int) M.pe_int (nomark _)) (M.pw_and1 (M.pw_pt (M.pw_or (M.pt_cmpR (M.o_notIn hr) (M.pe_ix M.o_ix (M.pv 0) (M.pv 1) (fun _ _ => rfl)) (M.pe_tup (M.pac M.pe_str (M.pac M.pe_str M.pa_nil))) rfl) (M.pw_or1 (M.pt_cmpR M.o_gt (M.pv 1) M.pe_int (nomark _))))))))
     (M.pss_one (M.ps_ret (M.pv 1)))
     M.pss_nil)
    (M.pss_one (M.ps_if (M.pw_pt (M.pw_and (M.pt_cmpR (M.o_ne hr) (M.pe_op M.o_mod (M.pv 1) M.pe_int) M.pe_int (nomark _)) (M.pw_and1 (M.pt_not (M.pt_val (M.pe_own D_law_is_name (hr.mono (by decide)) (by rfl) (M.pac (M.pe_ix M.o_ix (M.pv 0) (M.pv 1) (fun _ _ => rfl)) M.pa_nil)))))))
     (M.pss_one (M.ps_ret (M.pv 1)))
     M.pss_nil))))
   (M.pss_cons (M.ps_if (M.pt_cmpR (M.o_ne hr) (M.pe_op M.o_mod (M.pcb M.o_len (by rfl) T.len (by decide +kernel) (M.pac (M.pv 0) M.pa_nil)) M.pe_int) M.pe_int (nomark _))
    (M.pss_one (M.ps_ret (M.pcb M.o_len (by rfl) T.len (by decide +kernel) (M.pac (M.pv 0) M.pa_nil))))
    M.pss_nil)
   (M.pss_one (M.ps_ret M.pe_non)))), fun ds S Q h => ?_⟩
  obtain ⟨ws, rfl, hwl, hok, q⟩ := h
  have e0 : startA NscWrong [.lst (ws.map D.str)] = [some (.lst (ws.map D.str)), none] := rfl
  rw [e0]
  push_cast [aFor, iRng]
  refine ⟨ws.length, by simp only [lenD, List.length_map], by omega, by omega, ?_⟩
  rw [show (ws.length : Int).toNat = ws.length by omega]
  refine loop_by (fun rest δ S' => ∃ (j : Nat) (v1 : Option D), rest = (iRngD 0 ws.length).drop j ∧ j ≤ ws.length ∧ wrg 0 ws = wrg j (ws.drop j) ∧ δ = [some (.lst (ws.map D.str)), v1] ∧ S' = S) ?_ ?_ _ _ _ ⟨0, none, rfl, Nat.zero_le _, rfl, rfl, rfl⟩
  ·rintro δ S' ⟨j, v1, e1, hj, hw, rfl, rfl⟩
   refine ⟨trivial, ?_⟩
   have hj2 : j = ws.length := by
    have := congrArg List.length e1
    simp [iRngD] at this
    omega
   subst hj2
   rw [List.drop_length] at hw
   push_cast [true_and]
   refine ⟨ws.length, by simp only [lenD, List.length_map], ?_⟩
   refine ⟨by decide, ?_⟩
   rw [ne_int']
   refine ⟨_, rfl, ?_⟩
   have we : wrg ws.length [] = if ws.length % 3 = 1 then none else some ws.length := rfl
   rw [hw, we] at q
   by_cases h3 : ws.length % 3 = 1
   ·rw [decide_eq_true (show ((ws.length : Int) % 3) = 1 by omega)]
    rw [if_pos h3] at q
    exact iteF (ret_pur rfl q)
   ·rw [decide_eq_false (show ¬ ((ws.length : Int) % 3) = 1 by omega)]
    rw [if_neg h3] at q
    exact iteT ⟨ws.length, by simp only [lenD, List.length_map], ret_pur rfl q⟩
  ·rintro x xs δ S' N ⟨j, v1, e1, hj, hw, rfl, rfl⟩ hN
   obtain ⟨hjl, rfl, rfl⟩ := rng_drop e1
   refine ⟨trivial, ?_⟩
   obtain ⟨y, hy⟩ : ∃ y, ws[j]? = some y := ⟨ws[j], List.getElem?_eq_getElem hjl⟩
   have hoy := hok y (List.mem_of_getElem? hy)
   rw [wrg_step hy] at hw
   have hat : atI (ws.map D.str) (j : Int) = some (.str y) := atI_nat (by rw [List.getElem?_map, hy]; rfl)
   push_cast [true_and]
   have go : okAt j y = true → N [some (.lst (ws.map D.str)), some (.int (j : Int))] S' := fun h => hN _ _ ⟨j + 1, some (.int (j : Int)), rfl, hjl, by rw [hw, if_pos h], rfl, rfl⟩
   have no : ¬ okAt j y = true → M.ret S' S' (.dat (.int (j : Int))) Q := fun h => by
    rw [hw, if_neg h] at q
    exact ret_pur rfl q
   refine ⟨by decide, ite2 (fun h1 => ?_) (fun h1 => ?_)⟩
   ·have j1 : j % 3 = 1 := by have := of_decide_eq_true h1; omega
    have hok1 : okAt j y = (inS (.str y) SD && decide (j ≤ 180)) := by unfold okAt; rw [if_pos j1]
    refine ⟨_, hat, by show 2 ≤ sizeLine; decide, in_texts (ss := SD) (n := 0) hoy (by decide) (by decide +kernel) ⟨_, rfl, ?_⟩⟩
    show if (true != inS (.str y) SD) = true then _ else _
    cases hs : inS (.str y) SD with
    | false => exact iteT (no (by rw [hok1, hs]; simp))
    | true =>
     refine iteF (ite2 (fun h2 => ?_) (fun h2 => ?_))
     ·exact no (by rw [hok1, hs, decide_eq_false (by have := of_decide_eq_true h2; omega)]; simp)
     ·have h2 : j ≤ 180 := by
       rcases Nat.lt_or_ge 180 j with z | z
       ·exact absurd (decide_eq_true (by omega)) h2
       ·exact z
      refine ⟨by decide, ?_⟩
      rw [ne_int', decide_eq_true (show ((j : Int) % 3) = 1 by omega)]
      exact ⟨_, rfl, iteF (go (by rw [hok1, hs, decide_eq_true h2]; rfl))⟩
   ·have j1 : j % 3 ≠ 1 := fun z => h1 (decide_eq_true (by omega))
    have hok1 := ok_name j1 y
    refine ⟨by decide, ?_⟩
    rw [ne_int', decide_eq_false (show ¬ ((j : Int) % 3) = 1 by omega)]
    refine ⟨_, rfl, iteT ⟨_, hat, y, rfl, hoy, _, rfl, ?_⟩⟩
    cases hn : isName (.str y) with
    | false => exact iteT (no (by rw [hok1, hn]; simp))
    | true => exact iteF (go (by rw [hok1, hn]))
noncomputable def spShown : AN := fun ds S Q => ∃ (k : Str) (us : List Ti), ds = [wayD k us] ∧ us.length ≤ 60 ∧ (∀ y ∈ k :: fl3 us, y.length ≤ 100) ∧ Q (.dat (.str (PySem.Txt.join " " (k :: fl3 us)))) S
theorem d_Shown (T : Txt K mg cs CP C fi) (F : Src K mg "shown_way" PscShown sShown) : Def P w K mg base 1 "shown_way" PscShown (conSp K spShown) := by
 refine defA F scShown (fun ds S Q h => ?_) (fun f cdv A outer s H E hr => ?_)
 ·obtain ⟨k, us, rfl, _⟩ := h; rfl
 ·refine ⟨_, (M.pss_cons (M.ps_set (i := 1) scShown.nd rfl (Or.inl rfl) (M.alo (M.pe_lst (M.pac (M.pe_ix M.o_ix (M.pv 0) M.pe_int (fun _ _ => rfl)) M.pa_nil))))
   (M.pss_cons (M.ps_for PassesOwn.never rfl (M.pi_any (M.pe_ix M.o_ix (M.pv 0) M.pe_int (fun _ _ => rfl))) (M.pg_name (i := 2) scShown.nd rfl (Or.inl rfl))
    (M.pss_one (M.ps_expr (M.pe_bm PySem.F.plainAttrs_list PySem.F.slot_list_extend PySem.F.type_list_extend M.m_extend (M.pv 1) (M.pac (M.pv 2) M.pa_nil)))))
   (M.pss_one (M.ps_ret (M.pe_bm PySem.F.plainAttrs_str PySem.F.slot_str_join PySem.F.type_str_join M.m_join M.pe_str (M.pac (M.pv 1) M.pa_nil)))))), fun ds S Q h => ?_⟩
  obtain ⟨k, us, rfl, hul, hyl, q⟩ := h
  have e0 : startA NscShown [wayD k us] = [some (wayD k us), none, none] := rfl
  rw [e0]
  push_cast [aAlloc, aFor, iAny]
  refine ⟨_, rfl, by show 1 ≤ sizeLine; decide, _, rfl, ?_⟩
  show loopD (fun _ => True) _ _ (us.map T3) _ _ _
  refine loop_by (fun rest δ S' => ∃ (u1 u2 : List Ti) (v2 : Option D), rest = u2.map T3 ∧ u1 ++ u2 = us ∧ δ = [some (wayD k us), some (.loc S.length), v2] ∧ S' = S ++ [some (.lst ((k :: fl3 u1).map D.str))]) ?_ ?_ _ _ _ ⟨[], us, none, rfl, rfl, rfl, rfl⟩
  ·rintro δ S' ⟨u1, u2, v2, e1, e2, rfl, rfl⟩
   have : u2 = [] := by cases u2 with | nil => rfl | cons _ _ => simp at e1
   subst this
   rw [List.append_nil] at e2
   subst e2
   refine ⟨trivial, ?_⟩
   have e3 : see (S ++ [some (MO.lst ((k :: fl3 u1).map D.str))]) (.loc S.length) = .lst ((k :: fl3 u1).map D.str) := see_loc (o := .lst ((k :: fl3 u1).map D.str)) one_at
   push_cast [aBM, isTy, true_and, aJoin]
   refine ⟨k :: fl3 u1, e3, ?_, ret_app rfl q⟩
   have hl := fl3_len u1
   have hs : ∀ l : List Str, (∀ y ∈ l, y.length ≤ 100) → (l.map (·.length)).sum ≤ 100 * l.length := fun l => by
    induction l with
    | nil => intro _; simp
    | cons a l ih =>
     intro h
     have := ih fun y hy => h y (by simp [hy])
     have := h a (by simp)
     simp only [List.map_cons, List.sum_cons, List.length_cons]; omega
   have := hs _ hyl
   have e1 : (" " : Str).length = 1 := rfl
   rw [e1]
   simp only [List.length_cons] at this ⊢
   omega
  ·rintro x xs δ S' N ⟨u1, u2, v2, e1, e2, rfl, rfl⟩ hN
   cases u2 with
   | nil => simp at e1
   | cons u u2 =>
    simp only [List.map_cons, List.cons.injEq] at e1
    obtain ⟨rfl, rfl⟩ := e1
    refine ⟨trivial, ?_⟩
    have e3 : see (S ++ [some (MO.lst ((k :: fl3 u1).map D.str))]) (.loc S.length) = .lst ((k :: fl3 u1).map D.str) := see_loc (o := .lst ((k :: fl3 u1).map D.str)) one_at
    have hl := fl3_len u1
    have hl1 : u1.length < 60 := by rw [← e2] at hul; simp at hul; omega
    push_cast [aBM, e3, isTy, true_and]
    refine ⟨_, _, _, _, rfl, rfl, one_at, .inr rfl, by simp only [List.length_map, List.length_cons, List.length_nil, sizeLine_eq]; omega, ?_⟩
    rw [one_set]
    refine hN _ _ ⟨u1 ++ [u], u2, some (T3 u), rfl, by rw [← e2]; simp, rfl, ?_⟩
    rw [fl3_app]; simp
noncomputable def spWords : AN := fun ds S Q => ∃ (k : Str) (us : List Ti), ds = [wayD k us] ∧ us.length ≤ 60 ∧ Q (.new (.lst ((k :: fl3 us).map D.str))) S
theorem d_Words (T : Txt K mg cs CP C fi) (F : Src K mg "_law_words" PscWords sWords) : Def P w K mg base 1 "_law_words" PscWords (conSp K spWords) := by
 refine defA F scWords (fun ds S Q h => ?_) (fun f cdv A outer s H E hr => ?_)
 ·obtain ⟨k, us, rfl, _⟩ := h; rfl
 ·refine ⟨_, (M.pss_cons (M.ps_set (i := 1) scWords.nd rfl (Or.inl rfl) (M.alo (M.pe_lst (M.pac (M.pe_ix M.o_ix (M.pv 0) M.pe_int (fun _ _ => rfl)) M.pa_nil))))
   (M.pss_cons (M.ps_for PassesOwn.never rfl (M.pi_any (M.pe_ix M.o_ix (M.pv 0) M.pe_int (fun _ _ => rfl))) (M.pg_name (i := 2) scWords.nd rfl (Or.inl rfl))
    (M.pss_one (M.ps_expr (M.pe_bm PySem.F.plainAttrs_list PySem.F.slot_list_extend PySem.F.type_list_extend M.m_extend (M.pv 1) (M.pac (M.pct M.o_listOf (by rfl) T.list (by decide +kernel) (M.pac (M.pv 2) M.pa_nil)) M.pa_nil)))))
   (M.pss_one (M.ps_ret (M.pv 1))))), fun ds S Q h => ?_⟩
  obtain ⟨k, us, rfl, hul, q⟩ := h
  have e0 : startA NscWords [wayD k us] = [some (wayD k us), none, none] := rfl
  rw [e0]
  push_cast [aAlloc, aFor, iAny]
  refine ⟨_, rfl, by show 1 ≤ sizeLine; decide, _, rfl, ?_⟩
  show loopD (fun _ => True) _ _ (us.map T3) _ _ _
  refine loop_by (fun rest δ S' => ∃ (u1 u2 : List Ti) (v2 : Option D), rest = u2.map T3 ∧ u1 ++ u2 = us ∧ δ = [some (wayD k us), some (.loc S.length), v2] ∧ S' = S ++ [some (.lst ((k :: fl3 u1).map D.str))]) ?_ ?_ _ _ _ ⟨[], us, none, rfl, rfl, rfl, rfl⟩
  ·rintro δ S' ⟨u1, u2, v2, e1, e2, rfl, rfl⟩
   have : u2 = [] := by cases u2 with | nil => rfl | cons _ _ => simp at e1
   subst this
   rw [List.append_nil] at e2
   subst e2
   refine ⟨trivial, ?_⟩
   push_cast [true_and]
   exact ret_loc (Nat.le_refl _) (purs_strs _) one_at (List.take_left' rfl) q
  ·rintro x xs δ S' N ⟨u1, u2, v2, e1, e2, rfl, rfl⟩ hN
   cases u2 with
   | nil => simp at e1
   | cons u u2 =>
    simp only [List.map_cons, List.cons.injEq] at e1
    obtain ⟨rfl, rfl⟩ := e1
    refine ⟨trivial, ?_⟩
    have e3 : see (S ++ [some (MO.lst ((k :: fl3 u1).map D.str))]) (.loc S.length) = .lst ((k :: fl3 u1).map D.str) := see_loc (o := .lst ((k :: fl3 u1).map D.str)) one_at
    have hl := fl3_len u1
    have hl1 : u1.length < 60 := by rw [← e2] at hul; simp at hul; omega
    push_cast [aBM, e3, isTy, true_and, aListOf]
    refine ⟨_, _, _, _, rfl, rfl, one_at, .inl rfl, by simp only [List.length_map, List.length_cons, List.length_nil, sizeLine_eq]; omega, ?_⟩
    rw [one_set]
    refine hN _ _ ⟨u1 ++ [u], u2, some (T3 u), rfl, by rw [← e2]; simp, rfl, ?_⟩
    rw [fl3_app]; simp
noncomputable def spWay : AN := fun ds S Q => ∃ (p n m : Nat) (A B : List Str) (x : D), ds = [.loc p, x, .int m] ∧ NamesD A B x ∧ S[p]? = some (some (.feed n)) ∧ n + 300 < 1000 ∧ m ≤ 60 ∧
 ∀ (k : Str) (us : List Ti) (n' : Nat), Nm k → us.length = m → (∀ u ∈ us, StN u) → n' ≤ n + 200 → Q (.dat (wayD k us)) (S.set p (some (.feed n')))
theorem d_Way (T : Txt K mg cs CP C fi) (F : Src K mg "_law_way" PscWay sWay) (D_law_next : Def P w K mg base 1 "_law_next" PscNext (conSp K spNextA)) : Def P w K mg base 2 "_law_way" PscWay (conSp K spWay) := by
 refine defA F scWay (fun ds S Q h => ?_) (fun f cdv A outer s H E hr => ?_)
 ·obtain ⟨p, n, m, A, B, x, rfl, _⟩ := h; rfl
 ·refine ⟨_, (M.pss_cons (M.ps_set (i := 3) scWay.nd rfl (Or.inl rfl) (M.alo (M.pe_lst M.pa_nil)))
   (M.pss_cons (M.ps_for PassesOwn.never rfl (M.pi_range1 (by rfl) T.range (M.pac (M.pv 2) M.pa_nil)) (M.pg_name (i := 4) scWay.nd rfl (Or.inl rfl))
    (M.pss_cons (M.ps_set (i := 5) scWay.nd rfl (Or.inl rfl) (M.pe_ix M.o_ix (M.pe_lst (M.pac M.pe_str (M.pac M.pe_str M.pa_nil))) (M.pe_own D_law_next (hr.mono (by decide)) (by rfl) (M.pac (M.pv 0) (M.pac M.pe_int M.pa_nil))) (fun _ _ => rfl)))
    (M.pss_one (M.ps_expr (M.pe_bm PySem.F.plainAttrs_list PySem.F.slot_list_append PySem.F.type_list_append M.m_append (M.pv 3) (M.pac (M.pe_tup (M.pac (M.pv 5) (M.pac (M.pe_ix M.o_ix (M.pe_ix M.o_ix (M.pv 1) M.pe_int (fun _ _ => rfl)) (M.pe_own D_law_next (hr.mono (by decide)) (by rfl) (M.pac (M.pv 0) (M.pac M.pe_int M.pa_nil))) (fun _ _ => rfl)) (M.pac (M.pe_ix M.o_ix (M.pe_ix M.o_ix (M.pv 1) M.pe_int (fun _ _ => rfl)) (M.pe_own D_law_next (hr.mono (by decide)) (by rfl) (M.pac (M.pv 0) (M.pac M.pe_int M.pa_nil))) (fun _ _ => rfl)) M.pa_nil)))) M.pa_nil))))))
   (M.pss_one (M.ps_ret (M.pe_tup (M.pac (M.pe_ix M.o_ix (M.pe_ix M.o_ix (M.pv 1) M.pe_int (fun _ _ => rfl)) (M.pe_own D_law_next (hr.mono (by decide)) (by rfl) (M.pac (M.pv 0) (M.pac M.pe_int M.pa_nil))) (fun _ _ => rfl)) (M.pac (M.pct M.o_tupleOf (by rfl) T.tuple (by decide +kernel) (M.pac (M.pv 3) M.pa_nil)) M.pa_nil))))))), fun ds S Q h => ?_⟩
  obtain ⟨p, n, z, A, B, x, rfl, ⟨hx, lA, lB, nA, nB⟩, hp, hn, hz, q⟩ := h
  subst hx
  have e0 : startA NscWay [.loc p, .lst [.lst (A.map D.str), .lst (B.map D.str)], .int z] = [some (.loc p), some (.lst [.lst (A.map D.str), .lst (B.map D.str)]), some (.int z), none, none, none] := rfl
  rw [e0]
  have pl : p < S.length := (List.getElem?_eq_some_iff.mp hp).1
  push_cast [aAlloc, aFor, iRng]
  refine ⟨Nat.zero_le _, by omega, by omega, ?_⟩
  rw [show (z : Int).toNat = z by omega]
  have rng_len : (iRngD 0 z).length = z := by simp [iRngD]
  have s0 : S ++ [some (MO.lst [])] = S.set p (some (.feed n)) ++ [some (MO.lst [])] := by rw [set_same hp]
  rw [s0]
  refine loop_by (fun rest δ S' => ∃ (us : List Ti) (n2 : Nat) (v4 v5 : Option D), δ = [some (.loc p), some (.lst [.lst (A.map D.str), .lst (B.map D.str)]), some (.int z), some (.loc S.length), v4, v5] ∧ S' = S.set p (some (.feed n2)) ++ [some (.lst (us.map T3))] ∧ us.length + rest.length = z ∧ (∀ u ∈ us, StN u) ∧ n2 + 3 * rest.length ≤ n + 190)
   ?_ ?_ _ _ _ ⟨[], n, none, none, rfl, rfl, by rw [rng_len]; simp, by simp, by rw [rng_len]; omega⟩
  ·rintro δ S' ⟨us, n2, v4, v5, rfl, rfl, ul, hu', hn2⟩
   refine ⟨trivial, ?_⟩
   have e3 : ∀ m, see (S.set p (some (.feed m)) ++ [some (MO.lst (us.map T3))]) (.loc S.length) = .lst (us.map T3) := fun m => see_loc (o := .lst (us.map T3)) (sx_get (i := 0) (by rw [List.length_set]; rfl))
   push_cast [aTupleOf, e3]
   simp only [List.length_nil, Nat.add_zero, Nat.mul_zero] at ul hn2
   refine ⟨_, rfl, next_of (sx_at hp) (by omega) (by decide) (by decide) fun b hb => ?_⟩
   rw [sx_feed pl]
   refine pickS (ys := A) (by omega) fun kn hkn => ?_
   simp only [e3]
   exact ⟨by show 2 ≤ sizeLine; decide, ret_feed (pur_way kn us) (q kn us (n2 + 1) (nA _ hkn) ul hu' (by omega))⟩
  ·rintro x xs δ S' N ⟨us, n2, v4, v5, rfl, rfl, ul, hu', hn2⟩ hN
   refine ⟨trivial, ?_⟩
   simp only [List.length_cons] at ul hn2
   have e3 : ∀ m, see (S.set p (some (.feed m)) ++ [some (MO.lst (us.map T3))]) (.loc S.length) = .lst (us.map T3) := fun m => see_loc (o := .lst (us.map T3)) (sx_get (i := 0) (by rw [List.length_set]; rfl))
   push_cast [true_and]
   refine ⟨by show 2 ≤ sizeLine; decide, next_of (sx_at hp) (by omega) (by decide) (by decide) fun a ha => ?_⟩
   rw [sx_feed pl]
   refine pickS (ys := ["on", "back"]) (by simp only [List.length_cons, List.length_nil]; omega) fun sd hsd => ?_
   push_cast [aBM, e3, isTy, true_and]
   refine ⟨_, rfl, next_of (sx_at hp) (by omega) (by decide) (by decide) fun b hb => ?_⟩
   rw [sx_feed pl]
   refine pickS (ys := B) (by omega) fun wd hwd => ?_
   refine ⟨_, rfl, next_of (sx_at hp) (by omega) (by decide) (by decide) fun c hc => ?_⟩
   rw [sx_feed pl]
   refine pickS (ys := A) (by omega) fun kn hkn => ?_
   refine ⟨by show 3 ≤ sizeLine; decide, _, _, _, rfl, rfl, sx_get (i := 0) (by rw [List.length_set]; rfl), by rw [List.length_map, sizeLine_eq]; omega, ?_⟩
   rw [sx_put (i := 0) (by rw [List.length_set]; rfl)]
   refine hN _ _ ⟨us ++ [(sd, wd, kn)], n2 + 1 + 1 + 1, some x, some (.str sd), rfl, by rw [List.map_append]; rfl, by rw [List.length_append]; simp only [List.length_cons, List.length_nil]; omega, fun y hy => ?_, by omega⟩
   rcases List.mem_append.mp hy with hy | hy
   ·exact hu' y hy
   ·have : y = (sd, wd, kn) := by simpa using hy
    subst this
    refine ⟨?_, nB _ hwd, nA _ hkn⟩
    simpa using hsd
end
open PySem L2 M
noncomputable def OkW (m : Nat) (y : Str) : Prop := y.length ≤ m ∧ Asc y
noncomputable def WL (n m : Nat) (ds : List D) : Prop := ds.length ≤ n ∧ ∀ e ∈ ds, ∃ y, e = .str y ∧ OkW m y
theorem WL.app {n m p q : Nat} {a b : List D} (h : WL n p a) (g : WL m q b) (hq : q ≤ p) : WL (n + m) p (a ++ b) := ⟨by rw [List.length_append]; have := h.1; have := g.1; omega, fun e he => by
 rcases List.mem_append.mp he with z | z
 ·exact h.2 e z
 ·obtain ⟨y, e1, e2⟩ := g.2 e z
  exact ⟨y, e1, Nat.le_trans e2.1 hq, e2.2⟩⟩
theorem WL.mono {n m p q : Nat} {a : List D} (h : WL n p a) (hn : n ≤ m) (hp : p ≤ q) : WL m q a := ⟨Nat.le_trans h.1 hn, fun e he => by
 obtain ⟨y, e1, e2⟩ := h.2 e he
 exact ⟨y, e1, Nat.le_trans e2.1 hp, e2.2⟩⟩
theorem mem_cut {α : Type} {l : List α} {lo hi : Option Int} {e : α} (h : e ∈ M.cutD l lo hi) : e ∈ l := List.mem_of_mem_drop (List.mem_of_mem_take h)
theorem len_cut {α : Type} {l : List α} {lo hi : Option Int} : (M.cutD l lo hi).length ≤ l.length := by
 unfold M.cutD
 rw [List.length_take, List.length_drop]; omega
theorem WL.cut {n m : Nat} {a : List D} {i j : Option Int} (h : WL n m a) : WL n m (M.cutD a i j) := ⟨Nat.le_trans len_cut h.1, fun e he => h.2 e (mem_cut he)⟩
theorem WL.one {m : Nat} {y : Str} (h : OkW m y) : WL 1 m [.str y] := ⟨Nat.le_refl _, fun e he => ⟨y, by simpa using he, h⟩⟩
theorem WL.strs {n m : Nat} {l : List Str} (hl : l.length ≤ n) (h : ∀ y ∈ l, OkW m y) : WL n m (l.map D.str) := ⟨by rw [List.length_map]; exact hl, fun e he => by
 obtain ⟨y, hy, rfl⟩ := List.mem_map.mp he
 exact ⟨y, rfl, h y hy⟩⟩
noncomputable def IT (L : List D) : Prop := ∀ e ∈ L, ∃ l, e = .lst l ∧ WL 545 17 l
theorem IT.cons {l : List D} {L : List D} (h : WL 545 17 l) (g : IT L) : IT (.lst l :: L) := fun e he => by
 rcases List.mem_cons.mp he with z | z
 ·exact ⟨l, z, h⟩
 ·exact g e z
theorem IT.nil : IT [] := fun e he => by simp at he
theorem IT.app {L M' : List D} (h : IT L) (g : IT M') : IT (L ++ M') := fun e he => (List.mem_append.mp he).elim (h e) (g e)
theorem sz {n : Nat} (h : n ≤ 5000) : n ≤ sizeLine := by rw [sizeLine_eq]; omega
theorem add_l {a b : List D} {S : Sto} {Q : AK} (h1 : a.length ≤ 1000) (h2 : b.length ≤ 1000) (q : Q (.new (.lst (a ++ b))) S) : aAdd (.lst a) (.lst b) S Q := ⟨by rw [sizeLine_eq]; omega, q⟩
theorem WL.words {n m : Nat} {a : List D} (h : WL n m a) : ∃ vs : List Str, a = vs.map D.str ∧ vs.length ≤ n ∧ ∀ y ∈ vs, OkW m y := by
 obtain ⟨hl, h⟩ := h
 induction a generalizing n with
 | nil => exact ⟨[], rfl, Nat.zero_le _, by simp⟩
 | cons e a ih =>
  obtain ⟨y, rfl, hy⟩ := h e (by simp)
  simp only [List.length_cons] at hl
  obtain ⟨vs, rfl, h1, h2⟩ := ih (n := n - 1) (by omega) fun x hx => h x (by simp [hx])
  refine ⟨y :: vs, rfl, by simp only [List.length_cons]; omega, fun x hx => ?_⟩
  rcases List.mem_cons.mp hx with z | z
  ·subst z; exact hy
  ·exact h2 x z
theorem seqA {a b : AS} {D : AEnds} {δ : AEnv} {S : Sto} (h : ∀ N : AEnv → Sto → Prop, (∀ δ' S', b D δ' S' → N δ' S') → a { D with nx := N } δ S) : aSeq a b D δ S := h (b D) fun _ _ z => z
theorem sign_at {c : Nat} (h : (c : Int) < 6) {S : Sto} {Q : AK} (k : ∀ y : Str, OkW 1 y → Q (.dat (.str y)) S) : aIx (.str "ayz A0") (.int c) S Q := by
 have hc : c = 0 ∨ c = 1 ∨ c = 2 ∨ c = 3 ∨ c = 4 ∨ c = 5 := by omega
 have ok : ∀ m : Nat, m < 128 → OkW 1 (⟨#[m]⟩ : Str) := fun m hm => ⟨Nat.le_refl _, fun x hx => by
  have : x = m := by simpa using hx
  subst this; exact hm⟩
 rcases hc with rfl | rfl | rfl | rfl | rfl | rfl
 all_goals exact ⟨by rw [sizeLine_eq]; decide +kernel, _, rfl, k _ (ok _ (by decide))⟩
theorem sl_ascA {y : Str} {l u : Option Int} (h : Asc y) : Asc (PySem.Txt.slice y l u) := by
 unfold PySem.Txt.slice
 split
 ·exact h
 ·intro c hc
  have hc : c ∈ (Builtin.Str.strSliceIndices l u 1 y.length).filterMap (y.cps[·]?) := by simpa using hc
  obtain ⟨i, _, e⟩ := List.mem_filterMap.mp hc
  exact h c (by
   have : y.cps.toList[i]? = some c := by rw [← e]; simp
   exact List.mem_of_getElem? this)
theorem slc_lst {ds : List D} {i j : Option Int} {S : Sto} {Q : AK} : aSlc (.lst ds) i j S Q = Q (.new (.lst (M.cutD ds i j))) S := rfl
theorem slc_str {z : Str} {i j : Option Int} {S : Sto} {Q : AK} : aSlc (.str z) i j S Q = (z.length ≤ sizeLine ∧ Q (.dat (.str (PySem.Txt.slice z i j))) S) := rfl
theorem add_loc {n : Nat} {L b : List D} {S : Sto} {Q : AK} (h : see S (.loc n) = .lst L) (hl : L.length + b.length ≤ 5000) (q : Q (.new (.lst (L ++ b))) S) : aAdd (.loc n) (.lst b) S Q := by
 unfold aAdd
 rw [h, see_lst']
 exact ⟨sz hl, q⟩
theorem cur_get {S X : Sto} {p : Nat} {f o : Option MO} : (S.set p f ++ (X ++ [o]))[S.length + X.length]? = some o := by
 rw [List.getElem?_append_right (by rw [List.length_set]; omega), List.length_set, show S.length + X.length - S.length = X.length by omega, List.getElem?_append_right (Nat.le_refl _), Nat.sub_self]; rfl
theorem cur_see {S X : Sto} {p : Nat} {f : Option MO} {L : List D} : see (S.set p f ++ (X ++ [some (.lst L)])) (.loc (S.length + X.length)) = .lst L := see_loc (o := .lst L) cur_get
theorem cur_set {S X : Sto} {p : Nat} {f o o' : Option MO} : (S.set p f ++ (X ++ [o])).set (S.length + X.length) o' = S.set p f ++ (X ++ [o']) := by
 rw [List.set_append, if_neg (by rw [List.length_set]; omega), List.length_set, show S.length + X.length - S.length = X.length by omega, List.set_append, if_neg (by omega), Nat.sub_self]; rfl
theorem cur_new {S X : Sto} {p : Nat} {f o o' : Option MO} : (S.set p f ++ (X ++ [o])) ++ [o'] = S.set p f ++ ((X ++ [o]) ++ [o']) ∧ (S.set p f ++ (X ++ [o])).length = S.length + (X ++ [o]).length := ⟨by simp, by simp⟩
section
variable {P : Program} {w : World} {K : PySem.W.Frag} {mg : Str → Option Value} {base : Heap} {cs : Nat → Addr} {CP C fi : Addr}
noncomputable def spSpoilt : AN := fun ds S Q => ∃ (p n : Nat) (A B : List Str) (x : D) (ws : List Str), ds = [.loc p, .lst (ws.map D.str), x] ∧ NamesD A B x ∧ S[p]? = some (some (.feed n)) ∧ n + 10 < 1000 ∧ 1 ≤ ws.length ∧ ws.length ≤ 181 ∧ (∀ y ∈ ws, OkW 8 y) ∧
 ∀ (vs : List Str) (n' : Nat), vs.length ≤ 545 → (∀ y ∈ vs, OkW 17 y) → n' ≤ n + 10 → Q (.dat (.lst (vs.map D.str))) (S.set p (some (.feed n')))
theorem d_Spoilt (T : Txt K mg cs CP C fi) (F : Src K mg "_law_spoilt" PscSpoilt sSpoilt) (D_law_next : Def P w K mg base 1 "_law_next" PscNext (conSp K spNextA)) : Def P w K mg base 2 "_law_spoilt" PscSpoilt (conSp K spSpoilt) := by
 refine defA F scSpoilt (fun ds S Q h => ?_) (fun f cdv A outer s H E hr => ?_)
 ·obtain ⟨p, n, A, B, x, ws, rfl, _⟩ := h; rfl
 ·refine ⟨_, (M.pss_cons (M.ps_set (i := 3) scSpoilt.nd rfl (Or.inl rfl) (M.pe_op M.o_add (M.pe_op M.o_add (M.pe_lst (M.pac M.pe_str (M.pac M.pe_str (M.pac M.pe_str (M.pac M.pe_str (M.pac M.pe_str (M.pac M.pe_str (M.pac M.pe_str (M.pac M.pe_str (M.pac M.pe_str (M.pac M.pe_str (M.pac M.pe_str M.pa_nil)))))))))))) (M.pe_ix M.o_ix (M.pv 2) M.pe_int (fun _ _ => rfl))) (M.pe_ix M.o_ix (M.pv 2) M.pe_int (fun _ _ => rfl))))
   (M.pss_cons (M.ps_set (i := 4) scSpoilt.nd rfl (Or.inl rfl) (M.pe_own D_law_next (hr.mono (by decide)) (by rfl) (M.pac (M.pv 0) (M.pac (M.pcb M.o_len (by rfl) T.len (by decide +kernel) (M.pac (M.pv 1) M.pa_nil)) M.pa_nil))))
   (M.pss_cons (M.ps_set (i := 5) scSpoilt.nd rfl (Or.inl rfl) (M.pe_ix M.o_ix (M.pv 1) (M.pv 4) (fun _ _ => rfl)))
   (M.pss_cons (M.ps_set (i := 6) scSpoilt.nd rfl (Or.inl rfl) (M.pe_own D_law_next (hr.mono (by decide)) (by rfl) (M.pac (M.pv 0) (M.pac (M.pe_op M.o_add (M.pcb M.o_len (by rfl) T.len (by decide +kernel) (M.pac (M.pv 5) M.pa_nil)) M.pe_int) M.pa_nil))))
   (M.pss_cons (M.ps_set (i := 7) scSpoilt.nd rfl (Or.inl rfl) (M.pe_ix M.o_ix M.pe_str (M.pe_own D_law_next (hr.mono (by decide)) (by rfl) (M.pac (M.pv 0) (M.pac M.pe_int M.pa_nil))) (fun _ _ => rfl)))
   (M.pss_cons (M.ps_set (i := 8) scSpoilt.nd rfl (Or.inl rfl) (M.pe_ix M.o_ix (M.pv 3) (M.pe_own D_law_next (hr.mono (by decide)) (by rfl) (M.pac (M.pv 0) (M.pac (M.pcb M.o_len (by rfl) T.len (by decide +kernel) (M.pac (M.pv 3) M.pa_nil)) M.pa_nil))) (fun _ _ => rfl)))
   (M.pss_cons (M.ps_set (i := 9) scSpoilt.nd rfl (Or.inl rfl) (M.pe_slice M.o_slc (M.pv 1) M.po_none (M.po_some (M.pv 4))))
   (M.pss_cons (M.ps_set (i := 10) scSpoilt.nd rfl (Or.inl rfl) (M.pe_slice M.o_slc (M.pv 1) (M.po_some (M.pe_op M.o_add (M.pv 4) M.pe_int)) M.po_none))
   (M.pss_cons (M.ps_set (i := 11) scSpoilt.nd rfl (Or.inl rfl) (M.alo (M.pe_lst (M.pac (M.pe_op M.o_add (M.pv 9) (M.pv 10)) (M.pac (M.pe_op M.o_add (M.pe_op M.o_add (M.pv 9) (M.pe_lst (M.pac (M.pv 5) (M.pac (M.pv 5) M.pa_nil)))) (M.pv 10)) M.pa_nil)))))
   (M.pss_cons (M.ps_set (i := 11) scSpoilt.nd rfl (Or.inl rfl) (M.alo (M.pe_op M.o_add (M.pv 11) (M.pe_lst (M.pac (M.pe_op M.o_add (M.pv 1) (M.pe_lst (M.pac (M.pv 8) M.pa_nil))) (M.pac (M.pv 9) M.pa_nil))))))
   (M.pss_cons (M.ps_expr (M.pe_bm PySem.F.plainAttrs_list PySem.F.slot_list_append PySem.F.type_list_append M.m_append (M.pv 11) (M.pac (M.pe_op M.o_add (M.pe_op M.o_add (M.pe_op M.o_add (M.pv 9) (M.pe_slice M.o_slc (M.pv 10) M.po_none (M.po_some M.pe_int))) (M.pe_lst (M.pac (M.pv 5) M.pa_nil))) (M.pe_slice M.o_slc (M.pv 10) (M.po_some M.pe_int) M.po_none)) M.pa_nil)))
   (M.pss_cons (M.ps_set (i := 11) scSpoilt.nd rfl (Or.inl rfl) (M.alo (M.pe_op M.o_add (M.pv 11) (M.pe_op M.o_mul (M.pe_lst (M.pac (M.pe_op M.o_add (M.pe_op M.o_add (M.pv 9) (M.pe_lst (M.pac (M.pv 8) M.pa_nil))) (M.pv 10)) M.pa_nil)) M.pe_int))))
   (M.pss_cons (M.ps_expr (M.pe_bm PySem.F.plainAttrs_list PySem.F.slot_list_append PySem.F.type_list_append M.m_append (M.pv 11) (M.pac (M.pe_op M.o_add (M.pe_op M.o_add (M.pv 9) (M.pe_lst (M.pac (M.pe_op M.o_add (M.pe_op M.o_add (M.pe_slice M.o_slc (M.pv 5) M.po_none (M.po_some (M.pv 6))) (M.pv 7)) (M.pe_slice M.o_slc (M.pv 5) (M.po_some (M.pv 6)) M.po_none)) M.pa_nil))) (M.pv 10)) M.pa_nil)))
   (M.pss_cons (M.ps_expr (M.pe_bm PySem.F.plainAttrs_list PySem.F.slot_list_append PySem.F.type_list_append M.m_append (M.pv 11) (M.pac (M.pe_op M.o_add (M.pe_op M.o_add (M.pv 9) (M.pe_lst (M.pac (M.pe_op M.o_add (M.pe_slice M.o_slc (M.pv 5) M.po_none (M.po_some (M.pv 6))) (M.pe_slice M.o_slc (M.pv 5) (M.po_some (M.pe_op M.o_add (M.pv 6) M.pe_int)) M.po_none)) M.pa_nil))) (M.pv 10)) M.pa_nil)))
   (M.pss_one (M.ps_ret (M.pe_ix M.o_ix (M.pv 11) (M.pe_own D_law_next (hr.mono (by decide)) (by rfl) (M.pac (M.pv 0) (M.pac M.pe_int M.pa_nil))) (fun _ _ => rfl)))))))))))))))))), fun ds S Q h => ?_⟩
  obtain ⟨p, n, A, B, x, ws, rfl, ⟨hx, lA, lB, nA, nB⟩, hp, hn, w1, w2, hws, q⟩ := h
  subst hx
  have e0 : startA NscSpoilt [.loc p, .lst (ws.map D.str), .lst [.lst (A.map D.str), .lst (B.map D.str)]] = [some (.loc p), some (.lst (ws.map D.str)), some (.lst [.lst (A.map D.str), .lst (B.map D.str)]), none, none, none, none, none, none, none, none, none] := rfl
  rw [e0]
  have pl : p < S.length := (List.getElem?_eq_some_iff.mp hp).1
  refine seqA fun N1 h1 => ?_
  push_cast [true_and]
  have some11 : WL 11 9 (["", "on", "back", "On", "*", "at", "a", "abcdefghi", "A", "1", "-"].map fun s : String => D.str (Str.ofString s)) := by
   refine ⟨by decide, fun e he => ?_⟩
   simp only [List.map_cons, List.map_nil, List.mem_cons, List.not_mem_nil, or_false] at he
   rcases he with rfl | rfl | rfl | rfl | rfl | rfl | rfl | rfl | rfl | rfl | rfl <;> exact ⟨_, rfl, by decide +kernel, asc_of (by decide +kernel)⟩
  have okA : ∀ y ∈ A, OkW 9 y := fun y hy => ⟨by have := (nA y hy).2.1; omega, (nA y hy).asc⟩
  have okB : ∀ y ∈ B, OkW 9 y := fun y hy => ⟨by have := (nB y hy).2.1; omega, (nB y hy).asc⟩
  refine ⟨by show 11 ≤ sizeLine; decide, _, rfl, add_l (by decide) (by rw [List.length_map]; omega) ⟨_, rfl, add_l ?_ (by rw [List.length_map]; omega) (h1 _ _ ?_)⟩⟩
  ·show (_ ++ _ : List D).length ≤ 1000
   rw [List.length_append, List.length_map, lA]; decide
  clear h1
  have wS : WL 18 9 ([D.str "", D.str "on", D.str "back", D.str "On", D.str "*", D.str "at", D.str "a", D.str "abcdefghi", D.str "A", D.str "1", D.str "-"] ++ A.map D.str ++ B.map D.str) := ((some11.app (WL.strs (n := 4) (by omega) okA) (Nat.le_refl _)).app (WL.strs (n := 3) (by omega) okB) (Nat.le_refl _))
  have lS : ([D.str "", D.str "on", D.str "back", D.str "On", D.str "*", D.str "at", D.str "a", D.str "abcdefghi", D.str "A", D.str "1", D.str "-"] ++ A.map D.str ++ B.map D.str).length = 18 := by simp [lA, lB]
  show (aSeq _ _) _ [_, _, _, some (.lst ([D.str "", D.str "on", D.str "back", D.str "On", D.str "*", D.str "at", D.str "a", D.str "abcdefghi", D.str "A", D.str "1", D.str "-"] ++ A.map D.str ++ B.map D.str)), _, _, _, _, _, _, _, _] _
  generalize [D.str "", D.str "on", D.str "back", D.str "On", D.str "*", D.str "at", D.str "a", D.str "abcdefghi", D.str "A", D.str "1", D.str "-"] ++ A.map D.str ++ B.map D.str = SM at wS lS
  refine seqA fun N2 h2 => ?_
  push_cast [true_and]
  refine ⟨ws.length, by simp only [lenD, List.length_map], next_of hp (by omega) (by omega) (by omega) fun a ha => h2 _ _ ?_⟩
  clear h2
  refine seqA fun N3 h3 => ?_
  push_cast [true_and]
  refine pickS (by omega) fun wd hwd => h3 _ _ ?_
  clear h3
  have owd := hws wd hwd
  refine seqA fun N4 h4 => ?_
  push_cast [true_and]
  refine ⟨wd.length, by simp only [lenD]; rw [if_pos (by have := owd.1; rw [sizeLine_eq]; omega)], next_of (set_at hp) (by omega) (by omega) (by have := owd.1; omega) fun b hb => h4 _ _ ?_⟩
  clear h4
  rw [List.set_set]
  refine seqA fun N5 h5 => ?_
  push_cast [true_and]
  refine next_of (set_at hp) (by omega) (by decide) (by decide) fun c hc => ?_
  rw [List.set_set]
  refine sign_at hc fun sg osg => h5 _ _ ?_
  clear h5
  refine seqA fun N6 h6 => ?_
  push_cast [true_and]
  refine ⟨SM.length, by simp only [lenD], next_of (set_at hp) (by omega) (by omega) (by omega) fun d hd => ?_⟩
  rw [List.set_set]
  refine pick (by omega) fun e he => h6 _ _ ?_
  obtain ⟨ot, rfl, oot⟩ := wS.2 e he
  clear h6
  refine seqA fun N7 h7 => ?_
  push_cast [true_and]
  have wW : WL 181 8 (ws.map D.str) := WL.strs w2 hws
  refine h7 _ _ ?_
  clear h7
  have wH : WL 181 8 (M.cutD (ws.map D.str) none (some (a : Int))) := wW.cut
  refine seqA fun N8 h8 => ?_
  push_cast [true_and]
  have wT : WL 181 8 (M.cutD (ws.map D.str) (some ((a : Int) + 1)) none) := wW.cut
  refine h8 _ _ ?_
  clear h8
  show (aSeq _ _) _ [_, _, _, _, _, _, _, _, _, some (.lst (M.cutD (ws.map D.str) none (some (a : Int)))), some (.lst (M.cutD (ws.map D.str) (some ((a : Int) + 1)) none)), _] _
  generalize M.cutD (ws.map D.str) none (some (a : Int)) = HD at wH
  generalize M.cutD (ws.map D.str) (some ((a : Int) + 1)) none = TL at wT
  have lH := wH.1
  have lT := wT.1
  have w2' : WL 2 8 [D.str wd, D.str wd] := (WL.one owd).app (WL.one owd) (Nat.le_refl _)
  have hpl : (S.set p (some (MO.feed (n + 1 + 1 + 1 + 1)))).length = S.length := List.length_set
  refine seqA fun N9 h9 => ?_
  push_cast [aAlloc]
  refine ⟨sz (by first | omega | (simp only [List.length_append, List.length_cons, List.length_nil, List.length_map]; omega)), sz (by first | omega | (simp only [List.length_append, List.length_cons, List.length_nil, List.length_map]; omega)), sz (by first | omega | (simp only [List.length_append, List.length_cons, List.length_nil, List.length_map]; omega)), sz (by first | omega | (simp only [List.length_append, List.length_cons, List.length_nil, List.length_map]; omega)), sz (by first | omega | (simp only [List.length_append, List.length_cons, List.length_nil, List.length_map]; omega)), h9 _ _ ?_⟩
  clear h9
  have i1 : IT [.lst (HD ++ TL), .lst (HD ++ [.str wd, .str wd] ++ TL)] := .cons ((wH.app wT (Nat.le_refl _)).mono (by decide) (by decide)) (.cons (((wH.app w2' (Nat.le_refl _)).app wT (Nat.le_refl _)).mono (by decide) (by decide)) .nil)
  rw [hpl]
  show (aSeq _ _) _ [_, _, _, _, _, _, _, _, _, _, _, some (.loc (S.length + ([] : Sto).length))] (S.set p (some (MO.feed (n + 1 + 1 + 1 + 1))) ++ ([] ++ [some (MO.lst [.lst (HD ++ TL), .lst (HD ++ [.str wd, .str wd] ++ TL)])]))
  generalize hI1 : [D.lst (HD ++ TL), D.lst (HD ++ [D.str wd, D.str wd] ++ TL)] = I1 at i1
  have l1 : I1.length = 2 := by rw [← hI1]; rfl
  clear hI1
  refine seqA fun N10 h10 => ?_
  push_cast [aAlloc]
  refine ⟨sz (by first | omega | (simp only [List.length_append, List.length_cons, List.length_nil, List.length_map]; omega)), sz (by first | omega | (simp only [List.length_append, List.length_cons, List.length_nil, List.length_map]; omega)), sz (by first | omega | (simp only [List.length_append, List.length_cons, List.length_nil, List.length_map]; omega)), add_loc (L := I1) (cur_see (X := [])) (by simp only [List.length_cons, List.length_nil]; omega) (h10 _ _ ?_)⟩
  clear h10
  rw [(cur_new (X := [])).1, (cur_new (X := []) (o' := none)).2]
  have i2 : IT (I1 ++ [.lst (ws.map D.str ++ [.str ot]), .lst HD]) := i1.app (.cons (((wW.mono (Nat.le_refl _) (by decide)).app (WL.one oot) (Nat.le_refl 9)).mono (by decide) (by decide)) (.cons (wH.mono (by decide) (by decide)) .nil))
  have l2 : (I1 ++ [D.lst (ws.map D.str ++ [D.str ot]), D.lst HD]).length = 4 := by simp [l1]
  generalize I1 ++ [D.lst (ws.map D.str ++ [D.str ot]), D.lst HD] = I2 at i2 l2
  generalize ([] ++ [some (MO.lst I1)] : Sto) = X1
  refine seqA fun N11 h11 => ?_
  push_cast [aBM, cur_see, isTy, true_and]
  have wT1 : WL 181 8 (M.cutD TL none (some 1)) := wT.cut
  have wT2 : WL 181 8 (M.cutD TL (some 1) none) := wT.cut
  push_cast [slc_lst]
  have lT1 := wT1.1
  have lT2 := wT2.1
  refine ⟨sz (by first | omega | (simp only [List.length_append, List.length_cons, List.length_nil, List.length_map]; omega)), sz (by first | omega | (simp only [List.length_append, List.length_cons, List.length_nil, List.length_map]; omega)), sz (by first | omega | (simp only [List.length_append, List.length_cons, List.length_nil, List.length_map]; omega)), sz (by first | omega | (simp only [List.length_append, List.length_cons, List.length_nil, List.length_map]; omega)), _, _, _, rfl, rfl, cur_get, by rw [sizeLine_eq]; omega, h11 _ _ ?_⟩
  clear h11
  rw [cur_set]
  have wH9 : WL 181 9 HD := wH.mono (Nat.le_refl _) (by decide)
  have i3 : IT (I2 ++ [.lst (HD ++ M.cutD TL none (some 1) ++ [.str wd] ++ M.cutD TL (some 1) none)]) := i2.app (.cons ((((wH9.app wT1 (by decide)).app (WL.one owd) (by decide)).app wT2 (by decide)).mono (by decide) (by decide)) .nil)
  have l3 : (I2 ++ [D.lst (HD ++ M.cutD TL none (some 1) ++ [.str wd] ++ M.cutD TL (some 1) none)]).length = 5 := by simp [l2]
  show (aSeq _ _) _ _ (S.set p (some (MO.feed (n + 1 + 1 + 1 + 1))) ++ (X1 ++ [some (MO.lst (I2 ++ [D.lst (HD ++ M.cutD TL none (some 1) ++ [.str wd] ++ M.cutD TL (some 1) none)]))]))
  generalize I2 ++ [D.lst (HD ++ M.cutD TL none (some 1) ++ [.str wd] ++ M.cutD TL (some 1) none)] = I3 at i3 l3
  refine seqA fun N12 h12 => ?_
  push_cast [aAlloc]
  refine ⟨sz (by first | omega | (simp only [List.length_append, List.length_cons, List.length_nil, List.length_map]; omega)), sz (by first | omega | (simp only [List.length_append, List.length_cons, List.length_nil, List.length_map]; omega)), sz (by first | omega | (simp only [List.length_append, List.length_cons, List.length_nil, List.length_map]; omega)), sz (by first | omega | (simp only [List.length_append, List.length_cons, List.length_nil, List.length_map]; omega)), ⟨by decide, by decide⟩, sz (by first | omega | (simp only [List.length_append, List.length_cons, List.length_nil, List.length_map]; omega)), add_loc (L := I3) cur_see (by simp [l3]) (h12 _ _ ?_)⟩
  clear h12
  rw [cur_new.1, (cur_new (o' := none)).2]
  have w3 : WL 545 17 (HD ++ [.str ot] ++ TL) := ((wH9.app (WL.one oot) (by decide)).app wT (by decide)).mono (by decide) (by decide)
  have e4 : (List.replicate (Int.toNat 3) [D.lst (HD ++ [D.str ot] ++ TL)]).flatten = [D.lst (HD ++ [D.str ot] ++ TL), D.lst (HD ++ [D.str ot] ++ TL), D.lst (HD ++ [D.str ot] ++ TL)] := rfl
  rw [e4]
  have i4 : IT (I3 ++ [D.lst (HD ++ [D.str ot] ++ TL), D.lst (HD ++ [D.str ot] ++ TL), D.lst (HD ++ [D.str ot] ++ TL)]) := i3.app (.cons w3 (.cons w3 (.cons w3 .nil)))
  have l4 : (I3 ++ [D.lst (HD ++ [D.str ot] ++ TL), D.lst (HD ++ [D.str ot] ++ TL), D.lst (HD ++ [D.str ot] ++ TL)]).length = 8 := by simp [l3]
  generalize I3 ++ [D.lst (HD ++ [D.str ot] ++ TL), D.lst (HD ++ [D.str ot] ++ TL), D.lst (HD ++ [D.str ot] ++ TL)] = I4 at i4 l4
  generalize X1 ++ [some (MO.lst I3)] = X2
  have oW := owd.1
  have sl1 : ∀ i j, (PySem.Txt.slice wd i j).length ≤ 8 := fun i j => Nat.le_trans (PySem.Txt.slice_le wd i j) oW
  have sl2 : ∀ i j, Asc (PySem.Txt.slice wd i j) := fun i j => sl_ascA owd.2
  have osl := osg.1
  refine seqA fun N13 h13 => ?_
  push_cast [aBM, cur_see, isTy, true_and, slc_str, slc_lst]
  have sA := sl1 none (some (b : Int))
  have sB := sl1 (some (b : Int)) none
  have sC := sl1 (some ((b : Int) + 1)) none
  have oN : OkW 17 (PySem.Txt.slice wd none (some (b : Int)) ++ sg ++ PySem.Txt.slice wd (some (b : Int)) none) := ⟨by rw [strLen_append, strLen_append]; omega, ((sl2 _ _).append osg.2).append (sl2 _ _)⟩
  have oM : OkW 17 (PySem.Txt.slice wd none (some (b : Int)) ++ PySem.Txt.slice wd (some ((b : Int) + 1)) none) := ⟨by rw [strLen_append]; omega, (sl2 _ _).append (sl2 _ _)⟩
  refine ⟨sz (by first | omega | (simp only [List.length_append, List.length_cons, List.length_nil, List.length_map]; omega)), sz (by first | omega | (simp only [List.length_append, List.length_cons, List.length_nil, List.length_map]; omega)), sz (by first | omega | (simp only [List.length_append, List.length_cons, List.length_nil, List.length_map]; omega)), sz (by rw [strLen_append]; omega), sz (by first | omega | (simp only [List.length_append, List.length_cons, List.length_nil, List.length_map]; omega)), sz (by first | omega | (simp only [List.length_append, List.length_cons, List.length_nil, List.length_map]; omega)), sz (by first | omega | (simp only [List.length_append, List.length_cons, List.length_nil, List.length_map]; omega)), _, _, _, rfl, rfl, cur_get, by rw [sizeLine_eq]; omega, h13 _ _ ?_⟩
  clear h13
  rw [cur_set]
  have wH17 : WL 181 17 HD := wH.mono (Nat.le_refl _) (by decide)
  have i5 : IT (I4 ++ [.lst (HD ++ [.str (PySem.Txt.slice wd none (some (b : Int)) ++ sg ++ PySem.Txt.slice wd (some (b : Int)) none)] ++ TL)]) := i4.app (.cons (((wH17.app (WL.one oN) (Nat.le_refl _)).app wT (by decide)).mono (by decide) (Nat.le_refl _)) .nil)
  have l5 : (I4 ++ [D.lst (HD ++ [.str (PySem.Txt.slice wd none (some (b : Int)) ++ sg ++ PySem.Txt.slice wd (some (b : Int)) none)] ++ TL)]).length = 9 := by simp [l4]
  show (aSeq _ _) _ _ (S.set p (some (MO.feed (n + 1 + 1 + 1 + 1))) ++ (X2 ++ [some (MO.lst (I4 ++ [D.lst (HD ++ [.str (PySem.Txt.slice wd none (some (b : Int)) ++ sg ++ PySem.Txt.slice wd (some (b : Int)) none)] ++ TL)]))]))
  generalize I4 ++ [D.lst (HD ++ [.str (PySem.Txt.slice wd none (some (b : Int)) ++ sg ++ PySem.Txt.slice wd (some (b : Int)) none)] ++ TL)] = I5 at i5 l5
  refine seqA fun N14 h14 => ?_
  push_cast [aBM, cur_see, isTy, true_and, slc_str, slc_lst]
  refine ⟨sz (by first | omega | (simp only [List.length_append, List.length_cons, List.length_nil, List.length_map]; omega)), sz (by first | omega | (simp only [List.length_append, List.length_cons, List.length_nil, List.length_map]; omega)), sz (by first | omega | (simp only [List.length_append, List.length_cons, List.length_nil, List.length_map]; omega)), sz (by first | omega | (simp only [List.length_append, List.length_cons, List.length_nil, List.length_map]; omega)), sz (by first | omega | (simp only [List.length_append, List.length_cons, List.length_nil, List.length_map]; omega)), sz (by first | omega | (simp only [List.length_append, List.length_cons, List.length_nil, List.length_map]; omega)), _, _, _, rfl, rfl, cur_get, by rw [sizeLine_eq]; omega, h14 _ _ ?_⟩
  clear h14
  rw [cur_set]
  have i6 : IT (I5 ++ [.lst (HD ++ [.str (PySem.Txt.slice wd none (some (b : Int)) ++ PySem.Txt.slice wd (some ((b : Int) + 1)) none)] ++ TL)]) := i5.app (.cons (((wH17.app (WL.one oM) (Nat.le_refl _)).app wT (by decide)).mono (by decide) (Nat.le_refl _)) .nil)
  have l6 : (I5 ++ [D.lst (HD ++ [.str (PySem.Txt.slice wd none (some (b : Int)) ++ PySem.Txt.slice wd (some ((b : Int) + 1)) none)] ++ TL)]).length = 10 := by simp [l5]
  show (aRet _) _ _ (S.set p (some (MO.feed (n + 1 + 1 + 1 + 1))) ++ (X2 ++ [some (MO.lst (I5 ++ [D.lst (HD ++ [.str (PySem.Txt.slice wd none (some (b : Int)) ++ PySem.Txt.slice wd (some ((b : Int) + 1)) none)] ++ TL)]))]))
  generalize I5 ++ [D.lst (HD ++ [.str (PySem.Txt.slice wd none (some (b : Int)) ++ PySem.Txt.slice wd (some ((b : Int) + 1)) none)] ++ TL)] = I6 at i6 l6
  push_cast [true_and]
  refine next_of (sx_at hp) (by omega) (by decide) (by decide) fun g hg => ?_
  rw [sx_feed pl]
  show aIx (.loc (S.length + X2.length)) (.int (g : Int)) _ _
  unfold aIx
  rw [cur_see]
  obtain ⟨e', h1', h2'⟩ := at_lt (ds := I6) (z := g) (by omega)
  refine ⟨e', h1', ?_⟩
  obtain ⟨l, rfl, wl'⟩ := i6 e' h2'
  obtain ⟨vs, rfl, v1, v2⟩ := wl'.words
  exact ret_feed (by simpa [M.pur] using purs_strs vs) (q vs _ v1 v2 (by omega))
end
open PySem L2 M
theorem ok_same {K : PySem.W.Frag} {w : Wd} {H H' : Hp} {S : Sto} (ok : Ok K w H S) (h : Same H H') : Ok K w H' S :=
 ⟨fun b o e => h b o (ok.base b o e), fun n o e => by
  obtain ⟨a, u, h1, h2, h3, h4⟩ := ok.live n o e
  exact ⟨a, u, h1, h2, h a u h3, h4⟩, ok.inj, ok.top⟩
theorem ok_two {K : PySem.W.Frag} {w : Wd} {H H' : Hp} {S : Sto} {a b : Addr} {u v : HO} (ok : Ok K w H S) (na : H a = none) (nb : H b = none) (ha : H' a = some u) (hb : H' b = some v) (s : Same H H') :
  w.le ⟨upd (upd w.B a u) b v, w.r⟩ ∧ Ok K ⟨upd (upd w.B a u) b v, w.r⟩ H' S := by
 have le : w.le ⟨upd (upd w.B a u) b v, w.r⟩ := ⟨fun c o e => by
  have h := ok.base c o e
  show upd (upd w.B a u) b v c = some o
  rw [upd_ne (ne_of_none h nb), upd_ne (ne_of_none h na)]; exact e, fun _ _ e => e⟩
 refine ⟨le, ⟨fun c o e => ?_, fun n o e => ?_, ok.inj, ok.top⟩⟩
 ·have e : upd (upd w.B a u) b v c = some o := e
  by_cases hb' : c = b
  ·subst hb'; rw [upd_same] at e; rw [hb]; exact e
  ·rw [upd_ne hb'] at e
   by_cases ha' : c = a
   ·subst ha'; rw [upd_same] at e; rw [ha]; exact e
   ·rw [upd_ne ha'] at e; exact s c o (ok.base c o e)
 ·obtain ⟨c, x, h1, h2, h3, h4⟩ := ok.live n o e
  refine ⟨c, x, h1, ?_, s c x h3, h4.le le⟩
  show upd (upd w.B a u) b v c = none
  rw [upd_ne (ne_of_none h3 nb), upd_ne (ne_of_none h3 na)]; exact h2
noncomputable def TOk (t : Str) : Prop := t.length ≤ 10000 ∧ (PySem.Txt.split t " ").length ≤ 10000 ∧ ∀ y ∈ PySem.Txt.split t " ", okS y = true
theorem join_split (t : Str) : PySem.Txt.join " " (PySem.Txt.split t " ") = t := by
 have e : PySem.Txt.join " " (PySem.Txt.split t " ") = Str.join " " (PySem.Txt.split t " ") := PySem.StrLaws.glued_eq_join _ _
 rw [e]
 exact PySem.StrLaws.join_split t " "
section
variable {P : Program} {w : World} {K : PySem.W.Frag} {mg : Str → Option Value} {base : Heap} {cs : Nat → Addr} {CP C fi : Addr}
noncomputable def spRight : AN := fun ds S Q => ∃ t : Str, ds = [.str t] ∧ TOk t ∧ Q (.dat (.bl true)) S
theorem d_Right (T : Txt K mg cs CP C fi) (F : Src K mg "_law_right" PscRight sRight) (D_read_way : Def P w K mg base 6 "read_way" PscRead (conSp K spRead)) (D_bad : DefR P w K mg base 6 "read_way" PscRead (badSpE K CP (cs 7) "at" badR)) (D_law_wrong : Def P w K mg base 2 "_law_wrong" PscWrong (conSp K spWrong)) (D_shown_way : Def P w K mg base 1 "shown_way" PscShown (conSp K spShown)) (D_law_own : Def P w K mg base 1 "_law_own" PscOwn (spOwn cs)) :
  Def P w K mg base 7 "_law_right" PscRight (conSp K spRight) := by
 refine F.def scRight (fun vs H Q E h => ?_) (fun f cdv A outer s H vs Q E hr h => ?_)
 ·obtain ⟨w, ds, S, Qa, _, r, ⟨t, rfl, _⟩, _⟩ := h; rw [r.length]; rfl
 ·obtain ⟨w, ds, S, Qa, ok, rep, ⟨t, rfl, ⟨htl, hwl, hok⟩, q⟩, bk⟩ := h
  obtain ⟨v0, rfl, r0⟩ := reps1 rep
  have ev0 : v0 = .str t := rep_str r0 rfl
  subst ev0
  cases hw : wrg 0 (PySem.Txt.split t " ") with
  | none =>
   obtain ⟨k, us, hsp, hk, hus, hul⟩ := wrg_way hw
   have g : GSs (cxOf CX0 P _ K mg base NscRight "_law_right" (defScope sRight) f cdv A outer s H E).nox (defBody sRight) _ := (M.pss_cons (M.ps_set (i := 1) scRight.nd rfl (Or.inl rfl) M.pe_non)
   (M.pss_cons (M.ps_set (i := 2) scRight.nd rfl (Or.inl rfl) M.pe_non)
   (M.pss_cons (M.ps_tryN rfl (M.pss_one (M.ps_set (i := 1) scRight.nd rfl (Or.inl rfl) (M.pe_own D_read_way hr (by rfl) (M.pac (M.pv 0) M.pa_nil)))))
   (M.pss_cons (M.ps_set (i := 4) scRight.nd rfl (Or.inl rfl) (M.pe_own D_law_wrong (hr.mono (by decide)) (by rfl) (M.pac (M.pe_bm PySem.F.plainAttrs_str PySem.F.slot_str_split PySem.F.type_str_split M.m_split (M.pv 0) (M.pac M.pe_str M.pa_nil)) M.pa_nil)))
   (M.pss_cons (M.ps_if (M.pt_cmpR M.o_isN (M.pv 4) M.pe_non (nomark _))
    (M.pss_one (M.ps_ret (M.pe_and (M.pe_cmpR M.o_isN (M.pv 2) M.pe_non (nomark _)) (M.pe_one (M.pe_cmpR (M.o_eq hr) (M.pe_own D_shown_way (hr.mono (by decide)) (by rfl) (M.pac (M.pv 1) M.pa_nil)) (M.pv 0) (nomark _))))))
    M.pss_nil)
   (M.pss_cons M.ps_never (M.pss_one M.ps_never)))))))
   refine ⟨_, g.p, w, startA NscRight [.str t], S, { nx := fun _ S' => ret S S' (.dat .non) Qa, rt := fun r S' => ret S S' r Qa }, ok, env_start rep, ?_, ⟨fun δ S' σ w' H' le ok' env q' => ret_ok (r := .dat .non) (v := .non) ok le ok' (show Rep K w' .non .non from .non) q' bk, fun r S' v w' H' le ok' rep' q' => ret_ok ok le ok' rep' q' bk, fun _ _ _ _ _ _ _ _ z => z.elim, fun _ _ _ _ _ _ _ _ z => z.elim⟩⟩
   have e0 : startA NscRight [.str t] = [some (.str t), none, none, none, none] := rfl
   rw [e0]
   push_cast [aBM, isTy, true_and, aSplit]
   refine ⟨t, k, us, rfl, htl, hsp, hul, hok, hk, hus, by decide +kernel, by rw [sizeLine_eq]; omega, PySem.Txt.split t " ", rfl, hwl, hok, ?_⟩
   rw [hw]
   have hlen : ∀ y ∈ k :: fl3 us, y.length ≤ 100 := fun y hy => by
    have h := hok y (by rw [hsp]; exact hy)
    unfold okS at h
    rw [Bool.and_eq_true] at h
    exact of_decide_eq_true h.2
   have ej : PySem.Txt.join " " (k :: fl3 us) = t := by rw [← hsp]; exact join_split t
   refine ⟨rfl, true, rfl, iteT ⟨rfl, true, rfl, iteT ⟨k, us, rfl, hul, hlen, ?_⟩⟩⟩
   rw [ej]
   show ret S S (.dat (.bl (decide (t = t)))) Qa
   rw [decide_eq_true rfl, ret_bl]; exact q
  | some n =>
   refine ⟨_, pss_cons (L2.ps_set (i := 1) scRight.nd rfl (Or.inl rfl) L2.pe_non) (pss_cons (L2.ps_set (i := 2) scRight.nd rfl (Or.inl rfl) L2.pe_non) (pss_cons (L2.ps_tryB (i := 3) (j := 1) rfl rfl rfl D_bad hr (by rfl) (L2.pac (L2.pv 0) L2.pa_nil) (by rfl) T.at_PathError T.ex_PathError T.sb_PathError scRight.nd rfl rfl rfl rfl (fun a => pss_one (L2.ps_set (i := 2) scRight.nd rfl (Or.inl rfl) (L2.pv 3))))
    (pss_cons (L2.ps_set (i := 4) scRight.nd rfl (Or.inl rfl) (M.pe_own D_law_wrong (hr.mono (by decide)) (by rfl) (M.pac (M.pe_bm PySem.F.plainAttrs_str PySem.F.slot_str_split PySem.F.type_str_split M.m_split (M.pv 0) (M.pac M.pe_str M.pa_nil)) M.pa_nil)).p)
    (pss_cons (L2.ps_if (L2.pt_cmpR op_isN (L2.pv 4) L2.pe_non (nomark _)) L2.pss_never L2.pss_nil)
    (pss_cons (L2.ps_if (PW.pt (L2.pw_or (L2.pt_cmpR op_isN (L2.pv 2) L2.pe_non (nomark _)) (L2.pw_or (L2.pt_cmpR op_ne (L2.pe_own D_law_own (hr.mono (by decide)) (by rfl) pass0 (L2.pac (L2.pv 2) L2.pa_nil)) L2.pe_str (nomark _)) (L2.pw_or1 (L2.pt_val (L2.pcb c_isi (by rfl) T.isinstance (by decide +kernel) (L2.pac (pe_fldX (L2.pv 2)) (L2.pac (L2.pe_ty "bool" (by rfl) T.bool (by decide +kernel)) L2.pa_nil)))))))) (pss_one (L2.ps_ret L2.pe_bl)) L2.pss_nil)
    (pss_one (L2.ps_ret (L2.pe_and (L2.pcb c_isi (by rfl) T.isinstance (by decide +kernel) (L2.pac (pe_fldX (L2.pv 2)) (L2.pac (L2.pe_ty "int" (by rfl) T.int (by decide +kernel)) L2.pa_nil))) (L2.pe_one (L2.pe_cmpR op_eq (pe_fldX (L2.pv 2)) (L2.pv 4) (nomark _))))))))))), ?_⟩
   refine seqG fun N1 g1 => g1 _ _ ?_
   refine seqG fun N2 g2 => g2 _ _ ?_
   refine seqG fun N3 g3 => ?_
   refine ⟨.str t, rfl, ⟨emp, fun _ => none⟩, [.str t], [], .int (n : Int), ⟨Same.refl _, fun m o e => by simp at e, fun m m' o o' e => by simp at e, fun _ _ => rfl⟩, .cons .str .nil, ⟨t, n, rfl, htl, hwl, hok, hw, rfl⟩, ?_⟩
   rintro ev H' ⟨a, dx, T', rfl, R⟩
   refine ⟨a, cs 7, dx, T', _, rfl, R, fun H3 na nd h3 hd3 s3 => ?_⟩
   refine ⟨.ref a, rfl, ⟨.ref a, rfl⟩, g3 _ _ ?_⟩
   clear g1 g2 g3
   obtain ⟨le1, ok1⟩ := ok_two ok na nd h3 hd3 s3
   refine seqG fun N4 g4 => ?_
   refine ⟨_, [some (.str t), none, none, none, none], S, fun r S' => r = .dat (.int (n : Int)) ∧ S' = S, ok1, ⟨rfl, fun i d e => ?_⟩, ?_, fun r S' v w2 H4 le2 ok2 rep2 hr2 => ?_⟩
   ·match i, e with
    | 0, e =>
     have e : D.str t = d := by simpa using e
     subst e
     exact ⟨.str t, rfl, .str⟩
    | 1, e => simp at e
    | 2, e => simp at e
    | 3, e => simp at e
    | 4, e => simp at e
    | i + 5, e => simp at e
   ·push_cast [aBM, isTy, true_and, aSplit]
    refine ⟨by decide +kernel, by rw [sizeLine_eq]; omega, PySem.Txt.split t " ", rfl, hwl, hok, ?_⟩
    rw [hw]
    exact ⟨rfl, rfl⟩
   ·obtain ⟨rfl, rfl⟩ := hr2
    have ev : v = .int (n : Int) := rep_int rep2 rfl
    subst ev
    have h4 : H4 a = some (XO (cs 7) (some dx) a) := ok2.base _ _ (le2.b _ _ (by show upd (upd w.B a _) dx _ a = _; rw [upd_ne (Ne.symm R.n2), upd_same]))
    have hd4 : H4 dx = some (XDt [("at", .int (n : Int))] dx) := ok2.base _ _ (le2.b _ _ (by show upd (upd w.B a _) dx _ dx = _; rw [upd_same]))
    refine g4 _ _ ?_
    clear g4
    refine seqG fun N5 g5 => ?_
    refine ⟨_, rfl, rfl, _, rfl, iteF (g5 _ _ ?_)⟩
    clear g5
    refine seqG fun N6 g6 => ?_
    refine ⟨_, rfl, rfl, _, rfl, iteF ?_⟩
    refine ⟨.ref a, rfl, a, _, rfl, ⟨dx, h4, hd4, R.n2⟩, fun H5 s5 => ?_⟩
    refine ⟨rfl, _, rfl, ?_⟩
    rw [decide_eq_true rfl]
    refine iteF ?_
    refine ⟨.ref a, rfl, a, cs 7, dx, _, .int (n : Int), rfl, s5 _ _ h4, s5 _ _ hd4, T.xi.toXCls, T.fl, rfl, ?_⟩
    refine ⟨.int (n : Int), .ty "bool", .type "int", .type "bool", false, rfl, relTy.1, relTy.2, .int _, kit_of (by simp) rfl, _, rfl, iteF (g6 _ _ ?_)⟩
    clear g6
    refine ⟨.ref a, rfl, a, cs 7, dx, _, .int (n : Int), rfl, s5 _ _ h4, s5 _ _ hd4, T.xi.toXCls, T.fl, rfl, ?_⟩
    refine ⟨.int (n : Int), .ty "int", .type "int", .type "int", true, rfl, relTy.1, relTy.2, .int _, kit_of (by simp) rfl, _, rfl, iteT ?_⟩
    refine ⟨.ref a, rfl, a, cs 7, dx, _, .int (n : Int), rfl, s5 _ _ h4, s5 _ _ hd4, T.xi.toXCls, T.fl, rfl, ?_⟩
    refine ⟨.int (n : Int), rfl, rfl, ?_⟩
    rw [decide_eq_true rfl]
    exact bk.dat (le1.trans le2) (ok_same ok2 s5) .bl q
end
open PySem L2 M
structure Tm (n m : Nat) (d : D) : Prop where
 pur : pur d = true
 dep : (py d).depth ≤ n
 sh : dOk (py d)
 wt : L2.wt (py d) ≤ m
theorem tms {n m : Nat} : ∀ {es : List D}, (∀ e ∈ es, Tm n m e) → purs es = true ∧ PyData.depthAll (pys es) ≤ n ∧ dOkAll (pys es) ∧ wtAll (pys es) ≤ es.length * (m + 2)
 | [], _ => ⟨rfl, by simp [pys, PyData.depthAll], by simp [pys, dOkAll], by simp [pys, wtAll]⟩
 | e :: es, h => by
  obtain ⟨a, b, c, d⟩ := tms (es := es) fun x hx => h x (by simp [hx])
  have he := h e (by simp)
  refine ⟨by simp only [purs, Bool.and_eq_true]; exact ⟨he.pur, a⟩, ?_, by simp only [pys, dOkAll]; exact ⟨he.sh, c⟩, ?_⟩
  ·have := he.dep
   simp only [pys, PyData.depthAll]; omega
  ·have := he.wt
   simp only [pys, wtAll, List.length_cons]
   rw [Nat.succ_mul]; omega
theorem Tm.tup {n m l : Nat} {es : List D} (h : ∀ e ∈ es, Tm n m e) (hl : es.length ≤ l) : Tm (n + 1) (l * (m + 2) + 3) (.tup es) := by
 obtain ⟨a, b, c, d⟩ := tms h
 refine ⟨by simpa [M.pur] using a, by simp only [py, PyData.depth]; omega, by simpa [py, dOk] using c, ?_⟩
 have : es.length * (m + 2) ≤ l * (m + 2) := Nat.mul_le_mul_right _ hl
 simp only [py, L2.wt]; omega
theorem Tm.asc {y : Str} (hl : y.length ≤ 20) (h : Asc y) : Tm 0 202 (.str y) := by
 refine ⟨rfl, by simp [py, PyData.depth], ?_, ?_⟩
 ·simp only [py, dOk]; exact Asc.ok h
 ·simp only [py, L2.wt]; omega
theorem Tm.name {y : Str} (h : Nm y) : Tm 0 202 (.str y) := .asc (by have := h.2.1; omega) h.asc
theorem Tm.mono {n m n' m' : Nat} {d : D} (h : Tm n m d) (hn : n ≤ n') (hm : m ≤ m') : Tm n' m' d := ⟨h.pur, Nat.le_trans h.dep hn, h.sh, Nat.le_trans h.wt hm⟩
theorem StN.tm {u : Ti} (h : StN u) : Tm 1 615 (T3 u) := by
 refine Tm.tup (n := 0) (l := 3) (m := 202) ?_ (by simp)
 simp only [List.mem_cons, List.not_mem_nil, or_false]
 rintro e (rfl | rfl | rfl)
 ·rcases h.1 with e | e <;> (rw [e]; exact .asc (by decide +kernel) (asc_of (by decide +kernel)))
 ·exact .name h.2.1
 ·exact .name h.2.2
theorem way_tm {k : Str} {us : List Ti} (hk : Nm k) (hu : ∀ u ∈ us, StN u) (hl : us.length ≤ 200) : Tm 3 300000 (wayD k us) := by
 have h2 : Tm 2 123403 (.tup (us.map T3)) := Tm.tup (n := 1) (l := 200) (m := 615) (fun e he => by obtain ⟨t, ht, rfl⟩ := List.mem_map.mp he; exact (hu t ht).tm) (by rw [List.length_map]; exact hl)
 refine (Tm.tup (n := 2) (l := 2) (m := 123403) ?_ (by simp)).mono (by decide) (by decide)
 simp only [List.mem_cons, List.not_mem_nil, or_false]
 rintro e (rfl | rfl)
 ·exact (Tm.name hk).mono (by decide) (by decide)
 ·exact h2
theorem repr_of {n m : Nat} {x : D} {S : Sto} {Q : AK} (hx : Tm n m x) (hn : n ≤ 100) (hm : m ≤ 1000000) (q : Q (.dat (.str (py x).shown)) S) : aRepr [x] S Q := by
 have hs := see_pur (S := S) hx.pur
 refine ⟨x, rfl, ?_⟩
 rw [hs]
 exact ⟨hx.pur, hx.sh.show, Nat.le_trans hx.dep hn, Nat.le_trans (shown_le _ hx.sh) (Nat.le_trans hx.wt (by rw [sizeLine_eq]; omega)), q⟩
theorem sapp (a b c : Str) : a ++ b ++ c = a ++ (b ++ c) := by
 show Str.mk (a.cps ++ b.cps ++ c.cps) = Str.mk (a.cps ++ (b.cps ++ c.cps))
 rw [Array.append_assoc]
theorem join_app (s : Str) : ∀ (a b : List Str), a ≠ [] → b ≠ [] → Str.join s (a ++ b) = Str.join s a ++ s ++ Str.join s b
 | [], _, h, _ => absurd rfl h
 | [x], [], _, h => absurd rfl h
 | [x], y :: b, _, _ => rfl
 | x :: y :: a, b, _, hb => by
  have ih := join_app s (y :: a) b (by simp) hb
  show x ++ s ++ Str.join s (y :: a ++ b) = x ++ s ++ Str.join s (y :: a) ++ s ++ Str.join s b
  simp only [ih, sapp]
theorem mem_join (s : Str) : ∀ (l : List Str) (y : Str), y ∈ l → y.length ≤ (Str.join s l).length ∧ ∀ c ∈ y.cps.toList, c ∈ (Str.join s l).cps.toList
 | [], _, h => by simp at h
 | [x], y, h => by
  have : y = x := by simpa using h
  subst this
  exact ⟨Nat.le_refl _, fun _ h => h⟩
 | x :: z :: r, y, h => by
  have e : (Str.join s (x :: z :: r)).cps.toList = x.cps.toList ++ s.cps.toList ++ (Str.join s (z :: r)).cps.toList := by
   show (x.cps ++ s.cps ++ (Str.join s (z :: r)).cps).toList = _
   simp
  have el : (Str.join s (x :: z :: r)).length = x.length + s.length + (Str.join s (z :: r)).length := by
   show (x ++ s ++ Str.join s (z :: r)).length = _
   rw [strLen_append, strLen_append]
  rcases List.mem_cons.mp h with rfl | h
  ·exact ⟨by omega, fun c hc => by rw [e]; simp [hc]⟩
  ·obtain ⟨h1, h2⟩ := mem_join s (z :: r) y h
   exact ⟨by omega, fun c hc => by rw [e]; exact List.mem_append_right _ (h2 c hc)⟩
theorem join_len {m : Nat} : ∀ l : List Str, (∀ y ∈ l, y.length ≤ m) → (Str.join " " l).length ≤ (m + 1) * l.length
 | [], _ => by simp [Str.join, Str.empty, Str.length]
 | [x], h => by have := h x (by simp); show x.length ≤ _; simp; omega
 | x :: z :: r, h => by
  have h1 := join_len (z :: r) fun y hy => h y (by simp [hy])
  have h2 := h x (by simp)
  have e1 : (" " : Str).length = 1 := rfl
  have el : (Str.join " " (x :: z :: r)).length = x.length + 1 + (Str.join " " (z :: r)).length := by
   show (x ++ " " ++ Str.join " " (z :: r)).length = _
   rw [strLen_append, strLen_append, e1]
  rw [el]
  simp only [List.length_cons] at h1 ⊢
  rw [Nat.mul_succ]; omega
theorem sp_ne (v : Str) : PySem.Txt.split v " " ≠ [] := fun h => by
 have := PySem.StrLaws.join_split v " "
 have hp := PyProof.Rows.split_pos v " "
 rw [h] at hp; simp at hp
theorem split_of_join {vs : List Str} (h : vs ≠ []) : PySem.Txt.split (PySem.Txt.join " " vs) " " = vs.flatMap fun v => PySem.Txt.split v " " := by
 have jj : ∀ l : List Str, PySem.Txt.join " " l = Str.join " " l := fun l => PySem.StrLaws.glued_eq_join _ _
 have ne : ∀ {l : List Str}, l ≠ [] → (l.flatMap fun v => PySem.Txt.split v " ") ≠ [] := fun {l} hl => by
  cases l with
  | nil => exact absurd rfl hl
  | cons x r => simp [sp_ne]
 have e : ∀ l : List Str, l ≠ [] → Str.join " " (l.flatMap fun v => PySem.Txt.split v " ") = Str.join " " l := fun l => by
  induction l with
  | nil => intro h; exact absurd rfl h
  | cons x r ih =>
   intro _
   cases r with
   | nil => simp only [List.flatMap_cons, List.flatMap_nil, List.append_nil]; exact PySem.StrLaws.join_split x " "
   | cons y r =>
    rw [List.flatMap_cons, join_app _ _ _ (sp_ne x) (ne (by simp)), ih (by simp), PySem.StrLaws.join_split]; rfl
 have f := split_join (ne h) fun z hz => by
  obtain ⟨v, _, hv⟩ := List.mem_flatMap.mp hz
  exact PySem.StrLaws.split_free v 32 z hv
 rw [jj, e vs h, ← jj] at f
 exact f
theorem tok_join {vs : List Str} (hl : vs.length ≤ 545) (h : ∀ y ∈ vs, OkW 17 y) : TOk (PySem.Txt.join " " vs) := by
 have jj : PySem.Txt.join " " vs = Str.join " " vs := PySem.StrLaws.glued_eq_join _ _
 have l1 : (PySem.Txt.join " " vs).length ≤ 9900 := by
  rw [jj]
  have := join_len vs fun y hy => (h y hy).1
  have : (17 + 1) * vs.length ≤ 18 * 545 := Nat.mul_le_mul_left _ hl
  omega
 have l2 := PyProof.Rows.split_le (PySem.Txt.join " " vs) " "
 refine ⟨by omega, by omega, fun y hy => ?_⟩
 by_cases hv : vs = []
 ·subst hv
  have e : PySem.Txt.split (PySem.Txt.join " " []) " " = ([""] : List Str) := by decide +kernel
  rw [e] at hy
  have : y = "" := by simpa using hy
  subst this
  decide +kernel
 ·rw [split_of_join hv] at hy
  obtain ⟨v, hv1, hv2⟩ := List.mem_flatMap.mp hy
  have m := mem_join " " _ y hv2
  rw [PySem.StrLaws.join_split] at m
  have hvk := h v hv1
  unfold okS
  rw [Bool.and_eq_true]
  exact ⟨List.all_eq_true.mpr fun c hc => decide_eq_true (hvk.2 c (m.2 c hc)), decide_eq_true (by have := hvk.1; have := m.1; omega)⟩
theorem tok_nil : TOk "" := tok_join (vs := []) (by simp) (by simp)
theorem sum_le {m : Nat} : ∀ l : List Str, (∀ y ∈ l, y.length ≤ m) → (l.map (·.length)).sum ≤ m * l.length
 | [], _ => by simp
 | a :: l, h => by
  have := sum_le l fun y hy => h y (by simp [hy])
  have := h a (by simp)
  simp only [List.map_cons, List.sum_cons, List.length_cons]
  rw [Nat.mul_succ]; omega
theorem tok_more {ws : List Str} (h0 : ws ≠ []) (hl : ws.length ≤ 181) (h : ∀ y ∈ ws, OkW 8 y) : TOk (PySem.Txt.join " " ws ++ " on a b on b a") := by
 have e1 : Str.join " " (["on", "a", "b", "on", "b", "a"] : List Str) = "on a b on b a" := by decide +kernel
 have e2 : (" " : Str) ++ "on a b on b a" = " on a b on b a" := by decide +kernel
 have e : PySem.Txt.join " " (ws ++ (["on", "a", "b", "on", "b", "a"] : List Str)) = PySem.Txt.join " " ws ++ " on a b on b a" := by
  rw [show PySem.Txt.join " " (ws ++ (["on", "a", "b", "on", "b", "a"] : List Str)) = Str.join " " (ws ++ (["on", "a", "b", "on", "b", "a"] : List Str)) from PySem.StrLaws.glued_eq_join _ _, join_app _ _ _ h0 (by simp), e1, sapp, e2, show PySem.Txt.join " " ws = Str.join " " ws from PySem.StrLaws.glued_eq_join _ _]
 rw [← e]
 refine tok_join (by rw [List.length_append]; simp only [List.length_cons, List.length_nil]; omega) fun y hy => ?_
 rcases List.mem_append.mp hy with hy | hy
 ·exact ⟨by have := (h y hy).1; omega, (h y hy).2⟩
 ·simp only [List.mem_cons, List.not_mem_nil, or_false] at hy
  rcases hy with rfl | rfl | rfl | rfl | rfl | rfl <;> exact ⟨by decide +kernel, asc_of (by decide +kernel)⟩
theorem nm_name {y : Str} (h : Nm y) : isName (.str y) = true := by
 have e : isName (.str y) = (decide (1 ≤ y.length) && decide (y.length ≤ 8) && y.cps.toList.all isLow) := rfl
 rw [e, decide_eq_true h.1, decide_eq_true h.2.1, List.all_eq_true.mpr h.2.2]; rfl
theorem stn_g {u : Ti} (h : StN u) : StG u := ⟨by rcases h.1 with e | e <;> (rw [e]; decide +kernel), nm_name h.2.1, nm_name h.2.2⟩
theorem side_w {s : Str} (h : s = "on" ∨ s = "back") : OkW 8 s := by rcases h with rfl | rfl <;> exact ⟨by decide +kernel, asc_of (by decide +kernel)⟩
theorem nm_w {y : Str} (h : Nm y) : OkW 8 y := ⟨h.2.1, h.asc⟩
theorem fl_w : ∀ {us : List Ti}, (∀ u ∈ us, StN u) → ∀ y ∈ fl3 us, OkW 8 y ∧ (32 : Nat) ∉ y.cps.toList
 | [], _, y, h => by simp [fl3] at h
 | u :: us, hu, y, h => by
  have nb : ∀ {y : Str}, Nm y → (32 : Nat) ∉ y.cps.toList := fun {y} hy hc => by
   have := hy.2.2 32 hc
   exact absurd this (by decide)
  have h1 := hu u (by simp)
  simp only [fl3, List.mem_cons] at h
  rcases h with rfl | rfl | rfl | h
  ·exact ⟨side_w h1.1, by rcases h1.1 with e | e <;> (rw [e]; decide +kernel)⟩
  ·exact ⟨nm_w h1.2.1, nb h1.2.1⟩
  ·exact ⟨nm_w h1.2.2, nb h1.2.2⟩
  ·exact fl_w (fun v hv => hu v (by simp [hv])) y h
theorem nm_nb {y : Str} (hy : Nm y) : (32 : Nat) ∉ y.cps.toList := fun hc => absurd (hy.2.2 32 hc) (by decide)
theorem add_int' {i j : Int} {S : Sto} {Q : AK} : aAdd (.int i) (.int j) S Q = Q (.dat (.int (i + j))) S := rfl
theorem ne_str' {i j : Str} {S : Sto} {Q : AK} : aNe (.str i) (.str j) S Q = Q (.dat (.bl (!decide (i = j)))) S := rfl
theorem ne_same {s : Str} {S : Sto} {Q : AK} (q : Q (.dat (.bl false)) S) : aNe (.str s) (.str s) S Q := by
 rw [ne_str', decide_eq_true rfl]; exact q
section
variable {P : Program} {w : World} {K : PySem.W.Frag} {mg : Str → Option Value} {base : Heap} {cs : Nat → Addr} {CP C fi : Addr}
noncomputable def spLawA : AN := fun ds S Q => ∃ ns : List Int, ds = [.scr ns] ∧ S = [] ∧ ∀ S', Q (.dat (.bl true)) S'
theorem d_LawA {f : Addr} {fd : FuncData} (T : Txt K mg cs CP C fi) (F : Fun K "law" "law" sLaw f fd) (D_law_cell_at : Def P w K mg base 1 "_law_cell_at" PscCell (conSp K spCellA)) (D_law_feed : Def P w K mg base 1 "_law_feed" PscFeed (conSp K spFeedA)) (D_law_next : Def P w K mg base 1 "_law_next" PscNext (conSp K spNextA)) (D_law_names : Def P w K mg base 2 "_law_names" PscNames (conSp K spNamesA))
  (D_law_way : Def P w K mg base 2 "_law_way" PscWay (conSp K spWay)) (D_law_words : Def P w K mg base 1 "_law_words" PscWords (conSp K spWords)) (D_shown_way : Def P w K mg base 1 "shown_way" PscShown (conSp K spShown)) (D_read_way : Def P w K mg base 6 "read_way" PscRead (conSp K spRead)) (D_law_spoilt : Def P w K mg base 2 "_law_spoilt" PscSpoilt (conSp K spSpoilt)) (D_law_right : Def P w K mg base 7 "_law_right" PscRight (conSp K spRight)) :
  FnOk P w K mg base CX0 9 f fd PscLaw (conSp K spLawA) := by
 refine okC F scLaw (fun ds S Q h => ?_) (fun f cdv A outer s H E hr => ?_)
 ·obtain ⟨ns, rfl, _⟩ := h; rfl
 ·refine ⟨_, (M.pss_cons (M.ps_set (i := 1) scLaw.nd rfl (Or.inl rfl) (M.pe_own D_law_feed (hr.mono (by decide)) (by rfl) (M.pac (M.pe_own D_law_cell_at (hr.mono (by decide)) (by rfl) (M.pac (M.pv 0) (M.pac M.pe_int M.pa_nil))) M.pa_nil)))
   (M.pss_cons (M.ps_set (i := 2) scLaw.nd rfl (Or.inl rfl) (M.pe_lst (M.pac (M.pe_own D_law_names (hr.mono (by decide)) (by rfl) (M.pac (M.pv 1) (M.pac M.pe_int M.pa_nil))) (M.pac (M.pe_own D_law_names (hr.mono (by decide)) (by rfl) (M.pac (M.pv 1) (M.pac M.pe_int M.pa_nil))) M.pa_nil))))
   (M.pss_cons (M.ps_for PassesOwn.never rfl (M.pi_range1 (by rfl) T.range (M.pac (M.pe_op M.o_add M.pe_int (M.pcb (M.o_min2 rfl) (by rfl) T.min (by decide +kernel) (M.pac M.pe_int (M.pac (M.pcb M.o_len (by rfl) T.len (by decide +kernel) (M.pac (M.pv 0) M.pa_nil)) M.pa_nil)))) M.pa_nil)) (M.pg_name (i := 3) scLaw.nd rfl (Or.inl rfl))
    (M.pss_cons (M.ps_set (i := 1) scLaw.nd rfl (Or.inl rfl) (M.pe_own D_law_feed (hr.mono (by decide)) (by rfl) (M.pac (M.pe_own D_law_cell_at (hr.mono (by decide)) (by rfl) (M.pac (M.pv 0) (M.pac (M.pe_op M.o_add M.pe_int (M.pv 3)) M.pa_nil))) M.pa_nil)))
    (M.pss_cons (M.ps_set (i := 4) scLaw.nd rfl (Or.inl rfl) (M.pe_ix M.o_ix (M.pe_lst (M.pac (M.pe_own D_law_next (hr.mono (by decide)) (by rfl) (M.pac (M.pv 1) (M.pac M.pe_int M.pa_nil))) (M.pac (M.pe_op M.o_add M.pe_int (M.pe_own D_law_next (hr.mono (by decide)) (by rfl) (M.pac (M.pv 1) (M.pac M.pe_int M.pa_nil)))) M.pa_nil))) (M.pct M.o_int1 (by rfl) T.int (by decide +kernel) (M.pac (M.pe_cmpR (M.o_eq hr) (M.pe_own D_law_next (hr.mono (by decide)) (by rfl) (M.pac (M.pv 1) (M.pac M.pe_int M.pa_nil))) M.pe_int (nomark _)) M.pa_nil)) (fun _ _ => rfl)))
    (M.pss_cons (M.ps_set (i := 5) scLaw.nd rfl (Or.inl rfl) (M.pe_own D_law_way (hr.mono (by decide)) (by rfl) (M.pac (M.pv 1) (M.pac (M.pv 2) (M.pac (M.pv 4) M.pa_nil)))))
    (M.pss_cons (M.ps_set (i := 6) scLaw.nd rfl (Or.inl rfl) (M.pe_own D_law_words (hr.mono (by decide)) (by rfl) (M.pac (M.pv 5) M.pa_nil)))
    (M.pss_cons (M.ps_set (i := 7) scLaw.nd rfl (Or.inl rfl) (M.pe_bm PySem.F.plainAttrs_str PySem.F.slot_str_join PySem.F.type_str_join M.m_join M.pe_str (M.pac (M.pv 6) M.pa_nil)))
    (M.pss_cons (M.ps_set (i := 8) scLaw.nd rfl (Or.inl rfl) (M.pe_own D_shown_way (hr.mono (by decide)) (by rfl) (M.pac (M.pv 5) M.pa_nil)))
    (M.pss_cons (M.ps_if (M.pw_pt (M.pw_or (M.pt_not (M.pt_val (M.pcb M.o_isi (by rfl) T.isinstance (by decide +kernel) (M.pac (M.pv 8) (M.pac (M.pe_ty "str" (by rfl) T.str (by decide +kernel)) M.pa_nil))))) (M.pw_or (M.pt_cmpR (M.o_ne hr) (M.pv 8) (M.pv 7) (nomark _)) (M.pw_or1 (M.pt_cmpR (M.o_ne hr) (M.pcb (M.o_repr hr) (by rfl) T.repr (by decide +kernel) (M.pac (M.pe_own D_read_way (hr.mono (by decide)) (by rfl) (M.pac (M.pv 7) M.pa_nil)) M.pa_nil)) (M.pcb (M.o_repr hr) (by rfl) T.repr (by decide +kernel) (M.pac (M.pv 5) M.pa_nil)) (nomark _))))))
     (M.pss_one (M.ps_ret M.pe_bl))
     M.pss_nil)
    (M.pss_cons (M.ps_for PassesOwn.never rfl (M.pi_range1 (by rfl) T.range (M.pac M.pe_int M.pa_nil)) (M.pg_name (i := 9) scLaw.nd rfl (Or.inl rfl))
     (M.pss_one (M.ps_if (M.pt_not (M.pt_val (M.pe_own D_law_right (hr.mono (by decide)) (by rfl) (M.pac (M.pe_bm PySem.F.plainAttrs_str PySem.F.slot_str_join PySem.F.type_str_join M.m_join M.pe_str (M.pac (M.pe_own D_law_spoilt (hr.mono (by decide)) (by rfl) (M.pac (M.pv 1) (M.pac (M.pv 6) (M.pac (M.pv 2) M.pa_nil)))) M.pa_nil)) M.pa_nil))))
      (M.pss_one (M.ps_ret M.pe_bl))
      M.pss_nil)))
    (M.pss_one (M.ps_if (M.pw_pt (M.pw_and (M.pt_cmpR M.o_gt (M.pv 4) M.pe_int (nomark _)) (M.pw_and1 (M.pt_not (M.pt_val (M.pe_own D_law_right (hr.mono (by decide)) (by rfl) (M.pac (M.pe_op M.o_add (M.pv 7) M.pe_str) M.pa_nil)))))))
     (M.pss_one (M.ps_ret M.pe_bl))
     M.pss_nil)))))))))))
   (M.pss_one (M.ps_ret (M.pe_own D_law_right (hr.mono (by decide)) (by rfl) (M.pac M.pe_str M.pa_nil))))))), fun ds S Q h => ?_⟩
  obtain ⟨ns, rfl, rfl, q⟩ := h
  have e0 : startA NscLaw [.scr ns] = [some (.scr ns), none, none, none, none, none, none, none, none, none] := rfl
  rw [e0]
  push_cast [true_and]
  refine ⟨ns, 0, rfl, by decide, fun z => ⟨z, rfl, ?_⟩⟩
  refine ⟨0, 4, 0, rfl, rfl, by decide, by decide, fun NA n1 lA nA ndA hn1 => ?_⟩
  refine ⟨0, 3, n1, rfl, rfl, by omega, by decide, fun NB n2 lB nB ndB hn2 => ⟨by show 2 ≤ sizeLine; decide, ?_⟩⟩
  have hx : NamesD NA NB (.lst [.lst (NA.map D.str), .lst (NB.map D.str)]) := ⟨rfl, lA, lB, nA, nB⟩
  push_cast [aFor, iRng]
  refine ⟨ns.length, rfl, 16, ns.length, rfl, ?_⟩
  obtain ⟨mm, em, hm⟩ : ∃ m : Nat, (1 : Int) + (if (ns.length : Int) < 16 then (ns.length : Int) else 16) = (m : Int) ∧ m ≤ 17 := by
   by_cases h : (ns.length : Int) < 16
   ·exact ⟨1 + ns.length, by rw [if_pos h]; omega, by omega⟩
   ·exact ⟨17, by rw [if_neg h]; rfl, by omega⟩
  generalize D.lst [.lst (NA.map D.str), .lst (NB.map D.str)] = XN at hx ⊢
  refine ⟨(mm : Int), congrArg D.int em, by omega, by omega, loop_by (fun rest δ S' => ∃ (v1 v3 v4 v5 v6 v7 v8 v9 : Option D), (∀ e ∈ rest, ∃ k : Nat, e = .int k ∧ k < 100) ∧ δ = [some (.scr ns), v1, some XN, v3, v4, v5, v6, v7, v8, v9]) ?_ ?_ _ _ _ ⟨_, none, none, none, none, none, none, none, ?_, rfl⟩⟩
  ·rintro δ S' ⟨v1, v3, v4, v5, v6, v7, v8, v9, hk, rfl⟩
   refine ⟨trivial, ?_⟩
   push_cast [true_and]
   exact ⟨"", rfl, tok_nil, q _⟩
  ·rintro x xs δ S' N ⟨v1, v3, v4, v5, v6, v7, v8, v9, hk, rfl⟩ hN
   obtain ⟨k, rfl, hk1⟩ := hk x (by simp)
   have hk : ∀ e ∈ xs, ∃ k : Nat, e = .int k ∧ k < 100 := fun e he => hk e (List.mem_cons_of_mem _ he)
   refine ⟨trivial, ?_⟩
   refine seqA fun N1 h1 => ?_
   push_cast [true_and]
   rw [show (1 : Int) + (k : Int) = ((1 + k : Nat) : Int) by omega]
   refine ⟨ns, 1 + k, rfl, by omega, fun z => ⟨z, rfl, h1 _ _ ?_⟩⟩
   clear h1
   have hset : ∀ a b : Option MO, (S' ++ [a]).set S'.length b = S' ++ [b] := fun a b => one_set
   refine seqA fun N2 h2 => ?_
   push_cast [true_and]
   refine next_of one_at (by decide) (by decide) (by decide) fun a ha => ?_
   rw [hset]
   refine next_of one_at (by decide) (by decide) (by decide) fun b hb => ?_
   rw [hset, rd_dat, rd_dat, add_int', rd_dat]
   refine ⟨by show 2 ≤ sizeLine; decide, next_of one_at (by decide) (by decide) (by decide) fun c hc => ?_⟩
   rw [hset]
   refine .inr ⟨_, rfl, ?_⟩
   obtain ⟨many, hm60, hat⟩ : ∃ many : Nat, many ≤ 60 ∧ atI [D.int (a : Int), D.int (59 + (b : Int))] (if decide ((c : Int) = 0) then 1 else 0) = some (.int (many : Int)) := by
    cases decide ((c : Int) = 0) with
    | true => exact ⟨59 + b, by omega, by rw [show ((59 + b : Nat) : Int) = 59 + (b : Int) by omega]; rfl⟩
    | false => exact ⟨a, by omega, rfl⟩
   refine ⟨.int (many : Int), hat, h2 _ _ ?_⟩
   clear h2
   refine seqA fun N3 h3 => ?_
   push_cast [true_and]
   refine ⟨S'.length, 0 + 1 + 1 + 1, many, NA, NB, XN, rfl, hx, one_at, by decide, hm60, fun kk us n3 nk ul hu hn3 => h3 _ _ ?_⟩
   clear h3
   rw [hset]
   have ul60 : us.length ≤ 60 := by omega
   have hfl := fl3_len us
   have wW : ∀ y ∈ kk :: fl3 us, OkW 8 y ∧ (32 : Nat) ∉ y.cps.toList := fun y hy => by
    rcases List.mem_cons.mp hy with rfl | hy
    ·exact ⟨nm_w nk, nm_nb nk⟩
    ·exact fl_w hu y hy
   have lW : (kk :: fl3 us).length ≤ 181 := by simp only [List.length_cons]; omega
   have hsp : PySem.Txt.split (PySem.Txt.join " " (kk :: fl3 us)) " " = kk :: fl3 us := split_join (by simp) fun y hy => (wW y hy).2
   have tokT : TOk (PySem.Txt.join " " (kk :: fl3 us)) := tok_join (by omega) fun y hy => ⟨by have := (wW y hy).1.1; omega, (wW y hy).1.2⟩
   have tw := way_tm nk hu (by omega : us.length ≤ 200)
   refine seqA fun N4 h4 => ?_
   push_cast [true_and]
   refine ⟨kk, us, rfl, ul60, h4 _ _ ?_⟩
   clear h4
   refine seqA fun N5 h5 => ?_
   push_cast [aBM, isTy, true_and, aJoin]
   refine ⟨kk :: fl3 us, rfl, ?_, h5 _ _ ?_⟩
   ·have hs : ∀ l : List Str, (∀ y ∈ l, y.length ≤ 8) → (l.map (·.length)).sum ≤ 8 * l.length := fun l => by
     induction l with
     | nil => intro _; simp
     | cons a l ih =>
      intro h
      have := ih fun y hy => h y (by simp [hy])
      have := h a (by simp)
      simp only [List.map_cons, List.sum_cons, List.length_cons]; omega
    have := hs _ fun y hy => (wW y hy).1.1
    have e1 : (" " : Str).length = 1 := rfl
    rw [e1]
    omega
   clear h5
   refine seqA fun N6 h6 => ?_
   push_cast [true_and]
   refine ⟨kk, us, rfl, ul60, fun y hy => by have := (wW y hy).1.1; omega, h6 _ _ ?_⟩
   clear h6
   refine seqA fun N7 h7 => ?_
   push_cast [true_and]
   refine ⟨true, rfl, iteF (ne_same ⟨false, rfl, iteF ⟨_, kk, us, rfl, tokT.1, hsp, ul60, tokT.2.2, nm_name nk, fun u h => stn_g (hu u h), repr_of tw (by decide) (by decide) (repr_of tw (by decide) (by decide) (ne_same ⟨false, rfl, iteF (h7 _ _ ?_)⟩))⟩⟩)⟩
   clear h7
   refine seqA fun N8 h8 => ?_
   push_cast [aFor, iRng]
   refine ⟨by decide, by decide, loop_by (fun rest δ S2 => ∃ (n4 : Nat) (v9 : Option D), n4 + 10 * rest.length ≤ 300 ∧ δ = [some (.scr ns), some (.loc S'.length), some XN, some (.int k), some (.int many), some (wayD kk us), some (.lst ((kk :: fl3 us).map D.str)), some (.str (PySem.Txt.join " " (kk :: fl3 us))), some (.str (PySem.Txt.join " " (kk :: fl3 us))), v9] ∧ S2 = S' ++ [some (.feed n4)]) ?_ ?_ _ _ _ ⟨n3, v9, ?_, rfl, rfl⟩⟩
   ·rintro δ S2 ⟨n4, v9, hn4, rfl, rfl⟩
    refine ⟨trivial, h8 _ _ ?_⟩
    clear h8
    push_cast [true_and]
    refine ite2 (fun _ => ?_) (fun _ => hN _ _ ⟨_, _, _, _, _, _, _, _, hk, rfl⟩)
    have tm2 := tok_more (ws := kk :: fl3 us) (by simp) lW fun y hy => (wW y hy).1
    refine ⟨?_, _, rfl, tm2, true, rfl, iteF (hN _ _ ⟨_, _, _, _, _, _, _, _, hk, rfl⟩)⟩
    have := tokT.1
    have e1 : (" on a b on b a" : Str).length = 14 := rfl
    rw [e1, sizeLine_eq]; omega
   ·rintro x1 xs1 δ S2 N9 ⟨n4, v9, hn4, rfl, rfl⟩ hN9
    refine ⟨trivial, ?_⟩
    simp only [List.length_cons] at hn4
    push_cast [aBM, isTy, true_and, aJoin]
    refine ⟨S'.length, n4, NA, NB, XN, kk :: fl3 us, rfl, hx, one_at, by omega, by simp, lW, fun y hy => (wW y hy).1, fun vs n5 vl hv hn5 => ?_⟩
    rw [hset]
    have hs := sum_le vs fun y hy => (hv y hy).1
    have e1 : (" " : Str).length = 1 := rfl
    refine ⟨vs, rfl, ?_, PySem.Txt.join " " vs, rfl, tok_join vl hv, true, rfl, iteF (hN9 _ _ ⟨n5, some x1, by omega, rfl, rfl⟩)⟩
    rw [e1]; omega
   ·have e4 : (iRngD 0 (4 : Int).toNat).length = 4 := rfl
    rw [e4]; omega
  ·intro e he
   simp only [iRngD, List.mem_map, List.mem_range] at he
   obtain ⟨a, ha, rfl⟩ := he
   exact ⟨a, by simp, by omega⟩
noncomputable def spLaw (K : PySem.W.Frag) : Sp := fun vs H Q _ => ∃ (a : Addr) (ns : List Int), vs = [.ref a] ∧ SqL K H a (ns.map V.int) ∧ ns.length ≤ 63 ∧ ∀ H', Q (.bl true) H'
theorem top_of {f : Addr} {fd : FuncData} {k : Nat} (h : FnOk P w K mg base CX0 k f fd PscLaw (conSp K spLawA)) : FnOk P w K mg base CX0 k f fd PscLaw (spLaw K) := h.imp fun vs H Q E z => by
 obtain ⟨a, ns, rfl, hS, _, q⟩ := z
 refine ⟨⟨H, fun _ => none⟩, [.scr ns], [], fun r S => r = .dat (.bl true), ⟨Same.refl _, fun n o e => by simp at e, fun n m o o' e => by simp at e, fun _ _ => rfl⟩, ?_, ⟨ns, rfl, rfl, fun _ => rfl⟩, fun r S' v w' H' _ _ rep e => ?_⟩
 ·simp only [Reps, Rep]; exact ⟨_, _, rfl, ⟨a, rfl, hS⟩, rfl⟩
 ·subst e
  have : v = .bl true := rep_bl rep rfl
  subst this
  exact q H'
end
open PySem L2 M
noncomputable def strOf : Value → Option Str
 | .str x _ => some x
 | _ => none
theorem strs_vals : ∀ {vs : List Value} {ss : List Str}, vs.map strOf = ss.map some → Vals (ss.map V.str) vs
 | [], [], _ => .nil
 | v :: vs, s :: ss, h => by
  rw [List.map_cons, List.map_cons] at h
  have h1 := List.cons.inj h
  refine .cons ?_ (strs_vals h1.2)
  cases v <;> simp [strOf] at h1
  obtain ⟨rfl, _⟩ := h1
  exact ⟨_, rfl⟩
theorem stc_of {K : PySem.W.Frag} {a : Addr} {od : Option Addr} {its : Array Value} {n : Nat} {sl : Array (Option Value)} {ss : List Str} (l : K.lookup a = some ⟨.type "tuple", od, .seq its n, sl⟩) (q : (its.toList.map strOf == ss.map some) = true) (h : ss.length ≤ 100) (H : Hp) : SqT K H a (ss.map V.str) := by
 have v := strs_vals (eq_of_beq q)
 refine .inr ⟨_, its, n, l, rfl, rfl, ?_, v⟩
 have := v.length
 rw [List.length_map] at this
 rw [sizeLine_eq, ← Array.length_toList]; omega
noncomputable def clsOk (K : PySem.W.Frag) (C : Addr) : Bool := excIn K C && PySem.W.findIn K (.ref C) "__getattribute__" == some (some (.builtin "BaseException.__getattribute__")) && PySem.W.findIn K (.ref C) "__getattr__" == some none &&
 PySem.W.findIn K (.ref C) "__setattr__" == some (some (.builtin "object.__setattr__")) && PySem.W.excOver K C && PySem.W.subIn K (.ref C) (.type "BaseException") == some true &&
 PySem.W.findIn K (.ref C) "__class__" == some (some (.builtin "object.__class__")) && PySem.W.specialIn K (.builtin "object.__class__") "__get__" == some (some (.builtin "getset_descriptor.__get__")) &&
 PySem.W.takesIn K (.builtin "object.__class__") == some true && PySem.W.mroIn K C (.type "object") == some true && PySem.W.keepIn K (.ref C)
theorem clsOk.is {K : PySem.W.Frag} {C : Addr} (h : clsOk K C = true) : XIs K C ∧ PySem.W.keepIn K (.ref C) = true := by
 simp only [clsOk, Bool.and_eq_true, beq_iff_eq] at h
 obtain ⟨⟨⟨⟨⟨⟨⟨⟨⟨⟨a, b⟩, c⟩, d⟩, e⟩, f⟩, g⟩, h⟩, i⟩, j⟩, k⟩ := h
 exact ⟨⟨⟨a, b, c, d, e, f⟩, g, h, i, j⟩, k⟩
noncomputable def csOf (l : List Addr) (i : Nat) : Addr := l.getD i 0
noncomputable def kitB (K : PySem.W.Frag) (l : List Addr) (CP : Addr) : Bool := ((List.range 14).all fun j => PySem.W.kitOne K (.ref (csOf l 7)) (.ref (csOf l j)) == some (7 == j)) && PySem.W.kitOne K (.ref (csOf l 7)) (.type "ValueError") == some true && clsOk K (csOf l 7) &&
 PySem.W.findIn K (.ref (csOf l 7)) "at" == some none && PySem.W.subIn K (.ref (csOf l 7)) (.ref CP) == some true && excIn K CP && PySem.W.subIn K (.ref CP) (.type "BaseException") == some true
theorem kitB.at_ {K : PySem.W.Frag} {l : List Addr} {CP : Addr} (h : kitB K l CP = true) : (∀ j, j < 14 → PySem.W.kitOne K (.ref (csOf l 7)) (.ref (csOf l j)) = some (7 == j)) ∧ PySem.W.kitOne K (.ref (csOf l 7)) (.type "ValueError") = some true ∧ clsOk K (csOf l 7) = true ∧ PySem.W.findIn K (.ref (csOf l 7)) "at" = some none ∧ PySem.W.subIn K (.ref (csOf l 7)) (.ref CP) = some true ∧ excIn K CP = true ∧ PySem.W.subIn K (.ref CP) (.type "BaseException") = some true := by
 simp only [kitB, Bool.and_eq_true, beq_iff_eq] at h
 obtain ⟨⟨⟨⟨⟨⟨a, b⟩, c⟩, d⟩, e⟩, f⟩, g⟩ := h
 exact ⟨fun j hj => beq_iff_eq.mp (List.all_eq_true.mp a j (List.mem_range.mpr hj)), b, c, d, e, f, g⟩
section
variable {P : Program} {w : World} {K : PySem.W.Frag} {mg : Str → Option Value} {base : Heap} {cs : Nat → Addr} {CP C fi : Addr}
theorem isP_of {k : Nat} {x : Str} {ps : List Str} {sp : AN} {p : Str → Bool} (D : Def P w K mg base k x ps (conSp K sp)) (hk : k ≤ 3) (h : ∀ ds S Q, spP p ds S Q → sp ds S Q) : ∃ f, mg x = some (.ref f) ∧ IsP P w K mg base f p := by
 obtain ⟨f, fd, F, hm, kp, hb⟩ := D.ex
 exact ⟨f, hm, ps, fd, (F.mono hk).imp fun vs H Q E z => by
  obtain ⟨w, ds, S, Qa, ok, rep, q, bk⟩ := z
  exact ⟨w, ds, S, Qa, ok, rep, h _ _ _ q, bk⟩, kp, hb⟩
theorem qs_of (D1 : Def P w K mg base 1 "is_name" PscName (conSp K spName)) (D2 : Def P w K mg base 1 "is_side" PscSide (conSp K (spP fun y => inS (.str y) SD))) : ∃ fa fb, Qs P w K mg base fa fb := by
 obtain ⟨fa, h1, g1⟩ := isP_of (p := fun y => isName (.str y)) D1 (by decide) fun ds S Q ⟨y, e, hy, q⟩ => ⟨.str y, e, rfl, fun s es => by
  cases es
  unfold okS at hy
  rw [Bool.and_eq_true] at hy
  have := of_decide_eq_true hy.2
  omega, q⟩
 obtain ⟨fb, h2, g2⟩ := isP_of D2 (by decide) fun _ _ _ z => z
 exact ⟨fa, fb, h1, h2, g1, g2⟩
end
open PySem L2
theorem all_mk {l : PySem.W.OpenLaw} {w : World} {K : PySem.W.Frag} {h : Heap} {mg : Str → Option Value} {fa : Addr} (X : K.In h) (G : h.Ns mainGlobals mg) (hfa : mg "law" = some (.ref fa))
  {C : Addr}
  {f_scName : Addr} {oc_scName kV_scName dc_scName pm_scName cd_scName ct_scName : Value} {od_scName an_scName : Option Addr} {sl_scName : Array (Option Value)}
  {f_scSide : Addr} {oc_scSide kV_scSide dc_scSide pm_scSide cd_scSide ct_scSide : Value} {od_scSide an_scSide : Option Addr} {sl_scSide : Array (Option Value)}
  {f_scShown : Addr} {oc_scShown kV_scShown dc_scShown pm_scShown cd_scShown ct_scShown : Value} {od_scShown an_scShown : Option Addr} {sl_scShown : Array (Option Value)}
  {f_scRead : Addr} {oc_scRead kV_scRead dc_scRead pm_scRead cd_scRead ct_scRead : Value} {od_scRead an_scRead : Option Addr} {sl_scRead : Array (Option Value)}
  {f_scCell : Addr} {oc_scCell kV_scCell dc_scCell pm_scCell cd_scCell ct_scCell : Value} {od_scCell an_scCell : Option Addr} {sl_scCell : Array (Option Value)}
  {f_scFeed : Addr} {oc_scFeed kV_scFeed dc_scFeed pm_scFeed cd_scFeed ct_scFeed : Value} {od_scFeed an_scFeed : Option Addr} {sl_scFeed : Array (Option Value)}
  {f_scNext : Addr} {oc_scNext kV_scNext dc_scNext pm_scNext cd_scNext ct_scNext : Value} {od_scNext an_scNext : Option Addr} {sl_scNext : Array (Option Value)}
  {f_scNames : Addr} {oc_scNames kV_scNames dc_scNames pm_scNames cd_scNames ct_scNames : Value} {od_scNames an_scNames : Option Addr} {sl_scNames : Array (Option Value)}
  {f_scOwn : Addr} {oc_scOwn kV_scOwn dc_scOwn pm_scOwn cd_scOwn ct_scOwn : Value} {od_scOwn an_scOwn : Option Addr} {sl_scOwn : Array (Option Value)}
  {f_scWay : Addr} {oc_scWay kV_scWay dc_scWay pm_scWay cd_scWay ct_scWay : Value} {od_scWay an_scWay : Option Addr} {sl_scWay : Array (Option Value)}
  {f_scWords : Addr} {oc_scWords kV_scWords dc_scWords pm_scWords cd_scWords ct_scWords : Value} {od_scWords an_scWords : Option Addr} {sl_scWords : Array (Option Value)}
  {f_scLName : Addr} {oc_scLName kV_scLName dc_scLName pm_scLName cd_scLName ct_scLName : Value} {od_scLName an_scLName : Option Addr} {sl_scLName : Array (Option Value)}
  {f_scWrong : Addr} {oc_scWrong kV_scWrong dc_scWrong pm_scWrong cd_scWrong ct_scWrong : Value} {od_scWrong an_scWrong : Option Addr} {sl_scWrong : Array (Option Value)}
  {f_scSpoilt : Addr} {oc_scSpoilt kV_scSpoilt dc_scSpoilt pm_scSpoilt cd_scSpoilt ct_scSpoilt : Value} {od_scSpoilt an_scSpoilt : Option Addr} {sl_scSpoilt : Array (Option Value)}
  {f_scRight : Addr} {oc_scRight kV_scRight dc_scRight pm_scRight cd_scRight ct_scRight : Value} {od_scRight an_scRight : Option Addr} {sl_scRight : Array (Option Value)}
  {f_scLaw : Addr} {oc_scLaw kV_scLaw dc_scLaw pm_scLaw cd_scLaw ct_scLaw : Value} {od_scLaw an_scLaw : Option Addr} {sl_scLaw : Array (Option Value)}
  {f_scInit : Addr} {oc_scInit kV_scInit dc_scInit pm_scInit cd_scInit ct_scInit : Value} {od_scInit an_scInit : Option Addr} {sl_scInit : Array (Option Value)}
  {f_scMore : Addr} {oc_scMore kV_scMore dc_scMore pm_scMore cd_scMore ct_scMore : Value} {od_scMore an_scMore : Option Addr} {sl_scMore : Array (Option Value)}
  {f_scRWord : Addr} {oc_scRWord kV_scRWord dc_scRWord pm_scRWord cd_scRWord ct_scRWord : Value} {od_scRWord an_scRWord : Option Addr} {sl_scRWord : Array (Option Value)}
  {t_LONGEST : Tok}
  {t_MOST_STEPS : Tok}
  {ad_SIDES : Addr}
  {od_SIDES : Option Addr} {its_SIDES : Array Value} {n_SIDES : Nat} {sl_SIDES : Array (Option Value)}
  {C_NoKnot : Addr}
  {C_NoMark : Addr}
  {C_NoName : Addr}
  {C_Twice : Addr}
  {C_TooMany : Addr}
  {C_NoTie : Addr}
  {C_NoMeet : Addr}
  {C_NoText : Addr}
  {C_NoLine : Addr}
  {C_NoWay : Addr}
  {C_TooLong : Addr}
  {C_GoesRound : Addr}
  {C_NoSuch : Addr}
  {C_NoPair : Addr}
  {f_NoText : Addr} {oc_NoText kV_NoText dc_NoText pm_NoText cd_NoText ct_NoText : Value} {od_NoText an_NoText : Option Addr} {sl_NoText : Array (Option Value)}
  {CP : Addr}
  (a_C : PySem.W.nsIn K mainGlobals "Reader" = some (some (.ref C)))
  (a_scName : PySem.W.nsIn K mainGlobals "is_name" = some (some (.ref f_scName))) (l_scName : K.lookup f_scName = some ⟨oc_scName, od_scName, .func (PySem.W.fnOf "is_name" "is_name" (defArgs sName) (defBody sName) (defScope sName) .none kV_scName dc_scName pm_scName an_scName cd_scName ct_scName), sl_scName⟩) (c_scName : PySem.W.codeIn K cd_scName "is_name" = true) (k_scName : PySem.W.keepIn K (.ref f_scName) = true)
  (a_scSide : PySem.W.nsIn K mainGlobals "is_side" = some (some (.ref f_scSide))) (l_scSide : K.lookup f_scSide = some ⟨oc_scSide, od_scSide, .func (PySem.W.fnOf "is_side" "is_side" (defArgs sSide) (defBody sSide) (defScope sSide) .none kV_scSide dc_scSide pm_scSide an_scSide cd_scSide ct_scSide), sl_scSide⟩) (c_scSide : PySem.W.codeIn K cd_scSide "is_side" = true) (k_scSide : PySem.W.keepIn K (.ref f_scSide) = true)
  (a_scShown : PySem.W.nsIn K mainGlobals "shown_way" = some (some (.ref f_scShown))) (l_scShown : K.lookup f_scShown = some ⟨oc_scShown, od_scShown, .func (PySem.W.fnOf "shown_way" "shown_way" (defArgs sShown) (defBody sShown) (defScope sShown) .none kV_scShown dc_scShown pm_scShown an_scShown cd_scShown ct_scShown), sl_scShown⟩) (c_scShown : PySem.W.codeIn K cd_scShown "shown_way" = true) (k_scShown : PySem.W.keepIn K (.ref f_scShown) = true)
  (a_scRead : PySem.W.nsIn K mainGlobals "read_way" = some (some (.ref f_scRead))) (l_scRead : K.lookup f_scRead = some ⟨oc_scRead, od_scRead, .func (PySem.W.fnOf "read_way" "read_way" (defArgs sRead) (defBody sRead) (defScope sRead) .none kV_scRead dc_scRead pm_scRead an_scRead cd_scRead ct_scRead), sl_scRead⟩) (c_scRead : PySem.W.codeIn K cd_scRead "read_way" = true) (k_scRead : PySem.W.keepIn K (.ref f_scRead) = true)
  (a_scCell : PySem.W.nsIn K mainGlobals "_law_cell_at" = some (some (.ref f_scCell))) (l_scCell : K.lookup f_scCell = some ⟨oc_scCell, od_scCell, .func (PySem.W.fnOf "_law_cell_at" "_law_cell_at" (defArgs sCell) (defBody sCell) (defScope sCell) .none kV_scCell dc_scCell pm_scCell an_scCell cd_scCell ct_scCell), sl_scCell⟩) (c_scCell : PySem.W.codeIn K cd_scCell "_law_cell_at" = true) (k_scCell : PySem.W.keepIn K (.ref f_scCell) = true)
  (a_scFeed : PySem.W.nsIn K mainGlobals "_law_feed" = some (some (.ref f_scFeed))) (l_scFeed : K.lookup f_scFeed = some ⟨oc_scFeed, od_scFeed, .func (PySem.W.fnOf "_law_feed" "_law_feed" (defArgs sFeed) (defBody sFeed) (defScope sFeed) .none kV_scFeed dc_scFeed pm_scFeed an_scFeed cd_scFeed ct_scFeed), sl_scFeed⟩) (c_scFeed : PySem.W.codeIn K cd_scFeed "_law_feed" = true) (k_scFeed : PySem.W.keepIn K (.ref f_scFeed) = true)
  (a_scNext : PySem.W.nsIn K mainGlobals "_law_next" = some (some (.ref f_scNext))) (l_scNext : K.lookup f_scNext = some ⟨oc_scNext, od_scNext, .func (PySem.W.fnOf "_law_next" "_law_next" (defArgs sNext) (defBody sNext) (defScope sNext) .none kV_scNext dc_scNext pm_scNext an_scNext cd_scNext ct_scNext), sl_scNext⟩) (c_scNext : PySem.W.codeIn K cd_scNext "_law_next" = true) (k_scNext : PySem.W.keepIn K (.ref f_scNext) = true)
  (a_scNames : PySem.W.nsIn K mainGlobals "_law_names" = some (some (.ref f_scNames))) (l_scNames : K.lookup f_scNames = some ⟨oc_scNames, od_scNames, .func (PySem.W.fnOf "_law_names" "_law_names" (defArgs sNames) (defBody sNames) (defScope sNames) .none kV_scNames dc_scNames pm_scNames an_scNames cd_scNames ct_scNames), sl_scNames⟩) (c_scNames : PySem.W.codeIn K cd_scNames "_law_names" = true) (k_scNames : PySem.W.keepIn K (.ref f_scNames) = true)
  (a_scOwn : PySem.W.nsIn K mainGlobals "_law_own" = some (some (.ref f_scOwn))) (l_scOwn : K.lookup f_scOwn = some ⟨oc_scOwn, od_scOwn, .func (PySem.W.fnOf "_law_own" "_law_own" (defArgs sOwn) (defBody sOwn) (defScope sOwn) .none kV_scOwn dc_scOwn pm_scOwn an_scOwn cd_scOwn ct_scOwn), sl_scOwn⟩) (c_scOwn : PySem.W.codeIn K cd_scOwn "_law_own" = true) (k_scOwn : PySem.W.keepIn K (.ref f_scOwn) = true)
  (a_scWay : PySem.W.nsIn K mainGlobals "_law_way" = some (some (.ref f_scWay))) (l_scWay : K.lookup f_scWay = some ⟨oc_scWay, od_scWay, .func (PySem.W.fnOf "_law_way" "_law_way" (defArgs sWay) (defBody sWay) (defScope sWay) .none kV_scWay dc_scWay pm_scWay an_scWay cd_scWay ct_scWay), sl_scWay⟩) (c_scWay : PySem.W.codeIn K cd_scWay "_law_way" = true) (k_scWay : PySem.W.keepIn K (.ref f_scWay) = true)
  (a_scWords : PySem.W.nsIn K mainGlobals "_law_words" = some (some (.ref f_scWords))) (l_scWords : K.lookup f_scWords = some ⟨oc_scWords, od_scWords, .func (PySem.W.fnOf "_law_words" "_law_words" (defArgs sWords) (defBody sWords) (defScope sWords) .none kV_scWords dc_scWords pm_scWords an_scWords cd_scWords ct_scWords), sl_scWords⟩) (c_scWords : PySem.W.codeIn K cd_scWords "_law_words" = true) (k_scWords : PySem.W.keepIn K (.ref f_scWords) = true)
  (a_scLName : PySem.W.nsIn K mainGlobals "_law_is_name" = some (some (.ref f_scLName))) (l_scLName : K.lookup f_scLName = some ⟨oc_scLName, od_scLName, .func (PySem.W.fnOf "_law_is_name" "_law_is_name" (defArgs sLName) (defBody sLName) (defScope sLName) .none kV_scLName dc_scLName pm_scLName an_scLName cd_scLName ct_scLName), sl_scLName⟩) (c_scLName : PySem.W.codeIn K cd_scLName "_law_is_name" = true) (k_scLName : PySem.W.keepIn K (.ref f_scLName) = true)
  (a_scWrong : PySem.W.nsIn K mainGlobals "_law_wrong" = some (some (.ref f_scWrong))) (l_scWrong : K.lookup f_scWrong = some ⟨oc_scWrong, od_scWrong, .func (PySem.W.fnOf "_law_wrong" "_law_wrong" (defArgs sWrong) (defBody sWrong) (defScope sWrong) .none kV_scWrong dc_scWrong pm_scWrong an_scWrong cd_scWrong ct_scWrong), sl_scWrong⟩) (c_scWrong : PySem.W.codeIn K cd_scWrong "_law_wrong" = true) (k_scWrong : PySem.W.keepIn K (.ref f_scWrong) = true)
  (a_scSpoilt : PySem.W.nsIn K mainGlobals "_law_spoilt" = some (some (.ref f_scSpoilt))) (l_scSpoilt : K.lookup f_scSpoilt = some ⟨oc_scSpoilt, od_scSpoilt, .func (PySem.W.fnOf "_law_spoilt" "_law_spoilt" (defArgs sSpoilt) (defBody sSpoilt) (defScope sSpoilt) .none kV_scSpoilt dc_scSpoilt pm_scSpoilt an_scSpoilt cd_scSpoilt ct_scSpoilt), sl_scSpoilt⟩) (c_scSpoilt : PySem.W.codeIn K cd_scSpoilt "_law_spoilt" = true) (k_scSpoilt : PySem.W.keepIn K (.ref f_scSpoilt) = true)
  (a_scRight : PySem.W.nsIn K mainGlobals "_law_right" = some (some (.ref f_scRight))) (l_scRight : K.lookup f_scRight = some ⟨oc_scRight, od_scRight, .func (PySem.W.fnOf "_law_right" "_law_right" (defArgs sRight) (defBody sRight) (defScope sRight) .none kV_scRight dc_scRight pm_scRight an_scRight cd_scRight ct_scRight), sl_scRight⟩) (c_scRight : PySem.W.codeIn K cd_scRight "_law_right" = true) (k_scRight : PySem.W.keepIn K (.ref f_scRight) = true)
  (a_scLaw : PySem.W.nsIn K mainGlobals "law" = some (some (.ref f_scLaw))) (l_scLaw : K.lookup f_scLaw = some ⟨oc_scLaw, od_scLaw, .func (PySem.W.fnOf "law" "law" (defArgs sLaw) (defBody sLaw) (defScope sLaw) .none kV_scLaw dc_scLaw pm_scLaw an_scLaw cd_scLaw ct_scLaw), sl_scLaw⟩) (c_scLaw : PySem.W.codeIn K cd_scLaw "law" = true) (k_scLaw : PySem.W.keepIn K (.ref f_scLaw) = true)
  (a_scInit : PySem.W.findIn K (.ref C) "__init__" = some (some (.ref f_scInit))) (l_scInit : K.lookup f_scInit = some ⟨oc_scInit, od_scInit, .func (PySem.W.fnOf "__init__" "Reader.__init__" (defArgs sInit) (defBody sInit) (defScope sInit) .none kV_scInit dc_scInit pm_scInit an_scInit cd_scInit ct_scInit), sl_scInit⟩) (c_scInit : PySem.W.codeIn K cd_scInit "Reader.__init__" = true) (k_scInit : PySem.W.keepIn K (.ref f_scInit) = true) (i_scInit : PySem.W.isFn K (.ref f_scInit) = true)
  (a_scMore : PySem.W.findIn K (.ref C) "has_more" = some (some (.ref f_scMore))) (l_scMore : K.lookup f_scMore = some ⟨oc_scMore, od_scMore, .func (PySem.W.fnOf "has_more" "Reader.has_more" (defArgs sMore) (defBody sMore) (defScope sMore) .none kV_scMore dc_scMore pm_scMore an_scMore cd_scMore ct_scMore), sl_scMore⟩) (c_scMore : PySem.W.codeIn K cd_scMore "Reader.has_more" = true) (k_scMore : PySem.W.keepIn K (.ref f_scMore) = true) (i_scMore : PySem.W.isFn K (.ref f_scMore) = true)
  (a_scRWord : PySem.W.findIn K (.ref C) "read_word" = some (some (.ref f_scRWord))) (l_scRWord : K.lookup f_scRWord = some ⟨oc_scRWord, od_scRWord, .func (PySem.W.fnOf "read_word" "Reader.read_word" (defArgs sRWord) (defBody sRWord) (defScope sRWord) .none kV_scRWord dc_scRWord pm_scRWord an_scRWord cd_scRWord ct_scRWord), sl_scRWord⟩) (c_scRWord : PySem.W.codeIn K cd_scRWord "Reader.read_word" = true) (k_scRWord : PySem.W.keepIn K (.ref f_scRWord) = true) (i_scRWord : PySem.W.isFn K (.ref f_scRWord) = true)
  (z_len : PySem.W.nsIn K mainGlobals "len" = some none)
  (z_isinstance : PySem.W.nsIn K mainGlobals "isinstance" = some none)
  (z_max : PySem.W.nsIn K mainGlobals "max" = some none)
  (z_min : PySem.W.nsIn K mainGlobals "min" = some none)
  (z_int : PySem.W.nsIn K mainGlobals "int" = some none)
  (z_str : PySem.W.nsIn K mainGlobals "str" = some none)
  (z_bool : PySem.W.nsIn K mainGlobals "bool" = some none)
  (z_all : PySem.W.nsIn K mainGlobals "all" = some none)
  (z_tuple : PySem.W.nsIn K mainGlobals "tuple" = some none)
  (z_reversed : PySem.W.nsIn K mainGlobals "reversed" = some none)
  (z_range : PySem.W.nsIn K mainGlobals "range" = some none)
  (z_list : PySem.W.nsIn K mainGlobals "list" = some none)
  (z_repr : PySem.W.nsIn K mainGlobals "repr" = some none)
  (z_ValueError : PySem.W.nsIn K mainGlobals "ValueError" = some none)
  (m_LONGEST : PySem.W.nsIn K mainGlobals "LONGEST" = some (some (.int 8 t_LONGEST)))
  (m_MOST_STEPS : PySem.W.nsIn K mainGlobals "MOST_STEPS" = some (some (.int 60 t_MOST_STEPS)))
  (m_SIDES : PySem.W.nsIn K mainGlobals "SIDES" = some (some (.ref ad_SIDES)))
  (l_SIDES : K.lookup ad_SIDES = some ⟨.type "tuple", od_SIDES, .seq its_SIDES n_SIDES, sl_SIDES⟩)
  (q_SIDES : (its_SIDES.toList.map strOf == (["on", "back"] : List Str).map some) = true)
  (x_pg : PySem.W.plainGet K C Str.empty = true)
  (x_hd : PySem.W.hasDictIn K C = true)
  (x_po : PySem.W.plainOver K C = true)
  (x_sa : PySem.W.findIn K (.ref C) "__setattr__" = some (some (.builtin "object.__setattr__")))
  (x_words : PySem.W.findIn K (.ref C) "words" = some none)
  (x_at : PySem.W.findIn K (.ref C) "at" = some none)
  (x_parts : PySem.W.findIn K (.ref C) "parts" = some none)
  (x_mk : PySem.W.makesIn K C = true)
  (x_kp : PySem.W.keepIn K (.ref C) = true)
  (g_NoKnot : PySem.W.nsIn K mainGlobals "NoKnot" = some (some (.ref C_NoKnot)))
  (g_NoMark : PySem.W.nsIn K mainGlobals "NoMark" = some (some (.ref C_NoMark)))
  (g_NoName : PySem.W.nsIn K mainGlobals "NoName" = some (some (.ref C_NoName)))
  (g_Twice : PySem.W.nsIn K mainGlobals "Twice" = some (some (.ref C_Twice)))
  (g_TooMany : PySem.W.nsIn K mainGlobals "TooMany" = some (some (.ref C_TooMany)))
  (g_NoTie : PySem.W.nsIn K mainGlobals "NoTie" = some (some (.ref C_NoTie)))
  (g_NoMeet : PySem.W.nsIn K mainGlobals "NoMeet" = some (some (.ref C_NoMeet)))
  (g_NoText : PySem.W.nsIn K mainGlobals "NoText" = some (some (.ref C_NoText)))
  (g_NoLine : PySem.W.nsIn K mainGlobals "NoLine" = some (some (.ref C_NoLine)))
  (g_NoWay : PySem.W.nsIn K mainGlobals "NoWay" = some (some (.ref C_NoWay)))
  (g_TooLong : PySem.W.nsIn K mainGlobals "TooLong" = some (some (.ref C_TooLong)))
  (g_GoesRound : PySem.W.nsIn K mainGlobals "GoesRound" = some (some (.ref C_GoesRound)))
  (g_NoSuch : PySem.W.nsIn K mainGlobals "NoSuch" = some (some (.ref C_NoSuch)))
  (g_NoPair : PySem.W.nsIn K mainGlobals "NoPair" = some (some (.ref C_NoPair)))
  (i_NoText : PySem.W.findIn K (.ref C_NoText) "__init__" = some (some (.ref f_NoText)))
  (n_NoText : PySem.W.isFn K (.ref f_NoText) = true)
  (l_NoText : K.lookup f_NoText = some ⟨oc_NoText, od_NoText, .func (PySem.W.fnOf "__init__" "NoText.__init__" (defArgs sNoText) (defBody sNoText) (defScope sNoText) .none kV_NoText dc_NoText pm_NoText an_NoText cd_NoText ct_NoText), sl_NoText⟩)
  (c_NoText : PySem.W.codeIn K cd_NoText "NoText.__init__" = true)
  (k_NoText : PySem.W.keepIn K (.ref f_NoText) = true)
  (gP : PySem.W.nsIn K mainGlobals "PathError" = some (some (.ref CP)))
  (rP : PySem.W.readsIn K CP (.type "type") = true)
  (fP : PySem.W.findCls K (.ref CP) (.type "type") "__init__" = some (.val (.builtin "ValueError.__init__")))
  (aP : PySem.W.specialIn K (.ref CP) "__getattribute__" = some (some (.builtin "type.__getattribute__")))
  (kB : kitB K [C_NoKnot, C_NoMark, C_NoName, C_Twice, C_TooMany, C_NoTie, C_NoMeet, C_NoText, C_NoLine, C_NoWay, C_TooLong, C_GoesRound, C_NoSuch, C_NoPair] CP = true) :
  ∃ fd : FuncData, (∀ (s : Shared) (v : Value), BindsTo s fd ⟨[v], []⟩ [("_law_script", v)]) ∧ ∀ base : Heap, K.In base → base.Ns mainGlobals mg → FnOk l.prog w K mg base CX0 9 fa fd ["_law_script"] (spLaw K) := by
 have e := hfa.symm.trans (PySem.W.mg_of X G a_scLaw)
 cases e
 have S_scName : Src K mg "is_name" PscName sName := J.src_mk X G a_scName l_scName c_scName k_scName fun _ _ _ _ _ _ => J.by1 (fun _ => rfl)
 have S_scSide : Src K mg "is_side" PscSide sSide := J.src_mk X G a_scSide l_scSide c_scSide k_scSide fun _ _ _ _ _ _ => J.by1 (fun _ => rfl)
 have S_scShown : Src K mg "shown_way" PscShown sShown := J.src_mk X G a_scShown l_scShown c_scShown k_scShown fun _ _ _ _ _ _ => J.by1 (fun _ => rfl)
 have S_scRead : Src K mg "read_way" PscRead sRead := J.src_mk X G a_scRead l_scRead c_scRead k_scRead fun _ _ _ _ _ _ => J.by1 (fun _ => rfl)
 have S_scCell : Src K mg "_law_cell_at" PscCell sCell := J.src_mk X G a_scCell l_scCell c_scCell k_scCell fun _ _ _ _ _ _ => J.by2 (fun _ _ => rfl)
 have S_scFeed : Src K mg "_law_feed" PscFeed sFeed := J.src_mk X G a_scFeed l_scFeed c_scFeed k_scFeed fun _ _ _ _ _ _ => J.by1 (fun _ => rfl)
 have S_scNext : Src K mg "_law_next" PscNext sNext := J.src_mk X G a_scNext l_scNext c_scNext k_scNext fun _ _ _ _ _ _ => J.by2 (fun _ _ => rfl)
 have S_scNames : Src K mg "_law_names" PscNames sNames := J.src_mk X G a_scNames l_scNames c_scNames k_scNames fun _ _ _ _ _ _ => J.by2 (fun _ _ => rfl)
 have S_scOwn : Src K mg "_law_own" PscOwn sOwn := J.src_mk X G a_scOwn l_scOwn c_scOwn k_scOwn fun _ _ _ _ _ _ => J.by1 (fun _ => rfl)
 have S_scWay : Src K mg "_law_way" PscWay sWay := J.src_mk X G a_scWay l_scWay c_scWay k_scWay fun _ _ _ _ _ _ => J.by3 (fun _ _ _ => rfl)
 have S_scWords : Src K mg "_law_words" PscWords sWords := J.src_mk X G a_scWords l_scWords c_scWords k_scWords fun _ _ _ _ _ _ => J.by1 (fun _ => rfl)
 have S_scLName : Src K mg "_law_is_name" PscLName sLName := J.src_mk X G a_scLName l_scLName c_scLName k_scLName fun _ _ _ _ _ _ => J.by1 (fun _ => rfl)
 have S_scWrong : Src K mg "_law_wrong" PscWrong sWrong := J.src_mk X G a_scWrong l_scWrong c_scWrong k_scWrong fun _ _ _ _ _ _ => J.by1 (fun _ => rfl)
 have S_scSpoilt : Src K mg "_law_spoilt" PscSpoilt sSpoilt := J.src_mk X G a_scSpoilt l_scSpoilt c_scSpoilt k_scSpoilt fun _ _ _ _ _ _ => J.by3 (fun _ _ _ => rfl)
 have S_scRight : Src K mg "_law_right" PscRight sRight := J.src_mk X G a_scRight l_scRight c_scRight k_scRight fun _ _ _ _ _ _ => J.by1 (fun _ => rfl)
 have S_scInit : M.SrcM K C "__init__" "Reader.__init__" PscInit sInit := ⟨f_scInit, _, fun_mk (st := sInit) l_scInit c_scInit k_scInit, ⟨a_scInit, i_scInit, k_scInit⟩, (fun_mk (st := sInit) l_scInit c_scInit k_scInit).binds fun _ _ _ _ _ _ => J.by2 (fun _ _ => rfl)⟩
 have S_scMore : M.SrcM K C "has_more" "Reader.has_more" PscMore sMore := ⟨f_scMore, _, fun_mk (st := sMore) l_scMore c_scMore k_scMore, ⟨a_scMore, i_scMore, k_scMore⟩, (fun_mk (st := sMore) l_scMore c_scMore k_scMore).binds fun _ _ _ _ _ _ => J.by1 (fun _ => rfl)⟩
 have S_scRWord : M.SrcM K C "read_word" "Reader.read_word" PscRWord sRWord := ⟨f_scRWord, _, fun_mk (st := sRWord) l_scRWord c_scRWord k_scRWord, ⟨a_scRWord, i_scRWord, k_scRWord⟩, (fun_mk (st := sRWord) l_scRWord c_scRWord k_scRWord).binds fun _ _ _ _ _ _ => J.by2 (fun _ _ => rfl)⟩
 have F := fun_mk (st := sLaw) l_scLaw c_scLaw k_scLaw
 obtain ⟨q1, q2, q3, q4, q5, q6, q7⟩ := kitB.at_ kB
 have q := clsOk.is q3
 have T : Txt K mg (csOf [C_NoKnot, C_NoMark, C_NoName, C_Twice, C_TooMany, C_NoTie, C_NoMeet, C_NoText, C_NoLine, C_NoWay, C_TooLong, C_GoesRound, C_NoSuch, C_NoPair]) CP C f_scInit := ⟨PySem.W.mg_none_of X G z_len, PySem.W.mg_none_of X G z_isinstance, PySem.W.mg_none_of X G z_max, PySem.W.mg_none_of X G z_min, PySem.W.mg_none_of X G z_int, PySem.W.mg_none_of X G z_str, PySem.W.mg_none_of X G z_bool, PySem.W.mg_none_of X G z_all, PySem.W.mg_none_of X G z_tuple, PySem.W.mg_none_of X G z_reversed, PySem.W.mg_none_of X G z_range, PySem.W.mg_none_of X G z_list, PySem.W.mg_none_of X G z_repr, PySem.W.mg_none_of X G z_ValueError, PySem.W.mg_of X G gP, ⟨rP, fP, aP⟩, q6, q7, PySem.W.mg_of X G g_NoKnot, PySem.W.mg_of X G g_NoMark, PySem.W.mg_of X G g_NoName, PySem.W.mg_of X G g_Twice, PySem.W.mg_of X G g_TooMany, PySem.W.mg_of X G g_NoTie, PySem.W.mg_of X G g_NoMeet, PySem.W.mg_of X G g_NoText, PySem.W.mg_of X G g_NoLine, PySem.W.mg_of X G g_NoWay, PySem.W.mg_of X G g_TooLong, PySem.W.mg_of X G g_GoesRound, PySem.W.mg_of X G g_NoSuch, PySem.W.mg_of X G g_NoPair, q.1, q1, q2, q5, q4, ⟨_, PySem.W.mg_of X G m_LONGEST⟩, ⟨_, PySem.W.mg_of X G m_MOST_STEPS⟩, ⟨_, PySem.W.mg_of X G m_SIDES, fun H => stc_of l_SIDES q_SIDES (by decide) H⟩, PySem.W.mg_of X G a_C, ⟨x_pg, x_hd, x_po, x_sa⟩, ⟨x_mk, a_scInit, i_scInit, x_kp⟩, x_words, x_at, x_parts⟩
 have X_NoText : XSrc K mg "NoText" (csOf [C_NoKnot, C_NoMark, C_NoName, C_Twice, C_TooMany, C_NoTie, C_NoMeet, C_NoText, C_NoLine, C_NoWay, C_TooLong, C_GoesRound, C_NoSuch, C_NoPair] 7) "NoText.__init__" PscNoText sNoText := by
  have F := fun_mk (st := sNoText) l_NoText c_NoText k_NoText
  exact ⟨⟨f_NoText, _, ⟨q.1.toXCls, i_NoText, n_NoText, q.2⟩, F, F.binds fun _ _ _ _ _ _ => J.by2 (fun _ _ => rfl)⟩⟩
 refine ⟨PySem.W.fnOf "law" "law" (defArgs sLaw) (defBody sLaw) (defScope sLaw) .none kV_scLaw dc_scLaw pm_scLaw an_scLaw cd_scLaw ct_scLaw, fun s v => .of_eq rfl, fun base _ _ => ?_⟩
 have D_next := d_Next (P := l.prog) (w := w) (base := base) T S_scNext
 have NX := a_Next D_next
 have D_name := d_Name (P := l.prog) (w := w) (base := base) T S_scName
 have D_side := d_Side (P := l.prog) (w := w) (base := base) T S_scSide
 have D_more := d_More (P := l.prog) (w := w) (base := base) T S_scMore
 have D_X := d_NoText (P := l.prog) (w := w) (base := base) T X_NoText
 obtain ⟨D_rw, D_rx⟩ := d_RX T S_scRWord D_more D_X
 obtain ⟨fa, fb, q2'⟩ := qs_of D_name D_side
 have F_init := d_Init (P := l.prog) (w := w) (base := base) T (fun_mk (st := sInit) l_scInit c_scInit k_scInit)
 have B_init := (fun_mk (st := sInit) l_scInit c_scInit k_scInit).binds (ps := PscInit) fun _ _ _ _ _ _ => J.by2 (fun _ _ => rfl)
 have D_read := d_Read T q2' S_scRead F_init B_init D_more D_rw
 have D_bad := M.badE (d_ReadBad T q2' S_scRead F_init B_init D_more D_rx D_X)
 have D_shown := d_Shown (P := l.prog) (w := w) (base := base) T S_scShown
 have D_right := d_Right T S_scRight D_read D_bad (d_Wrong T S_scWrong (d_LName T S_scLName)) D_shown (d_Own T S_scOwn)
 exact top_of (d_LawA T F (a_Cell (d_Cell T S_scCell)) (a_Feed (d_Feed T S_scFeed)) NX (a_Names (d_Names T S_scNames D_next)) (d_Way T S_scWay NX) (d_Words T S_scWords) D_shown D_read (d_Spoilt T S_scSpoilt NX) D_right)
theorem walk {l : PySem.W.OpenLaw} {q : Program} {loose : List Str} {XP : (Str → Option Value) → Heap → Prop} {YP : World → Heap → Prop} {d : DefRec} {K : Params → PySem.W.Frag} (hn : l.most = some 63) (hdf : d.params.defaults = [])
  (hY : ∀ (w : World) (h : Heap), YP w h → (K w.params).In h)
  (F : ∀ (w : World) (mg : Str → Option Value) (fa : Addr) (h : Heap), (K w.params).In h → h.Ns mainGlobals mg → mg d.name = some (.ref fa) →
   ∃ fd : FuncData, (∀ (s : Shared) (u : Value), BindsTo s fd ⟨[u], []⟩ [("_law_script", u)]) ∧ ∀ base : Heap, (K w.params).In base → base.Ns mainGlobals mg → FnOk l.prog w (K w.params) mg base CX0 9 fa fd ["_law_script"] (spLaw (K w.params))) :
  PySem.W.WalkO q loose XP YP l.row.toRowW d [] (fun f vs => PySem.call f vs) :=
 L2.walk_of (n := 63) (k := 9) (x := "_law_script") (CX := fun _ => CX0) (sp := fun w => spLaw (K w.params)) hn (by decide) hdf ⟨rfl, by decide, by decide, rfl⟩ hY F (fun _ _ a ns hl _ hS => ⟨a, ns, rfl, hS, hl, fun _ => rfl⟩) fun _ _ _ _ _ z => z
end K12
open PySem PySem.W PyProof.Rows
namespace PySem.Challenge.cw_pathask_k12_ways_written_and_read_holds
def tw10083354337929201676:Nat:=0
def tw7834949258336586304:Nat:=0
def tw1798298082830762683:Nat:=0
def tw4027791258402166260:Nat:=0
def tw7297810872950857476:Nat:=0
def tw7211311487867138432:Nat:=0
def tw2085647272048041100:Nat:=0
def tw14622249086963001727:Nat:=0
def tw1134588017894752901:Nat:=0
def tw15384001792124585250:Nat:=0
def tw4148234123932352732:Nat:=0
def tw17894209050589475154:Nat:=0
def tw16446892492901537008:Nat:=0
def tw14983732609995777337:Nat:=0
def tw5278582205540532658:Nat:=0
def tw12770489138766930716:Nat:=0
def tw9451865811998986198:Nat:=0
def tw3764366431239644564:Nat:=0
def tw17341937690794331649:Nat:=0
def tw16499869642870214949:Nat:=0
def tw15560426451123210150:Nat:=0
def tw17411435201789444599:Nat:=0
def tw17727620165157656316:Nat:=0
def tw14257215679643722678:Nat:=0
def tw17367313077380302532:Nat:=0
def tw17377050973732991765:Nat:=0
def tw54760456887670542:Nat:=0
def tw11776437774894368121:Nat:=0
def tw1685033450578476841:Nat:=0
def tw14061805743059307165:Nat:=0
def tw15207905138475729939:Nat:=0
def tw16131716573458271115:Nat:=0
def tw1695678532802415533:Nat:=0
def tw10961820192866172752:Nat:=0
def tw10446418498805474014:Nat:=0
def tw13885286745813417542:Nat:=0
def tw5484836623028218107:Nat:=0
def tw16608263357170118135:Nat:=0
def tw1523826257218822111:Nat:=0
def tw17717779821643562267:Nat:=0
def tw13026573076591569550:Nat:=0
def tw8702231454132193488:Nat:=0
def tw301128775319599143:Nat:=0
def tw14735533951053125439:Nat:=0
def tw16218103770238934675:Nat:=0
def tw4028899205400326649:Nat:=0
def tw172228520429532801:Nat:=0
def tw14248919573534138786:Nat:=0
def tw1937882573025171912:Nat:=0
def tw3809300922693293875:Nat:=0
def tw12740234045530148980:Nat:=0
def tw1668010984383194712:Nat:=0
def tw13674550066000591065:Nat:=0
def tw5620343573414203103:Nat:=0
def tw348360150347906750:Nat:=0
def tw17081844001460994409:Nat:=0
def tw5583777672498897890:Nat:=0
def tw3857084710346913889:Nat:=0
def tw2105896232192366017:Nat:=0
def tw8200070186946785121:Nat:=0
def tw1853737993737541060:Nat:=0
def tw5433527204401976823:Nat:=0
def tw11850532457107124581:Nat:=0
def tw13707978806413207990:Nat:=0
def tw15925377878661888723:Nat:=0
def tw3010467364434246272:Nat:=0
def tw13586024398525598061:Nat:=0
def tw13764435034187357572:Nat:=0
def tw7093086433222217497:Nat:=0
def tw12007900685904413552:Nat:=0
def tw11111053942297562781:Nat:=0
def tw14950140769324793047:Nat:=0
def tw4008686936839096316:Nat:=0
def tw15366174351952734314:Nat:=0
def tw13553477950864417895:Nat:=0
def tw14006433083075565638:Nat:=0
def tw7355703690993998516:Nat:=0
def tw18161200754684041462:Nat:=0
def tw7756264506289630722:Nat:=0
def tw709310654730014146:Nat:=0
def tw4988109511755012465:Nat:=0
def tw4318135936998030323:Nat:=0
def tw1898513765758811747:Nat:=0
def tw6382132582793836475:Nat:=0
def tw13244814598209893451:Nat:=0
def tw1206432670821255320:Nat:=0
def tw3994344142502055428:Nat:=0
def tw1504731786187329354:Nat:=0
def tw17380227901830221688:Nat:=0
def tw13033080910234648935:Nat:=0
def tw5743366353557355978:Nat:=0
def tw10601083896156364272:Nat:=0
def tw5454127497583446287:Nat:=0
def tw2396457932557043282:Nat:=0
def tw18390365115176567055:Nat:=0
def tw17534705159251925217:Nat:=0
def tw4578479851790571028:Nat:=0
def tw15630861998277253384:Nat:=0
def tw637593619522141601:Nat:=0
def tw7175829293428314393:Nat:=0
def tw8602295951306814894:Nat:=0
def tw6014443888797497001:Nat:=0
def tw15095341539186396115:Nat:=0
def tw15280386142680882451:Nat:=0
def tw16807821840164228252:Nat:=0
def tw4514396932406482610:Nat:=0
def tw16143495088918029515:Nat:=0
def tw15805397315235296364:Nat:=0
def tw83142373300666178:Nat:=0
def tw3193770305447028235:Nat:=0
def tw17528747304311708639:Nat:=0
def tw18307329458344376513:Nat:=0
def tw12218449135615680444:Nat:=0
def tw18190220913427983821:Nat:=0
def tw9785164785305695715:Nat:=0
def tw2549253708781556073:Nat:=0
def tw13950640792287835242:Nat:=0
def tw729368011545451337:Nat:=0
def tw10493848603376960205:Nat:=0
def tw4019800025755315343:Nat:=0
def tw12342920569250872842:Nat:=0
def tw14767343179117130346:Nat:=0
def tw3135684746616272098:Nat:=0
def tw10807037137332201349:Nat:=0
def tw1100557336921962477:Nat:=0
def tw9908240119205574394:Nat:=0
def tw13070620475353190301:Nat:=0
def tw12917011459321493315:Nat:=0
def tw14628529060950989913:Nat:=0
def tw4903536220705684575:Nat:=0
def tw2665478424362295460:Nat:=0
def tw12234795578845134410:Nat:=0
def tw3716988574913388726:Nat:=0
def tw15090160924199165949:Nat:=0
def tw4887498163843184530:Nat:=0
def tw1953131338871697186:Nat:=0
def tw5181976685745692323:Nat:=0
def tw11086291313128401059:Nat:=0
def tw6602533093951071691:Nat:=0
def tw622328850822648469:Nat:=0
def tw5258904714700230861:Nat:=0
def tw9835279111551905074:Nat:=0
def tw15409917635973862928:Nat:=0
def tw11428046084415930779:Nat:=0
def tw9918301786161865253:Nat:=0
def tw3792525163125856578:Nat:=0
def tw7084639766740401570:Nat:=0
def tw5565614852373251060:Nat:=0
def tw290759311504423033:Nat:=0
def tw14463866265262862114:Nat:=0
def tw10208413098540024619:Nat:=0
def tw16365912544449889798:Nat:=0
def tw13659048070431539397:Nat:=0
def tw2551167589147175343:Nat:=0
def tw16931036094895045090:Nat:=0
def tw11875366968047055145:Nat:=0
def tw17564233615198274420:Nat:=0
def tw5424682554678764488:Nat:=0
def tw1932760737661877014:Nat:=0
def tw10258961088921497460:Nat:=0
def tw17973024156961073652:Nat:=0
def tw10177967130193221832:Nat:=0
def tw17456354549807933474:Nat:=0
def tw6931142861218443806:Nat:=0
def tw12407769612004633236:Nat:=0
end PySem.Challenge.cw_pathask_k12_ways_written_and_read_holds
set_option Elab.async true in
set_option maxRecDepth 100000 in
set_option maxHeartbeats 0 in
theorem PySem.Challenge.cw_pathask_k12_ways_written_and_read_holds : PySem.Challenge.rw_pathask_k12_ways_written_and_read.Holds := by
 w_on; o_law; k_head; (case hw => w_witness2)
 k_fill
 refine K12.walk (l := PySem.Challenge.rw_pathask_k12_ways_written_and_read) rfl rfl (fun w h Y => PySem.W.kIn_of Y) ?F
 case F =>
  intro w mg fa h KX G hmg
  refine' K12.all_mk KX G hmg ?a_C ?a_scName ?l_scName ?c_scName ?k_scName ?a_scSide ?l_scSide ?c_scSide ?k_scSide ?a_scShown ?l_scShown ?c_scShown ?k_scShown ?a_scRead ?l_scRead ?c_scRead ?k_scRead ?a_scCell ?l_scCell ?c_scCell ?k_scCell ?a_scFeed ?l_scFeed ?c_scFeed ?k_scFeed ?a_scNext ?l_scNext ?c_scNext ?k_scNext ?a_scNames ?l_scNames ?c_scNames ?k_scNames ?a_scOwn ?l_scOwn ?c_scOwn ?k_scOwn ?a_scWay ?l_scWay ?c_scWay ?k_scWay ?a_scWords ?l_scWords ?c_scWords ?k_scWords ?a_scLName ?l_scLName ?c_scLName ?k_scLName ?a_scWrong ?l_scWrong ?c_scWrong ?k_scWrong ?a_scSpoilt ?l_scSpoilt ?c_scSpoilt ?k_scSpoilt ?a_scRight ?l_scRight ?c_scRight ?k_scRight ?a_scLaw ?l_scLaw ?c_scLaw ?k_scLaw ?a_scInit ?l_scInit ?c_scInit ?k_scInit ?i_scInit ?a_scMore ?l_scMore ?c_scMore ?k_scMore ?i_scMore ?a_scRWord ?l_scRWord ?c_scRWord ?k_scRWord ?i_scRWord ?z_len ?z_isinstance ?z_max ?z_min ?z_int ?z_str ?z_bool ?z_all ?z_tuple ?z_reversed ?z_range ?z_list ?z_repr ?z_ValueError ?m_LONGEST ?m_MOST_STEPS ?m_SIDES ?l_SIDES ?q_SIDES ?x_pg ?x_hd ?x_po ?x_sa ?x_words ?x_at ?x_parts ?x_mk ?x_kp ?g_NoKnot ?g_NoMark ?g_NoName ?g_Twice ?g_TooMany ?g_NoTie ?g_NoMeet ?g_NoText ?g_NoLine ?g_NoWay ?g_TooLong ?g_GoesRound ?g_NoSuch ?g_NoPair ?i_NoText ?n_NoText ?l_NoText ?c_NoText ?k_NoText ?gP ?rP ?fP ?aP ?kB
  (case a_C => k_is)
  (case a_scName => k_is)
  (case l_scName => k_is)
  (case c_scName => k_is)
  (case k_scName => k_is)
  (case a_scSide => k_is)
  (case l_scSide => k_is)
  (case c_scSide => k_is)
  (case k_scSide => k_is)
  (case a_scShown => k_is)
  (case l_scShown => k_is)
  (case c_scShown => k_is)
  (case k_scShown => k_is)
  (case a_scRead => k_is)
  (case l_scRead => k_is)
  (case c_scRead => k_is)
  (case k_scRead => k_is)
  (case a_scCell => k_is)
  (case l_scCell => k_is)
  (case c_scCell => k_is)
  (case k_scCell => k_is)
  (case a_scFeed => k_is)
  (case l_scFeed => k_is)
  (case c_scFeed => k_is)
  (case k_scFeed => k_is)
  (case a_scNext => k_is)
  (case l_scNext => k_is)
  (case c_scNext => k_is)
  (case k_scNext => k_is)
  (case a_scNames => k_is)
  (case l_scNames => k_is)
  (case c_scNames => k_is)
  (case k_scNames => k_is)
  (case a_scOwn => k_is)
  (case l_scOwn => k_is)
  (case c_scOwn => k_is)
  (case k_scOwn => k_is)
  (case a_scWay => k_is)
  (case l_scWay => k_is)
  (case c_scWay => k_is)
  (case k_scWay => k_is)
  (case a_scWords => k_is)
  (case l_scWords => k_is)
  (case c_scWords => k_is)
  (case k_scWords => k_is)
  (case a_scLName => k_is)
  (case l_scLName => k_is)
  (case c_scLName => k_is)
  (case k_scLName => k_is)
  (case a_scWrong => k_is)
  (case l_scWrong => k_is)
  (case c_scWrong => k_is)
  (case k_scWrong => k_is)
  (case a_scSpoilt => k_is)
  (case l_scSpoilt => k_is)
  (case c_scSpoilt => k_is)
  (case k_scSpoilt => k_is)
  (case a_scRight => k_is)
  (case l_scRight => k_is)
  (case c_scRight => k_is)
  (case k_scRight => k_is)
  (case a_scLaw => k_is)
  (case l_scLaw => k_is)
  (case c_scLaw => k_is)
  (case k_scLaw => k_is)
  (case a_scInit => k_is)
  (case l_scInit => k_is)
  (case c_scInit => k_is)
  (case k_scInit => k_is)
  (case i_scInit => k_is)
  (case a_scMore => k_is)
  (case l_scMore => k_is)
  (case c_scMore => k_is)
  (case k_scMore => k_is)
  (case i_scMore => k_is)
  (case a_scRWord => k_is)
  (case l_scRWord => k_is)
  (case c_scRWord => k_is)
  (case k_scRWord => k_is)
  (case i_scRWord => k_is)
  (case z_len => k_is)
  (case z_isinstance => k_is)
  (case z_max => k_is)
  (case z_min => k_is)
  (case z_int => k_is)
  (case z_str => k_is)
  (case z_bool => k_is)
  (case z_all => k_is)
  (case z_tuple => k_is)
  (case z_reversed => k_is)
  (case z_range => k_is)
  (case z_list => k_is)
  (case z_repr => k_is)
  (case z_ValueError => k_is)
  (case m_LONGEST => k_is)
  (case m_MOST_STEPS => k_is)
  (case m_SIDES => k_is)
  (case l_SIDES => k_is)
  (case q_SIDES => kernel_rfl)
  (case x_pg => k_is)
  (case x_hd => k_is)
  (case x_po => k_is)
  (case x_sa => k_is)
  (case x_words => k_is)
  (case x_at => k_is)
  (case x_parts => k_is)
  (case x_mk => k_is)
  (case x_kp => k_is)
  (case g_NoKnot => k_is)
  (case g_NoMark => k_is)
  (case g_NoName => k_is)
  (case g_Twice => k_is)
  (case g_TooMany => k_is)
  (case g_NoTie => k_is)
  (case g_NoMeet => k_is)
  (case g_NoText => k_is)
  (case g_NoLine => k_is)
  (case g_NoWay => k_is)
  (case g_TooLong => k_is)
  (case g_GoesRound => k_is)
  (case g_NoSuch => k_is)
  (case g_NoPair => k_is)
  (case i_NoText => k_is)
  (case n_NoText => k_is)
  (case l_NoText => k_is)
  (case c_NoText => k_is)
  (case k_NoText => k_is)
  (case gP => k_is)
  (case rP => k_is)
  (case fP => k_is)
  (case aP => k_is)
  (case kB => kernel_rfl)
