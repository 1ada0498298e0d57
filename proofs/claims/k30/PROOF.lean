import PyProof.Rows.All
import Wide.All
import OpenK.AllK
import Wide.FinOn
import Lean
import PyProof.EqAt
import PyProof.EqKinds
import PyProof.TupleCall
import KE.KRevIter
import KE.KIntText
import PyProof.Rows.StrNews
import KE.KSortTup
import PyProof.Rows.SetFrom
import PyProof.WalksMore
import KE.KRevSl
import PyProof.ZipIter
import PyProof.TupleIter
import PySem.Challenge.RW_pathask_k30_what_is_a_machine
set_option Elab.async false
set_option linter.all false
set_option maxRecDepth 100000
namespace L2
open PySem PySem.Spec PyProof.Rows
noncomputable abbrev Key := Sum Int Str
noncomputable def keyIs : Key → Value → Bool
 | .inl k, v => Value.isInt k v
 | .inr x, v => Value.isStrOf x v
noncomputable def keyH (w : World) : Key → Int
 | .inl k => hashInt k
 | .inr x => hashStr w x
theorem keyIs_shape : ∀ {k : Key} {v : Value}, keyIs k v = true → (∃ i t, k = Sum.inl i ∧ v = Value.int i t) ∨ (∃ x t, k = Sum.inr x ∧ v = Value.str x t)
 | .inl i, v, h => by
  obtain ⟨t, e⟩ := Value.isInt_shape (k := i) (v := v) h
  exact .inl ⟨i, t, rfl, e⟩
 | .inr x, v, h => by
  obtain ⟨t, e⟩ := Value.isStrOf_shape (x := x) (v := v) h
  exact .inr ⟨x, t, rfl, e⟩
theorem key_ll (a b : Int) : decide ((Sum.inl a : Key) = Sum.inl b) = (a == b) := by
 by_cases e : a = b
 ·subst e; simp
 ·have h : ¬ (Sum.inl a : Key) = Sum.inl b := fun q => e (Sum.inl.inj q)
  rw [decide_eq_false h]
  exact (beq_eq_false_iff_ne.mpr e).symm
theorem key_rr (a b : Str) : decide ((Sum.inr a : Key) = Sum.inr b) = decide (a = b) := by
 by_cases e : a = b
 ·subst e; simp
 ·have h : ¬ (Sum.inr a : Key) = Sum.inr b := fun q => e (Sum.inr.inj q)
  rw [decide_eq_false h, decide_eq_false e]
theorem key_lr (a : Int) (b : Str) : decide ((Sum.inl a : Key) = Sum.inr b) = false := decide_eq_false (fun q => nomatch q)
theorem key_rl (a : Str) (b : Int) : decide ((Sum.inr a : Key) = Sum.inl b) = false := decide_eq_false (fun q => nomatch q)
noncomputable def mixKind (prog : Program) (w : World) : PySem.KeyKind prog w Key where
 is := keyIs
 hash := keyH w
 inj := fun v a b ha hb => by
  rcases keyIs_shape ha with ⟨i, t, rfl, rfl⟩ | ⟨x, t, rfl, rfl⟩
  ·rcases keyIs_shape hb with ⟨j, u, rfl, e⟩ | ⟨y, u, rfl, e⟩
   ·injection e with e1 _; rw [e1]
   ·exact nomatch e
  ·rcases keyIs_shape hb with ⟨j, u, rfl, e⟩ | ⟨y, u, rfl, e⟩
   ·exact nomatch e
   ·injection e with e1 _; rw [e1]
 byValue := fun k v h => by
  rcases keyIs_shape h with ⟨i, t, rfl, rfl⟩ | ⟨x, t, rfl, rfl⟩ <;> rfl
 pyHash := fun hv h => by
  rcases keyIs_shape hv with ⟨i, t, rfl, rfl⟩ | ⟨x, t, rfl, rfl⟩
  ·exact wpAny_pyHash_int h
  ·exact wpAny_pyHash_str h
 eqBool := fun hu hv h => by
  rcases keyIs_shape hu with ⟨i, t, rfl, rfl⟩ | ⟨x, t, rfl, rfl⟩
  ·rcases keyIs_shape hv with ⟨j, u, rfl, rfl⟩ | ⟨y, u, rfl, rfl⟩
   ·rw [key_ll] at h; exact wpAny_eqBool_int h
   ·rw [key_lr] at h; exact SeqAt.EqAt.int_str i t y u _ _ _ _ h
  ·rcases keyIs_shape hv with ⟨j, u, rfl, rfl⟩ | ⟨y, u, rfl, rfl⟩
   ·rw [key_rl] at h; exact SeqAt.EqAt.str_int x t j u _ _ _ _ h
   ·rw [key_rr] at h; exact wpAny_eqBool_str h
 «strs» := fun k x t v h => by
  rcases keyIs_shape h with ⟨i, u, rfl, e⟩ | ⟨y, u, rfl, e⟩
  ·exact nomatch e
  ·injection e with e1 _
   subst e1
   cases v <;> rfl
end L2
namespace L2
open PySem PySem.Spec PyProof.Rows
inductive V where
 | non | bl (b : Bool) | int (i : Int) | str (x : Str) | byt (b : Array UInt8) | flt (b : UInt64) | ref (a : Addr) | ty (n : String)
 deriving DecidableEq
noncomputable def RelV : V → Value → Prop
 | .non, u => u = Value.none
 | .bl b, u => u = Value.bool b
 | .int i, u => ∃ t, u = Value.int i t
 | .str x, u => ∃ t, u = Value.str x t
 | .byt b, u => ∃ t, u = Value.bytes b t
 | .flt b, u => ∃ t, u = Value.float b t
 | .ref a, u => u = Value.ref a
 | .ty n, u => u = Value.type n
noncomputable abbrev Vals : List V → List Value → Prop := Paired RelV
theorem Vals.length {xs : List V} {us : List Value} (r : Vals xs us) : xs.length = us.length := Paired.length r
theorem Vals.get : ∀ {xs : List V} {us : List Value} {i : Nat} {x : V}, Vals xs us → xs[i]? = some x → ∃ u, us[i]? = some u ∧ RelV x u
 | _, _, _, _, .nil, e => by simp at e
 | _, _, 0, _, .cons r _, e => by simp at e; subst e; exact ⟨_, rfl, r⟩
 | _, _, i + 1, x, .cons _ t, e => by
  obtain ⟨u, h1, h2⟩ := Vals.get (i := i) (x := x) t (by simpa using e)
  exact ⟨u, by simpa using h1, h2⟩
theorem Vals.append : ∀ {xs ys : List V} {us ws : List Value}, Vals xs us → Vals ys ws → Vals (xs ++ ys) (us ++ ws)
 | _, _, _, _, .nil, s => s
 | _, _, _, _, .cons r t, s => .cons r (Vals.append t s)
theorem Vals.take : ∀ {xs : List V} {us : List Value} (n : Nat), Vals xs us → Vals (xs.take n) (us.take n)
 | _, _, 0, _ => .nil
 | _, _, _ + 1, .nil => .nil
 | _, _, n + 1, .cons r t => .cons r (Vals.take n t)
theorem Vals.drop : ∀ {xs : List V} {us : List Value} (n : Nat), Vals xs us → Vals (xs.drop n) (us.drop n)
 | _, _, 0, r => r
 | _, _, _ + 1, .nil => .nil
 | _, _, n + 1, .cons _ t => Vals.drop n t
noncomputable def RelO : Option V → Option Value → Prop
 | some v, some u => RelV v u
 | none, none => True
 | _, _ => False
noncomputable def KV {κ : Type} : List (κ × V) → List (κ × Value) → Prop := Paired fun (p : κ × V) (q : κ × Value) => p.1 = q.1 ∧ RelV p.2 q.2
noncomputable def kV : Key → V
 | .inl i => .int i
 | .inr x => .str x
inductive HO where
 | lst (xs : List V)
 | tup (xs : List V)
 | dK (kvs : List (Key × V)) | dT (kvs : List (List Key × V))
 | set (S : Int → Bool) (n : Nat)
 | ins (C dx : Addr) (fs : List (Str × V))
 | own (x : Addr)
 | xd (fs : List (Str × V))
 | met (f x : Addr)
 | rng (lo hi : Int)
 | frz (o : Obj) (u : HO)
 | tbl (ps : Array Value)
 | ext (φ : Heap → Prop)
noncomputable abbrev Hp := Addr → Option HO
noncomputable def upd (H : Hp) (a : Addr) (o : HO) : Hp := fun b => if b = a then some o else H b
theorem upd_same {H : Hp} {a : Addr} {o : HO} : upd H a o a = some o := by unfold upd; rw [if_pos rfl]
theorem upd_ne {H : Hp} {a b : Addr} {o : HO} (h : b ≠ a) : upd H a o b = H b := by unfold upd; rw [if_neg h]
theorem ne_of_none {H : Hp} {a b : Addr} {o : HO} (h : H a = some o) (h' : H b = none) : a ≠ b := by
 intro e; subst e; rw [h] at h'; cases h'
section
variable (P : Program) (w : World)
noncomputable def ObjOk (H : Hp) (h : Heap) (a : Addr) : HO → Prop
 | .lst xs => xs.length ≤ sizeLine ∧ ∃ (its : List Value) (n : Nat), Vals xs its ∧ h.get? a = some { cls := .type "list", data := .seq its.toArray n }
 | .tup xs => xs.length ≤ sizeLine ∧ ∃ its : List Value, Vals xs its ∧ IsTup h a its.toArray
 | .dK kvs => kvs.length ≤ sizeLine ∧ (a == sysModules) = false ∧ ∃ vs, KV kvs vs ∧ h.DictOf (mixKind P w) a vs
 | .dT kvs => kvs.length ≤ sizeLine ∧ (a == sysModules) = false ∧ ∃ xs : List (List Key × Addr × Value),
   Paired (fun (p : List Key × V) (q : List Key × Addr × Value) => p.1 = q.1 ∧ H q.2.1 = some (.tup (p.1.map kV)) ∧ RelV p.2 q.2.2) kvs xs ∧
   ∃ o es ep, h.get? a = some o ∧ o.ExactDict ∧ o.data = .dict es ep ∧ es.toList = xs.map (entryOfKey (tupleKind (mixKind P w))) ∧ (xs.map (·.1)).Nodup
 | .set S n => h.SetOf (intKind P w) a S n
 | .ins C dx fs => H dx = some (.own a) ∧ fs.length ≤ 1000 ∧ dx ≠ a ∧ h.get? a = some (PySem.W.instObj C dx) ∧
   ∃ mA, h.Ns1 dx mA ∧ (∀ f, RelO (fs.lookup f) (mA f)) ∧ PySem.Within mA (fs.map (·.1))
 | .own _ => ∃ o, h.get? a = some o
 | .xd fs => ∃ mA, h.Ns1 a mA ∧ ∀ f, RelO (fs.lookup f) (mA f)
 | .rng lo hi => ∃ t u v, h.get? a = some { cls := .type "range", data := .fields #[.int lo t, .int hi u, .int 1 v] }
 | .frz o u => h.get? a = some o ∧ ObjOk H h a u
 | .tbl ps => h.get? a = some { cls := .none, data := .fields ps }
 | .met f x => h.get? a = some (PySem.W.methodObj (.ref f) (.ref x))
 | .ext φ => φ h ∧ (∃ o, h.get? a = some o) ∧ ∀ h1 h2 : Heap, φ h1 → (∀ o, h1.get? a = some o → h2.get? a = some o) → φ h2
noncomputable def HOk (H : Hp) (h : Heap) : Prop := ∀ a o, H a = some o → ObjOk P w H h a o
end
section
variable {P : Program} {w : World} {H H' : Hp} {h h' : Heap} {a : Addr} {o : HO}
theorem ObjOk.lt (x : ObjOk P w H h a o) : a < h.objs.size := by
 cases o with
 | lst xs => obtain ⟨_, _, _, _, e⟩ := x; exact Heap.lt_size e
 | tup xs => obtain ⟨_, _, _, p⟩ := x; exact p.lt
 | dK kvs => obtain ⟨_, _, _, _, o, _, _, e, _⟩ := x; exact Heap.lt_size e
 | dT kvs => obtain ⟨_, _, _, _, o, _, _, e, _⟩ := x; exact Heap.lt_size e
 | set S n => obtain ⟨o, _, _, _, e, _⟩ := x; exact Heap.lt_size e
 | ins C dx fs => obtain ⟨_, _, _, e, _⟩ := x; exact Heap.lt_size e
 | own y => obtain ⟨_, e⟩ := x; exact Heap.lt_size e
 | xd fs => obtain ⟨_, ⟨_, _, _, e, _⟩, _⟩ := x; exact Heap.lt_size e
 | rng lo hi => obtain ⟨_, _, _, e⟩ := x; exact Heap.lt_size e
 | frz ob u => obtain ⟨e, _⟩ := x; exact Heap.lt_size e
 | tbl ps => exact Heap.lt_size (show h.get? a = some _ from x)
 | met f y => exact Heap.lt_size (show h.get? a = some _ from x)
 | ext φ => obtain ⟨_, ⟨_, e⟩, _⟩ := x; exact Heap.lt_size e
theorem Paired.mapP {α β : Type} {F G : α → β → Prop} : ∀ {l₁ : List α} {l₂ : List β}, Paired F l₁ l₂ → (∀ a b, F a b → G a b) → Paired G l₁ l₂
 | _, _, .nil, _ => .nil
 | _, _, .cons r t, f => .cons (f _ _ r) (Paired.mapP t f)
theorem ObjOk.stay (x : ObjOk P w H h a o) (k : ∀ b u, (b = a ∨ H b = some (.own a)) → h.get? b = some u → h'.get? b = some u)
  (ho : ∀ b, H b = some (.own a) → H' b = some (.own a)) (ht : ∀ b xs, H b = some (.tup xs) → H' b = some (.tup xs)) : ObjOk P w H' h' a o := by
 induction o with
 | lst xs => obtain ⟨z, its, n, r, e⟩ := x; exact ⟨z, its, n, r, k _ _ (.inl rfl) e⟩
 | tup xs => obtain ⟨z, its, r, ob, e, c⟩ := x; exact ⟨z, its, r, ob, k _ _ (.inl rfl) e, c⟩
 | dK kvs => obtain ⟨z, y, vs, r, ob, es, ep, e, c⟩ := x; exact ⟨z, y, vs, r, ob, es, ep, k _ _ (.inl rfl) e, c⟩
 | dT kvs =>
  obtain ⟨z, y, xs, r, ob, es, ep, e, c⟩ := x
  exact ⟨z, y, xs, Paired.mapP r fun p q z => ⟨z.1, ht _ _ z.2.1, z.2.2⟩, ob, es, ep, k _ _ (.inl rfl) e, c⟩
 | set S n => obtain ⟨ob, es, ep, t, e, c⟩ := x; exact ⟨ob, es, ep, t, k _ _ (.inl rfl) e, c⟩
 | ins C dx fs =>
  obtain ⟨d, z, ne, e, mA, ⟨od, es, ep, e2, c⟩, r⟩ := x
  exact ⟨ho _ d, z, ne, k _ _ (.inl rfl) e, mA, ⟨od, es, ep, k _ _ (.inr d) e2, c⟩, r⟩
 | own y => obtain ⟨ob, e⟩ := x; exact ⟨ob, k _ _ (.inl rfl) e⟩
 | xd fs => obtain ⟨mA, ⟨od, es, ep, e, c⟩, r⟩ := x; exact ⟨mA, ⟨od, es, ep, k _ _ (.inl rfl) e, c⟩, r⟩
 | rng lo hi => obtain ⟨t, u, v, e⟩ := x; exact ⟨t, u, v, k _ _ (.inl rfl) e⟩
 | frz ob u ih => obtain ⟨e, q⟩ := x; exact ⟨k _ _ (.inl rfl) e, ih q⟩
 | tbl ps =>
  have e : h.get? a = some { cls := .none, data := .fields ps } := x
  show h'.get? a = some { cls := .none, data := .fields ps }
  exact k a _ (.inl rfl) e
 | met f y =>
  have e : h.get? a = some (PySem.W.methodObj (.ref f) (.ref y)) := x
  show h'.get? a = some (PySem.W.methodObj (.ref f) (.ref y))
  exact k a _ (.inl rfl) e
 | ext φ => obtain ⟨p, ⟨o, e⟩, st⟩ := x; exact ⟨st _ _ p fun o q => k _ _ (.inl rfl) q, ⟨o, k _ _ (.inl rfl) e⟩, st⟩
theorem HOk.lt (x : HOk P w H h) (e : H a = some o) : a < h.objs.size := (x a o e).lt
theorem HOk.fresh (x : HOk P w H h) (e : h.objs.size ≤ a) : H a = none := by
 cases q : H a with
 | none => rfl
 | some u => exact absurd (Nat.lt_of_lt_of_le (x.lt q) e) (Nat.lt_irrefl _)
theorem HOk.kept (x : HOk P w H h) (k : ∀ b u, h.get? b = some u → h'.get? b = some u) : HOk P w H h' := fun a o e =>
 (x a o e).stay (fun b u _ q => k b u q) (fun _ q => q) fun _ _ q => q
theorem HOk.laid (x : HOk P w H h) (k : ∀ b u, h.get? b = some u → h'.get? b = some u) (hp : h.objs.size ≤ a) (new : ObjOk P w (upd H a o) h' a o) : HOk P w (upd H a o) h' := fun b u e => by
 have hn := x.fresh hp
 by_cases hb : b = a
 ·subst hb; rw [upd_same] at e; cases e; exact new
 ·rw [upd_ne hb] at e
  exact (x b u e).stay (fun c v _ q => k c v q) (fun c q => by rw [upd_ne (ne_of_none q hn)]; exact q) fun c xs q => by rw [upd_ne (ne_of_none q hn)]; exact q
end
noncomputable def Rd (H : Hp) (a : Addr) (u : HO) : Prop := H a = some u ∨ ∃ o, H a = some (.frz o u)
theorem Rd.ok {P : Program} {w : World} {H : Hp} {h : Heap} {a : Addr} {u : HO} (r : Rd H a u) (x : HOk P w H h) : ObjOk P w H h a u := by
 rcases r with r | ⟨o, r⟩
 ·exact x a u r
 ·obtain ⟨_, q⟩ := x a _ r
  exact q
noncomputable def Mut : Option HO → Prop
 | some (.lst _) => True
 | some (.dK _) => True
 | some (.dT _) => True
 | some (.set _ _) => True
 | some (.ins _ _ _) => True
 | some (.ext _) => True
 | _ => False
section
variable {P : Program} {w : World} {H : Hp} {h h' : Heap} {x e : Addr} {o' : HO}
theorem HOk.write (ok : HOk P w H h) (mu : Mut (H x)) (he : e = x ∨ H e = some (.own x)) (k : ∀ b u, b ≠ e → h.get? b = some u → h'.get? b = some u) (heo : ∃ u, h'.get? e = some u)
  (new : ObjOk P w (upd H x o') h' x o') : HOk P w (upd H x o') h' := fun b u q => by
 have nown : ∀ c y, H c = some (.own y) → c ≠ x := fun c y r z => by subst z; rw [r] at mu; exact mu
 have ntup : ∀ c xs, H c = some (.tup xs) → c ≠ x := fun c xs r z => by subst z; rw [r] at mu; exact mu
 by_cases hb : b = x
 ·subst hb; rw [upd_same] at q; cases q; exact new
 ·rw [upd_ne hb] at q
  by_cases hbe : b = e
  ·have q' : H b = some (.own x) := by
    rcases he with z | z
    ·exact absurd (hbe.trans z) hb
    ·rw [hbe]; exact z
   rw [q] at q'; cases q'
   obtain ⟨v, hv⟩ := heo
   exact ⟨v, by rw [hbe]; exact hv⟩
  ·refine (ok b u q).stay (fun c v hc r => k c v ?_ r) (fun c r => by rw [upd_ne (nown c b r)]; exact r) fun c xs r => by rw [upd_ne (ntup c xs r)]; exact r
   rcases hc with rfl | hc
   ·exact hbe
   ·rintro rfl
    rcases he with z | z
    ·exact nown c b hc z
    ·rw [hc] at z; cases z; exact hb rfl
end
structure Un (fs ex : List Addr) (H H' : Hp) (h h' : Heap) : Prop where
 keep : ∀ b o, h.get? b = some o → H b = none → b ∉ fs → b ∉ ex → h'.get? b = some o
 slot : ∀ b o, h.get? b = some o → H b = none → b ∈ fs → b ∉ ex → ∃ sl, h'.get? b = some { o with slots := sl }
 free : ∀ b o, h.get? b = some o → H b = none → b ∉ ex → H' b = none
 there : ∀ b o, h.get? b = some o → b ∉ ex → ∃ o', h'.get? b = some o'
 tups : ∀ b xs, H b = some (.tup xs) → H' b = some (.tup xs)
 frzs : ∀ b o u, H b = some (.frz o u) → H' b = some (.frz o u)
 tbls : ∀ b ps, H b = some (.tbl ps) → ∃ more, H' b = some (.tbl (ps ++ more))
section
variable {fs fs' ex ex' : List Addr} {H H1 H2 : Hp} {h h1 h2 h' : Heap} {a x e : Addr} {o : HO}
theorem Un.any (u : Un fs ex H H1 h h1) {b : Addr} {ob : Obj} (q : h.get? b = some ob) (n : H b = none) (hx : b ∉ ex) : ∃ sl, h1.get? b = some { ob with slots := sl } := by
 by_cases hb : b ∈ fs
 ·exact u.slot b ob q n hb hx
 ·exact ⟨ob.slots, u.keep b ob q n hb hx⟩
theorem Un.kept (k : ∀ b u, h.get? b = some u → h'.get? b = some u) : Un fs ex H H h h' :=
 ⟨fun b ob q _ _ _ => k b ob q, fun b ob q _ _ _ => ⟨ob.slots, k b ob q⟩, fun _ _ _ n _ => n, fun b ob q _ => ⟨ob, k b ob q⟩, fun _ _ q => q, fun _ _ _ q => q, fun _ ps q => ⟨#[], by rw [q]; simp⟩⟩
theorem Un.refl : Un fs ex H H h h := Un.kept fun _ _ q => q
theorem Un.laid (k : ∀ b u, h.get? b = some u → h'.get? b = some u) (hp : h.objs.size ≤ a) (hn : H a = none) : Un fs ex H (upd H a o) h h' where
 keep := fun b u q _ _ _ => k b u q
 slot := fun b u q _ _ _ => ⟨u.slots, k b u q⟩
 free := fun b u q n _ => by rw [upd_ne (Nat.ne_of_lt (Nat.lt_of_lt_of_le (Heap.lt_size q) hp))]; exact n
 there := fun b u q _ => ⟨u, k b u q⟩
 tups := fun b xs q => by rw [upd_ne (ne_of_none q hn)]; exact q
 frzs := fun b u xs q => by rw [upd_ne (ne_of_none q hn)]; exact q
 tbls := fun b ps q => ⟨#[], by rw [upd_ne (ne_of_none q hn), q]; simp⟩
theorem Un.write (mu : Mut (H x)) (he : e = x ∨ H e = some (.own x)) (k : ∀ b u, b ≠ e → h.get? b = some u → h'.get? b = some u) (heo : ∃ u, h'.get? e = some u) : Un fs ex H (upd H x o) h h' := by
 have hx : ∀ b, H b = none → b ≠ x := fun b n z => by subst z; rw [n] at mu; exact mu
 have hb : ∀ b, H b = none → b ≠ e := fun b n z => by
  subst z
  rcases he with r | r
  ·exact hx b n r
  ·rw [n] at r; cases r
 have hm : ∀ b u, H b = some u → ¬ Mut (some u) → b ≠ x := fun b u q nm z => by subst z; rw [q] at mu; exact nm mu
 refine ⟨fun b u q n _ _ => k b u (hb b n) q, fun b u q n _ _ => ⟨u.slots, k b u (hb b n) q⟩, fun b u q n _ => by rw [upd_ne (hx b n)]; exact n, fun b u q _ => ?_,
  fun b xs q => by rw [upd_ne (hm b _ q fun z => z)]; exact q, fun b u xs q => by rw [upd_ne (hm b _ q fun z => z)]; exact q, fun b ps q => ⟨#[], by rw [upd_ne (hm b _ q fun z => z), q]; simp⟩⟩
 by_cases hbe : b = e
 ·subst hbe; exact heo
 ·exact ⟨u, k b u hbe q⟩
end
noncomputable def trk (h : Heap) (H : Hp) : List Addr := (List.range h.objs.size).filter fun a => (H a).isSome
noncomputable def hidT (h : Heap) (H : Hp) : Heap := PySem.W.hideAll h (trk h H)
theorem hidT_size (h : Heap) (H : Hp) : (hidT h H).objs.size = h.objs.size := PySem.W.hideAll_size _ _
theorem hidT_get {h : Heap} {H : Hp} {b : Addr} {o : Obj} (e : h.get? b = some o) (n : H b = none) : (hidT h H).get? b = some o :=
 PySem.W.hideAll_get _ e fun hm => by
  have q : (H b).isSome = true := (List.mem_filter.mp hm).2
  rw [n] at q; simp at q
theorem of_hidT {h : Heap} {H : Hp} {b : Addr} {o : Obj} (e : (hidT h H).get? b = some o) : h.get? b = some o ∧ H b = none := by
 have e' : h.get? b = some o := PySem.W.of_hideAll (trk h H) e
 refine ⟨e', ?_⟩
 cases q : H b with
 | none => rfl
 | some x =>
  have hm : b ∈ trk h H := List.mem_filter.mpr ⟨List.mem_range.mpr (Heap.lt_size e'), by simp [q]⟩
  have z : (hidT h H).get? b = none := PySem.W.hideAll_none (trk h H) hm
  rw [z] at e; cases e
noncomputable def allNews (g h : Heap) (L : Addr) : List (Addr × Obj) := (List.range h.objs.size).filterMap fun a => if a = L ∨ (g.get? a).isSome = true then none else (h.get? a).map fun o => (a, o)
noncomputable def rest (g h : Heap) (L d : Addr) : List (Addr × Obj) := (allNews g h L).filter fun p => decide (p.1 ≠ d)
end L2
namespace L2
open PySem PySem.Spec PyProof.Rows
structure Mod (K : PySem.W.Frag) (mg : Str → Option Value) (base : Heap) : Prop where
 kin : K.In base
 glob : base.Ns mainGlobals mg
 blt : ∃ mb, base.Ns builtinsNs mb ∧ ∀ x : Str, x ≠ "__name__" → mb x = bootBuiltins x
 nolimit : base.NoLimit
structure Cx where
 prog : Program
 w : World
 K : PySem.W.Frag
 mg : Str → Option Value
 base : Heap
 A : Around
 N : List Str
 s₀ : Shared
 H₀ : Hp
 env : Env
 outer : List Env
 stack : List Env
 ex : List Addr
 fn : Str → Bool
 calm : Bool
 pn : List (Addr × Obj)
 xe : Value → Shared → Prop
noncomputable def frs (l : List Env) : List Addr := l.filterMap (·.frame)
noncomputable abbrev Cx.fs (X : Cx) : List Addr := frs X.outer
noncomputable def Vis (sc : Scope) (x : Str) : Prop := sc.names.lookup x = some .local ∨ sc.names.lookup x = some .cell ∨ sc.names.lookup x = some .free
noncomputable def Loc (sc : Scope) (x : Str) : Prop := sc.names.lookup x = some .local ∨ sc.names.lookup x = some .cell
noncomputable def Look (env : Env) (h : Heap) (m : Str → Option Value) (x : Str) (u : Value) : Prop :=
 (env.kindOf x = some .local ∧ m x = some u) ∨ ((env.kindOf x = some .cell ∨ env.kindOf x = some .free) ∧ ∃ c, env.cells.lookup x = some c ∧ h.IsCell c (some u))
structure Cx.Ok (X : Cx) : Prop where
 mod : Mod X.K X.mg X.base
 kind : X.env.scope.kind = .function
 glob : X.env.globals = mainGlobals
 blt : X.env.builtins = builtinsNs
 above : X.s₀.heap.objs.size ≤ X.env.locals
 inj : ∀ x y c, X.env.cells.lookup x = some c → X.env.cells.lookup y = some c → x = y
 has : ∀ x, (X.env.kindOf x = some .cell ∨ X.env.kindOf x = some .free) → ∃ c, X.env.cells.lookup x = some c
 cab : ∀ x c, X.fn x = true → X.env.cells.lookup x = some c → X.s₀.heap.objs.size ≤ c
 hd : X.calm = true → X.A.handled = none
 frames : X.A.frames = some X.stack
 stk : X.stack = X.outer ∨ (X.stack = X.env :: X.outer ∧ X.env.frame = some X.env.locals)
 exf : ∀ b ∈ X.ex, b ≠ X.env.locals ∧ ∀ x c, X.env.cells.lookup x = some c → c ≠ b
 bs : ∀ b o, X.base.get? b = some o → X.s₀.heap.get? b = some o ∧ X.H₀ b = none
 bsz : X.base.objs.size ≤ X.s₀.heap.objs.size
 noex : ∀ b o, X.base.get? b = some o → b ∉ X.ex
 exfs : ∀ b ∈ X.ex, b ∉ X.fs
 funs : X.s₀.heap.FunFrames X.base X.outer
 frf : ∀ b ∈ X.fs, X.H₀ b = none
structure Inv (X : Cx) (pins : List (Addr × Obj)) (σ : List (Option V)) (H : Hp) (s : Shared) : Prop where
 ok : X.Ok
 os : s.os = X.s₀.os
 bare : AllBare s.gens
 base : Un X.fs X.ex X.H₀ H X.s₀.heap s.heap
 loc : ∃ m, s.heap.Ns X.env.locals m ∧ ∀ (i : Nat) (x : Str) (v : V), X.N[i]? = some x → σ[i]? = some (some v) → Vis X.env.scope x → ∃ u, RelV v u ∧ Look X.env s.heap m x u
 cell : ∀ x c, X.env.cells.lookup x = some c → ∃ v, s.heap.IsCell c v
 free : H X.env.locals = none
 freeC : ∀ x c, X.env.cells.lookup x = some c → H c = none
 pin : ∀ p ∈ X.pn ++ pins, s.heap.get? p.1 = some p.2 ∧ H p.1 = none ∧ p.1 ≠ X.env.locals ∧ p.1 ∉ X.fs ∧ ∀ v, p.2.data ≠ .cell v
 hok : HOk X.prog X.w H s.heap
 len : σ.length = X.N.length
section
variable {X : Cx} {pins : List (Addr × Obj)} {σ : List (Option V)} {H H' : Hp} {s : Shared} {h' : Heap}
theorem Cx.Ok.nofr (ok : X.Ok) {b : Addr} {o : Obj} (e : X.base.get? b = some o) : b ∉ X.fs := fun hb => by
 have := (ok.funs.mem hb).1
 rw [e] at this; cases this
theorem Inv.bs (I : Inv X pins σ H s) : ∀ b o, X.base.get? b = some o → s.heap.get? b = some o ∧ H b = none := fun b o e =>
 ⟨I.base.keep b o (I.ok.bs b o e).1 (I.ok.bs b o e).2 (I.ok.nofr e) (I.ok.noex b o e), I.base.free b o (I.ok.bs b o e).1 (I.ok.bs b o e).2 (I.ok.noex b o e)⟩
theorem Inv.bk (I : Inv X pins σ H s) : ∀ b o, X.base.get? b = some o → s.heap.get? b = some o := fun b o e => (I.bs b o e).1
theorem Inv.mod (I : Inv X pins σ H s) : Mod X.K X.mg X.base := I.ok.mod
theorem Inv.kIn (I : Inv X pins σ H s) : X.K.In s.heap := I.ok.mod.kin.keeps I.bk
theorem Inv.lt (I : Inv X pins σ H s) : X.env.locals < s.heap.objs.size := let ⟨_, hn, _⟩ := I.loc; hn.lt
theorem Inv.sz (I : Inv X pins σ H s) : X.s₀.heap.objs.size ≤ s.heap.objs.size := Nat.le_trans I.ok.above (Nat.le_of_lt I.lt)
theorem Inv.nofs (I : Inv X pins σ H s) {a : Addr} (h : s.heap.objs.size ≤ a) : a ∉ X.fs := fun hb => by
 obtain ⟨_, o, ho, _⟩ := I.ok.funs.mem hb
 exact absurd (Nat.lt_of_lt_of_le (Heap.lt_size ho) (Nat.le_trans I.sz h)) (Nat.lt_irrefl _)
theorem Inv.cne (I : Inv X pins σ H s) : ∀ x c, X.env.cells.lookup x = some c → c ≠ X.env.locals := fun x c e z => by
 obtain ⟨v, o, ho, hd⟩ := I.cell x c e
 obtain ⟨m, ⟨o', es, ep, ho', hd', _⟩, _⟩ := I.loc
 rw [z, ho'] at ho; cases ho; rw [hd'] at hd; cases hd
theorem Inv.funs (I : Inv X pins σ H s) : s.heap.FunFrames X.base X.outer := by
 have all : ∀ (l : List Env), (∀ b ∈ frs l, b ∈ X.fs) → X.s₀.heap.FunFrames X.base l → s.heap.FunFrames X.base l := by
  intro l
  induction l with
  | nil => intro _ _; trivial
  | cons env r ih =>
   intro hs hl
   obtain ⟨hk, ⟨L, o, hf, hn, ho, hd⟩, hr⟩ := hl
   have hL : L ∈ X.fs := hs L (by unfold frs; rw [List.filterMap_cons, hf]; exact List.mem_cons_self)
   obtain ⟨sl, e⟩ := I.base.slot L o ho (I.ok.frf L hL) hL fun z => I.ok.exfs L z hL
   exact ⟨hk, ⟨L, _, hf, hn, e, hd⟩, ih (fun b hb => hs b (by unfold frs; rw [List.filterMap_cons, hf]; exact List.mem_cons_of_mem _ hb)) hr⟩
 exact all X.outer (fun _ hb => hb) I.ok.funs
theorem Inv.stack (I : Inv X pins σ H s) : s.heap.FunFrames X.base X.stack := by
 rcases I.ok.stk with e | ⟨e, hf⟩
 ·rw [e]; exact I.funs
 ·rw [e]
  obtain ⟨m, hn, _⟩ := I.loc
  refine .cons (by rw [I.ok.kind]; decide) hf hn ?_ I.funs
  exact Heap.get?_none_of_le (Nat.le_trans I.ok.bsz I.ok.above)
theorem Inv.stkSub (I : Inv X pins σ H s) : ∀ b ∈ frs X.stack, b ∈ X.env.locals :: X.fs := fun b hb => by
 rcases I.ok.stk with e | ⟨e, hf⟩
 ·rw [e] at hb; exact List.mem_cons_of_mem _ hb
 ·rw [e] at hb
  unfold frs at hb
  rw [List.filterMap_cons, hf] at hb
  exact hb
theorem Inv.stkFree (I : Inv X pins σ H s) : ∀ b ∈ frs X.stack, H b = none := fun b hb => by
 rcases List.mem_cons.mp (I.stkSub b hb) with e | hb
 ·rw [e]; exact I.free
 ·obtain ⟨_, o, ho, _⟩ := I.ok.funs.mem hb
  exact I.base.free b o ho (I.ok.frf b hb) fun z => I.ok.exfs b z hb
theorem Inv.step {g' : Array GenState} {t' : Nat} {d' : Drawn} {ch : List Addr} (I : Inv X pins σ H s)
  (hch : ∀ b ∈ ch, (b ∈ X.ex ∨ X.s₀.heap.objs.size ≤ b) ∧ b ≠ X.env.locals ∧ (∀ x c, X.env.cells.lookup x = some c → c ≠ b) ∧ ∀ p ∈ X.pn ++ pins, p.1 ≠ b)
  (keep : ∀ b o, b ≠ X.env.locals → b ∉ X.fs → b ∉ ch → s.heap.get? b = some o → H b = none → h'.get? b = some o)
  (slot : ∀ b o, b ≠ X.env.locals → b ∈ X.fs → b ∉ ch → s.heap.get? b = some o → H b = none → ∃ sl, h'.get? b = some { o with slots := sl }) (free : ∀ b o, b ∉ ch → s.heap.get? b = some o → H b = none → H' b = none)
  (there : ∀ b o, b ∉ ch → s.heap.get? b = some o → ∃ o', h'.get? b = some o')
  (tups : ∀ b xs, H b = some (.tup xs) → H' b = some (.tup xs)) (frzs : ∀ b o u, H b = some (.frz o u) → H' b = some (.frz o u)) (tbls : ∀ b ps, H b = some (.tbl ps) → ∃ more, H' b = some (.tbl (ps ++ more)))
  (ns : ∀ m, s.heap.Ns X.env.locals m → h'.Ns X.env.locals m) (hok : HOk X.prog X.w H' h') (hg : AllBare g') :
  Inv X pins σ H' { s with heap := h', gens := g', drawn := d', toks := t' } := by
 have neL : ∀ b o, X.s₀.heap.get? b = some o → b ≠ X.env.locals := fun b o e => Nat.ne_of_lt (Nat.lt_of_lt_of_le (Heap.lt_size e) I.ok.above)
 have neC : ∀ b o, X.s₀.heap.get? b = some o → b ∉ X.ex → b ∉ ch := fun b o e hx hb => by
  rcases (hch b hb).1 with z | z
  ·exact hx z
  ·exact absurd (Nat.lt_of_lt_of_le (Heap.lt_size e) z) (Nat.lt_irrefl _)
 have cellK : ∀ x c, X.env.cells.lookup x = some c → ∀ v, s.heap.IsCell c v → h'.IsCell c v := fun x c e v ⟨o, ho, hd⟩ => by
  have nch : c ∉ ch := fun z => (hch c z).2.2.1 x c e rfl
  by_cases hc : c ∈ X.fs
  ·obtain ⟨sl, q⟩ := slot c o (I.cne x c e) hc nch ho (I.freeC x c e)
   exact ⟨_, q, hd⟩
  ·exact ⟨o, keep c o (I.cne x c e) hc nch ho (I.freeC x c e), hd⟩
 refine ⟨I.ok, I.os, hg, ⟨fun b o e n hb hx => ?_, fun b o e n hb hx => ?_, fun b o e n hx => ?_, fun b o e hx => ?_, fun b xs e => tups b xs (I.base.tups b xs e), fun b o xs e => frzs b o xs (I.base.frzs b o xs e), fun b ps e => ?_⟩, ?_, fun x c e => ?_, ?_, fun x c e => ?_, fun p hp => ?_, hok, I.len⟩
 ·exact keep b o (neL b o e) hb (neC b o e hx) (I.base.keep b o e n hb hx) (I.base.free b o e n hx)
 ·obtain ⟨sl, e1⟩ := I.base.slot b o e n hb hx
  obtain ⟨sl', e2⟩ := slot b _ (neL b o e) hb (neC b o e hx) e1 (I.base.free b o e n hx)
  exact ⟨sl', e2⟩
 ·obtain ⟨o', e1⟩ := I.base.there b o e hx
  exact free b o' (neC b o e hx) e1 (I.base.free b o e n hx)
 ·obtain ⟨o', e1⟩ := I.base.there b o e hx
  exact there b o' (neC b o e hx) e1
 ·obtain ⟨m1, e1⟩ := I.base.tbls b ps e
  obtain ⟨m2, e2⟩ := tbls b _ e1
  exact ⟨m1 ++ m2, by rw [e2, Array.append_assoc]⟩
 ·obtain ⟨m, hn, hl⟩ := I.loc
  refine ⟨m, ns m hn, fun i x v e1 e2 e3 => ?_⟩
  obtain ⟨u, r, l⟩ := hl i x v e1 e2 e3
  refine ⟨u, r, ?_⟩
  rcases l with l | ⟨k, c, e, z⟩
  ·exact .inl l
  ·exact .inr ⟨k, c, e, cellK x c e _ z⟩
 ·obtain ⟨v, z⟩ := I.cell x c e
  exact ⟨v, cellK x c e v z⟩
 ·obtain ⟨m, ⟨o, _, _, ho, _⟩, _⟩ := I.loc
  exact free _ o (fun z => (hch _ z).2.1 rfl) ho I.free
 ·obtain ⟨v, o, ho, hd⟩ := I.cell x c e
  exact free c o (fun z => (hch c z).2.2.1 x c e rfl) ho (I.freeC x c e)
 ·obtain ⟨e, n, ne, nf, d⟩ := I.pin p hp
  have nch : p.1 ∉ ch := fun z => (hch p.1 z).2.2.2 p hp rfl
  exact ⟨keep p.1 p.2 ne nf nch e n, free p.1 p.2 nch e n, ne, nf, d⟩
theorem Inv.un {t' : Nat} (I : Inv X pins σ H s) (u : Un X.fs [] H H' s.heap h') (hok : HOk X.prog X.w H' h') : Inv X pins σ H' { s with heap := h', toks := t' } := by
 obtain ⟨m, ⟨o, es, ep, ho, r⟩, _⟩ := id I.loc
 obtain ⟨sl, hL⟩ := u.any ho I.free (by simp)
 exact I.step (g' := s.gens) (d' := s.drawn) (ch := []) (fun _ z => nomatch z) (fun b o _ hb _ e n => u.keep b o e n hb (by simp)) (fun b o _ hb _ e n => u.slot b o e n hb (by simp)) (fun b o _ e n => u.free b o e n (by simp)) (fun b o _ e => u.there b o e (by simp)) u.tups u.frzs u.tbls (fun m' hm => by
  obtain ⟨o', es', ep', ho', r'⟩ := hm
  rw [ho] at ho'; cases ho'
  exact ⟨_, es', ep', hL, r'⟩) hok I.bare
theorem Inv.call {g' : Array GenState} {t' : Nat} {d' : Drawn} {ch : List Addr} (I : Inv X pins σ H s) (u : Un (frs X.stack) ch H H' s.heap h') (hok : HOk X.prog X.w H' h') (hg : AllBare g')
  (hch : ∀ b ∈ ch, (b ∈ X.ex ∨ X.s₀.heap.objs.size ≤ b) ∧ b ≠ X.env.locals ∧ (∀ x c, X.env.cells.lookup x = some c → c ≠ b) ∧ ∀ p ∈ X.pn ++ pins, p.1 ≠ b) :
  Inv X pins σ H' { s with heap := h', gens := g', drawn := d', toks := t' } := by
 obtain ⟨m, ⟨o, es, ep, ho, r⟩, _⟩ := id I.loc
 obtain ⟨sl, hL⟩ := u.any ho I.free fun z => (hch _ z).2.1 rfl
 exact I.step (ch := ch) hch (fun b o hL hb hc e n => u.keep b o e n (fun z => (List.mem_cons.mp (I.stkSub b z)).elim hL hb) hc) (fun b o _ _ hc e n => u.any e n hc) (fun b o hc e n => u.free b o e n hc) (fun b o hc e => u.there b o e hc) u.tups u.frzs u.tbls (fun m' hm => by
  obtain ⟨o', es', ep', ho', r'⟩ := hm
  rw [ho] at ho'; cases ho'
  exact ⟨_, es', ep', hL, r'⟩) hok hg
theorem Inv.turned {t' : Nat} {it : Addr} (I : Inv X pins σ H s) (k : ∀ b o, b ≠ it → s.heap.get? b = some o → h'.get? b = some o) (hn : H it = none) (hL : it ≠ X.env.locals)
  (h1 : it ∈ X.ex ∨ X.s₀.heap.objs.size ≤ it) (h2 : ∀ x c, X.env.cells.lookup x = some c → c ≠ it) (h3 : ∀ p ∈ X.pn ++ pins, p.1 ≠ it) : Inv X pins σ H { s with heap := h', toks := t' } := by
 have nit : ∀ b u, H b = some u → b ≠ it := fun b u e z => by rw [z, hn] at e; cases e
 refine I.step (g' := s.gens) (d' := s.drawn) (ch := [it]) (fun b hb => ?_) (fun b o _ _ hc e _ => k b o (fun z => hc (by simp [z])) e) (fun b o _ _ hc e _ => ⟨o.slots, k b o (fun z => hc (by simp [z])) e⟩) (fun _ _ _ _ n => n)
  (fun b o hc e => ⟨o, k b o (fun z => hc (by simp [z])) e⟩) (fun _ _ e => e) (fun _ _ _ e => e) (fun b ps e => ⟨#[], by rw [e]; simp⟩) (fun m hm => ?_) (fun b u e => ?_) I.bare
 ·have e : b = it := by simpa using hb
  subst e
  exact ⟨h1, hL, h2, h3⟩
 ·obtain ⟨o, es, ep, ho, r⟩ := hm
  exact ⟨o, es, ep, k _ o (Ne.symm hL) ho, r⟩
 ·refine (I.hok b u e).stay (fun c v hc q => k c v ?_ q) (fun _ q => q) fun _ _ q => q
  rcases hc with z | z
  ·rw [z]; exact nit b u e
  ·exact nit c _ z
theorem Inv.tok (I : Inv X pins σ H s) (t : Nat) : Inv X pins σ H { s with toks := t } := I.un (h' := s.heap) (t' := t) Un.refl I.hok
theorem Inv.kept {t' : Nat} (I : Inv X pins σ H s) (k : ∀ b u, s.heap.get? b = some u → h'.get? b = some u) : Inv X pins σ H { s with heap := h', toks := t' } := I.un (Un.kept k) (I.hok.kept k)
theorem Inv.laid {a : Addr} {o : HO} {t' : Nat} (I : Inv X pins σ H s) (k : ∀ b u, s.heap.get? b = some u → h'.get? b = some u) (hp : s.heap.objs.size ≤ a) (new : ObjOk X.prog X.w (upd H a o) h' a o) :
  Inv X pins σ (upd H a o) { s with heap := h', toks := t' } := I.un (Un.laid k hp (I.hok.fresh hp)) (I.hok.laid k hp new)
theorem Inv.write {x e : Addr} {o : HO} {t' : Nat} (I : Inv X pins σ H s) (mu : Mut (H x)) (he : e = x ∨ H e = some (.own x)) (k : ∀ b u, b ≠ e → s.heap.get? b = some u → h'.get? b = some u) (heo : ∃ u, h'.get? e = some u)
  (new : ObjOk X.prog X.w (upd H x o) h' x o) : Inv X pins σ (upd H x o) { s with heap := h', toks := t' } := I.un (Un.write mu he k heo) (I.hok.write mu he k heo new)
theorem Inv.pins_of {pins' : List (Addr × Obj)} (I : Inv X pins σ H s) (h : ∀ p ∈ pins', s.heap.get? p.1 = some p.2 ∧ H p.1 = none ∧ p.1 ≠ X.env.locals ∧ p.1 ∉ X.fs ∧ ∀ v, p.2.data ≠ .cell v) : Inv X pins' σ H s :=
 ⟨I.ok, I.os, I.bare, I.base, I.loc, I.cell, I.free, I.freeC, fun p hp => (List.mem_append.mp hp).elim (fun z => I.pin p (List.mem_append_left _ z)) (h p), I.hok, I.len⟩
theorem nodup_ix {N : List Str} (hN : N.Nodup) {i j : Nat} {x : Str} (a : N[i]? = some x) (b : N[j]? = some x) : i = j := by
 obtain ⟨h1, e1⟩ := List.getElem?_eq_some_iff.mp a
 obtain ⟨h2, e2⟩ := List.getElem?_eq_some_iff.mp b
 exact (List.getElem_inj hN).mp (e1.trans e2.symm)
theorem store_ok2 {M : Model} {A : Around} {E : Value → Shared → Prop} {i : Nat} {x : Str} {v : V} {u : Value} {Q : Unit → Shared → Prop} (I : Inv X pins σ H s) (hN : X.N.Nodup) (hi : X.N[i]? = some x) (hx : Loc X.env.scope x) (r : RelV v u)
  (h : ∀ s', Inv X pins (σ.set i (some v)) H s' → (∃ a, Heap.SameBut a s.heap s'.heap ∧ (a = X.env.locals ∨ X.env.cells.lookup x = some a)) → Q () s') (hf : X.fn x = true ∨ X.env.scope.names.lookup x = some .local := by first | exact .inl rfl | exact .inr rfl | assumption) : wpAny M A (storeName X.env x u) Q E s := by
 obtain ⟨m, hn, hl⟩ := id I.loc
 have hcls : (X.env.scope.kind == .class || (X.env.scope.kind == .module && X.env.locals != X.env.globals)) = false := by rw [I.ok.kind]; rfl
 have hiσ : i < σ.length := by rw [I.len]; exact (List.getElem?_eq_some_iff.mp hi).1
 have cne := I.cne
 have tracked : ∀ {a : Addr} {h' : Heap}, (∃ o, s.heap.get? a = some o ∧ H a = none) → Heap.SameBut a s.heap h' → HOk X.prog X.w H h' := fun {a h'} ha hs b ob e => by
  obtain ⟨_, _, hfree⟩ := ha
  refine (I.hok b ob e).stay (fun c w' hc q => (hs.2 c ?_).trans q) (fun _ q => q) fun _ _ q => q
  rintro rfl
  rcases hc with rfl | hc
  ·rw [hfree] at e; cases e
  ·rw [hfree] at hc; cases hc
 rcases hx with hk | hk
 ·refine wpAny_storeName_local hk hn (fun h' hn' hs => ?_) hcls
  obtain ⟨oL, _, _, hoL, _⟩ := id hn
  refine h _ ⟨I.ok, I.os, I.bare, ⟨fun b o e n hb hx => ?_, fun b o e n hb hx => ?_, I.base.free, fun b o e hx => ?_, I.base.tups, I.base.frzs, I.base.tbls⟩, ⟨_, hn', fun j y v' e1 e2 e3 => ?_⟩, fun y c e => ?_, I.free, I.freeC, fun p hp => ?_, tracked ⟨oL, hoL, I.free⟩ hs, by simpa using I.len⟩ ⟨_, hs, .inl rfl⟩
  ·exact (hs.2 b (Nat.ne_of_lt (Nat.lt_of_lt_of_le (Heap.lt_size e) I.ok.above))).trans (I.base.keep b o e n hb hx)
  ·obtain ⟨sl, e1⟩ := I.base.slot b o e n hb hx
   exact ⟨sl, (hs.2 b (Nat.ne_of_lt (Nat.lt_of_lt_of_le (Heap.lt_size e) I.ok.above))).trans e1⟩
  ·obtain ⟨o', e1⟩ := I.base.there b o e hx
   exact ⟨o', (hs.2 b (Nat.ne_of_lt (Nat.lt_of_lt_of_le (Heap.lt_size e) I.ok.above))).trans e1⟩
  ·by_cases hj : j = i
   ·subst hj
    rw [hi] at e1; cases e1
    rw [List.getElem?_set_self hiσ] at e2
    cases e2
    exact ⟨u, r, .inl ⟨hk, by simp⟩⟩
   ·rw [List.getElem?_set_ne (Ne.symm hj)] at e2
    obtain ⟨u', r', q⟩ := hl j y v' e1 e2 e3
    refine ⟨u', r', ?_⟩
    rcases q with ⟨k, e⟩ | ⟨k, c, e, z⟩
    ·refine .inl ⟨k, ?_⟩
     have : y ≠ x := fun e => hj (nodup_ix hN e1 (e ▸ hi))
     simp [this, e]
    ·exact .inr ⟨k, c, e, z.sameBut hs (cne y c e)⟩
  ·obtain ⟨w', z⟩ := I.cell y c e
   exact ⟨w', z.sameBut hs (cne y c e)⟩
  ·obtain ⟨e, n, ne, nf, d⟩ := I.pin p hp
   exact ⟨(hs.2 p.1 ne).trans e, n, ne, nf, d⟩
 ·have hfn : X.fn x = true := by
   rcases hf with z | z
   ·exact z
   ·rw [z] at hk; cases hk
  obtain ⟨c, hc⟩ := I.ok.has x (.inl hk)
  obtain ⟨w', z⟩ := I.cell x c hc
  refine wpAny_storeName_cell I.ok.kind hk hc z (fun h' hc' hs => ?_)
  obtain ⟨oc, hoc, hocd⟩ := id z
  refine h { s with heap := h' } ⟨I.ok, I.os, I.bare, ⟨fun b o e n hb hx => ?_, fun b o e n hb hx => ?_, I.base.free, fun b o e hx => ?_, I.base.tups, I.base.frzs, I.base.tbls⟩, ⟨m, hn.sameBut hs (Ne.symm (cne x c hc)), fun j y v' e1 e2 e3 => ?_⟩, fun y c' e => ?_, I.free, I.freeC, fun p hp => ?_, tracked ⟨oc, hoc, I.freeC x c hc⟩ hs, by simpa using I.len⟩ ⟨c, hs, .inr hc⟩
  ·exact (hs.2 b (Nat.ne_of_lt (Nat.lt_of_lt_of_le (Heap.lt_size e) (I.ok.cab x c hfn hc)))).trans (I.base.keep b o e n hb hx)
  ·obtain ⟨sl, e1⟩ := I.base.slot b o e n hb hx
   exact ⟨sl, (hs.2 b (Nat.ne_of_lt (Nat.lt_of_lt_of_le (Heap.lt_size e) (I.ok.cab x c hfn hc)))).trans e1⟩
  ·obtain ⟨o', e1⟩ := I.base.there b o e hx
   exact ⟨o', (hs.2 b (Nat.ne_of_lt (Nat.lt_of_lt_of_le (Heap.lt_size e) (I.ok.cab x c hfn hc)))).trans e1⟩
  ·by_cases hj : j = i
   ·subst hj
    rw [hi] at e1; cases e1
    rw [List.getElem?_set_self hiσ] at e2
    cases e2
    exact ⟨u, r, .inr ⟨.inl hk, c, hc, hc'⟩⟩
   ·rw [List.getElem?_set_ne (Ne.symm hj)] at e2
    obtain ⟨u', r', q⟩ := hl j y v' e1 e2 e3
    refine ⟨u', r', ?_⟩
    rcases q with q | ⟨k, c', e, z'⟩
    ·exact .inl q
    ·refine .inr ⟨k, c', e, z'.sameBut hs ?_⟩
     rintro rfl
     exact hj (nodup_ix hN e1 (I.ok.inj _ _ _ e hc ▸ hi))
  ·by_cases hcc : c' = c
   ·subst hcc; exact ⟨_, hc'⟩
   ·obtain ⟨w2, z2⟩ := I.cell y c' e
    exact ⟨w2, z2.sameBut hs hcc⟩
  ·obtain ⟨e, n, ne, nf, d⟩ := I.pin p hp
   refine ⟨(hs.2 p.1 ?_).trans e, n, ne, nf, d⟩
   intro q
   rw [q, hoc] at e
   have q' : oc = p.2 := Option.some.inj e
   exact d w' (by rw [← q']; exact hocd)
theorem store_ok {M : Model} {A : Around} {E : Value → Shared → Prop} {i : Nat} {x : Str} {v : V} {u : Value} {Q : Unit → Shared → Prop} (I : Inv X pins σ H s) (hN : X.N.Nodup) (hi : X.N[i]? = some x) (hx : Loc X.env.scope x) (r : RelV v u)
  (h : ∀ s', Inv X pins (σ.set i (some v)) H s' → Q () s') (hf : X.fn x = true ∨ X.env.scope.names.lookup x = some .local := by first | exact .inl rfl | exact .inr rfl | assumption) : wpAny M A (storeName X.env x u) Q E s :=
 store_ok2 I hN hi hx r (fun s' I' _ => h s' I') hf
theorem Inv.call' {s' : Shared} {ch : List Addr} (I : Inv X pins σ H s) (ho : s'.os = s.os) (u : Un (frs X.stack) ch H H' s.heap s'.heap) (hok : HOk X.prog X.w H' s'.heap) (hg : AllBare s'.gens)
  (hch : ∀ b ∈ ch, (b ∈ X.ex ∨ X.s₀.heap.objs.size ≤ b) ∧ b ≠ X.env.locals ∧ (∀ x c, X.env.cells.lookup x = some c → c ≠ b) ∧ ∀ p ∈ X.pn ++ pins, p.1 ≠ b) : Inv X pins σ H' s' := by
 obtain ⟨h', g', d', t', o'⟩ := s'
 have e : o' = s.os := ho
 subst e
 exact I.call (g' := g') (t' := t') (d' := d') u hok hg hch
end
noncomputable abbrev XK := Value → Option Addr → Hp → Prop
noncomputable abbrev St := List (Option V)
noncomputable abbrev VK := V → Hp → Prop
noncomputable abbrev TE := St → Hp → VK → Prop
noncomputable abbrev TT := St → Hp → (Bool → Hp → Prop) → Prop
noncomputable abbrev TA := St → Hp → (List V → Hp → Prop) → Prop
structure Ends where
 nx : St → Hp → Prop
 rt : VK
 bk : St → Hp → Prop := fun _ _ => False
 ct : St → Hp → Prop := fun _ _ => False
noncomputable abbrev TS := Ends → St → Hp → Prop
noncomputable def EP (X : Cx) (pins : List (Addr × Obj)) (σ : St) (Q : VK) (u : Value) (s' : Shared) : Prop := ∃ v H', Inv X pins σ H' s' ∧ RelV v u ∧ Q v H'
noncomputable def TP (X : Cx) (pins : List (Addr × Obj)) (σ : St) (Q : Bool → Hp → Prop) (b : Bool) (s' : Shared) : Prop := ∃ H', Inv X pins σ H' s' ∧ Q b H'
noncomputable def AP (X : Cx) (pins : List (Addr × Obj)) (σ : St) (Q : List V → Hp → Prop) (us : List Value) (s' : Shared) : Prop := ∃ vs H', Inv X pins σ H' s' ∧ Vals vs us ∧ Q vs H'
noncomputable def SP (X : Cx) (pins : List (Addr × Obj)) (D : Ends) (f : Flow) (s' : Shared) : Prop :=
 match f with
 | .next => ∃ σ' H', Inv X pins σ' H' s' ∧ D.nx σ' H'
 | .brk => ∃ σ' H', Inv X pins σ' H' s' ∧ D.bk σ' H'
 | .cont => ∃ σ' H', Inv X pins σ' H' s' ∧ D.ct σ' H'
 | .ret u => ∃ v σ' H', Inv X pins σ' H' s' ∧ RelV v u ∧ D.rt v H'
noncomputable def PE (X : Cx) (e : Expr) (t : TE) : Prop :=
 ∀ (pins : List (Addr × Obj)) (s : Shared) (σ : St) (H : Hp) (Q : VK), Inv X pins σ H s → t σ H Q → wpAny (model X.prog X.w) X.A (eval e X.env) (EP X pins σ Q) X.xe s
noncomputable def PT (X : Cx) (e : Expr) (t : TT) : Prop :=
 ∀ (pins : List (Addr × Obj)) (s : Shared) (σ : St) (H : Hp) (Q : Bool → Hp → Prop), Inv X pins σ H s → t σ H Q → wpAny (model X.prog X.w) X.A (isTrue e X.env (eval e X.env)) (TP X pins σ Q) X.xe s
noncomputable def PW (X : Cx) (e : Expr) (t : TT) : Prop :=
 ∀ (whole : Sem Value) (pins : List (Addr × Obj)) (s : Shared) (σ : St) (H : Hp) (Q : Bool → Hp → Prop), Inv X pins σ H s → t σ H Q → wpAny (model X.prog X.w) X.A (isTrue e X.env whole) (TP X pins σ Q) X.xe s
theorem PW.pt {X : Cx} {e : Expr} {t : TT} (h : PW X e t) : PT X e t := h _
noncomputable def PA (X : Cx) (es : List Expr) (t : TA) : Prop :=
 ∀ (pos : Pos) (pins : List (Addr × Obj)) (s : Shared) (σ : St) (H : Hp) (Q : List V → Hp → Prop), Inv X pins σ H s → t σ H Q → wpAny (model X.prog X.w) X.A (spliced (backTo pos (starEach es X.env))) (AP X pins σ Q) X.xe s
noncomputable def PS (X : Cx) (st : Stmt) (t : TS) : Prop :=
 ∀ (pins : List (Addr × Obj)) (s : Shared) (σ : St) (H : Hp) (D : Ends), Inv X pins σ H s → t D σ H → wpAny (model X.prog X.w) X.A (exec st X.env) (SP X pins D) X.xe s
noncomputable def PSs (X : Cx) (st : List Stmt) (t : TS) : Prop :=
 ∀ (pins : List (Addr × Obj)) (s : Shared) (σ : St) (H : Hp) (D : Ends), Inv X pins σ H s → t D σ H → wpAny (model X.prog X.w) X.A (execs st X.env) (SP X pins D) X.xe s
theorem thn {α : Type} {t : Sem α} {Q Q' : α → Shared → Prop} {M : Model} {A : Around} {E : Value → Shared → Prop} {s : Shared} (h : wpAny M A t Q E s) (hQ : ∀ a s, Q a s → Q' a s) : wpAny M A t Q' E s := wpAny_mono h hQ fun _ _ x => x
end L2
namespace L2
open PySem PySem.Spec PyProof.Rows
section
variable {X : Cx}
noncomputable def tVar (i : Nat) : TE := fun σ H Q => ∃ v, σ[i]? = some (some v) ∧ Q v H
noncomputable def tC (v : V) : TE := fun _ H Q => Q v H
theorem pe_var {i : Nat} {x : Str} {pos : Pos} (hN : X.N[i]? = some x) (hv : Vis X.env.scope x) (hd : (x == ("__debug__" : Str)) = false := by decide) (hcd : (x == ("__classdict__" : Str)) = false := by decide) : PE X (.Name x pos) (tVar i) := by
 intro pins s σ H Q I h
 obtain ⟨v, e, h⟩ := h
 obtain ⟨m, hn, hl⟩ := I.loc
 obtain ⟨u, r, l⟩ := hl i x v hN e hv
 have fin : EP X pins σ Q u s := ⟨v, H, I, r, h⟩
 rcases l with ⟨hk, hm⟩ | ⟨hk, c, hc, hcell⟩
 ·exact wpAny_Name (wpAny_loadName_local I.ok.kind hk hn hm fin) hd
 ·rcases hk with hk | hk
  ·exact wpAny_Name (wpAny_loadName_cell I.ok.kind hk hc hcell fin) hd
  ·exact wpAny_Name (wpAny_loadName_free I.ok.kind hk hc hcell fin hcd) hd
theorem pe_int {i j pos} : PE X (.Constant (.int i) j pos) (tC (.int i)) := fun _ _ _ H _ I h => wpAny_Constant_int ⟨.int i, H, I.tok _, ⟨_, rfl⟩, h⟩
theorem pe_bl {b j pos} : PE X (.Constant (.bool b) j pos) (tC (.bl b)) := fun _ _ _ H _ I h => Constant_bool ⟨.bl b, H, I, rfl, h⟩
theorem pe_non {j pos} : PE X (.Constant .none j pos) (tC .non) := fun _ _ _ H _ I h => Constant_none ⟨.non, H, I, rfl, h⟩
theorem pe_str {x j pos} : PE X (.Constant (.str x) j pos) (tC (.str x)) := fun _ _ _ H _ I h => Calls.Constant_str ⟨.str x, H, I.tok _, ⟨_, rfl⟩, h⟩
noncomputable def Gl (X : Cx) (x : Str) : Prop := X.env.kindOf x = some .globalImplicit
theorem ld_glob {E : Value → Shared → Prop} {pins : List (Addr × Obj)} {s : Shared} {σ : St} {H : Hp} {x : Str} {u : Value} {pos : Pos} {Q : Value → Shared → Prop} (I : Inv X pins σ H s) (hg : Gl X x) (hm : X.mg x = some u) (h : Q u s)
  (hd : (x == ("__debug__" : Str)) = false := by decide) : wpAny (model X.prog X.w) X.A (eval (.Name x pos) X.env) Q E s :=
 Calls.Name_function_global I.ok.kind hg (Calls.loadGlobal_global (by rw [I.ok.glob]; exact I.mod.glob.keeps I.bk) hm h) hd
theorem ld_blt {E : Value → Shared → Prop} {pins : List (Addr × Obj)} {s : Shared} {σ : St} {H : Hp} {x : Str} {u : Value} {pos : Pos} {Q : Value → Shared → Prop} (I : Inv X pins σ H s) (hg : Gl X x) (hm : X.mg x = none) (hv : bootBuiltins x = some u) (h : Q u s)
  (hn : x ≠ "__name__" := by decide) (hd : (x == ("__debug__" : Str)) = false := by decide) : wpAny (model X.prog X.w) X.A (eval (.Name x pos) X.env) Q E s := by
 obtain ⟨mb, h1, h2⟩ := I.mod.blt
 exact Calls.Name_function_global I.ok.kind hg (Calls.loadGlobal_builtin (by rw [I.ok.glob]; exact I.mod.glob.keeps I.bk) hm (by rw [I.ok.blt]; exact h1.keeps I.bk) ((h2 x hn).trans hv) h) hd
theorem pe_glob {x : Str} {v : V} {u : Value} {pos : Pos} (hg : Gl X x) (hm : X.mg x = some u) (r : RelV v u) (hd : (x == ("__debug__" : Str)) = false := by decide) : PE X (.Name x pos) (tC v) :=
 fun _ _ _ H _ I h => ld_glob I hg hm ⟨v, H, I, r, h⟩ hd
theorem pe_bltn {x : Str} {v : V} {u : Value} {pos : Pos} (hg : Gl X x) (hm : X.mg x = none) (hv : bootBuiltins x = some u) (r : RelV v u) (hn : x ≠ "__name__" := by decide) (hd : (x == ("__debug__" : Str)) = false := by decide) : PE X (.Name x pos) (tC v) :=
 fun _ _ _ H _ I h => ld_blt I hg hm hv ⟨v, H, I, r, h⟩ hn hd
variable {a b : Expr} {ta tb : TE} {pos : Pos}
noncomputable def tB (t : TE) : TT := fun σ H Q => t σ H fun x H1 => ∃ c, x = .bl c ∧ Q c H1
variable {tA tB' : TT} {rest : List Expr}
noncomputable def tAnd (t u : TT) : TT := fun σ H Q => t σ H fun c H1 => if c = true then u σ H1 Q else Q false H1
noncomputable def tOr (t u : TT) : TT := fun σ H Q => t σ H fun c H1 => if c = true then Q true H1 else u σ H1 Q
noncomputable def tNot (t : TT) : TT := fun σ H Q => t σ H fun c H1 => Q (!c) H1
theorem pw_and1 (ha : PT X a tA) : PW X (.BoolOp .And [a] pos) tA := by
 intro wh pins s σ H Q I h
 refine isTrue_and (thn (ha pins s σ H Q I h) fun c s1 e => ?_)
 cases c with
 | true => exact isTrue_and_nil e
 | false => exact e
theorem pw_or1 (ha : PT X a tA) : PW X (.BoolOp .Or [a] pos) tA := by
 intro wh pins s σ H Q I h
 refine isTrue_or (thn (ha pins s σ H Q I h) fun c s1 e => ?_)
 cases c with
 | false => exact isTrue_or_nil e
 | true => exact e
theorem pw_and (ha : PT X a tA) (hb : PW X (.BoolOp .And (b :: rest) pos) tB') : PW X (.BoolOp .And (a :: b :: rest) pos) (tAnd tA tB') := by
 intro wh pins s σ H Q I h
 refine isTrue_and (thn (ha pins s σ H _ I h) fun c s1 ⟨H1, I1, q1⟩ => ?_)
 cases c with
 | true => exact hb wh pins s1 σ H1 Q I1 q1
 | false => exact ⟨H1, I1, q1⟩
theorem pw_or (ha : PT X a tA) (hb : PW X (.BoolOp .Or (b :: rest) pos) tB') : PW X (.BoolOp .Or (a :: b :: rest) pos) (tOr tA tB') := by
 intro wh pins s σ H Q I h
 refine isTrue_or (thn (ha pins s σ H _ I h) fun c s1 ⟨H1, I1, q1⟩ => ?_)
 cases c with
 | true => exact ⟨H1, I1, q1⟩
 | false => exact hb wh pins s1 σ H1 Q I1 q1
theorem pt_not (ha : PT X a tA) : PT X (.UnaryOp .Not a pos) (tNot tA) := by
 intro pins s σ H Q I h
 exact isTrue_not (ha pins s σ H (fun c H1 => Q (!c) H1) I h)
noncomputable def tAndV (ta tb : TE) : TE := fun σ H Q => ta σ H fun x H1 => ∃ c, x = .bl c ∧ if c = true then tb σ H1 Q else Q (.bl false) H1
noncomputable def tOrV (ta tb : TE) : TE := fun σ H Q => ta σ H fun x H1 => ∃ c, x = .bl c ∧ if c = true then Q (.bl true) H1 else tb σ H1 Q
noncomputable def tNotV (ta : TE) : TE := fun σ H Q => ta σ H fun x H1 => ∃ c, x = .bl c ∧ Q (.bl (!c)) H1
theorem pe_one {op} {t : TE} (h : PE X a t) : PE X (.BoolOp op [a] pos) t := fun pins s σ H Q I hw => BoolOp_one (h pins s σ H Q I hw)
theorem pe_and (ha : PE X a ta) (hb : PE X (.BoolOp .And (b :: rest) pos) tb) : PE X (.BoolOp .And (a :: b :: rest) pos) (tAndV ta tb) := by
 intro pins s σ H Q I h
 refine BoolOp_and (thn (ha pins s σ H _ I h) fun v s1 ⟨x, H1, I1, r1, q1⟩ => ?_)
 obtain ⟨c, rfl, q1⟩ := q1
 cases r1
 refine wpAny_truthy_bool ?_
 cases c with
 | true => exact hb pins s1 σ H1 Q I1 q1
 | false => exact ⟨.bl false, H1, I1, rfl, q1⟩
theorem pe_or (ha : PE X a ta) (hb : PE X (.BoolOp .Or (b :: rest) pos) tb) : PE X (.BoolOp .Or (a :: b :: rest) pos) (tOrV ta tb) := by
 intro pins s σ H Q I h
 refine BoolOp_or (thn (ha pins s σ H _ I h) fun v s1 ⟨x, H1, I1, r1, q1⟩ => ?_)
 obtain ⟨c, rfl, q1⟩ := q1
 cases r1
 refine wpAny_truthy_bool ?_
 cases c with
 | false => exact hb pins s1 σ H1 Q I1 q1
 | true => exact ⟨.bl true, H1, I1, rfl, q1⟩
theorem pe_not (ha : PE X a ta) : PE X (.UnaryOp .Not a pos) (tNotV ta) := by
 intro pins s σ H Q I h
 refine UnaryOp_ (thn (ha pins s σ H _ I h) fun v s1 ⟨x, H1, I1, r1, q1⟩ => ?_)
 obtain ⟨c, rfl, q1⟩ := q1
 cases r1
 exact not_of (wpAny_truthy_bool ⟨.bl (!c), H1, I1, rfl, q1⟩)
end
end L2
namespace L2
open PySem PySem.Spec PyProof.Rows
noncomputable def SqL (K : PySem.W.Frag) (H : Hp) (a : Addr) (xs : List V) : Prop :=
 Rd H a (.lst xs) ∨
  ∃ (o : Obj) (its : Array Value) (n : Nat), K.lookup a = some o ∧ o.cls = .type "list" ∧ o.dict = none ∧ o.data = .seq its n ∧ its.size ≤ sizeLine ∧ Vals xs its.toList
noncomputable def SqT (K : PySem.W.Frag) (H : Hp) (a : Addr) (xs : List V) : Prop :=
 Rd H a (.tup xs) ∨
  ∃ (o : Obj) (its : Array Value) (n : Nat), K.lookup a = some o ∧ o.cls = .type "tuple" ∧ o.data = .seq its n ∧ its.size ≤ sizeLine ∧ Vals xs its.toList
noncomputable def absV : Value → Option V
 | .none => some .non
 | .bool b => some (.bl b)
 | .int i _ => some (.int i)
 | .str x _ => some (.str x)
 | .bytes b _ => some (.byt b)
 | .float b _ => some (.flt b)
 | .ref a => some (.ref a)
 | .type n => some (.ty n)
 | _ => none
theorem RelV.abs {x : V} {u : Value} (r : RelV x u) : absV u = some x := by
 cases x with
 | non => cases r; rfl
 | bl _ => cases r; rfl
 | int _ => obtain ⟨t, rfl⟩ := r; rfl
 | str _ => obtain ⟨t, rfl⟩ := r; rfl
 | byt _ => obtain ⟨t, rfl⟩ := r; rfl
 | flt _ => obtain ⟨t, rfl⟩ := r; rfl
 | ref _ => cases r; rfl
 | ty _ => cases r; rfl
theorem RelV.inj {x y : V} {u : Value} (r : RelV x u) (q : RelV y u) : x = y := Option.some.inj (r.abs.symm.trans q.abs)
theorem Vals.inj : ∀ {xs ys : List V} {us : List Value}, Vals xs us → Vals ys us → xs = ys
 | _, _, _, .nil, .nil => rfl
 | _, _, _, .cons r t, .cons r' t' => by rw [r.inj r', Vals.inj t t']
section
variable {X : Cx} {pins : List (Addr × Obj)} {σ : St} {H : Hp} {s : Shared} {a : Addr} {xs ys : List V}
theorem SqL.of {K : PySem.W.Frag} (h : H a = some (.lst xs)) : SqL K H a xs := .inl (.inl h)
theorem SqT.of {K : PySem.W.Frag} (h : H a = some (.tup xs)) : SqT K H a xs := .inl (.inl h)
theorem Inv.list (I : Inv X pins σ H s) (h : SqL X.K H a xs) : ∃ its : List Value, Vals xs its ∧ PlainL s.heap a its.toArray ∧ xs.length ≤ sizeLine := by
 rcases h with h | ⟨o, its, n, hk, hc, hd, hs, hz, r⟩
 ·obtain ⟨z, its, n, r, e⟩ := h.ok I.hok
  exact ⟨its, r, ⟨_, n, e, rfl, rfl, rfl⟩, z⟩
 ·refine ⟨its.toList, r, ⟨o, n, I.kIn a o hk, hc, hd, by simpa using hs⟩, ?_⟩
  have e := r.length
  simp only [Array.length_toList] at e
  omega
theorem Inv.tuple (I : Inv X pins σ H s) (h : SqT X.K H a xs) : ∃ its : List Value, Vals xs its ∧ IsTup s.heap a its.toArray ∧ xs.length ≤ sizeLine := by
 rcases h with h | ⟨o, its, n, hk, hc, hs, hz, r⟩
 ·obtain ⟨z, its, r, p⟩ := h.ok I.hok
  exact ⟨its, r, p, z⟩
 ·refine ⟨its.toList, r, ⟨o, I.kIn a o hk, hc, n, by simpa using hs⟩, ?_⟩
  have e := r.length
  simp only [Array.length_toList] at e
  omega
theorem Inv.list_inj (I : Inv X pins σ H s) (h : SqL X.K H a xs) (h' : SqL X.K H a ys) : xs = ys := by
 obtain ⟨its, r, ⟨o, n, e, _, _, d⟩, _⟩ := I.list h
 obtain ⟨its', r', ⟨o', n', e', _, _, d'⟩, _⟩ := I.list h'
 rw [e] at e'; cases e'
 rw [d] at d'
 injection d' with d1 _
 have : its = its' := by simpa using congrArg Array.toList d1
 subst this
 exact r.inj r'
theorem Inv.tuple_inj (I : Inv X pins σ H s) (h : SqT X.K H a xs) (h' : SqT X.K H a ys) : xs = ys := by
 obtain ⟨its, r, ⟨o, e, _, n, d⟩, _⟩ := I.tuple h
 obtain ⟨its', r', ⟨o', e', _, n', d'⟩, _⟩ := I.tuple h'
 rw [e] at e'; cases e'
 rw [d] at d'
 injection d' with d1 _
 have : its = its' := by simpa using congrArg Array.toList d1
 subst this
 exact r.inj r'
end
noncomputable abbrev Cx.wish (X : Cx) (E : Value → Shared → Prop) : Cx := { X with xe := E }
noncomputable abbrev Cx.nox (X : Cx) : Cx := X.wish fun _ _ => False
theorem Cx.Ok.wish {X : Cx} (ok : X.Ok) (E : Value → Shared → Prop) : (X.wish E).Ok :=
 ⟨ok.mod, ok.kind, ok.glob, ok.blt, ok.above, ok.inj, ok.has, ok.cab, ok.hd, ok.frames, ok.stk, ok.exf, ok.bs, ok.bsz, ok.noex, ok.exfs, ok.funs, ok.frf⟩
theorem Cx.Ok.unwish {X : Cx} {E : Value → Shared → Prop} (ok : (X.wish E).Ok) : X.Ok :=
 ⟨ok.mod, ok.kind, ok.glob, ok.blt, ok.above, ok.inj, ok.has, ok.cab, ok.hd, ok.frames, ok.stk, ok.exf, ok.bs, ok.bsz, ok.noex, ok.exfs, ok.funs, ok.frf⟩
section
variable {X : Cx} {pins : List (Addr × Obj)} {σ : St} {H : Hp} {s : Shared} {E : Value → Shared → Prop}
theorem Inv.wish (I : Inv X pins σ H s) (E : Value → Shared → Prop) : Inv (X.wish E) pins σ H s := ⟨I.ok.wish E, I.os, I.bare, I.base, I.loc, I.cell, I.free, I.freeC, I.pin, I.hok, I.len⟩
theorem Inv.unwish (I : Inv (X.wish E) pins σ H s) : Inv X pins σ H s := ⟨I.ok.unwish, I.os, I.bare, I.base, I.loc, I.cell, I.free, I.freeC, I.pin, I.hok, I.len⟩
theorem SP.unwish {D : Ends} {f : Flow} {s' : Shared} (h : SP (X.wish E) pins D f s') : SP X pins D f s' := by
 cases f with
 | next => obtain ⟨σ', H', I, q⟩ := h; exact ⟨σ', H', I.unwish, q⟩
 | brk => obtain ⟨σ', H', I, q⟩ := h; exact ⟨σ', H', I.unwish, q⟩
 | cont => obtain ⟨σ', H', I, q⟩ := h; exact ⟨σ', H', I.unwish, q⟩
 | ret u => obtain ⟨v, σ', H', I, r, q⟩ := h; exact ⟨v, σ', H', I.unwish, r, q⟩
theorem PSs.nox {st : List Stmt} {t : TS} (h : PSs X.nox st t) : PSs X st t := fun pins s σ H D I hw =>
 wpAny_mono (h pins s σ H D (I.wish _) hw) (fun _ _ q => q.unwish) fun _ _ z => False.elim z
end
section
variable {X : Cx} {st : Stmt} {rest : List Stmt} {t u : TS} {e : Expr} {te : TE} {pos : Pos}
noncomputable def tNext : TS := fun D σ H => D.nx σ H
noncomputable def tSeq (t u : TS) : TS := fun D σ H => t { D with nx := u D } σ H
theorem pss_nil : PSs X [] tNext := fun _ _ σ H _ I h => wpAny_execs_nil ⟨σ, H, I, h⟩
theorem pss_cons (h1 : PS X st t) (h2 : PSs X rest u) : PSs X (st :: rest) (tSeq t u) := by
 intro pins s σ H D I h
 refine wpAny_execs_cons (thn (h1 pins s σ H { D with nx := u D } I h) fun f s1 q => ?_)
 cases f with
 | next =>
  obtain ⟨σ', H', I', q⟩ := q
  exact h2 pins s1 σ' H' D I' q
 | ret v => exact q
 | brk => exact q
 | cont => exact q
theorem pss_one (h1 : PS X st t) : PSs X [st] t := by
 intro pins s σ H D I h
 refine wpAny_execs_cons (thn (h1 pins s σ H D I h) fun f s1 q => ?_)
 cases f with
 | next => exact wpAny_execs_nil q
 | ret v => exact q
 | brk => exact q
 | cont => exact q
theorem Inv.quiet {pins : List (Addr × Obj)} {σ : St} {H : Hp} {s : Shared} (I : Inv X pins σ H s) : interactive X.env = false := by simp [interactive, I.ok.kind]
noncomputable def tDrop (te : TE) : TS := fun D σ H => te σ H fun _ H1 => D.nx σ H1
theorem ps_expr (he : PE X e te) (hs : swapsWith e none pos.line X.env = pure false := by rfl) : PS X (.Expr e pos) (tDrop te) := by
 intro pins s σ H D I h
 exact wpAny_Expr_any (thn (he pins s σ H _ I h) fun v s1 ⟨x, H1, I1, r1, q1⟩ => ⟨σ, H1, I1, q1⟩) I.quiet hs
noncomputable def tRet (te : TE) : TS := fun D σ H => te σ H D.rt
theorem ps_ret (he : PE X e te) : PS X (.Return (some e) pos) (tRet te) := by
 intro pins s σ H D I h
 exact wpAny_Return_some (thn (he pins s σ H _ I h) fun v s1 ⟨x, H1, I1, r1, q1⟩ => ⟨x, σ, H1, I1, r1, q1⟩)
noncomputable def tIfS (c : TT) (t u : TS) : TS := fun D σ H => c σ H fun b H1 => if b = true then t D σ H1 else u D σ H1
theorem ps_if {c : Expr} {a b : List Stmt} {tc : TT} (hc : PT X c tc) (ha : PSs X a t) (hb : PSs X b u) : PS X (.If c a b pos) (tIfS tc t u) := by
 intro pins s σ H D I h
 refine wpAny_If (thn (hc pins s σ H _ I h) fun d s1 ⟨H1, I1, q1⟩ => ?_)
 cases d with
 | true => exact ha pins s1 σ H1 D I1 q1
 | false => exact hb pins s1 σ H1 D I1 q1
end
noncomputable abbrev TG := V → St → Hp → (St → Hp → Prop) → Prop
noncomputable abbrev TGs := List V → St → Hp → (St → Hp → Prop) → Prop
noncomputable def PG (X : Cx) (target : Expr) (t : TG) : Prop :=
 ∀ (pins : List (Addr × Obj)) (s : Shared) (σ : St) (H : Hp) (v : V) (u : Value) (Q : St → Hp → Prop), Inv X pins σ H s → RelV v u → t v σ H Q →
  wpAny (model X.prog X.w) X.A (assign target X.env u) (fun _ s' => ∃ σ' H', Inv X pins σ' H' s' ∧ Q σ' H') X.xe s
noncomputable def PGs (X : Cx) (ts : List Expr) (t : TGs) : Prop :=
 ∀ (pins : List (Addr × Obj)) (s : Shared) (σ : St) (H : Hp) (vs : List V) (us : List Value) (Q : St → Hp → Prop), Inv X pins σ H s → Vals vs us → t vs σ H Q →
  wpAny (model X.prog X.w) X.A (assignInOrder ((assignEach ts X.env).map (·.2)) us) (fun _ s' => ∃ σ' H', Inv X pins σ' H' s' ∧ Q σ' H') X.xe s
section
variable {X : Cx} {pos : Pos}
noncomputable def gName (i : Nat) : TG := fun v σ H Q => Q (σ.set i (some v)) H
theorem pg_name {i : Nat} {x : Str} (hN : X.N.Nodup) (hi : X.N[i]? = some x) (hx : Loc X.env.scope x) (hf : X.fn x = true ∨ X.env.scope.names.lookup x = some .local := by first | exact .inl rfl | exact .inr rfl | assumption) : PG X (.Name x pos) (gName i) := by
 intro pins s σ H v u Q I r h
 exact wpAny_assign_Name (store_ok I hN hi hx r (fun s' I' => ⟨_, H, I', h⟩) hf)
noncomputable def gNil : TGs := fun vs σ H Q => vs = [] ∧ Q σ H
noncomputable def gCons (t : TG) (u : TGs) : TGs := fun vs σ H Q => ∃ v r, vs = v :: r ∧ t v σ H fun σ' H' => u r σ' H' Q
theorem pgs_nil : PGs X [] gNil := by
 intro pins s σ H vs us Q I r h
 obtain ⟨e, h⟩ := h
 subst e
 cases r
 exact assignInOrder_nil ⟨σ, H, I, h⟩
theorem pgs_cons {e : Expr} {es : List Expr} {t : TG} {u : TGs} (h1 : PG X e t) (h2 : PGs X es u)
  (hs : (assignEach (e :: es) X.env).map (·.2) = assign e X.env :: (assignEach es X.env).map (·.2) := by rfl) : PGs X (e :: es) (gCons t u) := by
 intro pins s σ H vs us Q I r h
 obtain ⟨v, vr, e1, h⟩ := h
 subst e1
 cases r with
 | cons r rr =>
  rw [hs]
  refine assignInOrder_cons (thn (h1 pins s σ H _ _ _ I r h) fun _ s1 ⟨σ1, H1, I1, q1⟩ => ?_)
  exact h2 pins s1 σ1 H1 _ _ Q I1 rr q1
noncomputable def gTup (K : PySem.W.Frag) (n : Nat) (t : TGs) : TG := fun v σ H Q => ∃ a xs, v = .ref a ∧ SqT K H a xs ∧ xs.length = n ∧ t xs σ H Q
theorem pg_tup {es : List Expr} {k : Nat} {t : TGs} {n : Nat} (hc : X.calm = true) (h : PGs X es t)
  (hn : (assignEach es X.env).length = n := by rfl) (hst : (assignEach es X.env).findIdx? (·.1) = none := by rfl) : PG X (.Tuple es k pos) (gTup X.K n t) := by
 intro pins s σ H v u Q I r hw
 obtain ⟨a, xs, e1, hq, hl, hw⟩ := hw
 subst e1
 cases r
 obtain ⟨its, rv, ht, hz⟩ := I.tuple hq
 refine assign_Tuple_tuple (I.ok.hd hc) ht (by simp [hn, ← hl, rv.length]) hst fun h' hx => ?_
 have I1 : Inv X pins σ H { s with heap := h' } := I.kept (t' := s.toks) fun b o e => hx b o (Nat.ne_of_lt (Heap.lt_size e)) e
 exact h pins _ σ H xs _ Q I1 (by simpa using rv) hw
noncomputable def tAsg (te : TE) (g : TG) : TS := fun D σ H => te σ H fun x H1 => g x σ H1 D.nx
theorem ps_asg {tg e : Expr} {te : TE} {g : TG} (he : PE X e te) (hg : PG X tg g) (hs : swapsWithSole [tg] e pos.line X.env = pure false := by rfl) (hw : swappedStores [tg] e X.env = pure none := by rfl)
  (h1 : (assignEach [tg] X.env).map (·.2) = [assign tg X.env] := by rfl) : PS X (.Assign [tg] e pos) (tAsg te g) := by
 intro pins s σ H D I h
 refine wpAny_Assign_stores (thn (he pins s σ H _ I h) fun v s1 ⟨x, H1, I1, r1, q1⟩ => ?_) hs hw
 rw [h1]
 exact thn (hg pins s1 σ H1 x v _ I1 r1 q1) fun _ s2 q => q
theorem ps_set {i : Nat} {x : Str} {e : Expr} {te : TE} {pos' : Pos} (hN : X.N.Nodup) (hi : X.N[i]? = some x) (hx : Loc X.env.scope x) (he : PE X e te) (hs : swapsWith e (some (.Name x pos')) pos.line X.env = pure false := by rfl) (hf : X.fn x = true ∨ X.env.scope.names.lookup x = some .local := by first | exact .inl rfl | exact .inr rfl | assumption) :
  PS X (.Assign [.Name x pos'] e pos) (tAsg te (gName i)) := by
 intro pins s σ H D I h
 refine wpAny_Assign_Name (thn (he pins s σ H _ I h) fun v s1 ⟨y, H1, I1, r1, q1⟩ => ?_) hs
 exact store_ok I1 hN hi hx r1 (fun s2 I2 => ⟨_, H1, I2, q1⟩) hf
end
section
variable {X : Cx} {pos : Pos}
end
structure It where
 go : Nat → Hp → Prop
 yld : Nat → Hp → V → Hp → Prop
 stop : Nat → Hp → Prop
noncomputable def FpOk (X : Cx) (pins : List (Addr × Obj)) (H : Hp) (b : Addr) : Prop :=
 H b = none ∧ b ≠ X.env.locals ∧ b ∉ X.fs ∧ (b ∈ X.ex ∨ X.s₀.heap.objs.size ≤ b) ∧ (∀ x c, X.env.cells.lookup x = some c → c ≠ b) ∧ ∀ p ∈ X.pn ++ pins, p.1 ≠ b
theorem Inv.fpOk {X : Cx} {pins : List (Addr × Obj)} {σ : St} {H H' : Hp} {s : Shared} {b : Addr} (I : Inv X pins σ H s) (hb : s.heap.objs.size ≤ b) (hn : H' b = none) : FpOk X pins H' b := by
 refine ⟨hn, Nat.ne_of_gt (Nat.lt_of_lt_of_le I.lt hb), I.nofs hb, .inr (Nat.le_trans I.sz hb), fun x c e z => ?_, fun p hp z => ?_⟩
 ·obtain ⟨v, q⟩ := I.cell x c e
  exact absurd (Nat.lt_of_lt_of_le q.lt (by rw [z]; exact hb)) (Nat.lt_irrefl _)
 ·exact absurd (Nat.lt_of_lt_of_le (Heap.lt_size (I.pin p hp).1) (by rw [z]; exact hb)) (Nat.lt_irrefl _)
structure Turn (P : Program) (w : World) (K : PySem.W.Frag) (tg : Expr) (J : It) (fp : List Addr) (it : Addr) (tn : Nat → Heap → Prop) : Prop where
 mem : it ∈ fp
 obj : ∀ i h, tn i h → ∀ b ∈ fp, ∃ o, h.get? b = some o ∧ ∀ v, o.data ≠ .cell v
 keep : ∀ i h h', tn i h → (∀ b ∈ fp, ∀ o, h.get? b = some o → h'.get? b = some o) → tn i h'
 item : ∀ (X : Cx), X.prog = P → X.w = w → X.K = K → X.calm = true → ∀ (i : Nat) (pins : List (Addr × Obj)) (s : Shared) (σ : St) (H : Hp) (E : Value → Shared → Prop), Inv X pins σ H s → (∀ b ∈ fp, FpOk X pins H b) → tn i s.heap → J.go i H →
  wpAny (model P w) X.A (pyNext (.ref it)) (fun r s1 => ∃ u, r = some u ∧
   wpAny (model P w) X.A (letOwnedTupleGo tg (.ref it) u) (fun _ s2 => ∃ x H', Inv X pins σ H' s2 ∧ RelV x u ∧ J.yld i H x H' ∧ tn (i + 1) s2.heap ∧ ∀ b ∈ fp, H' b = none) E s1) E s
 done : ∀ (X : Cx), X.prog = P → X.w = w → X.K = K → X.calm = true → ∀ (i : Nat) (pins : List (Addr × Obj)) (s : Shared) (σ : St) (H : Hp) (E : Value → Shared → Prop), Inv X pins σ H s → (∀ b ∈ fp, FpOk X pins H b) → tn i s.heap → J.stop i H →
  wpAny (model P w) X.A (pyNext (.ref it)) (fun r s1 => r = none ∧ Inv X pins σ H s1) E s
 self : ∀ (A : Around) (i : Nat) (s : Shared) (Q : Value → Shared → Prop) (E : Value → Shared → Prop), tn i s.heap → Q (.ref it) s → wpAny (model P w) A (pyIter (.ref it)) Q E s
noncomputable abbrev TI := St → Hp → (It → Hp → Prop) → Prop
noncomputable def PIE (X : Cx) (pins : List (Addr × Obj)) (σ : St) (tg : Expr) (R : It → Hp → Prop) (itv : Value) (s2 : Shared) : Prop :=
 ∃ (it : Addr) (fp : List Addr) (tn : Nat → Heap → Prop) (J : It) (H' : Hp), itv = .ref it ∧ Inv X pins σ H' s2 ∧ Turn X.prog X.w X.K tg J fp it tn ∧ tn 0 s2.heap ∧ (∀ b ∈ fp, FpOk X pins H' b) ∧ R J H'
noncomputable def PI (X : Cx) (tg iter : Expr) (wi : TI) : Prop :=
 ∀ (pins : List (Addr × Obj)) (s : Shared) (σ : St) (H : Hp) (R : It → Hp → Prop), Inv X pins σ H s → wi σ H R →
  wpAny (model X.prog X.w) X.A (eval iter X.env) (fun v s1 => wpAny (model X.prog X.w) X.A (pyIter v) (PIE X pins σ tg R) X.xe s1) X.xe s
theorem go_of {M : Model} {A : Around} {E : Value → Shared → Prop} {s : Shared} {tg : Expr} {it : Addr} {u : Value} {o : Obj} {n : String} {vs : Array Value} {Q : Unit → Shared → Prop} (ho : s.heap.get? it = some o) (hc : o.cls = .type n) (hd : o.data = .fields vs)
  (hn : ["enumerate", "zip", "dict_itemiterator", "dict_reverseitemiterator", "odict_iterator", "itertools.zip_longest", "itertools.pairwise"].contains n = false) (hQ : Q () s) : wpAny M A (letOwnedTupleGo tg (.ref it) u) Q E s := by
 unfold letOwnedTupleGo
 cases tg <;> first
  | exact wpAny_pure hQ
  | (cases u <;> first
    | exact wpAny_pure hQ
    | (refine wpAny_bind (wpAny_load ho ?_); rw [hc, hd]; show wpAny M A (if (["enumerate", "zip", "dict_itemiterator", "dict_reverseitemiterator", "odict_iterator", "itertools.zip_longest", "itertools.pairwise"].contains n && vs[0]? == some (rawInt _)) = true then _ else _) Q E s; rw [if_neg (by intro h; rw [hn, Bool.false_and] at h; cases h)]; exact wpAny_pure hQ))
noncomputable def Itl (K : PySem.W.Frag) (a : Addr) : It :=
 ⟨fun i H => ∃ xs x, SqL K H a xs ∧ xs[i]? = some x, fun i H x H' => H' = H ∧ ∀ xs, SqL K H a xs → xs[i]? = some x, fun i H => ∃ xs, SqL K H a xs ∧ xs.length ≤ i⟩
noncomputable def Itt (K : PySem.W.Frag) (a : Addr) : It :=
 ⟨fun i H => ∃ xs x, SqT K H a xs ∧ xs[i]? = some x, fun i H x H' => H' = H ∧ ∀ xs, SqT K H a xs → xs[i]? = some x, fun i H => ∃ xs, SqT K H a xs ∧ xs.length ≤ i⟩
noncomputable def Itr (lo : Int) (n : Nat) : It := ⟨fun i _ => i < n, fun i H x H' => H' = H ∧ x = .int (lo + i), fun i _ => n ≤ i⟩
theorem turn_list {P : Program} {w : World} {K : PySem.W.Frag} {tg : Expr} (a it : Addr) : Turn P w K tg (Itl K a) [it] it (fun i h => h.IsListIter it a i) where
 mem := by simp
 obj := fun i h st b hb => by
  have e : b = it := by simpa using hb
  subst e
  obtain ⟨o, e, c, d⟩ := st
  exact ⟨o, e, fun v z => by rw [d] at z; cases z⟩
 keep := fun i h h' st k => st.at fun o e => k it (by simp) o e
 item := by
  intro X hP hw hK hc i pins s σ H E I hf st hg
  subst hP hw hK
  obtain ⟨xs, x, hq, hx⟩ := hg
  obtain ⟨its, rv, p, hz⟩ := I.list hq
  obtain ⟨u, hu, ru⟩ := rv.get hx
  obtain ⟨f0, f1, f2, f3, f4, f5⟩ := hf it (by simp)
  refine wpAny_pyNext_list_item st p.isList (x := u) (by simpa using hu) fun h' st' sb => ?_
  have I1 : Inv X pins σ H { s with heap := h' } := I.turned (t' := s.toks) (fun b o hb e => (sb.2 b hb).trans e) f0 f1 f3 f4 f5
  obtain ⟨o, e, c, d⟩ := id st'
  exact ⟨u, rfl, go_of (s := { s with heap := h' }) e c d (by decide) ⟨x, H, I1, ru, ⟨rfl, fun ys hy => by rw [I.list_inj hy hq]; exact hx⟩, st', fun b hb => (hf b hb).1⟩⟩
 done := by
  intro X hP hw hK hc i pins s σ H E I hf st hg
  subst hP hw hK
  obtain ⟨xs, hq, hx⟩ := hg
  obtain ⟨its, rv, p, hz⟩ := I.list hq
  obtain ⟨f0, f1, f2, f3, f4, f5⟩ := hf it (by simp)
  have hl := rv.length
  exact wpAny_pyNext_list_end (I.ok.hd hc) st p.isList (by simp; omega) fun h' eb => ⟨rfl, I.turned (t' := s.toks) (fun b o hb e => eb b o hb e) f0 f1 f3 f4 f5⟩
 self := fun _ _ _ _ _ st h => wpAny_pyIter_listiter st h
theorem turn_tuple {P : Program} {w : World} {K : PySem.W.Frag} {tg : Expr} (a it : Addr) : Turn P w K tg (Itt K a) [it] it (fun i h => h.IsTupleIter it a i) where
 mem := by simp
 obj := fun i h st b hb => by
  have e : b = it := by simpa using hb
  subst e
  obtain ⟨o, e, c, d⟩ := st
  exact ⟨o, e, fun v z => by rw [d] at z; cases z⟩
 keep := fun i h h' st k => st.at fun o e => k it (by simp) o e
 item := by
  intro X hP hw hK hc i pins s σ H E I hf st hg
  subst hP hw hK
  obtain ⟨xs, x, hq, hx⟩ := hg
  obtain ⟨its, rv, p, hz⟩ := I.tuple hq
  obtain ⟨u, hu, ru⟩ := rv.get hx
  obtain ⟨f0, f1, f2, f3, f4, f5⟩ := hf it (by simp)
  refine wpAny_pyNext_tuple_item st (show s.heap.IsTuple a its.toArray from p) (x := u) (by simpa using hu) fun h' st' sb => ?_
  have I1 : Inv X pins σ H { s with heap := h' } := I.turned (t' := s.toks) (fun b o hb e => (sb.2 b hb).trans e) f0 f1 f3 f4 f5
  obtain ⟨o, e, c, d⟩ := id st'
  exact ⟨u, rfl, go_of (s := { s with heap := h' }) e c d (by decide) ⟨x, H, I1, ru, ⟨rfl, fun ys hy => by rw [I.tuple_inj hy hq]; exact hx⟩, st', fun b hb => (hf b hb).1⟩⟩
 done := by
  intro X hP hw hK hc i pins s σ H E I hf st hg
  subst hP hw hK
  obtain ⟨xs, hq, hx⟩ := hg
  obtain ⟨its, rv, p, hz⟩ := I.tuple hq
  obtain ⟨f0, f1, f2, f3, f4, f5⟩ := hf it (by simp)
  have hl := rv.length
  exact wpAny_pyNext_tuple_end (I.ok.hd hc) st (show s.heap.IsTuple a its.toArray from p) (by simp; omega) fun h' eb => ⟨rfl, I.turned (t' := s.toks) (fun b o hb e => eb b o hb e) f0 f1 f3 f4 f5⟩
 self := fun _ _ _ _ _ st h => wpAny_pyIter_tupleiter st h
theorem turn_range {P : Program} {w : World} {K : PySem.W.Frag} {tg : Expr} (it : Addr) (lo : Int) (n : Nat) : Turn P w K tg (Itr lo n) [it] it (fun i h => IsRangeIter h it (lo + (i : Nat) * 1) ((n : Int) - (i : Nat)) 1) where
 mem := by simp
 obj := fun i h st b hb => by
  have e : b = it := by simpa using hb
  subst e
  exact ⟨_, st, fun v z => by
   have z' : Data.fields _ = Data.cell v := z
   cases z'⟩
 keep := fun i h h' st k => k it (by simp) _ st
 item := by
  intro X hP hw hK hc i pins s σ H E I hf st hg
  subst hP hw hK
  obtain ⟨f0, f1, f2, f3, f4, f5⟩ := hf it (by simp)
  have W := Walks.range (prog := X.prog) (w := X.w) (I.ok.hd hc) it lo 1 n
  refine W.item i s _ _ hg st fun v h' tk hv st' kk => ?_
  obtain ⟨t, rfl⟩ := hv
  have I1 : Inv X pins σ H { s with heap := h', toks := tk } := I.turned (fun b o hb e => kk b o (by simpa using hb) e) f0 f1 f3 f4 f5
  refine ⟨_, rfl, go_of (s := { s with heap := h', toks := tk }) (n := "range_iterator") st' rfl rfl (by decide) ⟨.int (lo + i), H, I1, ⟨t, ?_⟩, ⟨rfl, rfl⟩, st', fun b hb => (hf b hb).1⟩⟩
  rw [Int.mul_one]
 done := by
  intro X hP hw hK hc i pins s σ H E I hf st hg
  subst hP hw hK
  obtain ⟨f0, f1, f2, f3, f4, f5⟩ := hf it (by simp)
  exact wpAny_pyNext_range_end (I.ok.hd hc) st (by have : n ≤ i := hg; omega) fun h' eb => ⟨rfl, I.turned (t' := s.toks) (fun b o hb e => eb b o hb e) f0 f1 f3 f4 f5⟩
 self := fun _ _ _ _ _ st h => wpAny_pyIter_rangeiter st h
end L2
namespace L2
open PySem PySem.Spec PyProof.Rows
section
variable {X : Cx} {tg : Expr}
theorem range_it {pins : List (Addr × Obj)} {σ : St} {H : Hp} {s : Shared} {R : It → Hp → Prop} {E : Value → Shared → Prop} {lo hi : Int} {t u v : Tok} {tk : Nat} (I : Inv X pins σ H s) (h1 : -(2 ^ 62) ≤ lo) (h2 : lo < 2 ^ 62) (h3 : -(2 ^ 62) ≤ hi) (h4 : hi < 2 ^ 62)
  (q : R (Itr lo (hi - lo).toNat) H) : wpAny (model X.prog X.w) X.A (pyIter (.ref s.heap.objs.size)) (PIE X pins σ tg R) E { s with heap := s.heap.push { cls := .type "range", data := .fields #[.int lo t, .int hi u, .int 1 v] }, toks := tk } := by
 refine wpAny_pyIter_range (IsRange.new ..) (small_one h1 h2 h3 h4) ?_
 have I1 : Inv X pins σ H { s with heap := s.heap.push { cls := .type "range", data := .fields #[.int lo t, .int hi u, .int 1 v] }, toks := tk } := I.kept fun b o e => Heap.get?_push_of_some _ e
 refine ⟨(s.heap.push { cls := .type "range", data := .fields #[.int lo t, .int hi u, .int 1 v] }).objs.size, [(s.heap.push { cls := .type "range", data := .fields #[.int lo t, .int hi u, .int 1 v] }).objs.size], _, _, H, rfl,
  I1.kept (t' := tk) fun b o e => Heap.get?_push_of_some _ e, turn_range _ lo (hi - lo).toNat, ?_, fun b hb => ?_, q⟩
 ·have e1 : lo + ((0 : Nat) : Int) * 1 = lo := by simp
  have e2 : (((hi - lo).toNat : Nat) : Int) - ((0 : Nat) : Int) = Builtin.Range.rangeSize lo hi 1 := by rw [rangeSize_one]; split <;> omega
  show IsRangeIter _ _ (lo + ((0 : Nat) : Int) * 1) ((((hi - lo).toNat : Nat) : Int) - ((0 : Nat) : Int)) 1
  rw [e1, e2]
  exact Heap.get?_push_size _ rfl
 ·have e : b = (s.heap.push { cls := .type "range", data := .fields #[.int lo t, .int hi u, .int 1 v] }).objs.size := by simpa using hb
  subst e
  exact I1.fpOk (Nat.le_refl _) (I1.hok.fresh (Nat.le_refl _))
noncomputable def iRng1 (ta : TA) : TI := fun σ H R => ta σ H fun vs H1 => ∃ j : Int, vs = [.int j] ∧ -(2 ^ 62) ≤ j ∧ j < 2 ^ 62 ∧ R (Itr 0 j.toNat) H1
theorem pi_range1 {a : Expr} {ta : TA} {p pos : Pos} (hg : Gl X "range") (hm : X.mg "range" = none) (ha : PA X [a] ta) (hs : starEach [a] X.env = [(false, eval a X.env)] := by rfl) : PI X tg (.Call (.Name "range" p) [a] [] pos) (iRng1 ta) := by
 intro pins s σ H R I h
 refine Call_ (ld_blt I hg hm boot_range (PyProof.Rows.callWith_type1 (thn (ha pos pins s σ H _ I h) fun us s1 ⟨vs, H1, I1, r1, q1⟩ => ?_) hs rfl))
 obtain ⟨j, e, q1, q2, q⟩ := q1
 subst e
 cases r1 with
 | cons r rr =>
  cases rr
  obtain ⟨t, rfl⟩ := r
  exact call_range_1 (range_it I1 (by omega) (by omega) q1 q2 (by simpa using q))
noncomputable def tFor (wi : TI) (g : TG) (tb : TS) : TS := fun D σ H => wi σ H fun J H1 => ∃ W : Nat → Nat → St → Hp → Prop, (∃ m, W 0 m σ H1) ∧ ∀ i m σ H, W i m σ H →
 (J.stop i H ∧ D.nx σ H) ∨ (J.go i H ∧ ∃ N : St → Hp → Prop, (∀ σ' H', N σ' H' → ∃ m', m' < m ∧ W (i + 1) m' σ' H') ∧ ∀ x H', J.yld i H x H' → g x σ H' fun σ2 H2 => tb { D with nx := N, ct := N, bk := D.nx } σ2 H2)
noncomputable def pinsAt (fp : List Addr) (h : Heap) : List (Addr × Obj) := fp.filterMap fun b => (h.get? b).map fun o => (b, o)
theorem mem_pinsAt {fp : List Addr} {h : Heap} {b : Addr} {o : Obj} (hb : b ∈ fp) (e : h.get? b = some o) : (b, o) ∈ pinsAt fp h := List.mem_filterMap.mpr ⟨b, hb, by rw [e]; rfl⟩
theorem of_pinsAt {fp : List Addr} {h : Heap} {p : Addr × Obj} (hp : p ∈ pinsAt fp h) : p.1 ∈ fp ∧ h.get? p.1 = some p.2 := by
 obtain ⟨b, hb, e⟩ := List.mem_filterMap.mp hp
 cases q : h.get? b with
 | none => rw [q] at e; cases e
 | some o =>
  rw [q] at e
  have e' : (b, o) = p := Option.some.inj e
  subst e'
  exact ⟨hb, q⟩
theorem Inv.pinned {pins : List (Addr × Obj)} {σ : St} {H : Hp} {s : Shared} {fp : List Addr} (I : Inv X pins σ H s) (hf : ∀ b ∈ fp, FpOk X pins H b) (ho : ∀ b ∈ fp, ∃ o, s.heap.get? b = some o ∧ ∀ v, o.data ≠ .cell v) : Inv X (pins ++ pinsAt fp s.heap) σ H s :=
 I.pins_of fun p hp => (List.mem_append.mp hp).elim (fun z => I.pin p (List.mem_append_right _ z)) fun z => by
  obtain ⟨hb, e⟩ := of_pinsAt z
  obtain ⟨f0, f1, f2, _⟩ := hf p.1 hb
  obtain ⟨o, e', d⟩ := ho p.1 hb
  rw [e] at e'; cases e'
  exact ⟨e, f0, f1, f2, d⟩
theorem Inv.unpinned {pins pl : List (Addr × Obj)} {σ : St} {H : Hp} {s : Shared} (I : Inv X (pins ++ pl) σ H s) : Inv X pins σ H s := I.pins_of fun p hp => I.pin p (List.mem_append_right _ (List.mem_append_left _ hp))
theorem ps_for {iter : Expr} {body : List Stmt} {wi : TI} {g : TG} {tb : TS} {pos : Pos} (hp : PassesOwn (model X.prog X.w) X.A X.env X.xe) (hc : X.calm = true) (hi : PI X tg iter wi) (hg : PG X tg g) (hb : PSs X body tb)
  (hs : ∀ x, foldedSetIterable iter X.env x = pure x := by intro _; rfl) : PS X (.For tg iter body [] pos) (tFor wi g tb) := by
 intro pins s σ H D I h
 refine wpAny_For (thn (hi pins s σ H _ I h) fun v s1 h1 => thn h1 fun itv s2 h2 => ?_) hs
 obtain ⟨it, fp, tn, J, H2, e, I2, T, st2, f2, W, ⟨m0, w0⟩, turn⟩ := h2
 subst e
 have stat : ∀ {H' : Hp}, (∀ b ∈ fp, H' b = none) → ∀ b ∈ fp, FpOk X pins H' b := fun hn b hb => ⟨hn b hb, (f2 b hb).2⟩
 refine codeAny_forLoop_any (fun n s' => ∃ i σ' H', Inv X pins σ' H' s' ∧ tn i s'.heap ∧ (∀ b ∈ fp, H' b = none) ∧ W i n σ' H') ?_ m0 ⟨0, σ, H2, I2, st2, fun b hb => (f2 b hb).1, w0⟩
 rintro n s3 ⟨i, σ3, H3, I3, st3, fr3, w3⟩
 rcases turn i n σ3 H3 w3 with ⟨stop, qn⟩ | ⟨go, N, hN, step⟩
 ·refine wpAny_passesOwn hp (thn (T.done X rfl rfl rfl hc i pins s3 σ3 H3 X.xe I3 (stat fr3) st3 stop) fun r s4 ⟨hr, I4⟩ => ?_)
  subst hr
  exact wpAny_execs_nil ⟨σ3, H3, I4, qn⟩
 ·refine wpAny_passesOwn hp (thn (T.item X rfl rfl rfl hc i pins s3 σ3 H3 X.xe I3 (stat fr3) st3 go) fun r s4 ⟨u, hr, h4⟩ => ?_)
  subst hr
  refine wpAny_passesOwn hp (thn h4 fun _ s5 ⟨x, H5, I5, r5, y5, st5, fr5⟩ => ?_)
  have I5' := I5.pinned (stat fr5) (T.obj _ _ st5)
  refine wpAny_passesOwn hp (thn (hg _ s5 σ3 H5 x u _ I5' r5 (step x H5 y5)) fun _ s6 ⟨σ6, H6, I6, q6⟩ => ?_)
  refine wpAny_passesOwn hp (thn (hb _ s6 σ6 H6 _ I6 q6) fun f s7 q7 => ?_)
  have again : ∀ {σ7 : St} {H7 : Hp}, Inv X (pins ++ pinsAt fp s5.heap) σ7 H7 s7 → N σ7 H7 → ∃ m, m < n ∧ ∃ i σ' H', Inv X pins σ' H' s7 ∧ tn i s7.heap ∧ (∀ b ∈ fp, H' b = none) ∧ W i m σ' H' := fun {σ7 H7} I7 n7 => by
   obtain ⟨m', hm, w7⟩ := hN σ7 H7 n7
   refine ⟨m', hm, i + 1, σ7, H7, I7.unpinned, T.keep _ _ _ st5 fun b hb o e => (I7.pin (b, o) (List.mem_append_right _ (List.mem_append_right _ (mem_pinsAt hb e)))).1, fun b hb => ?_, w7⟩
   obtain ⟨o, e, d⟩ := T.obj _ _ st5 b hb
   exact (I7.pin (b, o) (List.mem_append_right _ (List.mem_append_right _ (mem_pinsAt hb e)))).2.1
  cases f with
  | next => obtain ⟨σ7, H7, I7, n7⟩ := q7; exact again I7 n7
  | cont => obtain ⟨σ7, H7, I7, n7⟩ := q7; exact again I7 n7
  | brk => obtain ⟨σ7, H7, I7, q7⟩ := q7; exact ⟨σ7, H7, I7.unpinned, q7⟩
  | ret v => obtain ⟨x7, σ7, H7, I7, r7, q7⟩ := q7; exact ⟨x7, σ7, H7, I7.unpinned, r7, q7⟩
end
end L2
namespace L2
open PySem PySem.Spec PyProof.Rows
noncomputable abbrev R2 := V → V → Hp → VK → Prop
noncomputable def OpR (X : Cx) (f : Value → Value → Sem Value) (r : R2) : Prop :=
 ∀ (pins : List (Addr × Obj)) (s : Shared) (σ : St) (H : Hp) (x y : V) (v u : Value) (Q : VK), Inv X pins σ H s → RelV x v → RelV y u → r x y H Q →
  wpAny (model X.prog X.w) X.A (f v u) (EP X pins σ Q) X.xe s
noncomputable def UnR (X : Cx) (f : Value → Sem Value) (r : V → Hp → VK → Prop) : Prop :=
 ∀ (pins : List (Addr × Obj)) (s : Shared) (σ : St) (H : Hp) (x : V) (v : Value) (Q : VK), Inv X pins σ H s → RelV x v → r x H Q →
  wpAny (model X.prog X.w) X.A (f v) (EP X pins σ Q) X.xe s
noncomputable def CallR (X : Cx) (f : Value) (r : List V → Hp → VK → Prop) : Prop :=
 ∀ (pins : List (Addr × Obj)) (s : Shared) (σ : St) (H : Hp) (xs : List V) (us : List Value) (Q : VK), Inv X pins σ H s → Vals xs us → r xs H Q →
  wpAny (model X.prog X.w) X.A (call f us) (EP X pins σ Q) X.xe s
noncomputable def TruR (X : Cx) (r : V → Hp → (Bool → Hp → Prop) → Prop) : Prop :=
 ∀ (pins : List (Addr × Obj)) (s : Shared) (σ : St) (H : Hp) (x : V) (v : Value) (Q : Bool → Hp → Prop), Inv X pins σ H s → RelV x v → r x H Q →
  wpAny (model X.prog X.w) X.A (truthy v) (TP X pins σ Q) X.xe s
noncomputable def tOp (r : R2) (ta tb : TE) : TE := fun σ H Q => ta σ H fun x H1 => tb σ H1 fun y H2 => r x y H2 Q
noncomputable def tUn (r : V → Hp → VK → Prop) (ta : TE) : TE := fun σ H Q => ta σ H fun x H1 => r x H1 Q
noncomputable def rI (C : Int → Int → Prop) (g : Int → Int → V) : R2 := fun x y H Q => ∃ i j, x = .int i ∧ y = .int j ∧ C i j ∧ Q (g i j) H
noncomputable def rI0 (g : Int → Int → V) : R2 := fun x y H Q => ∃ i j, x = .int i ∧ y = .int j ∧ Q (g i j) H
noncomputable def rU (g : Int → V) : V → Hp → VK → Prop := fun x H Q => ∃ i, x = .int i ∧ Q (g i) H
section
variable {X : Cx} {a b c : Expr} {ta tb tc : TE} {pos : Pos}
theorem binT (ha : PE X a ta) (hb : PE X b tb) {pins : List (Addr × Obj)} {s : Shared} {σ : St} {H : Hp} {R : V → V → Hp → Prop} (I : Inv X pins σ H s)
  (h : ta σ H fun x H1 => tb σ H1 fun y H2 => R x y H2) {Q : Value → Shared → Prop} {f : Value → Value → Sem Value}
  (hf : ∀ v u s2 x y H2, Inv X pins σ H2 s2 → RelV x v → RelV y u → R x y H2 → wpAny (model X.prog X.w) X.A (f v u) Q X.xe s2) :
  wpAny (model X.prog X.w) X.A (eval a X.env) (fun v s₁ => wpAny (model X.prog X.w) X.A (eval b X.env) (fun u s₂ => wpAny (model X.prog X.w) X.A (f v u) Q X.xe s₂) X.xe s₁) X.xe s := by
 refine thn (ha pins s σ H _ I h) fun v s1 ⟨x, H1, I1, r1, q1⟩ => ?_
 refine thn (hb pins s1 σ H1 _ I1 q1) fun u s2 ⟨y, H2, I2, r2, q2⟩ => ?_
 exact hf v u s2 x y H2 I2 r1 r2 q2
theorem pe_op {op : Operator} {r : R2} (ho : OpR X (binaryOp op) r) (ha : PE X a ta) (hb : PE X b tb) : PE X (.BinOp a op b pos) (tOp r ta tb) := by
 intro pins s σ H Q I h
 exact wpAny_BinOp (binT ha hb I h fun v u s2 x y H2 I2 rx ry q => ho pins s2 σ H2 x y v u Q I2 rx ry q)
theorem pe_un {op : UnaryOp} {r : V → Hp → VK → Prop} (ho : UnR X (unaryOp op) r) (ha : PE X a ta) : PE X (.UnaryOp op a pos) (tUn r ta) := by
 intro pins s σ H Q I h
 exact UnaryOp_ (thn (ha pins s σ H _ I h) fun v s1 ⟨x, H1, I1, r1, q1⟩ => ho pins s1 σ H1 x v Q I1 r1 q1)
theorem opI {f : Value → Value → Sem Value} {C : Int → Int → Prop} {g : Int → Int → Int}
  (rule : ∀ (i j : Int) (t u : Tok) (s : Shared) (Q : Value → Shared → Prop) (E : Value → Shared → Prop), C i j → Q (.int (g i j) s.toks) { s with toks := s.toks + 1 } → wpAny (model X.prog X.w) X.A (f (.int i t) (.int j u)) Q E s) :
  OpR X f (rI C fun i j => .int (g i j)) := by
 intro pins s σ H x y v u Q I rx ry h
 obtain ⟨i, j, rfl, rfl, hc, q⟩ := h
 obtain ⟨t, rfl⟩ := rx
 obtain ⟨t', rfl⟩ := ry
 exact rule i j t t' s _ _ hc ⟨.int (g i j), H, I.tok _, ⟨_, rfl⟩, q⟩
theorem opI0 {f : Value → Value → Sem Value} {g : Int → Int → Int}
  (rule : ∀ (i j : Int) (t u : Tok) (s : Shared) (Q : Value → Shared → Prop) (E : Value → Shared → Prop), Q (.int (g i j) s.toks) { s with toks := s.toks + 1 } → wpAny (model X.prog X.w) X.A (f (.int i t) (.int j u)) Q E s) :
  OpR X f (rI0 fun i j => .int (g i j)) := by
 intro pins s σ H x y v u Q I rx ry h
 obtain ⟨i, j, rfl, rfl, q⟩ := h
 obtain ⟨t, rfl⟩ := rx
 obtain ⟨t', rfl⟩ := ry
 exact rule i j t t' s _ _ ⟨.int (g i j), H, I.tok _, ⟨_, rfl⟩, q⟩
theorem opB0 {f : Value → Value → Sem Value} {g : Int → Int → Bool}
  (rule : ∀ (i j : Int) (t u : Tok) (s : Shared) (Q : Value → Shared → Prop) (E : Value → Shared → Prop), Q (.bool (g i j)) s → wpAny (model X.prog X.w) X.A (f (.int i t) (.int j u)) Q E s) :
  OpR X f (rI0 fun i j => .bl (g i j)) := by
 intro pins s σ H x y v u Q I rx ry h
 obtain ⟨i, j, rfl, rfl, q⟩ := h
 obtain ⟨t, rfl⟩ := rx
 obtain ⟨t', rfl⟩ := ry
 exact rule i j t t' s _ _ ⟨.bl (g i j), H, I, rfl, q⟩
noncomputable def CDiv (i j : Int) : Prop := 0 < j ∧ j < 1073741824
noncomputable def CPow (i j : Int) : Prop := 0 ≤ j ∧ j ≤ 1000000 ∧ i.natAbs < 2 ^ 64
noncomputable def CMul (i j : Int) : Prop := (-(2 ^ 64) < i ∧ i < 2 ^ 64) ∨ (-(2 ^ 64) < j ∧ j < 2 ^ 64)
theorem CMul.ok {i j : Int} (h : CMul i j) : IntMulOk i j := by
 rcases h with ⟨h1, h2⟩ | ⟨h1, h2⟩
 ·exact .of_left (intBits_le_64 h1 h2)
 ·exact .of_right (intBits_le_64 h1 h2)
theorem op_add : OpR X (binaryOp .Add) (rI0 fun i j => .int (i + j)) := opI0 fun _ _ _ _ _ _ _ q => add_int q
theorem op_sub : OpR X (binaryOp .Sub) (rI0 fun i j => .int (i - j)) := opI0 fun _ _ _ _ _ _ _ q => sub_int q
theorem op_mul : OpR X (binaryOp .Mult) (rI CMul fun i j => .int (i * j)) := opI fun _ _ _ _ _ _ _ hc q => mul_int q hc.ok
theorem op_fdiv : OpR X (binaryOp .FloorDiv) (rI CDiv fun i j => .int (i / j)) := opI fun i j _ _ _ _ _ hc q => by
 have h1 : (0 : Int) < j := hc.1
 have h2 : j < 1073741824 := hc.2
 exact floordiv_int (by omega) (by rw [Int.fdiv_eq_ediv_of_nonneg i (by omega)]; exact q) (.inl (PyProof.noPylong_small (by omega)))
theorem op_mod : OpR X (binaryOp .Mod) (rI (fun _ j => 0 < j) fun i j => .int (i % j)) := opI fun i j _ _ _ _ _ hc q => by
 have h1 : (0 : Int) < j := hc
 exact mod_int' (by omega) (by rw [Int.fmod_eq_emod_of_nonneg i (by omega)]; exact q)
theorem op_pow : OpR X (binaryOp .Pow) (rI CPow fun i j => .int (i ^ j.toNat)) := opI fun _ _ _ _ _ _ _ hc q => pow_int_small hc.1 hc.2.1 hc.2.2 q
theorem unI {f : Value → Sem Value} {g : Int → Int}
  (rule : ∀ (i : Int) (t : Tok) (s : Shared) (Q : Value → Shared → Prop) (E : Value → Shared → Prop), Q (.int (g i) s.toks) { s with toks := s.toks + 1 } → wpAny (model X.prog X.w) X.A (f (.int i t)) Q E s) :
  UnR X f (rU fun i => .int (g i)) := by
 intro pins s σ H x v Q I rx h
 obtain ⟨i, rfl, q⟩ := h
 obtain ⟨t, rfl⟩ := rx
 exact rule i t s _ _ ⟨.int (g i), H, I.tok _, ⟨_, rfl⟩, q⟩
theorem un_neg : UnR X (unaryOp .USub) (rU fun i => .int (-i)) := unI fun _ _ _ _ _ q => neg_int q
end
noncomputable def scal : V → V → Bool
 | .non, .non => true | .non, .int _ => true | .int _, .non => true | .non, .bl _ => true | .bl _, .non => true | .non, .str _ => true | .str _, .non => true
 | .int _, .int _ => true | .bl _, .bl _ => true | .str _, .str _ => true | .byt _, .byt _ => true
 | .int _, .str _ => true | .str _, .int _ => true | .bl _, .str _ => true | .str _, .bl _ => true
 | _, _ => false
noncomputable def rEq : R2 := fun x y H Q => scal x y = true ∧ Q (.bl (decide (x = y))) H
noncomputable def rNe : R2 := fun x y H Q => scal x y = true ∧ Q (.bl (!decide (x = y))) H
theorem dec_int {i j : Int} : decide (V.int i = V.int j) = (i == j) := by
 rw [Bool.eq_iff_iff]
 simp
theorem dec_bl {i j : Bool} : decide (V.bl i = V.bl j) = (i == j) := by
 rw [Bool.eq_iff_iff]
 simp
theorem dec_str {i j : Str} : decide (V.str i = V.str j) = (i == j) := by
 rw [Bool.eq_iff_iff]
 simp
theorem dec_byt {i j : Array UInt8} : decide (V.byt i = V.byt j) = (i.toList == j.toList) := by
 rw [Bool.eq_iff_iff]
 cases i
 cases j
 simp
section
variable {X : Cx} {a b c : Expr} {ta tb tc : TE} {pos : Pos}
theorem fin_bl {pins : List (Addr × Obj)} {σ : St} {H : Hp} {s : Shared} {Q : VK} {k k' : Bool} (I : Inv X pins σ H s) (q : Q (.bl k) H) (e : k = k') : EP X pins σ Q (.bool k') s := by
 subst e
 exact ⟨.bl k, H, I, rfl, q⟩
theorem op_eq : OpR X (compareOp .Eq) rEq := by
 intro pins s σ H x y v u Q I rx ry h
 obtain ⟨hs, q⟩ := h
 cases x with
 | non =>
  cases rx
  cases y with
  | non => cases ry; exact PySem.EqNone.eq_none_none (fin_bl I q (by simp))
  | bl j => cases ry; exact PySem.EqNone.eq_none_bool (fin_bl I q (by simp))
  | int j => obtain ⟨t', rfl⟩ := ry; exact PySem.EqNone.eq_none_int (fin_bl I q (by simp))
  | str j => obtain ⟨t', rfl⟩ := ry; exact PySem.EqNone.eq_none_str (fin_bl I q (by simp))
  | _ => exact absurd (show false = true from hs) Bool.false_ne_true
 | bl i =>
  cases rx
  cases y with
  | non => cases ry; exact PySem.EqNone.eq_bool_none (fin_bl I q (by simp))
  | bl j => cases ry; exact eq_bool (fin_bl I q dec_bl)
  | str j => obtain ⟨t', rfl⟩ := ry; exact PySem.EqMixed.eq_bool_str (fin_bl I q (by simp))
  | _ => exact absurd (show false = true from hs) Bool.false_ne_true
 | int i =>
  obtain ⟨t, rfl⟩ := rx
  cases y with
  | non => cases ry; exact PySem.EqNone.eq_int_none (fin_bl I q (by simp))
  | int j => obtain ⟨t', rfl⟩ := ry; exact eq_int (fin_bl I q dec_int)
  | str j => obtain ⟨t', rfl⟩ := ry; exact PySem.EqMixed.eq_int_str (fin_bl I q (by simp))
  | _ => exact absurd (show false = true from hs) Bool.false_ne_true
 | str i =>
  obtain ⟨t, rfl⟩ := rx
  cases y with
  | non => cases ry; exact PySem.EqNone.eq_str_none (fin_bl I q (by simp))
  | bl j => cases ry; exact PySem.EqMixed.eq_str_bool (fin_bl I q (by simp))
  | int j => obtain ⟨t', rfl⟩ := ry; exact PySem.EqMixed.eq_str_int (fin_bl I q (by simp))
  | str j => obtain ⟨t', rfl⟩ := ry; exact eq_str (fin_bl I q dec_str)
  | _ => exact absurd (show false = true from hs) Bool.false_ne_true
 | byt i =>
  obtain ⟨t, rfl⟩ := rx
  cases y with
  | byt j => obtain ⟨t', rfl⟩ := ry; exact PySem.W.eq_bytes (fin_bl I q dec_byt)
  | _ => exact absurd (show false = true from hs) Bool.false_ne_true
 | _ => cases y <;> exact absurd (show false = true from hs) Bool.false_ne_true
theorem op_ne : OpR X (compareOp .NotEq) rNe := by
 intro pins s σ H x y v u Q I rx ry h
 obtain ⟨hs, q⟩ := h
 cases x with
 | non =>
  cases rx
  cases y with
  | non => cases ry; exact PySem.EqNone.ne_none_none (fin_bl I q (by simp))
  | bl j => cases ry; exact PySem.EqNone.ne_none_bool (fin_bl I q (by simp))
  | int j => obtain ⟨t', rfl⟩ := ry; exact PySem.EqNone.ne_none_int (fin_bl I q (by simp))
  | str j => obtain ⟨t', rfl⟩ := ry; exact PySem.EqNone.ne_none_str (fin_bl I q (by simp))
  | _ => exact absurd (show false = true from hs) Bool.false_ne_true
 | bl i =>
  cases rx
  cases y with
  | non => cases ry; exact PySem.EqNone.ne_bool_none (fin_bl I q (by simp))
  | bl j => cases ry; exact ne_bool (fin_bl I q (congrArg not dec_bl))
  | str j => obtain ⟨t', rfl⟩ := ry; exact PySem.EqMixed.ne_bool_str (fin_bl I q (by simp))
  | _ => exact absurd (show false = true from hs) Bool.false_ne_true
 | int i =>
  obtain ⟨t, rfl⟩ := rx
  cases y with
  | non => cases ry; exact PySem.EqNone.ne_int_none (fin_bl I q (by simp))
  | int j => obtain ⟨t', rfl⟩ := ry; exact ne_int (fin_bl I q (congrArg not dec_int))
  | str j => obtain ⟨t', rfl⟩ := ry; exact PySem.EqMixed.ne_int_str (fin_bl I q (by simp))
  | _ => exact absurd (show false = true from hs) Bool.false_ne_true
 | str i =>
  obtain ⟨t, rfl⟩ := rx
  cases y with
  | non => cases ry; exact PySem.EqNone.ne_str_none (fin_bl I q (by simp))
  | bl j => cases ry; exact PySem.EqMixed.ne_str_bool (fin_bl I q (by simp))
  | int j => obtain ⟨t', rfl⟩ := ry; exact PySem.EqMixed.ne_str_int (fin_bl I q (by simp))
  | str j => obtain ⟨t', rfl⟩ := ry; exact ne_str (fin_bl I q (congrArg not dec_str))
  | _ => exact absurd (show false = true from hs) Bool.false_ne_true
 | byt i =>
  obtain ⟨t, rfl⟩ := rx
  cases y with
  | byt j => obtain ⟨t', rfl⟩ := ry; exact PySem.W.ne_bytes (fin_bl I q (congrArg not dec_byt))
  | _ => exact absurd (show false = true from hs) Bool.false_ne_true
 | _ => cases y <;> exact absurd (show false = true from hs) Bool.false_ne_true
theorem op_lt : OpR X (compareOp .Lt) (rI0 fun i j => .bl (decide (i < j))) := opB0 fun _ _ _ _ _ _ _ q => lt_int q
theorem op_le : OpR X (compareOp .LtE) (rI0 fun i j => .bl (decide (i ≤ j))) := opB0 fun _ _ _ _ _ _ _ q => le_int q
theorem op_ge : OpR X (compareOp .GtE) (rI0 fun i j => .bl (decide (j ≤ i))) := opB0 fun _ _ _ _ _ _ _ q => ge_int q
theorem op_lt_str : OpR X (compareOp .Lt) (fun x y H Q => ∃ i j, x = .str i ∧ y = .str j ∧ Q (.bl (decide (i.cps.toList < j.cps.toList))) H) := by
 intro pins s σ H x y v u Q I rx ry h
 obtain ⟨i, j, rfl, rfl, q⟩ := h
 obtain ⟨t, rfl⟩ := rx
 obtain ⟨t', rfl⟩ := ry
 exact lt_str (fin_bl I q rfl)
theorem op_notin_str : OpR X (compareOp .NotIn) (fun x y H Q => ∃ i j, x = .str i ∧ y = .str j ∧ Q (.bl (!(!(Builtin.Str.occurrences j i 0 j.length 1).isEmpty))) H) := by
 intro pins s σ H x y v u Q I rx ry h
 obtain ⟨i, j, rfl, rfl, q⟩ := h
 obtain ⟨t, rfl⟩ := rx
 obtain ⟨t', rfl⟩ := ry
 exact notIn_str (fin_bl I q rfl)
theorem nomark (b : Expr) {op : CmpOp} (h : op ≠ .In := by decide) (h2 : op ≠ .NotIn := by decide) : behindInMarks op b = false := by
 have e1 : (op == CmpOp.In) = false := by cases op <;> first | rfl | exact absurd rfl h
 have e2 : (op == CmpOp.NotIn) = false := by cases op <;> first | rfl | exact absurd rfl h2
 cases b <;> simp [behindInMarks, e1, e2]
theorem pe_cmpR {op : CmpOp} {r : R2} (ho : OpR X (compareOp op) r) (ha : PE X a ta) (hb : PE X b tb) (hm : behindInMarks op b = false) : PE X (.Compare a [op] [b] pos) (tOp r ta tb) := by
 intro pins s σ H Q I h
 exact wpAny_Compare1 (binT ha hb I h fun v u s2 x y H2 I2 rx ry q => ho pins s2 σ H2 x y v u Q I2 rx ry q) hm
noncomputable def tTest (t : TE) : TT := fun σ H Q => t σ H fun x H' => ∃ k, x = .bl k ∧ Q k H'
theorem pt_cmpR {op : CmpOp} {r : R2} (ho : OpR X (compareOp op) r) (ha : PE X a ta) (hb : PE X b tb) (hm : behindInMarks op b = false) : PT X (.Compare a [op] [b] pos) (tTest (tOp r ta tb)) := by
 intro pins s σ H Q I h
 refine wpAny_isTrue_Compare1 (thn (ha pins s σ H _ I h) fun v s1 ⟨x, H1, I1, r1, q1⟩ => thn (hb pins s1 σ H1 _ I1 q1) fun u s2 ⟨y, H2, I2, r2, q2⟩ =>
  thn (ho pins s2 σ H2 x y v u _ I2 r1 r2 q2) fun c s3 ⟨z, H3, I3, r3, k, e, q3⟩ => ?_) hm
 subst e
 cases r3
 exact wpAny_truthy_bool ⟨H3, I3, q3⟩
noncomputable def tChain (r r' : R2) (ta tb tc : TE) : TE := fun σ H Q => ta σ H fun x H1 => tb σ H1 fun y H2 => r x y H2 fun z H3 => ∃ k, z = .bl k ∧
 (if k = true then tc σ H3 fun w' H4 => r' y w' H4 Q else Q (.bl false) H3)
theorem pe_chain {op op' : CmpOp} {r r' : R2} (ho : OpR X (compareOp op) r) (ho' : OpR X (compareOp op') r') (ha : PE X a ta) (hb : PE X b tb) (hc : PE X c tc)
  (hm : lastMarks [op, op'] [b, c] = false := by with_unfolding_all rfl) : PE X (.Compare a [op, op'] [b, c] pos) (tChain r r' ta tb tc) := by
 intro pins s σ H Q I h
 refine Compare_chain (thn (ha pins s σ H _ I h) fun v s1 ⟨x, H1, I1, r1, q1⟩ => chain_link (thn (hb pins s1 σ H1 _ I1 q1) fun u s2 ⟨y, H2, I2, r2, q2⟩ =>
  thn (ho pins s2 σ H2 x y v u _ I2 r1 r2 q2) fun d s3 ⟨z, H3, I3, r3, k, e, q3⟩ => ?_)) hm
 subst e
 cases r3
 refine wpAny_truthy_bool ?_
 cases k with
 | false => exact ite_ff ⟨.bl false, H3, I3, rfl, q3⟩
 | true => exact ite_tt (chain_last (thn (hc pins s3 σ H3 _ I3 q3) fun w' s4 ⟨z', H4, I4, r4, q4⟩ => ho' pins s4 σ H4 y z' u w' Q I4 r2 r4 q4))
theorem pt_chain {op op' : CmpOp} {r r' : R2} (ho : OpR X (compareOp op) r) (ho' : OpR X (compareOp op') r') (ha : PE X a ta) (hb : PE X b tb) (hc : PE X c tc)
  (hm : lastMarks [op, op'] [b, c] = false := by with_unfolding_all rfl) : PT X (.Compare a [op, op'] [b, c] pos) (tTest (tChain r r' ta tb tc)) := by
 intro pins s σ H Q I h
 refine isTrue_chain (thn (ha pins s σ H _ I h) fun v s1 ⟨x, H1, I1, r1, q1⟩ => test_link (thn (hb pins s1 σ H1 _ I1 q1) fun u s2 ⟨y, H2, I2, r2, q2⟩ =>
  thn (ho pins s2 σ H2 x y v u _ I2 r1 r2 q2) fun d s3 ⟨z, H3, I3, r3, k, e, q3⟩ => ?_)) hm
 subst e
 cases r3
 refine wpAny_truthy_bool ?_
 cases k with
 | false =>
  obtain ⟨k', e', q'⟩ := q3
  cases e'
  exact ite_ff ⟨H3, I3, q'⟩
 | true =>
  refine ite_tt (test_last (thn (hc pins s3 σ H3 _ I3 q3) fun w' s4 ⟨z', H4, I4, r4, q4⟩ => thn (ho' pins s4 σ H4 y z' u w' _ I4 r2 r4 q4) fun d' s5 ⟨z2, H5, I5, r5, k2, e2, q5⟩ => ?_))
  subst e2
  cases r5
  exact wpAny_truthy_bool ⟨H5, I5, q5⟩
noncomputable def TruV (K : PySem.W.Frag) (x : V) (H : Hp) (k : Bool) : Prop :=
 match x with
 | .non => k = false
 | .bl b => k = b
 | .int i => k = (i != 0)
 | .str y => y.length ≤ sizeLine ∧ k = ((y.length : Int) != 0)
 | .byt y => y.size ≤ sizeLine ∧ k = ((y.size : Int) != 0)
 | .ref p => (∃ xs, SqL K H p xs ∧ k = !xs.isEmpty) ∨ (∃ xs, SqT K H p xs ∧ k = !xs.isEmpty) ∨ ∃ kvs, H p = some (.dK kvs) ∧ k = !kvs.isEmpty
 | _ => False
theorem isEmpty_kv {κ : Type} {kvs : List (κ × V)} {vs : List (κ × Value)} (r : KV kvs vs) : (!vs.isEmpty) = !kvs.isEmpty := by
 cases r <;> rfl
theorem isEmpty_of {xs : List V} {its : List Value} (r : Vals xs its) : (!its.toArray.isEmpty) = !xs.isEmpty := by
 cases r <;> simp
theorem line63 : (sizeLine : Nat) < 2 ^ 63 := by rw [sizeLine_eq]; decide
theorem tru_ok : TruR X (fun x H Q => ∃ k, TruV X.K x H k ∧ Q k H) := by
 intro pins s σ H x v Q I rx h
 obtain ⟨k, e, q⟩ := h
 have hl := line63
 have hs : sizeLine = 16777216 := sizeLine_eq
 cases x with
 | non =>
  cases rx
  have e' : k = false := e
  subst e'
  exact truthy_none ⟨H, I, q⟩
 | bl b =>
  cases rx
  have e' : k = b := e
  subst e'
  exact wpAny_truthy_bool ⟨H, I, q⟩
 | int i =>
  obtain ⟨t, rfl⟩ := rx
  have e' : k = (i != 0) := e
  subst e'
  exact PySem.P.truthy_int ⟨H, I, q⟩
 | str y =>
  obtain ⟨t, rfl⟩ := rx
  obtain ⟨hy, e'⟩ : y.length ≤ sizeLine ∧ k = ((y.length : Int) != 0) := e
  subst e'
  exact PySem.P.truthy_str (by omega) ⟨H, I.tok _, q⟩
 | byt y =>
  obtain ⟨t, rfl⟩ := rx
  obtain ⟨hy, e'⟩ : y.size ≤ sizeLine ∧ k = ((y.size : Int) != 0) := e
  subst e'
  exact PySem.W.truthy_bytes (by omega) ⟨H, I.tok _, q⟩
 | ref p =>
  cases rx
  have e' : (∃ xs, SqL X.K H p xs ∧ k = !xs.isEmpty) ∨ (∃ xs, SqT X.K H p xs ∧ k = !xs.isEmpty) ∨ ∃ kvs, H p = some (.dK kvs) ∧ k = !kvs.isEmpty := e
  rcases e' with ⟨xs, hx, e'⟩ | ⟨xs, hx, e'⟩ | ⟨kvs, hx, e'⟩
  ·subst e'
   obtain ⟨its, r, pl, hz⟩ := I.list hx
   have hlen := r.length
   exact wpAny_truthy_list pl.isList (by simp only [List.size_toArray]; omega) ⟨H, I.tok _, by rw [isEmpty_of r]; exact q⟩
  ·subst e'
   obtain ⟨its, r, pl, hz⟩ := I.tuple hx
   have hlen := r.length
   exact truthy_tuple pl (by simp only [List.size_toArray]; omega) ⟨H, I.tok _, by rw [isEmpty_of r]; exact q⟩
  ·subst e'
   obtain ⟨hz, hS, vs, r, m⟩ : kvs.length ≤ sizeLine ∧ (p == sysModules) = false ∧ ∃ vs, KV kvs vs ∧ s.heap.DictOf (mixKind X.prog X.w) p vs := I.hok p _ hx
   have hlen : kvs.length = vs.length := Paired.length r
   exact wpAny_truthy_dict hS m (by omega) ⟨H, I.tok _, by rw [isEmpty_kv r]; exact q⟩
 | _ => exact (show False from e).elim
theorem pt_truth (ha : PE X a ta) (he : ∀ whole, isTrue a X.env whole = (do let v ← whole; standAt a.pos; holding [v] (truthy v))) :
  PT X a (fun σ H Q => ta σ H fun x H' => ∃ k, TruV X.K x H' k ∧ Q k H') := by
 intro pins s σ H Q I h
 exact isTrue_plain (thn (ha pins s σ H _ I h) fun v s1 ⟨x, H1, I1, r1, q1⟩ => tru_ok pins s1 σ H1 x v Q I1 r1 q1) (he _)
theorem op_add_str : OpR X (binaryOp .Add) (fun x y H Q => ∃ i j, x = .str i ∧ y = .str j ∧ i.length + j.length ≤ sizeLine ∧ Q (.str (i ++ j)) H) := by
 intro pins s σ H x y v u Q I rx ry h
 obtain ⟨i, j, rfl, rfl, hz, q⟩ := h
 obtain ⟨t, rfl⟩ := rx
 obtain ⟨t', rfl⟩ := ry
 exact add_str (fun t' tk => ⟨.str (i ++ j), H, I.tok _, ⟨_, rfl⟩, q⟩) hz
theorem vals1 {x : V} {us : List Value} (r : Vals [x] us) : ∃ u, us = [u] ∧ RelV x u := by
 cases r with
 | cons r1 r2 => cases r2; exact ⟨_, rfl, r1⟩
theorem vals2 {x y : V} {us : List Value} (r : Vals [x, y] us) : ∃ u w', us = [u, w'] ∧ RelV x u ∧ RelV y w' := by
 cases r with
 | cons r1 r2 =>
  cases r2 with
  | cons r3 r4 => cases r4; exact ⟨_, _, rfl, r1, r3⟩
noncomputable def LenV (K : PySem.W.Frag) (x : V) (H : Hp) (n : Nat) : Prop :=
 match x with
 | .str y => y.length ≤ sizeLine ∧ n = y.length
 | .byt y => y.size ≤ sizeLine ∧ n = y.size
 | .ref p => (∃ xs, SqL K H p xs ∧ n = xs.length) ∨ ∃ xs, SqT K H p xs ∧ n = xs.length
 | _ => False
theorem call_len : CallR X (.builtin "len") (fun xs H Q => ∃ x n, xs = [x] ∧ LenV X.K x H n ∧ Q (.int n) H) := by
 intro pins s σ H xs us Q I r h
 obtain ⟨x, n, rfl, e, q⟩ := h
 obtain ⟨u, rfl, rx⟩ := vals1 r
 have hl := line63
 have hs : sizeLine = 16777216 := sizeLine_eq
 cases x with
 | str y =>
  obtain ⟨t, rfl⟩ := rx
  obtain ⟨hy, e'⟩ : y.length ≤ sizeLine ∧ n = y.length := e
  subst e'
  exact len_str (by omega) ⟨.int _, H, I.tok _, ⟨_, rfl⟩, q⟩
 | byt y =>
  obtain ⟨t, rfl⟩ := rx
  obtain ⟨hy, e'⟩ : y.size ≤ sizeLine ∧ n = y.size := e
  subst e'
  exact PySem.W.len_bytes (by omega) ⟨.int _, H, I.tok _, ⟨_, rfl⟩, q⟩
 | ref p =>
  cases rx
  have e' : (∃ xs, SqL X.K H p xs ∧ n = xs.length) ∨ ∃ xs, SqT X.K H p xs ∧ n = xs.length := e
  rcases e' with ⟨xs, hx, e'⟩ | ⟨xs, hx, e'⟩
  ·subst e'
   obtain ⟨its, r', pl, hz⟩ := I.list hx
   have hlen := r'.length
   exact Calls.call_len_list pl.isList (by simp only [List.size_toArray]; omega) ⟨.int xs.length, H, I.tok _, ⟨_, by simp only [List.size_toArray]; rw [hlen]⟩, q⟩
  ·subst e'
   obtain ⟨its, r', pl, hz⟩ := I.tuple hx
   have hlen := r'.length
   exact len_tuple pl (by simp only [List.size_toArray]; omega) ⟨.int xs.length, H, I.tok _, ⟨_, by simp only [List.size_toArray]; rw [hlen]⟩, q⟩
 | _ => exact (show False from e).elim
end
end L2
namespace L2
open PySem PySem.Spec PyProof.Rows
structure ObjM (h : Heap) (x dx C : Addr) (mA : Str → Option Value) : Prop where
 obj : h.get? x = some (PySem.W.instObj C dx)
 ns : h.Ns1 dx mA
 ne : dx ≠ x
theorem lookIn_ns {h : Heap} {dx : Addr} {mA : Str → Option Value} (n : h.Ns1 dx mA) : ∃ od, h.get? dx = some od ∧ ∀ name, PySem.W.lookIn name od = some (mA name) := by
 obtain ⟨o, es, ep, ho, hd, hk, _, hm⟩ := n
 refine ⟨o, ho, fun name => ?_⟩
 have e := hm name
 unfold nsFind findBy at e
 rw [← Array.find?_toList] at e
 unfold PySem.W.lookIn
 rw [hd]
 dsimp only
 split
 ·rename_i y q
  rw [q] at e
  exact congrArg some e
 ·rename_i q
  rw [q] at e
  have a : es.toList.any (·.refKey) = false := by
   rw [List.any_eq_false]
   intro y hy
   obtain ⟨z, t, hkey⟩ := hk y (Array.mem_toList_iff.mp hy)
   simp [DictEntry.refKey, hkey]
  have a' : ¬ es.toList.any (·.refKey) = true := by rw [a]; exact Bool.false_ne_true
  rw [if_neg a']
  exact congrArg some e
theorem ObjM.look {h : Heap} {x dx C : Addr} {mA : Str → Option Value} (I : ObjM h x dx C mA) : ∃ od, PySem.W.InstAt h x (PySem.W.instObj C dx) C (some od) ∧ ∀ name, PySem.W.lookIn name od = some (mA name) :=
 let ⟨od, ho, hl⟩ := lookIn_ns I.ns
 ⟨od, ⟨I.obj, rfl, rfl, ho⟩, hl⟩
section
variable {prog : Program} {w : World} {A : Around} {E : Value → Shared → Prop} {s : Shared} {K : PySem.W.Frag} {x dx C f : Addr} {mA : Str → Option Value} {name : Str} {v : Value}
end
section
variable {P : Program} {w : World} {H H' : Hp} {h h' : Heap} {a C dx : Addr} {fs fs' : List (Str × V)}
theorem ins_get (hok : HOk P w H h) (e : H a = some (.ins C dx fs)) : ∃ mA, ObjM h a dx C mA ∧ (∀ f, RelO (fs.lookup f) (mA f)) ∧ PySem.Within mA (fs.map (·.1)) ∧ fs.length ≤ 1000 ∧ H dx = some (.own a) := by
 obtain ⟨d, z, ne, ob, mA, n, r, q⟩ := (show ObjOk P w H h a (.ins C dx fs) from hok a _ e)
 exact ⟨mA, ⟨ob, n, ne⟩, r, q, z, d⟩
end
structure Cls (K : PySem.W.Frag) (C : Addr) : Prop where
 pg : PySem.W.plainGet K C Str.empty = true
 hd : PySem.W.hasDictIn K C = true
 po : PySem.W.plainOver K C = true
 sa : PySem.W.findIn K (.ref C) "__setattr__" = some (some (.builtin "object.__setattr__"))
theorem Cls.get {K : PySem.W.Frag} {C : Addr} (c : Cls K C) (f : Str) : PySem.W.plainGet K C f = true := c.pg
section
variable {X : Cx} {pins : List (Addr × Obj)} {σ : St} {H : Hp} {s : Shared} {a C dx : Addr} {fs : List (Str × V)} {f : Str} {v : V} {A : Around} {E : Value → Shared → Prop}
end
section
variable {X : Cx} {o e value : Expr} {f : Str} {pos pos' tpos : Pos} {ta tv : TE}
end
section
variable {X : Cx} {pins : List (Addr × Obj)} {σ : St} {H : Hp} {s : Shared} {A : Around} {E : Value → Shared → Prop} {Q : Value → Shared → Prop} {c : Value} {b : Bool}
inductive TyOf (K : PySem.W.Frag) (H : Hp) : V → Value → Prop where
 | non : TyOf K H .non (.type "NoneType")
 | bl (x : Bool) : TyOf K H (.bl x) (.type "bool")
 | int (i : Int) : TyOf K H (.int i) (.type "int")
 | str (x : Str) : TyOf K H (.str x) (.type "str")
 | flt (x : UInt64) : TyOf K H (.flt x) (.type "float")
 | lst {a : Addr} {xs : List V} (e : H a = some (.lst xs)) : TyOf K H (.ref a) (.type "list")
 | frz {a : Addr} {o : Obj} {xs : List V} (e : H a = some (.frz o (.lst xs))) : TyOf K H (.ref a) (.type "list")
 | tup {a : Addr} {xs : List V} (e : H a = some (.tup xs)) : TyOf K H (.ref a) (.type "tuple")
 | dK {a : Addr} {kvs : List (Key × V)} (e : H a = some (.dK kvs)) : TyOf K H (.ref a) (.type "dict")
 | dT {a : Addr} {kvs : List (List Key × V)} (e : H a = some (.dT kvs)) : TyOf K H (.ref a) (.type "dict")
 | ins {a C dx : Addr} {fs : List (Str × V)} (e : H a = some (.ins C dx fs)) (cl : Cls K C) (ha : PySem.W.findIn K (.ref C) "__class__" = some (some (.builtin "object.__class__")))
   (hn : PySem.W.specialIn K (.builtin "object.__class__") "__get__" = some (some (.builtin "getset_descriptor.__get__"))) (htk : PySem.W.takesIn K (.builtin "object.__class__") = some true)
   (hm : PySem.W.mroIn K C (.type "object") = some true) : TyOf K H (.ref a) (.ref C)
theorem isinst_ok {x : V} {u t : Value} (I : Inv X pins σ H s) (rx : RelV x u) (ty : TyOf X.K H x t) (e : PySem.W.kitOne X.K t c = some b) (h : ∀ tk, Q (.bool b) { s with toks := tk }) :
  wpAny (model X.prog X.w) A (call (.builtin "isinstance") [u, c]) Q E s := by
 cases ty with
 | non => cases (show u = Value.none from rx); exact PySem.W.kia_one PySem.W.kitx_none I.kIn True.intro e (fun z => nomatch z) h
 | bl y => cases (show u = Value.bool y from rx); exact PySem.W.kia_one PySem.W.kitx_bool I.kIn True.intro e (fun z => nomatch z) h
 | int i => obtain ⟨t, q⟩ := (show ∃ t, u = Value.int i t from rx); cases q; exact PySem.W.kia_one PySem.W.kitx_int I.kIn True.intro e (fun z => nomatch z) h
 | str y => obtain ⟨t, q⟩ := (show ∃ t, u = Value.str y t from rx); cases q; exact PySem.W.kia_one PySem.W.kitx_str I.kIn True.intro e (fun z => nomatch z) h
 | flt y => obtain ⟨t, q⟩ := (show ∃ t, u = Value.float y t from rx); cases q; exact PySem.W.kia_one PySem.W.kitx_float I.kIn True.intro e (fun z => nomatch z) h
 | @lst a xs ea =>
  cases (show u = Value.ref a from rx)
  obtain ⟨_, _, n, _, h1⟩ := (show ObjOk X.prog X.w H s.heap a (.lst xs) from I.hok a _ ea)
  exact PySem.W.kia_one PySem.W.kitx_list I.kIn ⟨_, h1, rfl⟩ e (fun z => nomatch z) h
 | @frz a ob xs ea =>
  cases (show u = Value.ref a from rx)
  obtain ⟨_, _, _, n, _, h1⟩ := (show ObjOk X.prog X.w H s.heap a (.frz ob (.lst xs)) from I.hok a _ ea)
  exact PySem.W.kia_one PySem.W.kitx_list I.kIn ⟨_, h1, rfl⟩ e (fun z => nomatch z) h
 | @tup a xs ea =>
  cases (show u = Value.ref a from rx)
  obtain ⟨_, _, _, p⟩ := (show ObjOk X.prog X.w H s.heap a (.tup xs) from I.hok a _ ea)
  obtain ⟨o, h1, h2, _⟩ := p
  exact PySem.W.kia_one PySem.W.kitx_tuple I.kIn ⟨o, h1, h2⟩ e (fun z => nomatch z) h
 | @dK a kvs ea =>
  cases (show u = Value.ref a from rx)
  obtain ⟨_, _, vs, _, p⟩ := (show ObjOk X.prog X.w H s.heap a (.dK kvs) from I.hok a _ ea)
  obtain ⟨o, es, ep, h1, h2, _⟩ := p
  exact PySem.W.kia_one PySem.W.kitx_dict I.kIn ⟨o, h1, h2.1⟩ e (fun z => nomatch z) h
 | @dT a kvs ea =>
  cases (show u = Value.ref a from rx)
  obtain ⟨_, _, xs, _, o, es, ep, h1, h2, _⟩ := (show ObjOk X.prog X.w H s.heap a (.dT kvs) from I.hok a _ ea)
  exact PySem.W.kia_one PySem.W.kitx_dict I.kIn ⟨o, h1, h2.1⟩ e (fun z => nomatch z) h
 | @ins a C dx fs ea cl ha hn htk hm =>
  cases (show u = Value.ref a from rx)
  obtain ⟨mA, O, _⟩ := ins_get I.hok ea
  obtain ⟨od, J, _⟩ := O.look
  exact PySem.W.kia_one (PySem.W.kitx_own (cl.get _) cl.hd ha hn htk hm) I.kIn J e (fun z => nomatch z) h
end
end L2
namespace L2
open PySem PySem.Spec PyProof.Rows
structure Room (k : Nat) (A : Around) : Prop where
 hd : A.handled = none
 dp : A.depth + 3 * k + 5 < recursionLimit
 un : A.units + 16 * k + 200 < cLine
 gd : A.guards = some []
theorem Room.mono {j k : Nat} {A : Around} (r : Room k A) (h : j ≤ k) : Room j A := ⟨r.hd, by have := r.dp; omega, by have := r.un; omega, r.gd⟩
theorem Room.deeper {k : Nat} {A : Around} (r : Room (k + 1) A) (env : Env) : Room k (A.deeper env) :=
 ⟨r.hd, by have := r.dp; show A.depth + 1 + 3 * k + 5 < _; omega, by have := r.un; show A.units + 3 + 16 * k + 200 < _; omega, r.gd⟩
theorem Room.depth {k : Nat} {A : Around} (r : Room k A) : A.depth < recursionLimit := by have := r.dp; omega
theorem Room.units {k : Nat} {A : Around} (r : Room k A) : A.units + 64 < cLine := by have := r.un; omega
noncomputable def tNil : TA := fun _ H Q => Q [] H
noncomputable def tCons (ta : TE) (tr : TA) : TA := fun σ H Q => ta σ H fun x H1 => tr σ H1 fun xs H2 => Q (x :: xs) H2
section
variable {X : Cx} {e : Expr} {es : List Expr} {te : TE} {t : TA} {pos : Pos}
theorem pa_nil : PA X [] tNil := fun _ _ _ _ H Q I h => Calls.spliced_nil ⟨[], H, I, .nil, h⟩
theorem pa_cons (ha : PE X e te) (hr : PA X es t) (hs : starEach (e :: es) X.env = (false, eval e X.env) :: starEach es X.env := by rfl) : PA X (e :: es) (tCons te t) := by
 intro pos pins s σ H Q I h
 rw [hs]
 show wpAny _ _ (spliced ((false, eval e X.env) :: backTo pos (starEach es X.env))) _ _ s
 refine Calls.spliced_cons (thn (ha pins s σ H _ I h) fun u s1 ⟨x, H1, I1, r1, q1⟩ => ?_)
 exact thn (hr pos pins s1 σ H1 _ I1 q1) fun us s2 ⟨xs, H2, I2, r2, q2⟩ => ⟨x :: xs, H2, I2, .cons r1 r2, q2⟩
noncomputable def tTup (t : TA) : TE := fun σ H Q => t σ H fun xs H1 => xs.length ≤ sizeLine ∧ ∀ p, H1 p = none → Q (.ref p) (upd H1 p (.tup xs))
noncomputable def tLst (t : TA) : TE := fun σ H Q => t σ H fun xs H1 => xs.length ≤ sizeLine ∧ ∀ p, H1 p = none → Q (.ref p) (upd H1 p (.lst xs))
theorem pe_tup {x1} (h : PA X es t) : PE X (.Tuple es x1 pos) (tTup t) := by
 intro pins s σ H Q I hq
 refine wpAny_Tuple_spliced (thn (h pos pins s σ H _ I hq) fun us s1 ⟨xs, H1, I1, r, z, q⟩ => ⟨by rw [← r.length]; exact z, ?_⟩)
 have hf : H1 s1.heap.objs.size = none := I1.hok.fresh (Nat.le_refl _)
 refine ⟨.ref s1.heap.objs.size, upd H1 s1.heap.objs.size (.tup xs), I1.laid (t' := s1.toks) (fun b u e => Heap.get?_push_of_some _ e) (Nat.le_refl _) ?_, rfl, q _ hf⟩
 exact ⟨z, us, r, ⟨_, Heap.get?_push_size _ rfl, rfl, _, rfl⟩⟩
theorem pe_lst (h : PA X es t) : PE X (.List es pos) (tLst t) := by
 intro pins s σ H Q I hq
 refine wpAny_List_spliced (thn (h pos pins s σ H _ I hq) fun us s1 ⟨xs, H1, I1, r, z, q⟩ => ⟨by rw [← r.length]; exact z, ?_⟩)
 have hf : H1 s1.heap.objs.size = none := I1.hok.fresh (Nat.le_refl _)
 refine ⟨.ref s1.heap.objs.size, upd H1 s1.heap.objs.size (.lst xs), I1.laid (t' := s1.toks) (fun b u e => Heap.get?_push_of_some _ e) (Nat.le_refl _) ?_, rfl, q _ hf⟩
 exact ⟨z, us, 0, r, Heap.get?_push_size _ rfl⟩
end
noncomputable abbrev Sp := List V → Hp → VK → XK → Prop
noncomputable abbrev CXT := List Env → Hp → Shared → XK → Value → Shared → Prop
structure Env0 (P : Program) (w : World) (K : PySem.W.Frag) (mg : Str → Option Value) (base : Heap) (A : Around) (outer : List Env) (s : Shared) (H : Hp) : Prop where
 frames : A.frames = some outer
 mod : Mod K mg base
 bs : ∀ b o, base.get? b = some o → s.heap.get? b = some o ∧ H b = none
 bsz : base.objs.size ≤ s.heap.objs.size
 funs : s.heap.FunFrames base outer
 frf : ∀ b ∈ frs outer, H b = none
 hok : HOk P w H s.heap
 bare : AllBare s.gens
noncomputable def CE (outer : List Env) (P : Program) (w : World) (H : Hp) (s : Shared) (Q : VK) (u : Value) (s' : Shared) : Prop :=
 ∃ v H', s'.os = s.os ∧ AllBare s'.gens ∧ Un (frs outer) [] H H' s.heap s'.heap ∧ HOk P w H' s'.heap ∧ RelV v u ∧ Q v H'
noncomputable def CR (CX : CXT) (outer : List Env) (P : Program) (w : World) (H : Hp) (s : Shared) (Q : VK) (E : XK) (r : Result) (s' : Shared) : Prop :=
 match r with
 | .ok (.ret u) => CE outer P w H s Q u s'
 | .ok _ => False
 | .error e => CX outer H s E e s'
structure FnOk (P : Program) (w : World) (K : PySem.W.Frag) (mg : Str → Option Value) (base : Heap) (CX : CXT) (k : Nat) (f : Addr) (fd : FuncData) (ps : List Str) (sp : Sp) : Prop where
 len : ∀ vs H Q E, sp vs H Q E → vs.length = ps.length
 run : ∀ (A : Around) (outer : List Env) (s : Shared) (H : Hp) (args : Args) (us : List Value) (vs : List V) (Q : VK) (E : XK), Room k A → Env0 P w K mg base A outer s H → BindsTo s fd args (ps.zip us) → Vals vs us → sp vs H Q E →
  codeAny (model P w) A (.call (.ref f) args) (CR CX outer P w H s Q E) s
theorem FnOk.imp {P : Program} {w : World} {K : PySem.W.Frag} {mg : Str → Option Value} {base : Heap} {CX : CXT} {k : Nat} {f : Addr} {fd : FuncData} {ps : List Str} {sp sp' : Sp} (F : FnOk P w K mg base CX k f fd ps sp)
  (h : ∀ vs H Q E, sp' vs H Q E → sp vs H Q E) : FnOk P w K mg base CX k f fd ps sp' :=
 ⟨fun vs H Q E q => F.len vs H Q E (h _ _ _ _ q), fun A outer s H args us vs Q E hr he hb hv hs => F.run A outer s H args us vs Q E hr he hb hv (h _ _ _ _ hs)⟩
section
variable {X : Cx} {pins : List (Addr × Obj)} {σ : St} {H : Hp} {s s' : Shared}
theorem Inv.env0 (I : Inv X pins σ H s) : Env0 X.prog X.w X.K X.mg X.base X.A X.stack s H :=
 ⟨I.ok.frames, I.ok.mod, I.bs, Nat.le_trans I.ok.bsz I.sz, I.stack, I.stkFree, I.hok, I.bare⟩
theorem Inv.after {Q : VK} {u : Value} (I : Inv X pins σ H s) (h : CE X.stack X.prog X.w H s Q u s') : EP X pins σ Q u s' := by
 obtain ⟨v, H', os, bare, un, hok, r, q⟩ := h
 obtain ⟨hh, g, d, t, os'⟩ := s'
 obtain rfl : os' = s.os := os
 exact ⟨v, H', I.call (h' := hh) (g' := g) (d' := d) (t' := t) (ch := []) un hok bare (fun b z => absurd z (by simp)), r, q⟩
end
noncomputable def tCall (sp : Sp) (dvs : List V) (E : XK) (t : TA) : TE := fun σ H Q => t σ H fun vs H1 => sp (vs ++ dvs) H1 Q E
noncomputable def Binds (K : PySem.W.Frag) (fd : FuncData) (ps : List Str) (ds : List Value) : Prop :=
 ∀ (s : Shared) (us : List Value), K.In s.heap → (us ++ ds).length = ps.length → BindsTo s fd ⟨us, []⟩ (ps.zip (us ++ ds))
theorem Binds.all {K : PySem.W.Frag} {fd : FuncData} {ps : List Str} (h : ∀ us : List Value, us.length = ps.length → bindArgs fd ⟨us, []⟩ = pure (ps.zip us)) : Binds K fd ps [] := fun s us _ hl => by
 rw [List.append_nil] at hl ⊢
 exact .of_eq (h us hl)
noncomputable def Passes (CX : CXT) (X : Cx) (E : XK) : Prop := ∀ (pins : List (Addr × Obj)) (σ : St) (H : Hp) (s : Shared) (e : Value) (s' : Shared), Inv X pins σ H s → CX X.stack H s E e s' → X.xe e s'
section
variable {X : Cx} {CX : CXT} {k : Nat} {f C : Addr} {fd : FuncData} {ps : List Str} {sp : Sp} {dvs : List V} {ds : List Value} {E : XK} {x m : Str} {p pos apos : Pos} {e o : Expr} {es : List Expr} {ta : TE} {t : TA}
theorem run_fn {pins : List (Addr × Obj)} {σ : St} {H : Hp} {s : Shared} {Q : VK} {us : List Value} {vs : List V} (F : FnOk X.prog X.w X.K X.mg X.base CX k f fd ps sp) (hr : Room k X.A) (hb : Binds X.K fd ps ds) (hd : Vals dvs ds) (hx : Passes CX X E)
  (I : Inv X pins σ H s) (r : Vals vs us) (h : sp (vs ++ dvs) H Q E) : wpAny (model X.prog X.w) X.A (call (.ref f) us) (EP X pins σ Q) X.xe s := by
 have r2 : Vals (vs ++ dvs) (us ++ ds) := r.append hd
 have hl : (us ++ ds).length = ps.length := by rw [← r2.length]; exact F.len _ _ _ _ h
 refine wpAny_call (codeAny_mono (F.run X.A X.stack s H ⟨us, []⟩ (us ++ ds) (vs ++ dvs) Q E hr I.env0 (hb s us I.kIn hl) r2 h) fun r s' hq => ?_)
 cases r with
 | error e => exact hx pins σ H s e s' I hq
 | ok fl =>
  cases fl with
  | ret u => exact I.after hq
  | next => exact False.elim hq
  | brk => exact False.elim hq
  | cont => exact False.elim hq
theorem pe_call (F : FnOk X.prog X.w X.K X.mg X.base CX k f fd ps sp) (hr : Room k X.A) (hg : Gl X x) (hm : X.mg x = some (.ref f)) (hk : PySem.W.keepIn X.K (.ref f) = true) (hb : Binds X.K fd ps ds) (hd : Vals dvs ds) (hx : Passes CX X E)
  (ha : PA X (e :: es) t) (hdb : (x == ("__debug__" : Str)) = false := by decide) (he : starEach (e :: es) X.env = (false, eval e X.env) :: starEach es X.env := by rfl) (hpl : (backTo pos (starEach es X.env)).any (·.1) = false := by rfl) :
  PE X (.Call (.Name x p) (e :: es) [] pos) (tCall sp dvs E t) := by
 intro pins s σ H Q I h
 refine wpAny_Call_Name_kw (ld_glob I hg hm ?_ hdb)
 refine PySem.W.callWith_K (h₀ := X.base) I.ok.mod.kin hk (thn (ha pos pins s σ H _ I h) fun us s1 ⟨vs, H1, I1, r, q⟩ => ⟨I1.kIn, ?_⟩) he hpl
 exact run_fn F hr hb hd hx I1 r q
theorem pe_call0 (F : FnOk X.prog X.w X.K X.mg X.base CX k f fd ps sp) (hr : Room k X.A) (hg : Gl X x) (hm : X.mg x = some (.ref f)) (hk : PySem.W.keepIn X.K (.ref f) = true) (hb : Binds X.K fd ps ds) (hd : Vals dvs ds) (hx : Passes CX X E)
  (hdb : (x == ("__debug__" : Str)) = false := by decide) : PE X (.Call (.Name x p) [] [] pos) (tCall sp dvs E tNil) := by
 intro pins s σ H Q I h
 refine wpAny_Call_Name_kw (ld_glob I hg hm ?_ hdb)
 exact PySem.W.callWith_K0 I.kIn hk (run_fn (us := []) F hr hb hd hx I .nil h)
end
section
variable {X : Cx} {CX : CXT} {k : Nat} {f C : Addr} {fd : FuncData} {ps ks : List Str} {sp : Sp} {E : XK} {x m : Str} {p pos apos kpos : Pos} {e o : Expr} {es : List Expr} {kws : List Keyword} {te ta : TE} {t tk : TA} {nm : Option Str}
variable {g : List Value → List Value → List Value} {gV : List V → List V → List V}
end
structure FnScope (N P : List Str) (sc : Scope) : Prop where
 kind : sc.kind = .function
 co : sc.isCoroutine = false
 gen : sc.isGenerator = false
 nd : N.Nodup
 pre : N.take P.length = P
 par : ∀ x ∈ P, sc.names.lookup x = some .local ∨ sc.names.lookup x = some .cell
 nofree : ∀ y ∈ sc.names, y.2 ≠ .free
theorem bindL_out {kindOf : Str → Option NameKind} {x : Str} : ∀ {binds : List (Str × Value)} {m : Str → Option Value}, (∀ v, (x, v) ∉ binds) → bindL kindOf binds m x = m x
 | [], _, _ => rfl
 | (n, v) :: r, m, h => by
  unfold bindL
  rw [bindL_out fun w hw => h w (List.mem_cons_of_mem _ hw)]
  split
  ·have : x ≠ n := by rintro rfl; exact h v List.mem_cons_self
   simp [this]
  ·rfl
theorem bindC_out {kindOf : Str → Option NameKind} {x : Str} : ∀ {binds : List (Str × Value)} {m : Str → Option Value}, (∀ v, (x, v) ∉ binds) → bindC kindOf binds m x = m x
 | [], _, _ => rfl
 | (n, v) :: r, m, h => by
  unfold bindC
  rw [bindC_out fun w hw => h w (List.mem_cons_of_mem _ hw)]
  split
  ·rfl
  ·have : x ≠ n := by rintro rfl; exact h v List.mem_cons_self
   simp [this]
theorem bindL_get {kindOf : Str → Option NameKind} {x : Str} {v : Value} : ∀ {P : List Str} {vs : List Value} {i : Nat} {m : Str → Option Value}, P.Nodup → P[i]? = some x → vs[i]? = some v → kindOf x = some .local →
  bindL kindOf (P.zip vs) m x = some v
 | [], _, _, _, _, h, _, _ => by simp at h
 | _ :: _, [], _, _, _, _, h, _ => by simp at h
 | p :: P, w :: vs, 0, m, nd, h1, h2, hk => by
  simp at h1 h2; subst h1; subst h2
  show bindL kindOf ((p, w) :: P.zip vs) m p = _
  unfold bindL
  rw [bindL_out fun v hv => (List.nodup_cons.mp nd).1 (List.of_mem_zip hv).1, if_pos hk]
  simp
 | p :: P, w :: vs, i + 1, m, nd, h1, h2, hk => by
  show bindL kindOf ((p, w) :: P.zip vs) m x = _
  unfold bindL
  exact bindL_get (i := i) (List.nodup_cons.mp nd).2 (by simpa using h1) (by simpa using h2) hk
theorem bindC_get {kindOf : Str → Option NameKind} {x : Str} {v : Value} : ∀ {P : List Str} {vs : List Value} {i : Nat} {m : Str → Option Value}, P.Nodup → P[i]? = some x → vs[i]? = some v → kindOf x ≠ some .local →
  bindC kindOf (P.zip vs) m x = some v
 | [], _, _, _, _, h, _, _ => by simp at h
 | _ :: _, [], _, _, _, _, h, _ => by simp at h
 | p :: P, w :: vs, 0, m, nd, h1, h2, hk => by
  simp at h1 h2; subst h1; subst h2
  show bindC kindOf ((p, w) :: P.zip vs) m p = _
  unfold bindC
  rw [bindC_out fun v hv => (List.nodup_cons.mp nd).1 (List.of_mem_zip hv).1, if_neg hk]
  simp
 | p :: P, w :: vs, i + 1, m, nd, h1, h2, hk => by
  show bindC kindOf ((p, w) :: P.zip vs) m x = _
  unfold bindC
  exact bindC_get (i := i) (List.nodup_cons.mp nd).2 (by simpa using h1) (by simpa using h2) hk
noncomputable def start (N : List Str) (vs : List V) : St := vs.map some ++ List.replicate (N.length - vs.length) none
noncomputable def cxOf (CX : CXT) (P : Program) (w : World) (K : PySem.W.Frag) (mg : Str → Option Value) (base : Heap) (N : List Str) (qual : Str) (scope : Scope) (f : Addr) (cd : Value) (A : Around) (outer : List Env) (s : Shared) (H : Hp) (E : XK) : Cx where
 prog := P
 w := w
 K := K
 mg := mg
 base := base
 A := A.deeper (envOfC qual scope s.heap.objs.size f cd)
 N := N
 s₀ := s
 H₀ := H
 env := envOfC qual scope s.heap.objs.size f cd
 outer := outer
 stack := envOfC qual scope s.heap.objs.size f cd :: outer
 ex := []
 calm := true
 fn := fun _ => true
 pn := []
 xe := fun e s' => wpAny (model P w) (A.deeper (envOfC qual scope s.heap.objs.size f cd)) (leaving (envOfC qual scope s.heap.objs.size f cd) e) (fun _ s'' => CX outer H s E e s'') (fun e' s'' => CX outer H s E e' s'') s'
theorem cell_has {sc : Scope} {n : Nat} {x : Str} (h : sc.names.lookup x = some .cell) : ∃ c, (cellsFrom n sc.names []).lookup x = some c := by
 have q := PySem.W.cellsFrom_some sc.names n [] (.inl h)
 exact Option.isSome_iff_exists.mp q
theorem inv_start {CX : CXT} {P : Program} {w : World} {K : PySem.W.Frag} {mg : Str → Option Value} {base : Heap} {N ps : List Str} {qual : Str} {scope : Scope} {f : Addr} {cd : Value} {A : Around} {outer : List Env} {s s1 : Shared} {H : Hp} {E : XK} {us : List Value} {vs : List V}
  (S : FnScope N ps scope) (hd : A.handled = none) (e0 : Env0 P w K mg base A outer s H) (hl : vs.length = ps.length) (r : Vals vs us)
  (x : InCallC s s.heap.objs.size (bindL (envOfC qual scope s.heap.objs.size f cd).kindOf (ps.zip us) fun _ => none) (cellsFrom (s.heap.objs.size + 1) scope.names []) (bindC (envOfC qual scope s.heap.objs.size f cd).kindOf (ps.zip us) fun _ => none) s1) :
  Inv (cxOf CX P w K mg base N qual scope f cd A outer s H E) [] (start N vs) H s1 := by
 have hpl : ps.length ≤ N.length := by have := congrArg List.length S.pre; rw [List.length_take] at this; omega
 obtain ⟨h1, tk, rfl, hk⟩ := x.done
 have noA : ∀ b : Addr, b ∉ (cxOf CX P w K mg base N qual scope f cd A outer s H E).ex := fun b z => absurd (show b ∈ ([] : List Addr) from z) (by simp)
 refine ⟨⟨e0.mod, S.kind, rfl, rfl, Nat.le_refl _, fun y z c h1 h2 => ?_, fun y hy => ?_, fun y c _ h => ?_, fun _ => hd, Around.frames_deeper e0.frames, .inr ⟨rfl, rfl⟩, fun b z => absurd z (noA b), e0.bs, e0.bsz, fun b _ _ => noA b, fun b z => absurd z (noA b), e0.funs, e0.frf⟩,
  rfl, e0.bare, Un.kept hk, ⟨_, x.toInCall.ns, fun i y v h1 h2 h3 => ?_⟩, fun y c h => ⟨_, x.cell y c h⟩, e0.hok.fresh (Nat.le_refl _), fun y c h => ?_, fun p hp => absurd (show p ∈ ([] : List (Addr × Obj)) from hp) (by simp), e0.hok.kept hk, ?_⟩
 ·exact name_of_addr x.apart (PySem.mem_of_lookup h1) (PySem.mem_of_lookup h2)
 ·have hy : scope.names.lookup y = some .cell ∨ scope.names.lookup y = some .free := hy
  rcases hy with hy | hy
  ·exact cell_has hy
  ·exact absurd rfl (S.nofree _ (PySem.mem_of_lookup hy))
 ·exact Nat.le_of_lt (x.above y c (PySem.mem_of_lookup h))
 ·have hi : i < vs.length := by
   unfold start at h2
   by_cases hi : i < vs.length
   ·exact hi
   ·rw [List.getElem?_append_right (by simpa using hi)] at h2
    rw [List.getElem?_replicate] at h2
    split at h2 <;> cases h2
  have ha : vs[i]? = some v := by
   unfold start at h2
   rw [List.getElem?_append_left (by simpa using hi), List.getElem?_map] at h2
   cases e : vs[i]? with
   | none => rw [e] at h2; cases h2
   | some a => rw [e] at h2; cases h2; rfl
  obtain ⟨u, hu, rv⟩ := r.get ha
  have hp : ps[i]? = some y := by
   rw [← S.pre, List.getElem?_take_of_lt (by omega)]; exact h1
  have ndP : ps.Nodup := by rw [← S.pre]; exact S.nd.sublist (List.take_sublist _ _)
  refine ⟨u, rv, ?_⟩
  rcases S.par y (List.mem_of_getElem? hp) with k | k
  ·exact .inl ⟨k, bindL_get ndP hp hu k⟩
  ·obtain ⟨c, e⟩ := cell_has (n := s.heap.objs.size + 1) k
   refine .inr ⟨.inl k, c, e, ?_⟩
   have q := x.cell y c e
   rw [bindC_get ndP hp hu (by show scope.names.lookup y ≠ _; rw [k]; decide)] at q
   exact q
 ·exact e0.hok.fresh (Nat.le_of_lt (x.above y c (PySem.mem_of_lookup h)))
 ·unfold start
  show _ = N.length
  rw [List.length_append, List.length_map, List.length_replicate]
  omega
theorem fn_of {CX : CXT} {P : Program} {w : World} {K : PySem.W.Frag} {mg : Str → Option Value} {base : Heap} {k : Nat} {f : Addr} {name qual : Str} {params : Arguments} {body : List Stmt} {scope : Scope} {dV kV doc pm cdv ct oc : Value} {an od : Option Addr}
  {osl : Array (Option Value)} {N ps : List Str} {sp : Sp} (lk : K.lookup f = some ⟨oc, od, .func (PySem.W.fnOf name qual params body scope dV kV doc pm an cdv ct), osl⟩) (hcd : PySem.W.codeIn K cdv qual = true) (S : FnScope N ps scope)
  (len : ∀ vs H Q E, sp vs H Q E → vs.length = ps.length)
  (hbody : ∀ (A : Around) (outer : List Env) (s : Shared) (H : Hp) (vs : List V) (Q : VK) (E : XK), Room k (A.deeper (envOfC qual scope s.heap.objs.size f cdv)) → sp vs H Q E →
   ∃ t, PSs (cxOf CX P w K mg base N qual scope f cdv A outer s H E) body t ∧ t { nx := fun _ H' => Q .non H', rt := Q } (start N vs) H) :
  FnOk P w K mg base CX (k + 1) f (PySem.W.fnOf name qual params body scope dV kV doc pm an cdv ct) ps sp := by
 refine ⟨len, fun A outer s H args us vs Q E hr e0 hb r hsp => ?_⟩
 have hl := len _ _ _ _ hsp
 have KX : K.In s.heap := e0.mod.kin.keeps fun b o e => (e0.bs b o e).1
 have lim : s.heap.NoLimit := e0.mod.nolimit.keeps fun b o e => (e0.bs b o e).1
 have hkind : ∀ y ∈ ps.zip us, scope.names.lookup y.1 = some .local ∨ (scope.names.lookup y.1 = some .cell ∧ ((cellsFrom (s.heap.objs.size + 1) scope.names []).lookup y.1).isSome = true) := fun ⟨n, v⟩ hy => by
  rcases S.par n (List.of_mem_zip hy).1 with q | q
  ·exact .inl q
  ·exact .inr ⟨q, PySem.W.cellsFrom_some _ _ _ (.inl q)⟩
 refine codeAny_call_function hr.depth (KX _ _ lk) rfl S.co S.gen rfl (PySem.W.codeRec_of KX hcd) (hb _ _ _ _ ?_)
 refine wpAny_newFunctionEnv_cells S.kind hkind fun env he s1 x => ?_
 subst he
 refine ⟨lim.keeps x.toInCall.keep, codeAny_func ?_⟩
 obtain ⟨t, ht, hq⟩ := hbody A outer s H vs Q E (hr.deeper _) hsp
 have I : Inv (cxOf CX P w K mg base N qual scope f cdv A outer s H E) [] (start N vs) H s1 := inv_start S hr.hd e0 hl r x
 refine wpAny_mono (ht [] s1 (start N vs) H _ I hq) (fun fl s' hs => ?_) fun e s' hs => hs
 have fin : ∀ {σ' : St} {H' : Hp} {v : V} {u : Value}, Inv (cxOf CX P w K mg base N qual scope f cdv A outer s H E) [] σ' H' s' → RelV v u → Q v H' → CE outer P w H s Q u s' :=
  fun {σ' H' v u} J rv q => ⟨v, H', J.os, J.bare, J.base, J.hok, rv, q⟩
 cases fl with
 | ret u =>
  obtain ⟨v, σ', H', J, rv, q⟩ := hs
  exact fin J rv q
 | next =>
  obtain ⟨σ', H', J, q⟩ := hs
  exact fin (v := V.non) (u := Value.none) J rfl q
 | brk =>
  obtain ⟨_, _, _, q⟩ := hs
  exact False.elim q
 | cont =>
  obtain ⟨_, _, _, q⟩ := hs
  exact False.elim q
end L2
namespace L2
open PySem PySem.Spec PyProof.Rows
section
variable {X : Cx} {x : Str} {p pos : Pos} {e : Expr} {es : List Expr} {t : TA} {id T : String} {r : List V → Hp → VK → Prop}
noncomputable def tCB (r : List V → Hp → VK → Prop) (t : TA) : TE := fun σ H Q => t σ H fun vs H1 => r vs H1 Q
theorem pe_callB (hc : CallR X (.builtin id) r) (hg : Gl X x) (hm : X.mg x = none) (hv : bootBuiltins x = some (.builtin id)) (ha : PA X (e :: es) t) (hn : x ≠ "__name__" := by decide) (hdb : (x == ("__debug__" : Str)) = false := by decide)
  (he : starEach (e :: es) X.env = (false, eval e X.env) :: starEach es X.env := by rfl) (hpl : (backTo pos (starEach es X.env)).any (·.1) = false := by rfl) : PE X (.Call (.Name x p) (e :: es) [] pos) (tCB r t) := by
 intro pins s σ H Q I h
 refine wpAny_Call_Name_kw (ld_blt I hg hm hv ?_ hn hdb)
 exact PyProof.Rows.callWith_builtin1 (thn (ha pos pins s σ H _ I h) fun us s1 ⟨vs, H1, I1, r1, q1⟩ => hc pins s1 σ H1 vs us Q I1 r1 q1) he hpl
theorem pe_callTy (hc : CallR X (.type T) r) (hg : Gl X x) (hm : X.mg x = none) (hv : bootBuiltins x = some (.type T)) (ha : PA X (e :: es) t) (hn : x ≠ "__name__" := by decide) (hdb : (x == ("__debug__" : Str)) = false := by decide)
  (he : starEach (e :: es) X.env = (false, eval e X.env) :: starEach es X.env := by rfl) (hpl : (backTo pos (starEach es X.env)).any (·.1) = false := by rfl) : PE X (.Call (.Name x p) (e :: es) [] pos) (tCB r t) := by
 intro pins s σ H Q I h
 refine wpAny_Call_Name_kw (ld_blt I hg hm hv ?_ hn hdb)
 exact PyProof.Rows.callWith_type1 (thn (ha pos pins s σ H _ I h) fun us s1 ⟨vs, H1, I1, r1, q1⟩ => hc pins s1 σ H1 vs us Q I1 r1 q1) he hpl
end
end L2
namespace L2
open PySem PySem.Spec PyProof.Rows
section
variable {κ : Type} [DecidableEq κ]
theorem KV.length {kvs : List (κ × V)} {vs : List (κ × Value)} (r : KV kvs vs) : kvs.length = vs.length := Paired.length r
end
section
variable {P : Program} {w : World} {H : Hp} {h : Heap} {a : Addr}
theorem rd_of {u : HO} (ok : HOk P w H h) (e : Rd H a u) : ObjOk P w H h a u := e.ok ok
theorem dk_rd {kvs : List (Key × V)} (ok : HOk P w H h) (e : Rd H a (.dK kvs)) : kvs.length ≤ sizeLine ∧ (a == sysModules) = false ∧ ∃ vs, KV kvs vs ∧ h.DictOf (mixKind P w) a vs :=
 show ObjOk P w H h a (.dK kvs) from rd_of ok e
end
section
variable {X : Cx} {pins : List (Addr × Obj)} {σ : St} {H : Hp} {s : Shared} {a : Addr} {y v : V} {u r : Value} {o : Option V} {A : Around} {E : Value → Shared → Prop}
theorem Inv.big (I : Inv X pins σ H s) : sysModules < s.heap.objs.size := by
 have h : mainGlobals < s.heap.objs.size := (I.mod.glob.keeps I.bk).lt
 exact Nat.lt_trans (by decide) h
theorem d_write {h' : Heap} {t' : Nat} {ob : HO} (I : Inv X pins σ H s) (mu : Mut (H a)) (hs : Heap.SameBut a s.heap h') (he : ∃ q, h'.get? a = some q) (new : ObjOk X.prog X.w (upd H a ob) h' a ob) :
  Inv X pins σ (upd H a ob) { s with heap := h', toks := t' } :=
 I.write (x := a) (e := a) mu (.inl rfl) (fun b q hb z => (hs.2 b hb).trans z) he new
end
section
variable {X : Cx} {pins : List (Addr × Obj)} {σ : St} {H : Hp} {s : Shared} {a : Addr} {kvs : List (Key × V)} {k : Key} {u : Value} {A : Around} {E : Value → Shared → Prop}
theorem d_len {Q : Value → Shared → Prop} (I : Inv X pins σ H s) (e : Rd H a (.dK kvs)) (h : ∀ t s', Inv X pins σ H s' → Q (.int kvs.length t) s') : wpAny (model X.prog X.w) A (call (.builtin "len") [.ref a]) Q E s := by
 obtain ⟨z, hd, vs, rel, dd⟩ := dk_rd I.hok e
 refine call_len_dict hd dd (by rw [← rel.length]; rw [sizeLine_eq] at z; omega) ?_
 rw [← rel.length]
 exact h _ _ (I.tok _)
end
section
variable {X : Cx} {o i e value : Expr} {pos pos' tpos : Pos} {td ty tv : TE}
end
section
variable {X : Cx} {pos : Pos}
end
section
variable {X : Cx} {pins : List (Addr × Obj)} {σ : St} {H : Hp} {s : Shared} {a : Addr} {y d : V} {u r : Value} {o : Option V} {A : Around} {E : Value → Shared → Prop}
end
section
variable {X : Cx} {o e f : Expr} {apos cpos : Pos} {td ty tx : TE}
end
section
variable {X : Cx} {pins : List (Addr × Obj)} {σ : St} {H : Hp} {s : Shared} {a : Addr} {kvs : List (Key × V)} {A : Around} {E : Value → Shared → Prop}
end
section
variable {X : Cx} {pins : List (Addr × Obj)} {σ : St} {H : Hp} {s : Shared} {a : Addr} {y : V} {u : Value} {A : Around} {E : Value → Shared → Prop}
end
end L2
namespace HT
open PySem PyProof.Rows
section
open PySem.SeqAt
open PySem.AutoSeq1 (wpAny_loadPart')
open PySem.MeetsSeq PySem.MeetsSeq2 PySem.MeetsSeq3
end
section
variable {prog : Program} {w : World} {A : Around} {E : Value → Shared → Prop} {s : Shared}
theorem cat_tup {t b : Addr} {vs ws : List Value} {Q : Value → Shared → Prop} (ht : IsTup s.heap t vs.toArray) (hb : IsTup s.heap b ws.toArray) (hv : vs ≠ [])
  (h1 : ws = [] → Q (.ref t) s) (h2 : ws ≠ [] → Q (.ref s.heap.objs.size) { s with heap := s.heap.push { cls := .type "tuple", data := .seq (vs ++ ws).toArray } })
  (hsz : vs.length + ws.length ≤ sizeLine) : wpAny (model prog w) A (binaryOp .Add (.ref t) (.ref b)) Q E s := by
 obtain ⟨⟨cls, dd, data, sl⟩, ho, hc, n, hd⟩ := id ht
 obtain ⟨⟨cls2, dd2, data2, sl2⟩, ho2, hc2, n2, hd2⟩ := id hb
 simp only at hc hd hc2 hd2
 subst hc hd hc2 hd2
 have e : vs.toArray ++ ws.toArray = (vs ++ ws).toArray := by simp
 by_cases hw : ws = []
 ·exact concat_meets ⟨_, ho, rfl⟩ ⟨_, ho2, rfl⟩ noFill_tuple_add seq_tuple_add PySem.F.slot_tuple_add PySem.F.entry_tuple_add (PySem.F.args_tuple_add_2 _ _)
   (tuple_addW1 t b vs.toArray ws.toArray n n2 dd dd2 sl sl2 (by simpa using hv) (by simp [hw])) ⟨ho, ho2, h1 hw⟩
 ·refine concat_meets ⟨_, ho, rfl⟩ ⟨_, ho2, rfl⟩ noFill_tuple_add seq_tuple_add PySem.F.slot_tuple_add PySem.F.entry_tuple_add (PySem.F.args_tuple_add_2 _ _)
   (tuple_addW2 t b vs.toArray ws.toArray n n2 dd dd2 sl sl2 (by simpa using hv) (by simpa using hw) (by rw [List.size_toArray, List.size_toArray]; exact hsz)) ⟨ho, ho2, ?_⟩
  rw [e]
  exact h2 hw
noncomputable def sIx (n d : Nat) : Option Int → Nat
 | none => d
 | some v => if v < 0 then (v + (n : Int)).toNat else min v.toNat n
theorem sIx_nat (n d k : Nat) : sIx n d (some (k : Int)) = min k n := by
 show (if (k : Int) < 0 then ((k : Int) + (n : Int)).toNat else min (k : Int).toNat n) = min k n
 rw [if_neg (by omega), Int.toNat_natCast]
theorem sIx_le (n d : Nat) (hd : d ≤ n) (o : Option Int) : sIx n d o ≤ n := by
 cases o with
 | none => exact hd
 | some v =>
  show (if v < 0 then (v + (n : Int)).toNat else min v.toNat n) ≤ n
  by_cases hv : v < 0
  ·rw [if_pos hv]; omega
  ·rw [if_neg hv]; exact Nat.min_le_right _ _
theorem clip_eq (v : Int) (n d : Nat) : (if v < 0 then max (v + (n : Int)) 0 else min v (n : Int)) = ((sIx n d (some v) : Nat) : Int) := by
 show (if v < 0 then max (v + (n : Int)) 0 else min v (n : Int)) = (((if v < 0 then (v + (n : Int)).toNat else min v.toNat n) : Nat) : Int)
 by_cases hv : v < 0
 ·simp only [if_pos hv]; omega
 ·simp only [if_neg hv]; omega
theorem adjust_gen (lo hi : Option Int) (n : Nat) : Builtin.Slice.sliceAdjust lo hi 1 (n : Int) = (((sIx n 0 lo : Nat) : Int), ((sIx n n hi : Nat) : Int)) := by
 have h1 : ¬ ((1 : Int) < 0) := by omega
 unfold Builtin.Slice.sliceAdjust
 simp only [h1, if_false]
 refine Prod.ext ?_ ?_
 ·cases lo with
  | none => rfl
  | some v => exact clip_eq v n 0
 ·cases hi with
  | none => rfl
  | some v => exact clip_eq v n n
theorem places_gen (i j : Nat) : Builtin.Slice.slicePlaces (i : Int) (j : Int) 1 = j - i := by
 unfold Builtin.Slice.slicePlaces
 have h1 : (1 : Int) > 0 := by omega
 simp only [h1, if_true, Int.ediv_one]
 split <;> omega
theorem slicePart_ {v : Value} {o : Option Int} {Q : Option Int → Shared → Prop} (p : IsPart v o) (h : Q o s) : wpAny (model prog w) A (Builtin.Slice.slicePartIndex v) Q E s := by
 cases p with
 | none => exact slicePart_none h
 | int i t => exact slicePart_int h
theorem sliceApplied_gen {sl : Addr} {vl vu : Value} {lo hi : Option Int} {n : Nat} {Q : Int × Int × Nat → Shared → Prop} (hs : s.heap.IsSliceOf sl vl vu .none) (pl : IsPart vl lo) (pu : IsPart vu hi)
  (h : Q (((sIx n 0 lo : Nat) : Int), 1, sIx n n hi - sIx n 0 lo) s) : wpAny (model prog w) A (Builtin.Slice.sliceApplied (.ref sl) (pure (n : Int))) Q E s := by
 obtain ⟨os, hos, hcs, hds⟩ := id hs
 unfold Builtin.Slice.sliceApplied Builtin.Slice.sliceFields
 refine wpAny_bind (wpAny_bind (wpAny_field hos hds (x := vl) rfl (wpAny_bind (wpAny_field hos hds (x := vu) rfl (wpAny_bind (wpAny_field hos hds (x := .none) rfl (wpAny_pure ?_)))))))
 refine wpAny_bind (slicePart_none ?_)
 show wpAny _ _ (if ((1 : Int) == 0) = true then _ else _) _ _ s
 rw [if_neg (by decide)]
 refine wpAny_bind (slicePart_ pl (wpAny_bind (slicePart_ pu (wpAny_bind (wpAny_pure ?_)))))
 show wpAny _ _ (match Builtin.Slice.sliceAdjust lo hi 1 (n : Int) with | (lo, hi) => pure (lo, (1 : Int), Builtin.Slice.slicePlaces lo hi 1)) _ _ s
 rw [adjust_gen lo hi n]
 show wpAny _ _ (pure (((sIx n 0 lo : Nat) : Int), (1 : Int), Builtin.Slice.slicePlaces ((sIx n 0 lo : Nat) : Int) ((sIx n n hi : Nat) : Int) 1)) _ _ s
 rw [places_gen]
 exact wpAny_pure h
theorem pick_gen (xs : Array Value) (i k : Nat) : ((List.range k).filterMap fun (m : Nat) => xs[((i : Int) + (m : Int) * 1).toNat]?).toArray = ((xs.toList.drop i).take k).toArray := by
 have e : (fun (m : Nat) => xs[((i : Int) + (m : Int) * 1).toNat]?) = fun m => xs[i + m]? := by
  funext m
  have : ((i : Int) + (m : Int) * 1).toNat = i + m := by omega
  rw [this]
 rw [e]
 have := pick_run xs i k
 rw [List.filterMap_map] at this
 have e2 : ((fun x => xs[x]?) ∘ fun x => i + x) = fun m => xs[i + m]? := rfl
 rw [e2] at this
 rw [this]
theorem getItem_tuple_cut {t sl : Addr} {items : Array Value} {vl vu : Value} {lo hi : Option Int} {Q : Value → Shared → Prop} (ht : IsTup s.heap t items) (hs : s.heap.IsSliceOf sl vl vu .none) (pl : IsPart vl lo) (pu : IsPart vu hi)
  (hw : ¬ (sIx items.size 0 lo = 0 ∧ sIx items.size items.size hi = items.size))
  (h : Q (.ref s.heap.objs.size) { s with heap := s.heap.push { cls := .type "tuple", data := .seq ((items.toList.drop (sIx items.size 0 lo)).take (sIx items.size items.size hi - sIx items.size 0 lo)).toArray } })
  (hsz : items.size ≤ sizeLine) : wpAny (model prog w) A (getItem (.ref t) (.ref sl)) Q E s := by
 have htake : sizeOk (.seq ((items.toList.drop (sIx items.size 0 lo)).take (sIx items.size items.size hi - sIx items.size 0 lo)).toArray) := by
  show ((items.toList.drop (sIx items.size 0 lo)).take (sIx items.size items.size hi - sIx items.size 0 lo)).toArray.size ≤ sizeLine
  rw [List.size_toArray, List.length_take, List.length_drop, Array.length_toList]
  omega
 have hj : sIx items.size items.size hi ≤ items.size := sIx_le _ _ (Nat.le_refl _) hi
 obtain ⟨os, hos, hcs, hds⟩ := id hs
 have hTs : s.TypeIs (.ref sl) "slice" := ⟨os, hos, hcs⟩
 unfold getItem
 try with_reducible refine wpAny_holding ?_
 first | refine wpAny_bind (wpAny_pure ?_) | skip
 refine wpAny_bind (wpAny_sequenceKey ht.typeIs (by decide) ?_)
 refine wpAny_bind (wpAny_callSpecial?_slot (name := Str.ofString "__getitem__") ht.typeIs PyProof.Rows.slot_tuple_getitem
  (wpAny_call_entry PyProof.Rows.slot_tuple_getitem ht.typeIs entry_tuple_getitem ?_ (args_tuple_getitem _ _)))
 show wpAny _ _ (Builtin.Tuple.tupleItemsOf (.ref t) >>= _) _ _ s
 refine wpAny_bind (tupleItemsOf_ ht ?_)
 refine wpAny_bind (wpAny_typeOf hTs ?_)
 rw [if_pos (by decide)]
 refine wpAny_bind (sliceApplied_gen hs pl pu ?_)
 have hno : ¬ ((((sIx items.size 0 lo : Nat) : Int) == 0 && (1 : Int) == 1 && (sIx items.size items.size hi - sIx items.size 0 lo) == items.size) = true) := by
  intro q
  rw [Bool.and_eq_true, Bool.and_eq_true] at q
  have q1 : ((sIx items.size 0 lo : Nat) : Int) = 0 := eq_of_beq q.1.1
  have q2 : sIx items.size items.size hi - sIx items.size 0 lo = items.size := eq_of_beq q.2
  exact hw ⟨by omega, by omega⟩
 show wpAny _ _ (if (((sIx items.size 0 lo : Nat) : Int) == 0 && (1 : Int) == 1 && (sIx items.size items.size hi - sIx items.size 0 lo) == items.size) = true then _ else _) _ _ s
 rw [if_neg hno, pick_gen]
 first
  | exact wpAny_bind (m := Builtin.Tuple.tupleExact _) (wpAny_newObj_type (wpAny_pure ⟨_, rfl, wpAny_pure h⟩) htake)
  | exact wpAny_bind (m := Builtin.Tuple.tupleExact _) (wpAny_newObj_type (wpAny_bind (wpAny_pure (wpAny_pure ⟨_, rfl, wpAny_pure h⟩))) htake)
  | exact wpAny_bind (wpAny_bind (m := Builtin.Tuple.tupleExact _) (wpAny_newObj_type (wpAny_pure (wpAny_pure ⟨_, rfl, wpAny_pure h⟩)) htake))
  | exact wpAny_bind (wpAny_bind (m := Builtin.Tuple.tupleExact _) (wpAny_newObj_type (wpAny_pure ⟨_, rfl, wpAny_pure h⟩) htake))
end
end HT
namespace L2
open PySem PySem.Spec PyProof.Rows
noncomputable abbrev TO := St → Hp → (Option Int → Hp → Prop) → Prop
noncomputable def PO (X : Cx) (e : Option Expr) (t : TO) : Prop :=
 ∀ (pins : List (Addr × Obj)) (s : Shared) (σ : St) (H : Hp) (Q : Option Int → Hp → Prop), Inv X pins σ H s → t σ H Q →
  wpAny (model X.prog X.w) X.A (evalPart e X.env) (fun u s' => ∃ o H', Inv X pins σ H' s' ∧ IsPart u o ∧ Q o H') X.xe s
noncomputable def tNoPart : TO := fun _ H Q => Q none H
noncomputable def tPart (t : TE) : TO := fun σ H Q => t σ H fun x H1 => ∃ i, x = .int i ∧ Q (some i) H1
theorem intsAre_of {ns : List Int} : ∀ {us : List Value}, Vals (ns.map V.int) us → IntsAre us ns := by
 induction ns with
 | nil => intro us r; rw [List.map_nil] at r; cases r; exact .nil
 | cons n ns ih =>
  intro us r
  rw [List.map_cons] at r
  cases r with
  | cons r1 r2 =>
   obtain ⟨t, e⟩ := r1
   subst e
   exact .cons n t (ih r2)
section
variable {X : Cx} {e : Expr} {te : TE} {lo hi : Option Expr} {tl th : TO} {pos p2 : Pos}
theorem po_none : PO X none tNoPart := by
 intro pins s σ H Q I h
 rw [evalPart_none]
 exact wpAny_pure ⟨none, H, I, .none, h⟩
theorem po_some (h : PE X e te) : PO X (some e) (tPart te) := by
 intro pins s σ H Q I hw
 rw [evalPart_some]
 refine thn (h pins s σ H _ I hw) fun u s1 ⟨x, H1, I1, r1, q1⟩ => ?_
 obtain ⟨i, rfl, q⟩ := q1
 obtain ⟨t, rfl⟩ := r1
 exact ⟨some i, H1, I1, .int i t, q⟩
noncomputable def SlR (X : Cx) (r : V → Option Int → Option Int → Hp → VK → Prop) : Prop :=
 ∀ (pins : List (Addr × Obj)) (s : Shared) (σ : St) (H : Hp) (x : V) (v vl vu : Value) (lo hi : Option Int) (sl : Addr) (Q : VK), Inv X pins σ H s → RelV x v → s.heap.IsSliceOf sl vl vu .none → IsPart vl lo → IsPart vu hi → r x lo hi H Q →
  ∃ T id, typeLookup (.type T) "__getitem__" = pure (some (.builtin id)) ∧ s.TypeIs v T ∧ wpAny (model X.prog X.w) X.A (getItem v (.ref sl)) (EP X pins σ Q) X.xe s
theorem SlR.or {r r' : V → Option Int → Option Int → Hp → VK → Prop} (h : SlR X r) (h' : SlR X r') : SlR X (fun x lo hi H Q => r x lo hi H Q ∨ r' x lo hi H Q) := by
 intro pins s σ H x v vl vu lo hi sl Q I rx hs pl pu q
 rcases q with q | q
 ·exact h pins s σ H x v vl vu lo hi sl Q I rx hs pl pu q
 ·exact h' pins s σ H x v vl vu lo hi sl Q I rx hs pl pu q
noncomputable def tSl (r : V → Option Int → Option Int → Hp → VK → Prop) (te : TE) (tl th : TO) : TE := fun σ H Q => te σ H fun x H1 => tl σ H1 fun l H2 => th σ H2 fun u H3 => r x l u H3 Q
theorem pe_slice {r : V → Option Int → Option Int → Hp → VK → Prop} (hr : SlR X r) (he : PE X e te) (hl : PO X lo tl) (hu : PO X hi th) : PE X (.Subscript e (.Slice lo hi none p2) pos) (tSl r te tl th) := by
 intro pins s σ H Q I h
 refine Subscript_ (thn (he pins s σ H _ I h) fun v s1 ⟨x, H1, I1, r1, q1⟩ => ?_)
 refine wpAny_Slice (thn (hl pins s1 σ H1 _ I1 q1) fun vl s2 ⟨l, H2, I2, pl, q2⟩ => thn (hu pins s2 σ H2 _ I2 q2) fun vu s3 ⟨u, H3, I3, pu, q3⟩ => ?_)
 rw [evalPart_none]
 refine wpAny_pure ?_
 have I4 : Inv X pins σ H3 { s3 with heap := s3.heap.push { cls := .type "slice", data := .fields #[vl, vu, .none] } } := I3.kept (t' := s3.toks) fun b ob q => Heap.get?_push_of_some _ q
 obtain ⟨T, id, hT, ht, hg⟩ := hr pins { s3 with heap := s3.heap.push { cls := .type "slice", data := .fields #[vl, vu, .none] } } σ H3 x v vl vu l u s3.heap.objs.size Q I4 r1 (Heap.IsSliceOf.new ..) pl pu q3
 show wpAny (model X.prog X.w) X.A (subscriptTail e (.Slice lo hi none p2) v (.ref s3.heap.objs.size)) (EP X pins σ Q) X.xe { s3 with heap := s3.heap.push { cls := .type "slice", data := .fields #[vl, vu, .none] } }
 exact tail_any (ops := [.ref s3.heap.objs.size, v]) ht hT hg (by with_unfolding_all rfl)
noncomputable def cutV (xs : List V) (lo hi : Option Int) : List V := (xs.drop (HT.sIx xs.length 0 lo)).take (HT.sIx xs.length xs.length hi - HT.sIx xs.length 0 lo)
theorem cutV_length (xs : List V) (lo hi : Option Int) : (cutV xs lo hi).length ≤ xs.length := by
 unfold cutV
 rw [List.length_take, List.length_drop]
 omega
noncomputable def rSlT (K : PySem.W.Frag) : V → Option Int → Option Int → Hp → VK → Prop := fun x lo hi H Q => ∃ a xs, x = .ref a ∧ SqT K H a xs ∧
 ¬ (HT.sIx xs.length 0 lo = 0 ∧ HT.sIx xs.length xs.length hi = xs.length) ∧ ∀ p, H p = none → Q (.ref p) (upd H p (.tup (cutV xs lo hi)))
theorem sl_tup : SlR X (rSlT X.K) := by
 intro pins s σ H x v vl vu lo hi sl Q I rx hs pl pu h
 obtain ⟨a, xs, rfl, hx, hw, q⟩ := h
 cases rx
 obtain ⟨its, r, ht, hz⟩ := I.tuple hx
 have hlen : its.toArray.size = xs.length := by rw [List.size_toArray]; exact r.length.symm
 refine ⟨"tuple", _, PyProof.Rows.slot_tuple_getitem.lookup, ht.typeIs, ?_⟩
 refine HT.getItem_tuple_cut ht hs pl pu (by rw [hlen]; exact hw) ?_ (by rw [hlen]; exact hz)
 rw [hlen]
 refine ⟨.ref s.heap.objs.size, _, I.laid (t' := s.toks) (o := .tup (cutV xs lo hi)) (fun b ob q => Heap.get?_push_of_some _ q) (Nat.le_refl _) ?_, rfl, q _ (I.hok.fresh (Nat.le_refl _))⟩
 exact ⟨Nat.le_trans (cutV_length xs lo hi) hz, _, (r.drop (HT.sIx xs.length 0 lo)).take (HT.sIx xs.length xs.length hi - HT.sIx xs.length 0 lo), IsTup.new _ _⟩
noncomputable def rCatT (K : PySem.W.Frag) : R2 := fun x y H Q => ∃ a b xs ys, x = .ref a ∧ y = .ref b ∧ SqT K H a xs ∧ SqT K H b ys ∧ xs ≠ [] ∧ xs.length + ys.length ≤ sizeLine ∧
 (ys = [] → Q (.ref a) H) ∧ (ys ≠ [] → ∀ p, H p = none → Q (.ref p) (upd H p (.tup (xs ++ ys))))
theorem Vals.nil_iff {xs : List V} {us : List Value} (r : Vals xs us) : us = [] ↔ xs = [] := by
 cases r with
 | nil => simp
 | cons _ _ => simp
theorem op_catT : OpR X (binaryOp .Add) (rCatT X.K) := by
 intro pins s σ H x y v u Q I rx ry h
 obtain ⟨a, b, xs, ys, rfl, rfl, ha, hb, hx, hz, q1, q2⟩ := h
 cases rx
 cases ry
 obtain ⟨its, r1, p1, _⟩ := I.tuple ha
 obtain ⟨its2, r2, p2, _⟩ := I.tuple hb
 refine HT.cat_tup p1 p2 (fun z => hx (r1.nil_iff.mp z)) (fun z => ⟨.ref a, H, I, rfl, q1 (r2.nil_iff.mp z)⟩) (fun z => ?_) (by rw [← r1.length, ← r2.length]; exact hz)
 refine ⟨.ref s.heap.objs.size, _, I.laid (t' := s.toks) (o := .tup (xs ++ ys)) (fun b ob q => Heap.get?_push_of_some _ q) (Nat.le_refl _) ?_, rfl, q2 (fun w => z (r2.nil_iff.mpr w)) _ (I.hok.fresh (Nat.le_refl _))⟩
 exact ⟨by rw [List.length_append]; exact hz, _, r1.append r2, IsTup.new _ _⟩
end
end L2
namespace L2
open PySem PySem.Spec PyProof.Rows
noncomputable def ixN (n : Nat) (i : Int) : Option Nat := if 0 ≤ i then (if i < n then some i.toNat else none) else if -(n : Int) ≤ i then some (i + n).toNat else none
noncomputable def atI {α : Type} (xs : List α) (i : Int) : Option α := (ixN xs.length i).bind fun j => xs[j]?
theorem ixN_seq {n : Nat} {i : Int} {j : Nat} (h : ixN n i = some j) : seqIndex? i n = some j ∧ j < n ∧ -(n : Int) ≤ i ∧ i < n := by
 unfold ixN at h
 by_cases h0 : 0 ≤ i
 ·rw [if_pos h0] at h
  by_cases h1 : i < n
  ·rw [if_pos h1] at h
   have e : i.toNat = j := Option.some.inj h
   exact ⟨by rw [seqIndex_of h0 h1, e], by omega, by omega, h1⟩
  ·rw [if_neg h1] at h; cases h
 ·rw [if_neg h0] at h
  by_cases h1 : -(n : Int) ≤ i
  ·rw [if_pos h1] at h
   have e : (i + n).toNat = j := Option.some.inj h
   exact ⟨by rw [seqIndex_neg (by omega) h1, e], by omega, h1, by omega⟩
  ·rw [if_neg h1] at h; cases h
theorem atI_get {α : Type} {xs : List α} {i : Int} {v : α} (h : atI xs i = some v) : ∃ j, seqIndex? i xs.length = some j ∧ xs[j]? = some v ∧ j < xs.length ∧ -(xs.length : Int) ≤ i ∧ i < xs.length := by
 unfold atI at h
 cases e : ixN xs.length i with
 | none => rw [e] at h; cases h
 | some j =>
  rw [e] at h
  obtain ⟨h1, h2, h3, h4⟩ := ixN_seq e
  exact ⟨j, h1, h, h2, h3, h4⟩
theorem atI_nat {α : Type} {xs : List α} {j : Nat} {v : α} (h : xs[j]? = some v) : atI xs (j : Int) = some v := by
 have hj : j < xs.length := (List.getElem?_eq_some_iff.mp h).1
 have e : ixN xs.length (j : Int) = some j := by
  unfold ixN
  rw [if_pos (by omega), if_pos (by omega)]; simp
 unfold atI; rw [e]; exact h
noncomputable def PlainIx (b : Expr) : Prop := ∀ o i, subscripted b false o i = operate [o, i] (getItem o i)
noncomputable def IxR (X : Cx) (r : R2) : Prop :=
 ∀ (value slice : Expr) (pins : List (Addr × Obj)) (s : Shared) (σ : St) (H : Hp) (x y : V) (v u : Value) (Q : VK), Inv X pins σ H s → RelV x v → RelV y u → r x y H Q →
  subscripted slice false v u = operate [v, u] (getItem v u) → wpAny (model X.prog X.w) X.A (subscriptTail value slice v u) (EP X pins σ Q) X.xe s
noncomputable def MtR (X : Cx) (id : String) (r : V → List V → Hp → VK → Prop) : Prop :=
 ∀ (pins : List (Addr × Obj)) (s : Shared) (σ : St) (H : Hp) (x : V) (xs : List V) (v : Value) (us : List Value) (Q : VK), Inv X pins σ H s → RelV x v → Vals xs us → r x xs H Q →
  wpAny (model X.prog X.w) X.A (call (.builtin id) (v :: us)) (EP X pins σ Q) X.xe s
section
variable {X : Cx} {a b : Expr} {ta tb : TE} {pos : Pos}
theorem IxR.or {r r' : R2} (h : IxR X r) (h' : IxR X r') : IxR X (fun x y H Q => r x y H Q ∨ r' x y H Q) := by
 intro value slice pins s σ H x y v u Q I rx ry q hs
 rcases q with q | q
 ·exact h value slice pins s σ H x y v u Q I rx ry q hs
 ·exact h' value slice pins s σ H x y v u Q I rx ry q hs
theorem MtR.or {id : String} {r r' : V → List V → Hp → VK → Prop} (h : MtR X id r) (h' : MtR X id r') : MtR X id (fun x xs H Q => r x xs H Q ∨ r' x xs H Q) := by
 intro pins s σ H x xs v us Q I rx rs q
 rcases q with q | q
 ·exact h pins s σ H x xs v us Q I rx rs q
 ·exact h' pins s σ H x xs v us Q I rx rs q
theorem pe_ix {r : R2} (hr : IxR X r) (ha : PE X a ta) (hb : PE X b tb) (hs : PlainIx b) : PE X (.Subscript a b pos) (tOp r ta tb) := by
 intro pins s σ H Q I h
 exact Subscript_ (binT ha hb I h fun v u s2 x y H2 I2 rx ry q => hr a b pins s2 σ H2 x y v u Q I2 rx ry q (hs _ _))
noncomputable def rIxL (K : PySem.W.Frag) : R2 := fun x y H Q => ∃ p xs i v, x = .ref p ∧ y = .int i ∧ SqL K H p xs ∧ atI xs i = some v ∧ Q v H
noncomputable def rIxT (K : PySem.W.Frag) : R2 := fun x y H Q => ∃ p xs i v, x = .ref p ∧ y = .int i ∧ SqT K H p xs ∧ atI xs i = some v ∧ Q v H
noncomputable def rIxS : R2 := fun x y H Q => ∃ z i c, x = .str z ∧ y = .int i ∧ z.length ≤ sizeLine ∧ atI z.cps.toList i = some c ∧ Q (.str ⟨#[c]⟩) H
theorem ix_list : IxR X (rIxL X.K) := by
 intro value slice pins s σ H x y v u Q I rx ry h hs
 obtain ⟨p, xs, i, z, rfl, rfl, hq, he, q⟩ := h
 cases rx
 obtain ⟨t, rfl⟩ := ry
 obtain ⟨its, r, pl, hz⟩ := I.list hq
 obtain ⟨j, h1, h2, h3, h4, h5⟩ := atI_get he
 obtain ⟨w, ew, rw'⟩ := r.get h2
 have hl := r.length
 have hn := line63
 have fin : EP X pins σ Q w s := ⟨z, H, I, rw', q⟩
 by_cases h0 : 0 ≤ i
 ·have hj : i.toNat = j := by
   rw [seqIndex_of h0 h5] at h1
   exact Option.some.inj h1
  exact item_listR pl.isList h0 (by omega) (by rw [hj]; simpa using ew) fin hs
 ·have hj : (i + (its.toArray.size : Int)).toNat = j := by
   rw [seqIndex_neg (by omega) h4] at h1
   rw [List.size_toArray, ← hl]
   exact Option.some.inj h1
  exact subscriptTail_builtinR (x := w) pl.isList.typeIs slot_list_getitem.lookup
   (wpAny_getItem_list_neg (Q := fun r s' => r = w ∧ EP X pins σ Q r s') pl.isList (by omega) (by rw [List.size_toArray] <;> omega) (by omega) (by rw [hj]; simpa using ew) ⟨rfl, fin⟩) hs
theorem ix_tup : IxR X (rIxT X.K) := by
 intro value slice pins s σ H x y v u Q I rx ry h hs
 obtain ⟨p, xs, i, z, rfl, rfl, hq, he, q⟩ := h
 cases rx
 obtain ⟨t, rfl⟩ := ry
 obtain ⟨its, r, pl, hz⟩ := I.tuple hq
 obtain ⟨j, h1, h2, h3, h4, h5⟩ := atI_get he
 obtain ⟨w, ew, rw'⟩ := r.get h2
 have hl := r.length
 have hn := line63
 have fin : EP X pins σ Q w s := ⟨z, H, I, rw', q⟩
 exact subscriptTail_builtinR (x := w) pl.typeIs slot_tuple_getitem.lookup
  (getItem_tuple (j := j) (Q := fun r s' => r = w ∧ EP X pins σ Q r s') pl (by omega) (by omega) (by rw [List.size_toArray, ← hl]; exact h1) (by simpa using ew) ⟨rfl, fin⟩) hs
theorem ix_str : IxR X rIxS := by
 intro value slice pins s σ H x y v u Q I rx ry h hs
 obtain ⟨z, i, c, rfl, rfl, hz, he, q⟩ := h
 obtain ⟨t, rfl⟩ := rx
 obtain ⟨t', rfl⟩ := ry
 obtain ⟨j, h1, h2, h3, h4, h5⟩ := atI_get he
 have hl : z.cps.toList.length = z.length := by simp [Str.length]
 rw [hl] at h1 h4 h5
 have hn := line63
 exact tail_any (typeIs_str s z t) slot_str_getitem.lookup (getItem_str (c := c) (by
  have e1 : decide (i < -(2 ^ 63 : Int)) = false := decide_eq_false (by omega)
  have e2 : decide (i ≥ 2 ^ 63) = false := decide_eq_false (by omega)
  rw [e1, e2, Bool.or_false]) (by rw [h1]; simpa using h2) ⟨.str ⟨#[c]⟩, H, I.tok _, ⟨_, rfl⟩, q⟩) hs
noncomputable def rIx (K : PySem.W.Frag) : R2 := fun x y H Q => rIxL K x y H Q ∨ rIxT K x y H Q ∨ rIxS x y H Q
theorem ix_seq : IxR X (rIx X.K) := ix_list.or (ix_tup.or ix_str)
theorem slice_bounds (lo hi : Option Int) (n : Nat) : (sliceBounds lo hi none n).1 = ((HT.sIx n 0 lo : Nat) : Int) ∧ (sliceBounds lo hi none n).2.1 = ((HT.sIx n n hi : Nat) : Int) ∧ (sliceBounds lo hi none n).2.2 = 1 := by
 refine ⟨?_, ?_, rfl⟩
 ·cases lo with
  | none => simp [sliceBounds, HT.sIx]
  | some i =>
   simp only [sliceBounds, HT.sIx, Option.getD_none, show (1 : Int) > 0 by decide, if_true]
   by_cases h : i < 0
   ·simp only [h, if_true] <;> omega
   ·simp only [h, if_false] <;> omega
 ·cases hi with
  | none => simp [sliceBounds, HT.sIx]
  | some i =>
   simp only [sliceBounds, HT.sIx, Option.getD_none, show (1 : Int) > 0 by decide, if_true]
   by_cases h : i < 0
   ·simp only [h, if_true] <;> omega
   ·simp only [h, if_false] <;> omega
theorem slicePick_cut (its : List Value) (lo hi : Option Int) : slicePick its.toArray lo hi none = ((its.drop (HT.sIx its.length 0 lo)).take (HT.sIx its.length its.length hi - HT.sIx its.length 0 lo)).toArray := by
 obtain ⟨h1, h2, h3⟩ := slice_bounds lo hi its.toArray.size
 unfold slicePick
 rw [h1, h2, h3]
 simp only [sliceRange_one, pick_run, List.size_toArray] <;> rfl
noncomputable def rSlL (K : PySem.W.Frag) : V → Option Int → Option Int → Hp → VK → Prop := fun x lo hi H Q => ∃ a xs, x = .ref a ∧ SqL K H a xs ∧ ∀ p, H p = none → Q (.ref p) (upd H p (.lst (cutV xs lo hi)))
theorem sl_list : SlR X (rSlL X.K) := by
 intro pins s σ H x v vl vu lo hi sl Q I rx hs pl pu h
 obtain ⟨a, xs, rfl, hx, q⟩ := h
 cases rx
 obtain ⟨its, r, ht, hz⟩ := I.list hx
 have hlen := r.length
 refine ⟨"list", _, slot_list_getitem.lookup, ht.isList.typeIs, ?_⟩
 refine wpAny_getItem_list_slice ht.isList hs pl pu .none (by simp) ?_ (by rw [List.size_toArray] <;> omega)
 rw [slicePick_cut, ← hlen]
 refine ⟨.ref s.heap.objs.size, _, I.laid (t' := s.toks) (o := .lst (cutV xs lo hi)) (fun b ob q => Heap.get?_push_of_some _ q) (Nat.le_refl _) ?_, rfl, q _ (I.hok.fresh (Nat.le_refl _))⟩
 exact ⟨Nat.le_trans (cutV_length xs lo hi) hz, _, 0, (r.drop (HT.sIx xs.length 0 lo)).take (HT.sIx xs.length xs.length hi - HT.sIx xs.length 0 lo), Heap.get?_push_size _ rfl⟩
theorem call_list_of : CallR X (.type "list") (fun xs H Q => ∃ p ys, xs = [.ref p] ∧ (SqL X.K H p ys ∨ SqT X.K H p ys) ∧ ∀ l, H l = none → Q (.ref l) (upd H l (.lst ys))) := by
 intro pins s σ H xs us Q I r h
 obtain ⟨p, ys, rfl, hq, q⟩ := h
 obtain ⟨u, rfl, rx⟩ := vals1 r
 cases rx
 have fin : ∀ (its : List Value), Vals ys its → ys.length ≤ sizeLine → ∀ (h' : Heap) (c' : Nat), (∀ b o', s.heap.get? b = some o' → h'.get? b = some o') →
   h'.get? s.heap.objs.size = some { cls := .type "list", dict := none, data := .seq its.toArray c', slots := #[] } → EP X pins σ Q (.ref s.heap.objs.size) { s with heap := h' } := fun its r' hz h' c' kp e =>
  ⟨.ref s.heap.objs.size, _, I.laid (t' := s.toks) kp (Nat.le_refl _) (show ObjOk X.prog X.w _ h' _ (.lst ys) from ⟨hz, its, c', r', e⟩), rfl, q _ (I.hok.fresh (Nat.le_refl _))⟩
 rcases hq with hq | hq
 ·obtain ⟨its, r', pl, hz⟩ := I.list hq
  have hlen := r'.length
  obtain ⟨o, ho, hc, n, hd⟩ := pl.isList
  exact call_list_seq p (.inl rfl) ho hc hd (fun h' c' kp e => fin its r' hz h' c' kp e) (by simp only [List.size_toArray] <;> omega)
 ·obtain ⟨its, r', pl, hz⟩ := I.tuple hq
  have hlen := r'.length
  obtain ⟨o, ho, hc, n, hd⟩ := pl
  exact call_list_seq p (.inr rfl) ho hc hd (fun h' c' kp e => fin its r' hz h' c' kp e) (by simp only [List.size_toArray] <;> omega)
theorem call_tuple_of : CallR X (.type "tuple") (fun xs H Q => ∃ p ys, xs = [.ref p] ∧ ((SqL X.K H p ys ∧ ∀ l, H l = none → Q (.ref l) (upd H l (.tup ys))) ∨ (SqT X.K H p ys ∧ Q (.ref p) H))) := by
 intro pins s σ H xs us Q I r h
 obtain ⟨p, ys, rfl, h⟩ := h
 obtain ⟨u, rfl, rx⟩ := vals1 r
 cases rx
 rcases h with ⟨hq, q⟩ | ⟨hq, q⟩
 ·obtain ⟨its, r', pl, hz⟩ := I.list hq
  have hlen := r'.length
  refine call_tuple_list pl.isList (fun h' kp => ?_) (by simp only [List.size_toArray] <;> omega)
  have I1 : Inv X pins σ H { s with heap := h' } := I.kept (t' := s.toks) kp
  have I2 : Inv X pins σ (upd H h'.objs.size (.tup ys)) { s with heap := h'.push { cls := .type "tuple", data := .seq its.toArray } } :=
   I1.laid (t' := s.toks) (fun b o e => Heap.get?_push_of_some _ e) (Nat.le_refl _) (show ObjOk X.prog X.w _ _ _ (.tup ys) from ⟨hz, its, r', IsTup.new _ _⟩)
  exact ⟨.ref h'.objs.size, _, I2, rfl, q _ (I1.hok.fresh (Nat.le_refl _))⟩
 ·obtain ⟨its, r', pl, hz⟩ := I.tuple hq
  exact call_tuple_same pl ⟨.ref p, H, I, rfl, q⟩
noncomputable def tyV (K : PySem.W.Frag) (T : String) (x : V) (H : Hp) : Prop := match x with
 | .str _ => T = "str"
 | .int _ => T = "int"
 | .ref p => (T = "list" ∧ ∃ xs, SqL K H p xs) ∨ (T = "tuple" ∧ ∃ o, K.lookup p = some o ∧ o.cls = .type "tuple" ∧ o.dict = none) ∨
   (T = "dict" ∧ ((∃ kvs, H p = some (.dK kvs)) ∨ ∃ kvs, H p = some (.dT kvs))) ∨ (T = "set" ∧ ∃ S n, H p = some (.set S n))
 | _ => False
theorem tyV_is {pins : List (Addr × Obj)} {σ : St} {H : Hp} {s : Shared} {T : String} {x : V} {v : Value} (I : Inv X pins σ H s) (r : RelV x v) (ty : tyV X.K T x H) :
  s.TypeIs v T ∧ ∀ a, v = .ref a → ∃ ob, s.heap.get? a = some ob ∧ ob.dict = none := by
 cases x with
 | str z =>
  obtain ⟨t, rfl⟩ := r
  cases (show T = "str" from ty)
  exact ⟨typeIs_str s z t, fun _ e => nomatch e⟩
 | int i =>
  obtain ⟨t, rfl⟩ := r
  cases (show T = "int" from ty)
  exact ⟨typeIs_int s i t, fun _ e => nomatch e⟩
 | ref p =>
  cases r
  rcases ty with ⟨rfl, xs, hq⟩ | ⟨rfl, o, hk, hc, hd⟩ | ⟨rfl, hk⟩ | ⟨rfl, S, n, hk⟩
  ·obtain ⟨its, _, pl, _⟩ := I.list hq
   refine ⟨pl.isList.typeIs, fun a e => ?_⟩
   cases e
   obtain ⟨o, n, e, c, hd, _⟩ := pl
   exact ⟨o, e, hd⟩
  ·refine ⟨⟨o, I.kIn p o hk, hc⟩, fun a e => ?_⟩
   cases e
   exact ⟨o, I.kIn _ o hk, hd⟩
  ·have z : ∃ o, s.heap.get? p = some o ∧ o.ExactDict := by
    rcases hk with ⟨kvs, hk⟩ | ⟨kvs, hk⟩
    ·obtain ⟨_, _, _, _, o, _, _, e, ex, _⟩ := I.hok p _ hk
     exact ⟨o, e, ex⟩
    ·obtain ⟨_, _, _, _, o, _, _, e, ex, _⟩ := I.hok p _ hk
     exact ⟨o, e, ex⟩
   obtain ⟨o, e, ex⟩ := z
   refine ⟨⟨o, e, ex.1⟩, fun a e2 => ?_⟩
   cases e2
   exact ⟨o, e, ex.2.1⟩
  ·obtain ⟨o, _, _, _, e, ex, _⟩ := I.hok p _ hk
   refine ⟨⟨o, e, ex.1⟩, fun a e2 => ?_⟩
   cases e2
   exact ⟨o, e, ex.2.1⟩
 | _ => exact False.elim ty
noncomputable def tBM (K : PySem.W.Frag) (T : String) (r : V → List V → Hp → VK → Prop) (to : TE) (t : TA) : TE := fun σ H Q => to σ H fun x H1 => tyV K T x H1 ∧ t σ H1 fun xs H2 => r x xs H2 Q
variable {o e : Expr} {es : List Expr} {to : TE} {t : TA} {name : Str} {apos cpos : Pos} {T id : String} {r : V → List V → Hp → VK → Prop}
theorem pe_bm (pa : PlainAttrs T) (slot : Slot T name id) (hty : typeOf (.builtin id) = pure (.type "method_descriptor")) (hm : MtR X id r) (ho : PE X o to) (ha : PA X (e :: es) t)
  (hbase : attributeBase o name X.env (eval o X.env) = eval o X.env := by rfl)
  (hfew : ((backTo cpos (starEach (e :: es) X.env)).all (fun x => !x.1) && (backToKw cpos (keywordEach [] X.env)).all (fun x => x.1.isSome)
   && decide ((e :: es).length + ([] : List Keyword).length + (if ([] : List Keyword).isEmpty then 0 else 1) < 30)) = true := by rfl)
  (hline : (apos.endLine == cpos.line) = true := by rfl) (hs : starEach (e :: es) X.env = (false, eval e X.env) :: starEach es X.env := by rfl) (hplain : (backTo cpos (starEach es X.env)).any (·.1) = false := by rfl) :
  PE X (.Call (.Attribute o name apos) (e :: es) [] cpos) (tBM X.K T r to t) := by
 intro pins s σ H Q I h
 refine wpAny_Call_method_late hbase hfew hline rfl (thn (ho pins s σ H _ I h) fun v s1 ⟨x, H1, I1, r1, ty, q1⟩ => ?_)
 obtain ⟨h1, h2⟩ := tyV_is I1 r1 ty
 refine ⟨T, id, pa, slot, hty, h1, h2, ?_⟩
 have hA := ha cpos pins s1 σ H1 _ I1 q1
 rw [hs] at hA ⊢
 refine Calls.callWith_builtin (by show (false || (backTo cpos (starEach es X.env)).any (·.1)) = false; rw [hplain] <;> rfl) (Calls.evalArgs_plain ?_)
 exact thn hA fun us s2 ⟨vs, H2, I2, r2, q2⟩ => hm pins s2 σ H2 x vs v us Q I2 r1 r2 q2
end
end L2
namespace L2
open PySem PySem.Spec PyProof.Rows
noncomputable def MtM (X : Cx) (id : String) (r : V → List V → Hp → VK → Prop) : Prop :=
 ∀ (pins : List (Addr × Obj)) (s : Shared) (σ : St) (H : Hp) (x : V) (xs : List V) (v : Value) (us : List Value) (Q : VK), Inv X pins σ H s → RelV x v → Vals xs us → r x xs H Q →
  wpAny (model X.prog X.w) X.A (call (.builtin id) (v :: us)) (EP X pins σ Q) X.xe s
theorem Vals.one : ∀ {x : V} {us : List Value}, Vals [x] us → ∃ u, us = [u] ∧ RelV x u
 | _, _, .cons r .nil => ⟨_, rfl, r⟩
theorem Vals.rep {xs : List V} {us : List Value} (h : Vals xs us) : ∀ k : Nat, Vals (List.replicate k xs).flatten (List.replicate k us).flatten
 | 0 => .nil
 | k + 1 => by
  rw [List.replicate_succ, List.replicate_succ, List.flatten_cons, List.flatten_cons]
  exact Vals.append h (Vals.rep h k)
theorem foldl_rep (its : List Value) : ∀ (k : Nat) (acc : List Value),
  List.foldl (fun x1 x2 => x1 ++ x2) acc.toArray (List.replicate k its.toArray) = (acc ++ (List.replicate k its).flatten).toArray
 | 0, acc => by simp
 | k + 1, acc => by
  have e : acc.toArray ++ its.toArray = (acc ++ its).toArray := by simp
  have e2 : (acc ++ its) ++ (List.replicate k its).flatten = acc ++ (List.replicate (k + 1) its).flatten := by
   rw [List.replicate_succ, List.flatten_cons, List.append_assoc]
  rw [← e2, ← foldl_rep its k (acc ++ its), ← e, List.replicate_succ, List.foldl_cons]
section
variable {X : Cx} {pins : List (Addr × Obj)} {σ : St} {H : Hp} {s : Shared} {l b : Addr} {xs ys zs : List V}
theorem Inv.lset {its its' : List Value} {n : Nat} {f : Array Value → Array Value} {t' : Nat} (I : Inv X pins σ H s) (hH : H l = some (.lst xs))
  (e : s.heap.get? l = some { cls := .type "list", data := .seq its.toArray n }) (hf : f its.toArray = its'.toArray) (hv : Vals ys its') (hz : ys.length ≤ sizeLine) :
  Inv X pins σ (upd H l (.lst ys)) { s with heap := s.heap.update l (Obj.mapSeq f), toks := t' } := by
 have q := PySem.IsL.update e f
 rw [hf] at q
 refine I.write (x := l) (e := l) (by rw [hH]; exact trivial) (.inl rfl) (fun b' u hb hu => (Heap.get?_update_other s.heap (Obj.mapSeq f) (Ne.symm hb)).trans hu) ⟨_, q⟩ ?_
 exact ⟨hz, its', _, hv, q⟩
theorem Inv.lnew {its : List Value} {t' : Nat} (I : Inv X pins σ H s) (hv : Vals ys its) (hz : ys.length ≤ sizeLine) :
  Inv X pins σ (upd H s.heap.objs.size (.lst ys)) { s with heap := s.heap.push { cls := .type "list", data := .seq its.toArray }, toks := t' } :=
 I.laid (fun _ _ q => Heap.get?_push_of_some _ q) (Nat.le_refl _) ⟨hz, its, 0, hv, Heap.get?_push_size _ rfl⟩
theorem Inv.fresh (I : Inv X pins σ H s) : H s.heap.objs.size = none := I.hok.fresh (Nat.le_refl _)
theorem Inv.lstM (I : Inv X pins σ H s) (hH : H l = some (.lst xs)) : xs.length ≤ sizeLine ∧ ∃ (its : List Value) (n : Nat), Vals xs its ∧ xs.length = its.length ∧ s.heap.get? l = some { cls := .type "list", data := .seq its.toArray n } := by
 obtain ⟨z, its, n, r, e⟩ := I.hok l _ hH
 exact ⟨z, its, n, r, r.length, e⟩
theorem notLongL {n : Nat} (h : n ≤ sizeLine) : Builtin.List.listTooLong n = false := by
 unfold Builtin.List.listTooLong
 exact decide_eq_false (by omega)
end
section
variable {X : Cx}
noncomputable def rAppend : V → List V → Hp → VK → Prop := fun x vs H Q => ∃ l xs y, x = .ref l ∧ vs = [y] ∧ H l = some (.lst xs) ∧ xs.length < sizeLine ∧ Q .non (upd H l (.lst (xs ++ [y])))
theorem mt_append : MtM X "list.append" rAppend := by
 intro pins s σ H x vs v us Q I rx rv h
 obtain ⟨l, xs, y, rfl, rfl, hH, hz, q⟩ := h
 cases rx
 obtain ⟨u, rfl, ru⟩ := rv.one
 obtain ⟨z, its, n, r, hl, e⟩ := I.lstM hH
 refine call_meets F.slot_list_append ⟨_, e, rfl⟩ F.entry_list_append (F.args_list_append_2 _ _) (PySem.list_append l its.toArray n u (by rw [List.size_toArray]; omega)) ⟨e, ?_⟩
 refine ⟨.non, _, I.lset (its' := its ++ [u]) hH e (by simp) (r.append (.cons ru .nil)) ?_, rfl, q⟩
 rw [List.length_append, List.length_singleton]
 omega
noncomputable def rExtend : V → List V → Hp → VK → Prop := fun x vs H Q => ∃ l b xs zs, x = .ref l ∧ vs = [.ref b] ∧ H l = some (.lst xs) ∧ H b = some (.lst zs) ∧ xs.length + zs.length ≤ sizeLine ∧ Q .non (upd H l (.lst (xs ++ zs)))
theorem mt_extend : MtM X "list.extend" rExtend := by
 intro pins s σ H x vs v us Q I rx rv h
 obtain ⟨l, b, xs, zs, rfl, rfl, hH, hB, hz, q⟩ := h
 cases rx
 obtain ⟨u, rfl, ru⟩ := rv.one
 cases ru
 obtain ⟨z, its, n, r, hl, e⟩ := I.lstM hH
 obtain ⟨z2, its2, n2, r2, hl2, e2⟩ := I.lstM hB
 have hsz : its.toArray.size + its2.toArray.size ≤ sizeLine := by rw [List.size_toArray, List.size_toArray]; omega
 have hlong : ¬ (!its.toArray.isEmpty && Builtin.List.listTooLong (its.toArray.size + its2.toArray.size)) = true := by
  rw [notLongL hsz, Bool.and_false]
  exact Bool.false_ne_true
 refine call_meets F.slot_list_extend ⟨_, e, rfl⟩ F.entry_list_extend (F.args_list_extend_2 _ _)
  (AutoSeq1.list_extend_list_list_0 l its.toArray n b its2.toArray n2 hlong (by rw [List.size_toArray]; omega) (by omega)) ⟨e, e2, ?_⟩
 refine ⟨.non, _, I.lset (its' := its ++ its2) hH e (by simp) (r.append r2) ?_, rfl, q⟩
 rw [List.length_append]
 omega
noncomputable def rCat : R2 := fun x y H Q => ∃ l b xs zs, x = .ref l ∧ y = .ref b ∧ H l = some (.lst xs) ∧ H b = some (.lst zs) ∧ xs.length + zs.length ≤ sizeLine ∧ ∀ p, H p = none → Q (.ref p) (upd H p (.lst (xs ++ zs)))
theorem op_cat : OpR X (binaryOp .Add) rCat := by
 intro pins s σ H x y v u Q I rx ry h
 obtain ⟨l, b, xs, zs, rfl, rfl, hH, hB, hz, q⟩ := h
 cases rx
 cases ry
 obtain ⟨z, its, n, r, hl, e⟩ := I.lstM hH
 obtain ⟨z2, its2, n2, r2, hl2, e2⟩ := I.lstM hB
 refine PySem.P.add_list e e2 ?_ (by rw [List.size_toArray, List.size_toArray]; omega)
 have ea : its.toArray ++ its2.toArray = (its ++ its2).toArray := by simp
 rw [ea]
 exact ⟨.ref _, _, I.lnew (t' := s.toks) (r.append r2) (by rw [List.length_append]; omega), rfl, q _ I.fresh⟩
noncomputable def rRep : R2 := fun x y H Q => ∃ l k xs, x = .ref l ∧ y = .int k ∧ H l = some (.lst xs) ∧ -(2 ^ 63) ≤ k ∧ k < 2 ^ 63 ∧ xs.length * k.toNat ≤ sizeLine ∧
 ∀ p, H p = none → Q (.ref p) (upd H p (.lst (List.replicate k.toNat xs).flatten))
theorem len_rep {α : Type} (xs : List α) (k : Nat) : (List.replicate k xs).flatten.length = k * xs.length := by
 induction k with
 | zero => simp
 | succ k ih => rw [List.replicate_succ, List.flatten_cons, List.length_append, ih, Nat.succ_mul, Nat.add_comm]
theorem op_rep : OpR X (binaryOp .Mult) rRep := by
 intro pins s σ H x y v u Q I rx ry h
 obtain ⟨l, k, xs, rfl, rfl, hH, h1, h2, hz, q⟩ := h
 cases rx
 obtain ⟨t, rfl⟩ := ry
 obtain ⟨z, its, n, r, hl, e⟩ := I.lstM hH
 have hlen : its.toArray.size * k.toNat ≤ sizeLine := by rw [List.size_toArray, ← hl]; exact hz
 have hcap : ¬ its.toArray.size * k.toNat > (2 ^ 63 - 1) / 8 := by
  have : (sizeLine : Nat) ≤ (2 ^ 63 - 1) / 8 := by decide
  omega
 have hfit : ¬ (!Builtin.List.listFitsIndex k) = true := by
  rw [fitsIndex_both h1 h2]
  exact Bool.false_ne_true
 have hlong : ¬ Builtin.List.listTooLong (its.toArray.size * k.toNat) = true := by
  rw [notLongL hlen]
  exact Bool.false_ne_true
 have hnew : List.foldl (fun x1 x2 => x1 ++ x2) #[] (List.replicate (if its.toArray.isEmpty = true then 0 else k.toNat) its.toArray) = (List.replicate k.toNat its).flatten.toArray := by
  have f0 : ∀ m : Nat, List.foldl (fun x1 x2 => x1 ++ x2) #[] (List.replicate m its.toArray) = (List.replicate m its).flatten.toArray := fun m => by
   have := foldl_rep its m []
   rw [List.nil_append] at this
   exact this
  rw [f0]
  cases its with
  | nil => simp
  | cons a r' => rw [if_neg (by simp)]
 refine wpAny_binaryOp_repeat_ref (T := "list") (U := "int") (by decide) ⟨_, e, rfl⟩ (fun s' => typeIs_int s' k t) noFill_list_mul F.fills_int_mul F.slot_int_rmul repeat_list F.slot_int_index.lookup
  (call_meets F.slot_int_rmul (typeIs_int s k t) F.entry_int_rmul (F.args_int_rmul_2 _ _) (int___rmul___int_list k t l its.toArray n)
   ⟨e, rfl, ⟨_, e, rfl⟩, call_meets F.slot_list_mul ⟨_, e, rfl⟩ F.entry_list_mul (F.args_list_mul_2 _ _) (AutoListH.list___mul___list_int_3 l its.toArray n k t hfit hcap hlong) ⟨e, ?_⟩⟩)
 rw [hnew]
 exact ⟨.ref _, _, I.lnew (t' := s.toks) (r.rep k.toNat) (by rw [len_rep, Nat.mul_comm]; exact hz), rfl, q _ I.fresh⟩
end
section
variable {prog : Program} {w : World} {A : Around} {E : Value → Shared → Prop} {s : Shared}
end
section
variable {X : Cx}
end
end L2
namespace Att
open PySem PySem.W PySem.Calls PyProof.Rows
theorem ints_of_wellAll {P : Params} {h : Heap} : ∀ (ns : List Int) (vs : List Value), WellAll P h vs (ns.map WData.int) → IntsAre vs ns := by
 intro ns
 induction ns with
 | nil =>
  intro vs w
  rw [List.map_nil] at w
  cases w
  exact .nil
 | cons n ns ih =>
  intro vs w
  rw [List.map_cons] at w
  cases w with
  | cons a b =>
   cases a
   exact .cons _ _ (ih _ b)
theorem script_of {l : OpenLaw} {n : Nat} (hn : l.most = some n) {P : Params} {h : Heap} {args : List WData} {vals : List Value}
  (hpre : l.row.toRowW.claim.pre args = true) (hwl : WellAll P h vals args) :
  ∃ a vs ns, vals = [Value.ref a] ∧ args = [WData.list (ns.map WData.int)] ∧ h.get? a = some { cls := .type "list", data := .seq vs.toArray } ∧ IntsAre vs ns ∧ ns.length ≤ n := by
 have hsh : WShape.hasAll [] args [.list .int] = true := (pre_splitW hpre).1
 have hc : l.pre.holds [] { args := args } = true := (pre_splitW hpre).2
 obtain ⟨d, r, rfl, h1, h2⟩ := hasAllW_cons hsh
 obtain rfl := hasAllW_nil h2
 obtain ⟨xs, rfl, h3⟩ := hasW_list h1
 obtain ⟨ns, rfl⟩ := items_int h3
 have hlen : ns.length ≤ n := by
  unfold OpenLaw.pre at hc
  have h4 : (WTm.not (.lt (.lit (.int (n : Int))) (.len (.arg 0)))).holds [] { args := [.list (ns.map .int)] } = true := by
   have h4 := (holds_andW hc).1
   rw [hn] at h4
   exact h4
  have h5 := condW_of h4 (w_not (w_lt w_lit (w_len_list (w_arg rfl))))
  rw [List.length_map] at h5
  refine Nat.le_of_not_lt fun q => ?_
  have q' : (n : Int) < ((ns.length : Nat) : Int) := by omega
  first
   | (rw [decide_eq_true q'] at h5; exact absurd h5 (by decide))
   | (simp at h5; omega)
 cases hwl with
 | cons w1 w2 =>
  cases w2
  cases w1 with
  | list ho hall => exact ⟨_, _, ns, rfl, rfl, ho, ints_of_wellAll ns _ hall, hlen⟩
theorem post_true (l : OpenLaw) (args : List WData) : l.row.toRowW.claim.post args (.bool true) args = true :=
 postW_of (r := l.row.toRowW) (X := (true == true))
  (show WShape.has [] (.bool true) .bool = true by first | rfl | decide | simp [WShape.has, WShape.arms, WShape.armsAll])
  (show (WTm.eq .res (.lit (.bool true))).value [] { args := args, res := some (.bool true), after := args } = some (.bool (true == true)) from w_eq_bool (w_res rfl) w_lit) rfl
theorem attach_call {l : OpenLaw} {n : Nat} {q : Program} {loose : List Str} {XP : (Str → Option Value) → Heap → Prop} {YP : World → Heap → Prop} {d : DefRec}
  (hn : l.most = some n) (hdf : d.params.defaults = [])
  (call : ∀ (w : World) (s₀ s₁ : Shared) (mg mb : Str → Option Value) (fa : Addr) (o : Obj) (pm cd doc : Value) (a : Addr) (vs : List Value) (ns : List Int),
   Ground q loose [] XP w s₀ mg mb s₁.heap → YP w s₁.heap →
   s₁.heap.get? fa = some o → o.data = .func (docDef d.name d.params d.body d.scope pm cd doc) → s₁.heap.CodeRec cd d.name → mg d.name = some (.ref fa) →
   s₁.heap.get? a = some { cls := .type "list", data := .seq vs.toArray } → IntsAre vs ns → ns.length ≤ n → s₁.gens = #[] →
   codeAny (model l.prog w) callerA (.call (.ref fa) ⟨[.ref a], []⟩) (fun r s' => r = .ok (.ret (.bool true)) ∧ OldK s₁.heap s'.heap ∧ s'.os = s₁.os ∧ AllBare s'.gens) s₁) :
  WalkO q loose XP YP l.row.toRowW d [] (fun f vs => PySem.call f vs) := by
 intro w s₀ s₁ mg mb G Y fa o pm cd doc dV kV ho hd hcd hD hmg hg args vals as hpre hlay hrd hwl hlo
 obtain rfl : dV = .none := Dflts.none hD hdf
 obtain rfl : kV = .none := Dflts.noKw hD
 obtain ⟨a, vs, ns, rfl, rfl, hobj, hints, hlen⟩ := script_of hn hpre hwl
 refine enter_call (codeAny_mono (call w s₀ s₁ mg mb fa o pm cd doc a vs ns G Y ho (fd_plain hd) hcd hmg hobj hints hlen hg) fun r s' hq => ?_)
 obtain ⟨rfl, h2, h3, h4⟩ := hq
 exact ⟨.inl ⟨.bool true, .bool true, [], rfl, fun _ => rfl, .bool true, post_true l _, fun _ => ⟨List.Pairwise.nil, fun _ hm => (nomatch hm)⟩⟩, h2, h3, h4⟩
section
variable {prog : Program} {w : World} {A : Around} {E : Value → Shared → Prop} {s : Shared} {K : Frag}
end
end Att
namespace L2
open PySem PySem.Spec PyProof.Rows
theorem vals_ints : ∀ {vs : List Value} {ns : List Int}, IntsAre vs ns → Vals (ns.map V.int) vs
 | _, _, .nil => .nil
 | _, _, .cons n t h => .cons ⟨t, rfl⟩ (vals_ints h)
noncomputable def Only (H : Hp) : Prop := ∀ b, H b = none ∨ ∃ o xs, H b = some (.frz o (.lst xs))
theorem law_call {P : Program} {w : World} {K : PySem.W.Frag} {mg mb : Str → Option Value} {CX : CXT} {k : Nat} {fa a : Addr} {fd : FuncData} {x : Str} {sp : Sp} {s₁ : Shared} {vs : List Value} {ns : List Int}
  (KX : K.In s₁.heap) (hns : s₁.heap.Ns mainGlobals mg) (hb : s₁.heap.Ns builtinsNs mb) (hbb : ∀ x : Str, x ≠ "__name__" → mb x = bootBuiltins x) (hlim : s₁.heap.NoLimit) (hg : s₁.gens = #[])
  (ha : s₁.heap.get? a = some { cls := .type "list", data := .seq vs.toArray }) (hi : IntsAre vs ns) (hl : ns.length ≤ sizeLine) (hr : Room k callerA)
  (F : ∀ base : Heap, K.In base → base.Ns mainGlobals mg → FnOk P w K mg base CX k fa fd [x] sp) (hbind : ∀ (s : Shared) (u : Value), BindsTo s fd ⟨[u], []⟩ [(x, u)])
  (hsp : ∀ H : Hp, Only H → SqL K H a (ns.map V.int) → sp [.ref a] H (fun v _ => v = .bl true) fun _ _ _ => False)
  (hCX : ∀ H e s', CX [] H s₁ (fun _ _ _ => False) e s' → False) :
  codeAny (model P w) callerA (.call (.ref fa) ⟨[.ref a], []⟩) (fun r s' => r = .ok (.ret (.bool true)) ∧ OldK s₁.heap s'.heap ∧ s'.os = s₁.os ∧ AllBare s'.gens) s₁ := by
 have rv := vals_ints hi
 have lenV := hi.length
 have core : ∀ H : Hp, Only H → SqL K H a (ns.map V.int) → HOk P w H s₁.heap → (∀ b, H b ≠ none → b = a) → (H a ≠ none → K.lookup a = none) →
   codeAny (model P w) callerA (.call (.ref fa) ⟨[.ref a], []⟩) (fun r s' => r = .ok (.ret (.bool true)) ∧ OldK s₁.heap s'.heap ∧ s'.os = s₁.os ∧ AllBare s'.gens) s₁ := by
  intro H hO hS hok hA hK
  have base_of : ∀ {b : Addr} {o : Obj}, s₁.heap.get? b = some o → H b = none → (hidT s₁.heap H).get? b = some o := fun e n => hidT_get e n
  have noA : ∀ {b : Addr} {o : Obj} {es : Array DictEntry} {ep : Nat}, s₁.heap.get? b = some o → o.data = .dict es ep → H b = none := fun {b o es ep} e d => by
   cases q : H b with
   | none => rfl
   | some u =>
    have e' : b = a := hA b (by rw [q]; simp)
    subst e'
    rw [ha] at e; cases e
    have d' : Data.seq vs.toArray _ = Data.dict es ep := d
    cases d'
  have nsK : ∀ {b : Addr} {m : Str → Option Value}, s₁.heap.Ns b m → (hidT s₁.heap H).Ns b m := fun {b m} ⟨o, es, ep, e, d, r⟩ => ⟨o, es, ep, base_of e (noA e d), d, r⟩
  have hKb : K.In (hidT s₁.heap H) := fun b o e => base_of (KX b o e) (by
   cases q : H b with
   | none => rfl
   | some u =>
    have e' : b = a := hA b (by rw [q]; simp)
    subst e'
    rw [hK (by rw [q]; simp)] at e; cases e)
  have hM : Mod K mg (hidT s₁.heap H) := ⟨hKb, nsK hns, ⟨mb, nsK hb, hbb⟩, let ⟨mc, h1, h2⟩ := hlim; ⟨mc, nsK h1, h2⟩⟩
  have e0 : Env0 P w K mg (hidT s₁.heap H) callerA [] s₁ H := ⟨rfl, hM, fun b o e => of_hidT e, Nat.le_of_eq (hidT_size _ _), trivial, fun b hb => absurd (show b ∈ ([] : List Addr) from hb) (by simp), hok, .of_eq hg⟩
  refine codeAny_mono ((F _ hKb (nsK hns)).run callerA [] s₁ H ⟨[.ref a], []⟩ [.ref a] [.ref a] _ _ hr e0 (hbind s₁ (.ref a)) (.cons rfl .nil) (hsp H hO hS)) fun r s' h => ?_
  cases r with
  | error e => exact (hCX H e s' h).elim
  | ok fl =>
   cases fl with
   | next => exact False.elim h
   | brk => exact False.elim h
   | cont => exact False.elim h
   | ret u =>
    obtain ⟨v, H', os, bare, un, hok', r', q⟩ := h
    have q' : v = .bl true := q
    subst q'
    obtain rfl : u = Value.bool true := r'
    refine ⟨rfl, OldK.of_keep fun b o e => ?_, os, bare⟩
    cases q : H b with
    | none => exact un.keep b o e q (by intro z; exact absurd (show b ∈ ([] : List Addr) from z) (by simp)) (by simp)
    | some u =>
     rcases hO b with z | ⟨ob, xs, z⟩
     ·rw [q] at z; cases z
     ·have z2 := un.frzs b ob _ z
      obtain ⟨e1, _⟩ := hok b _ z
      obtain ⟨e2, _⟩ := hok' b _ z2
      rw [e] at e1; cases e1
      exact e2
 cases hk : K.lookup a with
 | some o =>
  have e := KX a o hk
  rw [ha] at e
  cases e
  refine core (fun _ => none) (fun _ => .inl rfl) (.inr ⟨_, vs.toArray, _, hk, rfl, rfl, rfl, by rw [List.size_toArray, lenV]; exact hl, by simpa using rv⟩) (fun b u z => by have z' : (none : Option HO) = some u := z; cases z') (fun b z => absurd rfl z) fun z => absurd rfl z
 | none =>
  refine core (fun b => if b = a then some (.frz { cls := .type "list", data := .seq vs.toArray } (.lst (ns.map V.int))) else none) (fun b => ?_) (.inl (.inr ⟨{ cls := .type "list", data := .seq vs.toArray }, if_pos rfl⟩)) (fun b u z => ?_) (fun b z => ?_) fun _ => hk
  ·by_cases hb : b = a
   ·exact .inr ⟨_, _, if_pos hb⟩
   ·exact .inl (if_neg hb)
  ·by_cases hb : b = a
   ·have z' := (if_pos hb).symm.trans z
    cases z'
    subst hb
    exact ⟨ha, by rw [List.length_map]; exact hl, vs, _, rv, ha⟩
   ·have z' := (if_neg hb).symm.trans z
    cases z'
  ·by_cases hb : b = a
   ·exact hb
   ·exact absurd (if_neg hb) z
end L2
namespace L2
open PySem PySem.Spec PyProof.Rows
theorem walk_of {l : PySem.W.OpenLaw} {n k : Nat} {q : Program} {loose : List Str} {XP : (Str → Option Value) → Heap → Prop} {YP : World → Heap → Prop} {d : DefRec} {K : Params → PySem.W.Frag} {CX : World → CXT} {sp : World → Sp} {x : Str}
  (hn : l.most = some n) (hn2 : n ≤ sizeLine) (hdf : d.params.defaults = []) (hr : Room k callerA)
  (hY : ∀ (w : World) (h : Heap), YP w h → (K w.params).In h)
  (F : ∀ (w : World) (mg : Str → Option Value) (fa : Addr) (h : Heap), (K w.params).In h → h.Ns mainGlobals mg → mg d.name = some (.ref fa) →
   ∃ fd : FuncData, (∀ (s : Shared) (u : Value), BindsTo s fd ⟨[u], []⟩ [(x, u)]) ∧
    ∀ base : Heap, (K w.params).In base → base.Ns mainGlobals mg → FnOk l.prog w (K w.params) mg base (CX w) k fa fd [x] (sp w))
  (hsp : ∀ (w : World) (H : Hp) (a : Addr) (ns : List Int), ns.length ≤ n → Only H → SqL (K w.params) H a (ns.map V.int) → sp w [.ref a] H (fun v _ => v = .bl true) fun _ _ _ => False)
  (hCX : ∀ (w : World) (H : Hp) (s : Shared) (e : Value) (s' : Shared), CX w [] H s (fun _ _ _ => False) e s' → False) :
  PySem.W.WalkO q loose XP YP l.row.toRowW d [] (fun f vs => PySem.call f vs) := by
 refine Att.attach_call hn hdf fun w s₀ s₁ mg mb fa o pm cd doc a vs ns G Y ho hd hcd hmg hobj hints hlen hg => ?_
 have KX := hY w _ Y
 obtain ⟨fd, hb, hF⟩ := F w mg fa _ KX G.T.g hmg
 exact law_call KX G.T.g G.T.b G.T.builtins G.T.nolimit hg hobj hints (Nat.le_trans hlen hn2) hr hF hb (fun H hO hS => hsp w H a ns hlen hO hS) fun H e s' => hCX w H s₁ e s'
end L2
namespace L2
open PySem PySem.Spec PyProof.Rows
noncomputable def defArgs (s : Stmt) : Arguments := match s with
 | .FunctionDef _ a _ _ _ _ _ _ _ _ => a
 | _ => { posonlyargs := [], args := [], vararg := none, kwonlyargs := [], kw_defaults := [], kwarg := none, defaults := [] }
noncomputable def defBody (s : Stmt) : List Stmt := match s with
 | .FunctionDef _ _ b _ _ _ _ _ _ _ => b
 | _ => []
noncomputable def defScope (s : Stmt) : Scope := match s with
 | .FunctionDef _ _ _ _ _ _ sc _ _ _ => sc
 | _ => { kind := .function, names := [], isGenerator := false, isCoroutine := false }
noncomputable abbrev CX0 : CXT := fun _ _ _ _ _ _ => False
noncomputable abbrev E0 : XK := fun _ _ _ => False
theorem pass0 {X : Cx} : Passes CX0 X E0 := fun _ _ _ _ _ _ _ h => h.elim
structure Fun (K : PySem.W.Frag) (x qual : Str) (st : Stmt) (f : Addr) (fd : FuncData) : Prop where
 ex : ∃ (oc : Value) (od : Option Addr) (kV doc pm : Value) (an : Option Addr) (cdv ct : Value) (osl : Array (Option Value)),
  fd = PySem.W.fnOf x qual (defArgs st) (defBody st) (defScope st) .none kV doc pm an cdv ct ∧ K.lookup f = some ⟨oc, od, .func fd, osl⟩ ∧ PySem.W.codeIn K cdv qual = true
 kp : PySem.W.keepIn K (.ref f) = true
section
variable {P : Program} {w : World} {K : PySem.W.Frag} {mg : Str → Option Value} {base : Heap}
theorem Fun.ok {x qual : Str} {st : Stmt} {f : Addr} {fd : FuncData} {N ps : List Str} {k : Nat} {sp : Sp} (F : Fun K x qual st f fd) (S : FnScope N ps (defScope st)) (len : ∀ vs H Q E, sp vs H Q E → vs.length = ps.length)
  (hbody : ∀ (cdv : Value) (A : Around) (outer : List Env) (s : Shared) (H : Hp) (vs : List V) (Q : VK) (E : XK), Room k (A.deeper (envOfC qual (defScope st) s.heap.objs.size f cdv)) → sp vs H Q E →
   ∃ t, PSs (cxOf CX0 P w K mg base N qual (defScope st) f cdv A outer s H E).nox (defBody st) t ∧ t { nx := fun _ H' => Q .non H', rt := Q } (start N vs) H) : FnOk P w K mg base CX0 (k + 1) f fd ps sp := by
 obtain ⟨oc, od, kV, doc, pm, an, cdv, ct, osl, rfl, lk, hcd⟩ := F.ex
 refine fn_of lk hcd S len fun A outer s H vs Q E hr hsp => ?_
 obtain ⟨t, h, q⟩ := hbody cdv A outer s H vs Q E hr hsp
 exact ⟨t, h.nox, q⟩
theorem Fun.binds {x qual : Str} {st : Stmt} {f : Addr} {fd : FuncData} {ps : List Str} (F : Fun K x qual st f fd)
  (h : ∀ (kV doc pm : Value) (an : Option Addr) (cdv ct : Value) (us : List Value), us.length = ps.length → bindArgs (PySem.W.fnOf x qual (defArgs st) (defBody st) (defScope st) .none kV doc pm an cdv ct) ⟨us, []⟩ = pure (ps.zip us)) : Binds K fd ps [] := by
 obtain ⟨oc, od, kV, doc, pm, an, cdv, ct, osl, rfl, lk, hcd⟩ := F.ex
 exact .all (h kV doc pm an cdv ct)
theorem fun_mk {x qual : Str} {st : Stmt} {f : Addr} {oc : Value} {od an : Option Addr} {osl : Array (Option Value)} {kV doc pm cdv ct : Value} (l : K.lookup f = some ⟨oc, od, .func (PySem.W.fnOf x qual (defArgs st) (defBody st) (defScope st) .none kV doc pm an cdv ct), osl⟩)
  (c : PySem.W.codeIn K cdv qual = true) (k : PySem.W.keepIn K (.ref f) = true) : Fun K x qual st f (PySem.W.fnOf x qual (defArgs st) (defBody st) (defScope st) .none kV doc pm an cdv ct) := ⟨⟨oc, od, kV, doc, pm, an, cdv, ct, osl, rfl, l, c⟩, k⟩
end
section
variable {X : Cx}
theorem call_lenD : CallR X (.builtin "len") (fun xs H Q => ∃ a kvs, xs = [V.ref a] ∧ H a = some (.dK kvs) ∧ Q (.int kvs.length) H) := by
 intro pins s σ H xs us Q I r h
 obtain ⟨a, kvs, rfl, ha, q⟩ := h
 obtain ⟨u, rfl, ru⟩ := vals1 r
 cases ru
 exact d_len I (.inl ha) fun t s' I' => ⟨.int kvs.length, H, I', ⟨t, rfl⟩, q⟩
end
theorem iteF {A B : Prop} (h : B) : if false = true then A else B := by
 rw [if_neg Bool.false_ne_true]
 exact h
theorem iteT {A B : Prop} (h : A) : if true = true then A else B := by
 rw [if_pos rfl]
 exact h
theorem ite2 {c A B : Prop} [Decidable c] (h1 : c → A) (h2 : ¬ c → B) : if c then A else B := by
 by_cases h : c
 ·rw [if_pos h]
  exact h1 h
 ·rw [if_neg h]
  exact h2 h
noncomputable def Same (H H' : Hp) : Prop := ∀ b o, H b = some o → H' b = some o
theorem Same.refl (H : Hp) : Same H H := fun _ _ h => h
theorem Same.trans {H H1 H2 : Hp} (a : Same H H1) (b : Same H1 H2) : Same H H2 := fun c o h => b c o (a c o h)
theorem Same.free {H H' : Hp} (e : Same H H') {l : Addr} (h : H' l = Option.none) : H l = Option.none := by
 cases q : H l with
 | none => rfl
 | some o =>
  rw [e l o q] at h
  cases h
theorem Same.seq {K : PySem.W.Frag} {H H' : Hp} {a : Addr} {xs : List V} (e : Same H H') (h : SqL K H a xs) : SqL K H' a xs := by
 rcases h with (h | ⟨o, h⟩) | h
 ·exact .inl (.inl (e _ _ h))
 ·exact .inl (.inr ⟨o, e _ _ h⟩)
 ·exact .inr h
section
variable {κ : Type} [DecidableEq κ]
end
end L2
set_option maxHeartbeats 4000000
namespace L2
open PySem PySem.Spec PyProof.Rows
section
variable {X : Cx} {pins : List (Addr × Obj)} {σ : List (Option V)} {H : Hp} {s : Shared}
theorem HOk.track {P : Program} {w : World} {h : Heap} {D : Addr} {o : HO} (ok : HOk P w H h) (hn : H D = none) (new : ObjOk P w (upd H D o) h D o) : HOk P w (upd H D o) h := fun b u e => by
 by_cases hb : b = D
 ·subst hb; rw [upd_same] at e; cases e; exact new
 ·rw [upd_ne hb] at e
  refine (ok b u e).stay (fun _ _ _ q => q) (fun c q => ?_) (fun c xs q => ?_)
  ·rw [upd_ne (ne_of_none q hn)]; exact q
  ·rw [upd_ne (ne_of_none q hn)]; exact q
theorem Inv.track {D : Addr} {o : HO} (I : Inv X pins σ H s) (hn : H D = none) (hD : X.s₀.heap.objs.size ≤ D) (hL : D ≠ X.env.locals) (hc : ∀ x c, X.env.cells.lookup x = some c → c ≠ D) (hp : ∀ p ∈ X.pn ++ pins, p.1 ≠ D)
  (new : ObjOk X.prog X.w (upd H D o) s.heap D o) : Inv X pins σ (upd H D o) s := by
 refine ⟨I.ok, I.os, I.bare, ⟨I.base.keep, I.base.slot, fun b ob e n hx => ?_, I.base.there, fun b xs e => ?_, fun b ob u e => ?_, fun b ps e => ?_⟩, I.loc, I.cell, ?_, fun x c e => ?_, fun p hp' => ?_, I.hok.track hn new, I.len⟩
 ·rw [upd_ne (Nat.ne_of_lt (Nat.lt_of_lt_of_le (Heap.lt_size e) hD))]; exact I.base.free b ob e n hx
 ·have q := I.base.tups b xs e; rw [upd_ne (ne_of_none q hn)]; exact q
 ·have q := I.base.frzs b ob u e; rw [upd_ne (ne_of_none q hn)]; exact q
 ·obtain ⟨m, q⟩ := I.base.tbls b ps e; exact ⟨m, by rw [upd_ne (ne_of_none q hn)]; exact q⟩
 ·rw [upd_ne (Ne.symm hL)]; exact I.free
 ·rw [upd_ne (hc x c e)]; exact I.freeC x c e
 ·obtain ⟨e, n, a, b, d⟩ := I.pin p hp'
  exact ⟨e, by rw [upd_ne (hp p hp')]; exact n, a, b, d⟩
end
noncomputable def clOf (env : Env) : List (Str × NameKind) → List (Str × Addr) → List (Str × Addr)
 | [], acc => acc
 | (n, k) :: r, acc => clOf env r (if k == NameKind.free then (n, (env.cells.lookup n).getD 0) :: acc else acc)
theorem closure_go (env : Env) : ∀ (l : List (Str × NameKind)) (acc : List (Str × Addr)), (∀ n, (n, NameKind.free) ∈ l → ∃ c, env.cells.lookup n = some c) →
  (forIn l acc (fun (x : Str × NameKind) (r : List (Str × Addr)) => if (x.2 == NameKind.free) = true then (do let a ← cellOf env x.1; pure (ForInStep.yield ((x.1, a) :: r))) else pure (ForInStep.yield r)) : Sem (List (Str × Addr))) = pure (clOf env l acc)
 | [], acc, _ => rfl
 | (n, k) :: r, acc, h => by
  rw [List.forIn_cons]
  by_cases hk : (k == NameKind.free) = true
  ·have e : k = .free := by simpa using hk
   subst e
   obtain ⟨c, hc⟩ := h n List.mem_cons_self
   have e1 : cellOf env n = pure c := by unfold cellOf; rw [hc]
   have e2 : ((NameKind.free == NameKind.free) = true) = True := by simp
   simp only [e2, if_true, e1, pure_bind]
   rw [closure_go env r _ fun m hm => h m (List.mem_cons_of_mem _ hm)]
   show _ = pure (clOf env r (if (NameKind.free == NameKind.free) = true then (n, (env.cells.lookup n).getD 0) :: acc else acc))
   simp only [e2, if_true, hc, Option.getD_some]
  ·simp only [if_neg hk, pure_bind]
   rw [closure_go env r _ fun m hm => h m (List.mem_cons_of_mem _ hm)]
   show _ = pure (clOf env r (if (k == NameKind.free) = true then (n, (env.cells.lookup n).getD 0) :: acc else acc))
   rw [if_neg hk]
theorem closureFor_eq {scope : Scope} {env : Env} (h : ∀ n, (n, NameKind.free) ∈ scope.names → ∃ c, env.cells.lookup n = some c) : closureFor scope env = pure (clOf env scope.names []) := by
 unfold closureFor
 have e := closure_go env scope.names [] h
 first
  | exact e
  | (simp only [bind_pure]; exact e)
  | (rw [show (forIn scope.names ([] : List (Str × Addr)) _ : Sem (List (Str × Addr))) = _ from e]; rfl)
theorem clOf_mem (env : Env) : ∀ (l : List (Str × NameKind)) (acc : List (Str × Addr)) (x : Str) (c : Addr), (clOf env l acc).lookup x = some c → acc.lookup x = some c ∨ (x, NameKind.free) ∈ l ∧ c = (env.cells.lookup x).getD 0
 | [], acc, x, c, h => .inl h
 | (n, k) :: r, acc, x, c, h => by
  rcases clOf_mem env r _ x c h with e | ⟨e1, e2⟩
  ·by_cases hk : (k == NameKind.free) = true
   ·rw [if_pos hk] at e
    have ek : k = .free := by simpa using hk
    subst ek
    rw [List.lookup_cons] at e
    by_cases hx : (x == n) = true
    ·have ex : x = n := by simpa using hx
     subst ex
     rw [hx] at e
     exact .inr ⟨List.mem_cons_self, (Option.some.inj e).symm⟩
    ·have hx' : (x == n) = false := by simpa using hx
     rw [hx'] at e
     exact .inl e
   ·rw [if_neg hk] at e
    exact .inl e
  ·exact .inr ⟨List.mem_cons_of_mem _ e1, e2⟩
theorem clOf_has (env : Env) : ∀ (l : List (Str × NameKind)) (acc : List (Str × Addr)) (x : Str), ((x, NameKind.free) ∈ l ∨ ∃ c, acc.lookup x = some c) → ∃ c, (clOf env l acc).lookup x = some c
 | [], acc, x, h => by
  rcases h with h | h
  ·simp at h
  ·exact h
 | (n, k) :: r, acc, x, h => by
  refine clOf_has env r _ x ?_
  rcases h with h | ⟨c, h⟩
  ·rcases List.mem_cons.mp h with e | e
   ·injection e with e1 e2
    subst e1 e2
    right
    exact ⟨(env.cells.lookup x).getD 0, by rw [if_pos (by rfl), List.lookup_cons]; simp⟩
   ·exact .inl e
  ·right
   by_cases hk : (k == NameKind.free) = true
   ·rw [if_pos hk, List.lookup_cons]
    by_cases hx : (x == n) = true
    ·rw [hx]; exact ⟨_, rfl⟩
    ·have hx' : (x == n) = false := by simpa using hx
     rw [hx']; exact ⟨c, h⟩
   ·rw [if_neg hk]; exact ⟨c, h⟩
theorem lookup_relabel {scope : Scope} {env : Env} {x : Str} {k : NameKind} : ∀ {names : List (Str × NameKind)}, (names.map fun (n, k) => if (k == NameKind.free && env.scope.kind == .function && env.kindOf n == some .cell) then (n, NameKind.cell) else (n, k)).lookup x = some k →
  names.lookup x = some k ∨ (k = .cell ∧ names.lookup x = some .free)
 | [], h => by simp at h
 | (n, j) :: r, h => by
  have ih := @lookup_relabel scope env x k r
  rw [List.map_cons, List.lookup_cons] at h
  rw [List.lookup_cons]
  by_cases hc : (j == NameKind.free && env.scope.kind == .function && env.kindOf n == some .cell) = true
  ·simp only [hc, if_true] at h
   cases hx : x == n with
   | true =>
    rw [hx] at h
    have ej : j = .free := by
     simp only [Bool.and_eq_true] at hc
     simpa using hc.1.1
    exact .inr ⟨(Option.some.inj h).symm, by rw [ej]⟩
   | false => rw [hx] at h; exact ih h
  ·simp only [if_neg hc] at h
   cases hx : x == n with
   | true => rw [hx] at h; exact .inl h
   | false => rw [hx] at h; exact ih h
theorem relabel_free {scope : Scope} {env : Env} {x : Str} : ∀ {names : List (Str × NameKind)}, names.lookup x = some .free → ∃ k, (k = NameKind.cell ∨ k = .free) ∧
  (names.map fun (n, k) => if (k == NameKind.free && env.scope.kind == .function && env.kindOf n == some .cell) then (n, NameKind.cell) else (n, k)).lookup x = some k
 | [], h => by simp at h
 | (n, j) :: r, h => by
  have ih := @relabel_free scope env x r
  rw [List.lookup_cons] at h
  rw [List.map_cons, List.lookup_cons]
  by_cases hc : (j == NameKind.free && env.scope.kind == .function && env.kindOf n == some .cell) = true
  ·simp only [hc, if_true]
   cases hx : x == n with
   | true => exact ⟨.cell, .inl rfl, rfl⟩
   | false => rw [hx] at h; exact ih h
  ·simp only [if_neg hc]
   cases hx : x == n with
   | true => rw [hx] at h; exact ⟨.free, .inr rfl, h⟩
   | false => rw [hx] at h; exact ih h
noncomputable def capt (caps : List (Option Nat)) (σ : St) : St := caps.map fun o => o.bind fun i => (σ[i]?).getD none
noncomputable def capOk (XN : List Str) (env : Env) (scope : Scope) (N : List Str) (caps : List (Option Nat)) : Bool :=
 caps.length == N.length && (caps.zip N).all fun p => match p.1 with
  | none => scope.names.lookup p.2 == some .local
  | some i => XN[i]? == some p.2 && scope.names.lookup p.2 == some .free && (env.scope.names.lookup p.2 == some .cell || env.scope.names.lookup p.2 == some .free)
noncomputable def blk (X : Cx) (scope : Scope) (N : List Str) (s₀ : Shared) (H₀ : Hp) (C : Addr) (fp : List Addr) : Cx where
 prog := X.prog
 w := X.w
 K := X.K
 mg := X.mg
 base := X.base
 A := X.A
 N := N
 s₀ := s₀
 H₀ := H₀
 env := compEnvC scope (clOf X.env scope.names []) C X.env
 outer := X.stack
 stack := X.stack
 ex := fp
 fn := fun _ => false
 calm := X.calm
 pn := []
 xe := fun _ _ => False
structure BlkScope (scope : Scope) (N : List Str) : Prop where
 kind : scope.kind = .function
 nd : N.Nodup
 nocell : ∀ y ∈ scope.names, y.2 ≠ .cell
 names : ∀ y ∈ scope.names, scope.names.lookup y.1 = some y.2
section
variable {X : Cx} {pins : List (Addr × Obj)} {σ : List (Option V)} {H : Hp} {s : Shared}
theorem capOk_at {XN : List Str} {env : Env} {scope : Scope} {N : List Str} {caps : List (Option Nat)} (h : capOk XN env scope N caps = true) :
  caps.length = N.length ∧ ∀ (j i : Nat) (x : Str), caps[j]? = some (some i) → N[j]? = some x → XN[i]? = some x ∧ scope.names.lookup x = some .free ∧ (env.kindOf x = some .cell ∨ env.kindOf x = some .free) := by
 unfold capOk at h
 rw [Bool.and_eq_true] at h
 obtain ⟨h1, h2⟩ := h
 refine ⟨by simpa using h1, fun j i x e1 e2 => ?_⟩
 have hm : (some i, x) ∈ caps.zip N := by
  refine List.mem_of_getElem? (i := j) ?_
  rw [List.getElem?_zip_eq_some]
  exact ⟨e1, e2⟩
 have q := List.all_eq_true.mp h2 _ hm
 simp only [Bool.and_eq_true, Bool.or_eq_true, beq_iff_eq] at q
 exact ⟨q.1.1, q.1.2, q.2⟩
theorem Inv.block {scope : Scope} {N : List Str} {caps : List (Option Nat)} {C : Addr} {fp : List Addr} {s1 : Shared} {h1 : Heap} {tk : Nat} {m : Str → Option Value} (S : BlkScope scope N) (hcap : capOk X.N X.env scope N caps = true)
  (hfree : ∀ n, (n, NameKind.free) ∈ scope.names → ∃ c, X.env.cells.lookup n = some c)
  (I : Inv X pins σ H s) (hf : ∀ b ∈ fp, FpOk X pins H b) (hfl : ∀ b ∈ fp, b < s.heap.objs.size) (hC : s.heap.objs.size ≤ C) (hk : ∀ b o, s.heap.get? b = some o → h1.get? b = some o) (hn : h1.Ns C m) :
  Inv (blk X scope N s H C fp) [] (capt caps σ) H { s with heap := h1, toks := tk } := by
 obtain ⟨hlen, hat⟩ := capOk_at hcap
 have clsub : ∀ x c, (clOf X.env scope.names []).lookup x = some c → X.env.cells.lookup x = some c := fun x c e => by
  rcases clOf_mem X.env scope.names [] x c e with z | ⟨z1, z2⟩
  ·simp at z
  ·obtain ⟨c', hc'⟩ := hfree x z1
   rw [hc', z2, hc']; rfl
 have clt : ∀ x c, X.env.cells.lookup x = some c → c < s.heap.objs.size := fun x c e => by
  obtain ⟨v, o, ho, _⟩ := I.cell x c e
  exact Heap.lt_size ho
 have relk : ∀ x, ((compEnvC scope (clOf X.env scope.names []) C X.env).kindOf x = some .cell ∨ (compEnvC scope (clOf X.env scope.names []) C X.env).kindOf x = some .free) → (x, NameKind.free) ∈ scope.names := fun x hx => by
  have sub : ∀ k, (compEnvC scope (clOf X.env scope.names []) C X.env).kindOf x = some k → scope.names.lookup x = some k ∨ (k = .cell ∧ scope.names.lookup x = some .free) := fun k e => lookup_relabel (scope := scope) (env := X.env) e
  rcases hx with e | e
  ·rcases sub _ e with z | ⟨_, z⟩
   ·exact absurd rfl (S.nocell _ (PySem.mem_of_lookup z))
   ·exact PySem.mem_of_lookup z
  ·rcases sub _ e with z | ⟨z, _⟩
   ·exact PySem.mem_of_lookup z
   ·cases z
 refine ⟨⟨I.ok.mod, S.kind, I.ok.glob, I.ok.blt, hC, fun x y c e1 e2 => I.ok.inj x y c (clsub x c e1) (clsub y c e2), fun x hx => ?_, fun x c z _ => absurd (show false = true from z) Bool.false_ne_true, I.ok.hd, I.ok.frames, .inl rfl, fun b hb => ?_, I.bs, Nat.le_trans I.ok.bsz I.sz, fun b o e hb => ?_, fun b hb hb2 => ?_, I.stack, I.stkFree⟩,
  rfl, I.bare, Un.kept hk, ⟨m, hn, fun j x v e1 e2 e3 => ?_⟩, fun x c e => ?_, I.hok.fresh hC, fun x c e => I.freeC x c (clsub x c e), fun p hp => absurd (show p ∈ ([] : List (Addr × Obj)) from hp) (by simp), I.hok.kept hk, ?_⟩
 ·exact clOf_has X.env scope.names [] x (.inl (relk x hx))
 ·exact ⟨Nat.ne_of_lt (Nat.lt_of_lt_of_le (hfl b hb) hC), fun x c e => (hf b hb).2.2.2.2.1 x c (clsub x c e)⟩
 ·rcases (hf b hb).2.2.2.1 with z | z
  ·exact I.ok.noex b o e z
  ·exact absurd (Nat.lt_of_lt_of_le (Heap.lt_size e) (Nat.le_trans I.ok.bsz z)) (Nat.lt_irrefl _)
 ·rcases List.mem_cons.mp (I.stkSub b hb2) with z | z
  ·exact (hf b hb).2.1 z
  ·exact (hf b hb).2.2.1 z
 ·have e2' : (capt caps σ)[j]? = some (some v) := e2
  unfold capt at e2'
  rw [List.getElem?_map] at e2'
  cases hc : caps[j]? with
  | none => rw [hc] at e2'; cases e2'
  | some o =>
   rw [hc] at e2'
   cases o with
   | none => cases e2'
   | some i =>
    have e4 : (σ[i]?).getD none = some v := Option.some.inj e2'
    have e5 : σ[i]? = some (some v) := by
     cases q : σ[i]? with
     | none => rw [q] at e4; cases e4
     | some y => rw [q] at e4; exact congrArg some e4
    obtain ⟨a1, a2, a3⟩ := hat j i x hc e1
    obtain ⟨mX, hnX, hl⟩ := I.loc
    obtain ⟨u, r, l⟩ := hl i x v a1 e5 (a3.elim (fun z => .inr (.inl z)) fun z => .inr (.inr z))
    refine ⟨u, r, .inr ?_⟩
    obtain ⟨c, hcx, cell⟩ : ∃ c, X.env.cells.lookup x = some c ∧ s.heap.IsCell c (some u) := by
     rcases l with ⟨k, _⟩ | ⟨_, z⟩
     ·rw [k] at a3; rcases a3 with z | z <;> cases z
     ·exact z
    obtain ⟨k, hk2, hk3⟩ := relabel_free (scope := scope) (env := X.env) a2
    obtain ⟨c', hc'⟩ := clOf_has X.env scope.names [] x (.inl (PySem.mem_of_lookup a2))
    have hcc : c' = c := Option.some.inj ((clsub x c' hc').symm.trans hcx)
    subst hcc
    refine ⟨?_, c', hc', ?_⟩
    ·rcases hk2 with z | z
     ·subst z; exact .inl hk3
     ·subst z; exact .inr hk3
    ·obtain ⟨o, ho, hd⟩ := cell
     exact ⟨o, hk _ _ ho, hd⟩
 ·obtain ⟨v, o, ho, hd⟩ := I.cell x c (clsub x c e)
  exact ⟨v, o, hk _ _ ho, hd⟩
 ·show (capt caps σ).length = N.length
  unfold capt; rw [List.length_map]; exact hlen
end
end L2
namespace L2
open PySem PySem.Spec PyProof.Rows
theorem codeAny_compLoop_own {prog : Program} {w : World} {A : Around} {R : Result → Shared → Prop} {s : Shared} {elt target iter : Expr} {ifs : List Expr} {scope : Scope} {pos : Pos} {it acc : Value} {env : Env} (I : Nat → Shared → Prop)
  (turn : ∀ n s, I n s → wpAny (model prog w) A (pyNext it) (fun r s₁ => match r with
   | none => R (.ok .next) s₁
   | some v => wpAny (model prog w) A (letOwnedTupleGo target it v) (fun _ s₁' => wpAny (model prog w) A (assign target env v) (fun _ s₂ =>
     wpAny (model prog w) A (forIn ifs true fun c r => if r = true then do let ok ← isTrue c env (eval c env); pure (ForInStep.yield ok) else pure (ForInStep.yield r)) (fun ok s₃ =>
      if ok = true then wpAny (model prog w) A (eval elt env) (fun x s₄ =>
       wpAny (model prog w) A (call (.builtin "list.append") [acc, x]) (fun _ s₅ => ∃ m, m < n ∧ I m s₅) (fun _ _ => False) s₄) (fun _ _ => False) s₃
      else ∃ m, m < n ∧ I m s₃) (fun _ _ => False) s₂) (fun _ _ => False) s₁') (fun _ _ => False) s₁) (fun _ _ => False) s)
  (n : Nat) (h : I n s) :
  codeAny (model prog w) A (.compLoop (.ListComp elt [⟨target, iter, ifs, 0⟩] scope pos) 0 it acc env) R s := by
 refine codeAny_loop rfl I (fun n s hI => ?_) n h
 show wpAny _ A ((compTurn (.ListComp elt [⟨target, iter, ifs, 0⟩] scope pos) 0 it acc env).onRaise (fun x => do noteFrame x env; theTreesLotGoes x)) _ _ s
 refine wpAny_noted ?_
 rw [compTurn_list]
 refine wpAny_noRaise ?_
 refine wpAny_bind (wpAny_standAt (wpAny_bind (wpAny_mono (turn n s hI) (fun r s₁ h₁ => ?_) fun _ _ h' => h')))
 cases r with
 | none => exact wpAny_pure h₁
 | some v =>
  refine wpAny_bind (wpAny_mono h₁ (fun _ s₁' h₁' => ?_) fun _ _ h' => h')
  refine wpAny_bind (wpAny_mono h₁' (fun _ s₂ h₂ => wpAny_bind (wpAny_mono h₂ (fun ok s₃ h₃ => ?_) fun _ _ h' => h')) fun _ _ h' => h')
  cases ok with
  | false => exact wpAny_pure ⟨rfl, h₃⟩
  | true =>
   exact wpAny_bind (wpAny_bind (wpAny_mono h₃ (fun x s₄ h₄ => wpAny_bind (wpAny_mono h₄ (fun _ s₅ h₅ => wpAny_pure (wpAny_pure ⟨rfl, h₅⟩)) fun _ _ h' => h')) fun _ _ h' => h'))
noncomputable def PTs (X : Cx) (ifs : List Expr) (t : TT) : Prop :=
 ∀ (pins : List (Addr × Obj)) (s : Shared) (σ : St) (H : Hp) (Q : Bool → Hp → Prop), Inv X pins σ H s → t σ H Q →
  wpAny (model X.prog X.w) X.A (forIn ifs true fun c r => if r = true then do let ok ← isTrue c X.env (eval c X.env); pure (ForInStep.yield ok) else pure (ForInStep.yield r)) (TP X pins σ Q) X.xe s
noncomputable def tYes : TT := fun _ H Q => Q true H
theorem pts_nil {X : Cx} : PTs X [] tYes := fun _ _ _ H _ I h => wpAny_tests_nil ⟨H, I, h⟩
theorem pts_one {X : Cx} {c : Expr} {t : TT} (h : PT X c t) : PTs X [c] t := fun pins s σ H Q I hw => wpAny_tests_one (h pins s σ H Q I hw)
noncomputable def tLoop (J : It) (g : TG) (tt : TT) (te : TE) (τ0 : St) (H : Hp) (Qd : List V → Hp → Prop) : Prop :=
 ∃ W : Nat → Nat → List V → St → Hp → Prop, (∃ m, W 0 m [] τ0 H) ∧ ∀ i m xs τ H, W i m xs τ H →
  (J.stop i H ∧ Qd xs H) ∨ (J.go i H ∧ ∃ M : List V → St → Hp → Prop, (∀ ys τ' H', M ys τ' H' → ∃ m', m' < m ∧ W (i + 1) m' ys τ' H') ∧ ∀ x H', J.yld i H x H' → g x τ H' fun τ2 H2 => tt τ2 H2 fun b H3 =>
   if b = true then te τ2 H3 fun v H4 => xs.length < sizeLine ∧ M (xs ++ [v]) τ2 H4 else M xs τ2 H3)
section
variable {X : Cx} {pins : List (Addr × Obj)} {σ : List (Option V)} {s : Shared}
noncomputable abbrev lobj (its : List Value) (k : Nat) : Obj := { cls := .type "list", data := .seq its.toArray k }
theorem comp_run {elt tg iter : Expr} {ifs : List Expr} {scope : Scope} {N : List Str} {caps : List (Option Nat)} {pos : Pos} {g : TG} {tt : TT} {te : TE} {J : It} {fp : List Addr} {it : Addr} {tn : Nat → Heap → Prop} {H2 : Hp} {s2 : Shared} {Qd : List V → Hp → Prop}
  {E : Value → Shared → Prop} {RR : Value → Addr → Result → Shared → Prop}
  (S : BlkScope scope N) (hcap : capOk X.N X.env scope N caps = true) (hfree : ∀ n, (n, NameKind.free) ∈ scope.names → ∃ c, X.env.cells.lookup n = some c) (hc : X.calm = true)
  (hg : ∀ s₀ H₀ C fp, PG (blk X scope N s₀ H₀ C fp) tg g) (ht : ∀ s₀ H₀ C fp, PTs (blk X scope N s₀ H₀ C fp) ifs tt) (he : ∀ s₀ H₀ C fp, PE (blk X scope N s₀ H₀ C fp) elt te)
  (I2 : Inv X pins σ H2 s2) (T : Turn X.prog X.w X.K tg J fp it tn) (st2 : tn 0 s2.heap) (f2 : ∀ b ∈ fp, FpOk X pins H2 b) (h : tLoop J g tt te (capt caps σ) H2 Qd)
  (hRR : ∀ (D C : Addr) m xs H3 (s4 : Shared), Inv X pins σ (upd H3 D (.lst xs)) s4 → H3 D = none → s4.heap.Ns C m → FpOk X pins (upd H3 D (.lst xs)) C → Qd xs H3 → RR (.ref D) C (.ok .next) s4) :
  wpAny (model X.prog X.w) X.A (newList []) (fun acc s₃ => wpAny (model X.prog X.w) X.A (newFunctionEnv scope X.env.globals (clOf X.env scope.names []) [] X.env.qual none .none (some X.env)) (fun cenv s₄ =>
   codeAny (model X.prog X.w) X.A (.compStart (.ListComp elt [⟨tg, iter, ifs, 0⟩] scope pos) 0 (.ref it) acc { cenv with scope := relabel scope X.env }) (RR acc cenv.locals) s₄) E s₃) E s2 := by
 have hfl : ∀ b ∈ fp, b < s2.heap.objs.size := fun b hb => by
  obtain ⟨o, e, _⟩ := T.obj 0 s2.heap st2 b hb
  exact Heap.lt_size e
 refine wpAny_newObj_type (wpAny_newFunctionEnv S.nocell (by intro y hy; simp at hy) (fun h₁ hns hsb => ?_) S.kind)
 dsimp only at hns hsb ⊢
 generalize hHD : s2.heap.push { cls := .type "list", dict := none, data := .seq ([] : List Value).toArray } = HD at hns hsb ⊢
 have hC : HD.objs.size = s2.heap.objs.size + 1 := by rw [← hHD, Heap.size_push]
 have hDC : s2.heap.objs.size ≠ HD.objs.size := by rw [hC]; exact Nat.ne_of_lt (Nat.lt_succ_self _)
 have hCle : s2.heap.objs.size ≤ HD.objs.size := by rw [hC]; exact Nat.le_succ _
 have old : ∀ b o, s2.heap.get? b = some o → h₁.get? b = some o := fun b o e =>
  hsb.extBut b o (by rw [hC]; exact Nat.ne_of_lt (Nat.lt_succ_of_lt (Heap.lt_size e))) (Heap.get?_push_of_some _ (hHD ▸ Heap.get?_push_of_some _ e))
 have hacc : h₁.get? s2.heap.objs.size = some (lobj [] 0) := hsb.extBut _ _ hDC (Heap.get?_push_of_some _ (hHD ▸ Heap.get?_push_size _ rfl))
 obtain ⟨W, ⟨m0, w0⟩, turn⟩ := h
 have IY0 := Inv.block (caps := caps) (C := HD.objs.size) (fp := fp) (s1 := s2) (h1 := h₁) (tk := s2.toks + ([] : List (Str × Value)).length) S hcap hfree I2 f2 hfl hCle old hns
 have freshD : H2 s2.heap.objs.size = none := I2.hok.fresh (Nat.le_refl _)
 have pinOf : ∀ {τ : St} {H' : Hp} {s' : Shared} {its : List Value} {k : Nat}, Inv (blk X scope N s2 H2 HD.objs.size fp) [] τ H' s' → H' s2.heap.objs.size = none → s'.heap.get? s2.heap.objs.size = some (lobj its k) →
   Inv (blk X scope N s2 H2 HD.objs.size fp) [(s2.heap.objs.size, lobj its k)] τ H' s' := fun {τ H' s' its k} I hn e => I.pins_of fun p hp => by
  have ep : p = (s2.heap.objs.size, lobj its k) := by simpa using hp
  subst ep
  exact ⟨e, hn, hDC, fun z => by
   rcases List.mem_cons.mp (I2.stkSub _ z) with q | q
   ·exact absurd (q ▸ I2.lt) (Nat.lt_irrefl _)
   ·exact I2.nofs (Nat.le_refl _) q, fun v z => by cases z⟩
 have fY : ∀ {H' : Hp} {its : List Value} {k : Nat}, (∀ b ∈ fp, H' b = none) → ∀ b ∈ fp, FpOk (blk X scope N s2 H2 HD.objs.size fp) [(s2.heap.objs.size, lobj its k)] H' b := fun {H' its k} hn b hb => by
  have z := f2 b hb
  refine ⟨hn b hb, Nat.ne_of_lt (Nat.lt_of_lt_of_le (hfl b hb) hCle), fun q => ?_, .inl hb, fun x c e => IY0.ok.exf b hb |>.2 x c e, fun p hp => ?_⟩
  ·rcases List.mem_cons.mp (I2.stkSub b q) with q | q
   ·exact z.2.1 q
   ·exact z.2.2.1 q
  ·have ep : p = (s2.heap.objs.size, lobj its k) := by
    have : p ∈ [] ++ [(s2.heap.objs.size, lobj its k)] := hp
    simpa using this
   subst ep
   exact Nat.ne_of_gt (hfl b hb)
 have fin : ∀ {τ : St} {H3 : Hp} {s4 : Shared} {xs : List V} {its : List Value} {k : Nat}, Inv (blk X scope N s2 H2 HD.objs.size fp) [(s2.heap.objs.size, lobj its k)] τ H3 s4 → Vals xs its → xs.length ≤ sizeLine → Qd xs H3 →
   RR (.ref s2.heap.objs.size) HD.objs.size (.ok .next) s4 := fun {τ H3 s4 xs its k} I r hz q => by
  have hD := I.pin (s2.heap.objs.size, lobj its k) (by show _ ∈ [] ++ [_]; simp)
  have IX : Inv X pins σ H3 s4 := I2.call' (s' := s4) (ch := fp) I.os I.base I.hok I.bare fun b hb => ⟨(f2 b hb).2.2.2.1, (f2 b hb).2.1, (f2 b hb).2.2.2.2.1, (f2 b hb).2.2.2.2.2⟩
  have fD : FpOk X pins H3 s2.heap.objs.size := I2.fpOk (Nat.le_refl _) hD.2.1
  have fC : FpOk X pins H3 HD.objs.size := I2.fpOk hCle I.free
  have IT : Inv X pins σ (upd H3 s2.heap.objs.size (.lst xs)) s4 := IX.track hD.2.1 I2.sz fD.2.1 (fun x c e => fD.2.2.2.2.1 x c e) (fun p hp => fD.2.2.2.2.2 p hp) ⟨hz, its, k, r, hD.1⟩
  obtain ⟨m, hn, _⟩ := I.loc
  exact hRR _ _ m xs H3 s4 IT hD.2.1 hn ⟨by rw [upd_ne (Ne.symm hDC)]; exact fC.1, fC.2⟩ q
 have loop : ∀ s₃ : Shared, s₃ = { s2 with heap := h₁, toks := s2.toks + ([] : List (Str × Value)).length } →
   codeAny (model X.prog X.w) X.A (.compLoop (.ListComp elt [⟨tg, iter, ifs, 0⟩] scope pos) 0 (.ref it) (.ref s2.heap.objs.size) (compEnvC scope (clOf X.env scope.names []) HD.objs.size X.env)) (RR (.ref s2.heap.objs.size) HD.objs.size) s₃ := by
  rintro s₃ rfl
  refine codeAny_compLoop_own (fun n s' => ∃ i xs its k τ H', Inv (blk X scope N s2 H2 HD.objs.size fp) [(s2.heap.objs.size, lobj its k)] τ H' s' ∧ tn i s'.heap ∧ (∀ b ∈ fp, H' b = none) ∧ Vals xs its ∧ xs.length ≤ sizeLine ∧ W i n xs τ H') ?_ m0
   ⟨0, [], [], 0, _, _, pinOf IY0 freshD hacc, T.keep 0 _ _ st2 fun b _ o e => old b o e, fun b hb => (f2 b hb).1, .nil, Nat.zero_le _, w0⟩
  rintro n s3 ⟨i, xs, its, k, τ, H3, I3, st3, fr3, r3, z3, w3⟩
  rcases turn i n xs τ H3 w3 with ⟨stop, qn⟩ | ⟨go, M, hM, step⟩
  ·refine wpAny_mono (T.done (blk X scope N s2 H2 HD.objs.size fp) rfl rfl rfl hc i _ s3 τ H3 (fun _ _ => False) I3 (fY fr3) st3 stop) (fun r s4 ⟨hr, I4⟩ => ?_) fun _ _ z => z
   subst hr
   exact fin I4 r3 z3 qn
  ·refine wpAny_mono (T.item (blk X scope N s2 H2 HD.objs.size fp) rfl rfl rfl hc i _ s3 τ H3 (fun _ _ => False) I3 (fY fr3) st3 go) (fun r s4 ⟨u, hr, h4⟩ => ?_) fun _ _ z => z
   subst hr
   refine wpAny_mono h4 (fun _ s5 ⟨x, H5, I5, r5, y5, st5, fr5⟩ => ?_) fun _ _ z => z
   have I5' := I5.pinned (fY fr5) (T.obj _ _ st5)
   have keepT : ∀ {τ7 : St} {H7 : Hp} {s7 : Shared}, Inv (blk X scope N s2 H2 HD.objs.size fp) ([(s2.heap.objs.size, lobj its k)] ++ pinsAt fp s5.heap) τ7 H7 s7 → tn (i + 1) s7.heap ∧ ∀ b ∈ fp, H7 b = none := fun {τ7 H7 s7} I7 => by
    refine ⟨T.keep _ _ _ st5 fun b hb o e => (I7.pin (b, o) (List.mem_append_right _ (List.mem_append_right _ (mem_pinsAt hb e)))).1, fun b hb => ?_⟩
    obtain ⟨o, e, d⟩ := T.obj _ _ st5 b hb
    exact (I7.pin (b, o) (List.mem_append_right _ (List.mem_append_right _ (mem_pinsAt hb e)))).2.1
   refine wpAny_mono (hg _ _ _ _ _ s5 τ H5 x u _ I5' r5 (step x H5 y5)) (fun _ s6 ⟨τ6, H6, I6, q6⟩ => ?_) fun _ _ z => z
   refine wpAny_mono (ht _ _ _ _ _ s6 τ6 H6 _ I6 q6) (fun ok s7 ⟨H7, I7, q7⟩ => ?_) fun _ _ z => z
   cases ok with
   | false =>
    rw [if_neg Bool.false_ne_true] at q7 ⊢
    obtain ⟨m', hm, w7⟩ := hM _ _ _ q7
    obtain ⟨a1, a2⟩ := keepT I7
    exact ⟨m', hm, i + 1, xs, its, k, τ6, H7, I7.unpinned, a1, a2, r3, z3, w7⟩
   | true =>
    rw [if_pos rfl] at q7 ⊢
    refine wpAny_mono (he _ _ _ _ _ s7 τ6 H7 _ I7 q7) (fun v s8 ⟨y, H8, I8, r8, q8⟩ => ?_) fun _ _ z => z
    obtain ⟨hz, q8⟩ := q8
    obtain ⟨m', hm, w8⟩ := hM _ _ _ q8
    obtain ⟨a1, a2⟩ := keepT I8
    have hD := I8.pin (s2.heap.objs.size, lobj its k) (List.mem_append_right _ (List.mem_append_left _ (by simp)))
    have hlen := r3.length
    refine wpAny_list_append_plain (items := its.toArray) ⟨k, hD.1⟩ (fun h' hp hs => ?_) (by rw [List.size_toArray]; omega)
    obtain ⟨k', hp⟩ := hp
    have I9 : Inv (blk X scope N s2 H2 HD.objs.size fp) [] τ6 H8 { s8 with heap := h' } :=
     (I8.pins_of (pins' := []) (by simp)).turned (t' := s8.toks) (it := s2.heap.objs.size) (fun b o hb e => (hs.2 b hb).trans e) hD.2.1 hD.2.2.1 (.inr (Nat.le_refl _))
      (fun x c e z => by
       have q := IY0.cell x c e
       obtain ⟨v, o, ho, hd⟩ := I8.cell x c e
       have e1 : s8.heap.get? s2.heap.objs.size = some (lobj its k) := hD.1
       rw [z, e1] at ho
       cases ho
       cases hd) (by intro p hp; exact absurd (show p ∈ ([] : List (Addr × Obj)) ++ [] from hp) (by simp))
    have hp' : ({ s8 with heap := h' } : Shared).heap.get? s2.heap.objs.size = some (lobj (its ++ [v]) k') := by
     show h'.get? _ = _
     rw [hp]; simp
    have hkt : tn (i + 1) h' := T.keep _ _ _ a1 fun b hb o e => (hs.2 b (Nat.ne_of_lt (hfl b hb))).trans e
    refine ⟨m', hm, i + 1, xs ++ [y], its ++ [v], k', τ6, H8, pinOf I9 hD.2.1 hp', hkt, a2, r3.append (.cons r8 .nil), ?_, w8⟩
    rw [List.length_append]
    exact hz
 exact codeAny_compStart_list (loop _ rfl) (T.self X.A 0 _ _ _ (T.keep 0 _ _ st2 fun b _ o e => old b o e) (loop _ rfl))
noncomputable def freeOk (env : Env) (scope : Scope) : Bool := scope.names.all fun p => p.2 != .free || env.scope.names.lookup p.1 == some .cell || env.scope.names.lookup p.1 == some .free
theorem Inv.freeOk {H : Hp} {scope : Scope} (I : Inv X pins σ H s) (h : freeOk X.env scope = true) : ∀ n, (n, NameKind.free) ∈ scope.names → ∃ c, X.env.cells.lookup n = some c := fun n hn => by
 have q := List.all_eq_true.mp h _ hn
 simp only [Bool.or_eq_true, beq_iff_eq, bne_iff_ne] at q
 refine I.ok.has n ?_
 rcases q with (q | q) | q
 ·exact absurd rfl q
 ·exact .inl q
 ·exact .inr q
noncomputable def tComp (caps : List (Option Nat)) (wi : TI) (g : TG) (tt : TT) (te : TE) : TE := fun σ H Q => wi σ H fun J H1 => tLoop J g tt te (capt caps σ) H1 fun xs H3 => ∀ p, H3 p = none → Q (.ref p) (upd H3 p (.lst xs))
theorem pe_comp {elt tg iter : Expr} {ifs : List Expr} {scope : Scope} {N : List Str} {caps : List (Option Nat)} {pos : Pos} {wi : TI} {g : TG} {tt : TT} {te : TE}
  (S : BlkScope scope N) (hcap : capOk X.N X.env scope N caps = true) (hfr : L2.freeOk X.env scope = true) (hc : X.calm = true) (hi : PI X tg iter wi)
  (hg : ∀ s₀ H₀ C fp, PG (blk X scope N s₀ H₀ C fp) tg g) (ht : ∀ s₀ H₀ C fp, PTs (blk X scope N s₀ H₀ C fp) ifs tt) (he : ∀ s₀ H₀ C fp, PE (blk X scope N s₀ H₀ C fp) elt te)
  (hs : ∀ x, foldedSetIterable iter X.env x = pure x := by intro _; rfl) : PE X (.ListComp elt [⟨tg, iter, ifs, 0⟩] scope pos) (tComp caps wi g tt te) := by
 intro pins s σ H Q I h
 rw [eval_ListComp]
 refine wpAny_comprehension_free (use := none) rfl hs (closureFor_eq (I.freeOk hfr)) S.kind (fun x hx hl => hl ▸ S.names x hx) ?_
 refine thn (hi pins s σ H _ I h) fun v s1 h1 => thn h1 fun itv s2 h2 => ?_
 obtain ⟨it, fp, tn, J, H2, rfl, I2, T, st2, f2, hl⟩ := h2
 refine comp_run (RR := fun acc C => compPost (model X.prog X.w) X.A X.xe none (EP X pins σ Q) acc C) S hcap (I.freeOk hfr) hc hg ht he I2 T st2 f2 hl ?_
 intro D C m xs H3 s4 IT hD hn fC q
 refine ⟨m, hn, fun h' sb => ⟨.ref D, _, ?_, rfl, q D hD⟩⟩
 exact IT.turned (t' := s4.toks) (it := C) (fun b o hb e => (sb.2 b hb).trans e) fC.1 fC.2.1 fC.2.2.2.1 fC.2.2.2.2.1 fC.2.2.2.2.2
theorem ps_setComp {elt tg iter : Expr} {ifs : List Expr} {scope : Scope} {N : List Str} {caps : List (Option Nat)} {pos pos' spos : Pos} {wi : TI} {g : TG} {tt : TT} {te : TE} {i : Nat} {x : Str}
  (hN : X.N.Nodup) (hix : X.N[i]? = some x) (hx : X.env.scope.names.lookup x = some .local)
  (S : BlkScope scope N) (hcap : capOk X.N X.env scope N caps = true) (hfr : L2.freeOk X.env scope = true) (hc : X.calm = true) (hi : PI X tg iter wi)
  (hg : ∀ s₀ H₀ C fp, PG (blk X scope N s₀ H₀ C fp) tg g) (ht : ∀ s₀ H₀ C fp, PTs (blk X scope N s₀ H₀ C fp) ifs tt) (he : ∀ s₀ H₀ C fp, PE (blk X scope N s₀ H₀ C fp) elt te)
  (hsw : swapsWith (.ListComp elt [⟨tg, iter, ifs, 0⟩] scope pos) (some (.Name x pos')) spos.line X.env = pure true := by rfl)
  (hs : ∀ x, foldedSetIterable iter X.env x = pure x := by intro _; rfl) : PS X (.Assign [.Name x pos'] (.ListComp elt [⟨tg, iter, ifs, 0⟩] scope pos) spos) (tAsg (tComp caps wi g tt te) (gName i)) := by
 intro pins s σ H D I h
 rw [exec_Assign_Name_used _ _ _ _ hsw]
 refine wpAny_bind (wpAny_standAt (wpAny_bind ?_))
 show wpAny _ X.A (do let _ ← comprehension (.ListComp elt [⟨tg, iter, ifs, 0⟩] scope pos) scope X.env _ (newList []) false (eval iter X.env) (some (assign (.Name x pos') X.env))) _ _ s
 refine wpAny_bind (wpAny_mono (wpAny_comprehension_free (use := some (assign (.Name x pos') X.env)) (Q := fun _ s' => SP X pins D .next s') rfl hs (closureFor_eq (I.freeOk hfr)) S.kind (fun x hx hl => hl ▸ S.names x hx)
  (thn (hi pins s σ H _ I h) fun v s1 h1 => thn h1 fun itv s2 h2 => ?_)) (fun _ s' hq => wpAny_pure (wpAny_pure hq)) fun _ _ e => e)
 obtain ⟨it, fp, tn, J, H2, rfl, I2, T, st2, f2, hl⟩ := h2
 refine comp_run (RR := fun acc C => compPost (model X.prog X.w) X.A X.xe (some (assign (.Name x pos') X.env)) (fun _ s' => SP X pins D .next s') acc C) S hcap (I.freeOk hfr) hc hg ht he I2 T st2 f2 hl ?_
 intro Dl C m xs H3 s4 IT hD hn fC q
 show wpAny _ X.A (assign (.Name x pos') X.env (.ref Dl)) _ _ _
 obtain ⟨oC, es, ep, hoC, hdC, rC⟩ := id hn
 have IP : Inv X (pins ++ [(C, oC)]) σ (upd H3 Dl (.lst xs)) s4 := IT.pins_of fun p hp => (List.mem_append.mp hp).elim (fun z => IT.pin p (List.mem_append_right _ z)) fun z => by
  have e : p = (C, oC) := by simpa using z
  subst e
  exact ⟨hoC, fC.1, fC.2.1, fC.2.2.1, fun v z => by rw [hdC] at z; cases z⟩
 refine wpAny_assign_Name (store_ok (v := .ref Dl) IP hN hix (.inl hx) rfl (fun s5 I5 => ?_) (.inr hx))
 have hC5 := I5.pin (C, oC) (List.mem_append_right _ (List.mem_append_right _ (by simp)))
 refine ⟨m, ⟨oC, es, ep, hC5.1, hdC, rC⟩, fun h' sb => ⟨_, _, ?_, q Dl hD⟩⟩
 exact I5.unpinned.turned (t' := s5.toks) (it := C) (fun b o hb e => (sb.2 b hb).trans e) fC.1 fC.2.1 fC.2.2.2.1 fC.2.2.2.2.1 fC.2.2.2.2.2
end
noncomputable def Its (x : Str) : It := ⟨fun i _ => i < x.cps.size, fun i H v H' => H' = H ∧ ∃ c, x.cps[i]? = some c ∧ v = .str ⟨#[c]⟩, fun i _ => i = x.cps.size⟩
theorem walks_str {prog : Program} {w : World} {A : Around} (hh : A.handled = none) (I : Addr) (x : Str) (t : Tok) : Walks prog w A I [I] [I] x.cps.size (SignAt x) (fun i h => h.IsStrIter I (strIterType x) x t i) := by
 unfold strIterType
 split
 ·exact Walks.strAscii hh I x t
 ·exact Walks.strWide hh I x t
theorem turn_str {P : Program} {w : World} {K : PySem.W.Frag} {tg : Expr} (it : Addr) (x : Str) (t : Tok) : Turn P w K tg (Its x) [it] it (fun i h => h.IsStrIter it (strIterType x) x t i) where
 mem := by simp
 obj := fun i h st b hb => by
  have e : b = it := by simpa using hb
  subst e
  obtain ⟨o, e, c, d⟩ := st
  exact ⟨o, e, fun v z => by rw [d] at z; cases z⟩
 keep := fun i h h' st k => let ⟨o, ho, r⟩ := st; ⟨o, k it (by simp) o ho, r⟩
 item := by
  intro X hP hw hK hc i pins s σ H E I hf st hg
  subst hP hw hK
  obtain ⟨f0, f1, f2, f3, f4, f5⟩ := hf it (by simp)
  have W := walks_str (prog := X.prog) (w := X.w) (I.ok.hd hc) it x t
  refine W.item i s _ _ hg st fun v h' tk hv st' kk => ?_
  obtain ⟨c, u, hcx, rfl⟩ := hv
  have I1 : Inv X pins σ H { s with heap := h', toks := tk } := I.turned (fun b o hb e => kk b o (by simpa using hb) e) f0 f1 f3 f4 f5
  obtain ⟨o, ho, hcl, hda⟩ := id st'
  refine ⟨_, rfl, go_of (s := { s with heap := h', toks := tk }) ho hcl hda (by unfold strIterType; split <;> decide) ⟨.str ⟨#[c]⟩, H, I1, ⟨u, rfl⟩, ⟨rfl, c, hcx, rfl⟩, st', fun b hb => (hf b hb).1⟩⟩
 done := by
  intro X hP hw hK hc i pins s σ H E I hf st hg
  subst hP hw hK
  obtain ⟨f0, f1, f2, f3, f4, f5⟩ := hf it (by simp)
  have W := walks_str (prog := X.prog) (w := X.w) (I.ok.hd hc) it x t
  have e : i = x.cps.size := hg
  subst e
  exact W.done s _ _ st fun h' tk kk => ⟨rfl, I.turned (t' := tk) (fun b o hb e => kk b o (by simpa using hb) e) f0 f1 f3 f4 f5⟩
 self := fun A i s Q E st h => by
  have st : s.heap.IsStrIter it (strIterType x) x t i := st
  unfold strIterType at st
  split at st
  ·exact wpAny_pyIter_striter_ascii st h
  ·exact wpAny_pyIter_striter_wide st h
end L2
namespace L2
open PySem PySem.Spec PyProof.Rows
mutual
noncomputable def DatV (K : PySem.W.Frag) (H : Hp) : PyData → V → Prop
 | .none, v => v = .non
 | .bool b, v => v = .bl b
 | .int i, v => v = .int i
 | .str x, v => v = .str x
 | .list ds, v => ∃ a xs, v = .ref a ∧ SqL K H a xs ∧ DatVs K H ds xs
 | .tuple ds, v => ∃ a xs, v = .ref a ∧ SqT K H a xs ∧ DatVs K H ds xs
 | .dict _, _ => False
noncomputable def DatVs (K : PySem.W.Frag) (H : Hp) : List PyData → List V → Prop
 | [], xs => xs = []
 | d :: ds, xs => ∃ x r, xs = x :: r ∧ DatV K H d x ∧ DatVs K H ds r
end
theorem SqT.same {K : PySem.W.Frag} {H H' : Hp} {a : Addr} {xs : List V} (e : ∀ b o, H b = some o → H' b = some o) (h : SqT K H a xs) : SqT K H' a xs := by
 rcases h with (h | ⟨o, h⟩) | h
 ·exact .inl (.inl (e _ _ h))
 ·exact .inl (.inr ⟨o, e _ _ h⟩)
 ·exact .inr h
section
variable {X : Cx} {pins : List (Addr × Obj)} {σ : St} {H : Hp} {s : Shared}
mutual
theorem Inv.reads (I : Inv X pins σ H s) : ∀ (d : PyData) (v : V) (u : Value), DatV X.K H d v → RelV v u → ∃ as, Reads s.heap u d as
 | .none, v, u, h, r => by
  simp only [DatV] at h
  subst h
  cases r
  exact ⟨_, .none⟩
 | .bool b, v, u, h, r => by
  simp only [DatV] at h
  subst h
  cases r
  exact ⟨_, .bool b⟩
 | .int i, v, u, h, r => by
  simp only [DatV] at h
  subst h
  obtain ⟨t, rfl⟩ := r
  exact ⟨_, .int i t⟩
 | .str x, v, u, h, r => by
  simp only [DatV] at h
  subst h
  obtain ⟨t, rfl⟩ := r
  exact ⟨_, .str x t⟩
 | .list ds, v, u, h, r => by
  simp only [DatV] at h
  obtain ⟨a, xs, rfl, h2, h3⟩ := h
  cases r
  obtain ⟨its, rv, ⟨o, n, e, hc, _, hd⟩, _⟩ := I.list h2
  obtain ⟨as, q⟩ := Inv.readsAll I ds xs its h3 rv
  exact ⟨_, .list e hc hd (by simpa using q)⟩
 | .tuple ds, v, u, h, r => by
  simp only [DatV] at h
  obtain ⟨a, xs, rfl, h2, h3⟩ := h
  cases r
  obtain ⟨its, rv, ⟨o, e, hc, n, hd⟩, _⟩ := I.tuple h2
  obtain ⟨as, q⟩ := Inv.readsAll I ds xs its h3 rv
  exact ⟨_, .tuple e hc hd (by simpa using q)⟩
 | .dict _, _, _, h, _ => by simp only [DatV] at h
theorem Inv.readsAll (I : Inv X pins σ H s) : ∀ (ds : List PyData) (xs : List V) (us : List Value), DatVs X.K H ds xs → Vals xs us → ∃ as, ReadsAll s.heap us ds as
 | [], xs, us, h, r => by
  simp only [DatVs] at h
  subst h
  cases r
  exact ⟨_, .nil⟩
 | d :: ds, xs, us, h, r => by
  simp only [DatVs] at h
  obtain ⟨x, rr, rfl, h2, h3⟩ := h
  cases r with
  | cons r1 r2 =>
   obtain ⟨as, q1⟩ := Inv.reads I d x _ h2 r1
   obtain ⟨bs, q2⟩ := Inv.readsAll I ds rr _ h3 r2
   exact ⟨_, .cons q1 q2⟩
end
noncomputable def rIsi (K : PySem.W.Frag) : List V → Hp → VK → Prop := fun xs H Q => ∃ x c t u b, xs = [x, c] ∧ RelV c u ∧ (∀ u', RelV c u' → u' = u) ∧ TyOf K H x t ∧ PySem.W.kitOne K t u = some b ∧ Q (.bl b) H
theorem call_isi : CallR X (.builtin "isinstance") (rIsi X.K) := by
 intro pins s σ H xs us Q I r h
 obtain ⟨x, c, t, u, b, rfl, rc, uc, ty, e, q⟩ := h
 obtain ⟨v, w', rfl, rx, rw'⟩ := vals2 r
 cases uc w' rw'
 exact isinst_ok I rx ty e fun tk => ⟨.bl b, H, I.tok tk, rfl, q⟩
theorem relTy {n : String} : RelV (.ty n) (.type n) ∧ ∀ u', RelV (.ty n) u' → u' = .type n := ⟨rfl, fun u' h => h⟩
theorem bls_of : ∀ {bs : List Bool} {its : List Value}, Vals (bs.map V.bl) its → its = bs.map Value.bool
 | [], _, .nil => rfl
 | b :: bs, _, .cons r t => by rw [List.map_cons, bls_of t, show _ = Value.bool b from r]
theorem all_range (bs : List Bool) : (List.range bs.length).all (fun i => bs.getD i true) = bs.all id := by
 induction bs with
 | nil => rfl
 | cons b r ih =>
  rw [List.length_cons, List.range_succ_eq_map, List.all_cons, List.all_map, List.all_cons]
  have e : ((fun i => (b :: r).getD i true) ∘ Nat.succ) = fun i => r.getD i true := by funext i; simp
  rw [e, ih]
  simp
theorem bl_iter {E : Value → Shared → Prop} {A : Around} {Q : Value → Shared → Prop} {l : Addr} {its : Array Value} (hl : s.heap.IsList l its)
  (h : ∀ s₂ : Shared, s₂ = { s with heap := s.heap.push { cls := .type "list_iterator", data := .fields #[.ref l, .int 0 0] } } →
   (s₂.heap.IsListIter s.heap.objs.size l 0 ∧ s₂.heap.IsList l its) → l ≠ s.heap.objs.size → Q (.ref s.heap.objs.size) s₂) :
  wpAny (model X.prog X.w) A (pyIter (.ref l)) Q E s := by
 have hlt : l < s.heap.objs.size := by obtain ⟨_, e, _⟩ := hl; exact Heap.lt_size e
 exact wpAny_pyIter_list hl (h _ rfl ⟨⟨_, Heap.get?_push_size _ rfl, rfl, rfl⟩, hl.push _⟩ (Nat.ne_of_lt hlt))
theorem call_all (hc : X.calm = true) : CallR X (.builtin "all") (fun xs H Q => ∃ (a : Addr) (bs : List Bool), xs = [.ref a] ∧ SqL X.K H a (bs.map V.bl) ∧ Q (.bl (bs.all id)) H) := by
 intro pins s σ H xs us Q I r h
 obtain ⟨a, bs, rfl, ha, q⟩ := h
 obtain ⟨u, rfl, ru⟩ := vals1 r
 cases ru
 obtain ⟨its, rv, pl, hz⟩ := I.list ha
 have eb := bls_of rv
 subst eb
 refine call_all_walk (bl_iter pl.isList fun s₂ e st hne => ?_)
 subst e
 refine ⟨_, _, _, _, _, _, fun i => bs.getD i true, rfl, Walks.list (A := X.A.in1) (I.ok.hd hc) _ a hne _, st, fun i v s Q' E' hP hQ => ?_, fun h' tk hk => ?_⟩
 ·have hP : (bs.map Value.bool).toArray[i]? = some v := hP
  rw [List.getElem?_toArray, List.getElem?_map] at hP
  cases hb : bs[i]? with
  | none => rw [hb] at hP; cases hP
  | some b =>
   rw [hb] at hP
   cases hP
   refine wpAny_truthy_bool ?_
   have : bs.getD i true = b := by rw [List.getD_eq_getElem?_getD, hb]; rfl
   have hQ : Q' (bs.getD i true) s := hQ
   rw [this] at hQ
   exact hQ
 ·refine ⟨.bl (bs.all id), H, I.kept (t' := tk) fun b o e => hk b o (by simp; intro z; exact absurd (z ▸ Heap.lt_size e) (Nat.lt_irrefl _)) (Heap.get?_push_of_some _ e), ?_, q⟩
  rw [← all_range bs]
  show _ = _
  simp
theorem op_le_str : OpR X (compareOp .LtE) (fun x y H Q => ∃ i j, x = .str i ∧ y = .str j ∧ Q (.bl (!decide (j.cps.toList < i.cps.toList))) H) := by
 intro pins s σ H x y v u Q I rx ry h
 obtain ⟨i, j, rfl, rfl, q⟩ := h
 obtain ⟨t, rfl⟩ := rx
 obtain ⟨t', rfl⟩ := ry
 exact PySem.P.le_str (fin_bl I q rfl)
theorem op_mul_str : OpR X (binaryOp .Mult) (fun x y H Q => ∃ i n, x = .str i ∧ y = .int n ∧ MulOk i n ∧ Q (.str (Txt.mul i n)) H) := by
 intro pins s σ H x y v u Q I rx ry h
 obtain ⟨i, n, rfl, rfl, hk, q⟩ := h
 obtain ⟨t, rfl⟩ := rx
 obtain ⟨t', rfl⟩ := ry
 exact SB.mul hk fun t' k => ⟨.str _, H, I.tok _, ⟨_, rfl⟩, q⟩
theorem sl_str : SlR X (fun x lo hi H Q => ∃ y, x = .str y ∧ y.length ≤ sizeLine ∧ Q (.str (Txt.slice y lo hi)) H) := by
 intro pins s σ H x v vl vu lo hi sl Q I rx hs pl pu h
 obtain ⟨y, rfl, hz, q⟩ := h
 obtain ⟨t, rfl⟩ := rx
 have fin : ∀ (l u : Option (Int × Tok)), vl = partValue l → vu = partValue u → lo = l.map (·.1) → hi = u.map (·.1) → wpAny (model X.prog X.w) X.A (getItem (.str y t) (.ref sl)) (EP X pins σ Q) X.xe s := fun l u e1 e2 e3 e4 => by
  obtain ⟨o, ho, hc, hd⟩ := hs
  refine wpAny_getItem_str_slice (l := l) (u := u) (st := none) ⟨o, ho, hc, by rw [hd, e1, e2]; rfl⟩ rfl ?_
  subst e3 e4
  exact post_val_or_str ⟨Nat.le_trans (Txt.slice_le y _ _) hz, fun t' k => ⟨.str _, H, I.tok _, ⟨_, rfl⟩, q⟩⟩
 refine ⟨"str", _, PySem.F.slot_str_getitem.lookup, typeIs_str _ _ _, ?_⟩
 cases pl with
 | none =>
  cases pu with
  | none => exact fin none none rfl rfl rfl rfl
  | int j tj => exact fin none (some (j, tj)) rfl rfl rfl rfl
 | int i ti =>
  cases pu with
  | none => exact fin (some (i, ti)) none rfl rfl rfl rfl
  | int j tj => exact fin (some (i, ti)) (some (j, tj)) rfl rfl rfl rfl
end
end L2
namespace L2
open PySem PySem.Spec PyProof.Rows
noncomputable def notStar : Expr → Bool
 | .Starred _ _ => false
 | _ => true
theorem star_cons {e : Expr} (es : List Expr) (env : Env) (h : notStar e = true) : starEach (e :: es) env = (false, eval e env) :: starEach es env := by
 cases e <;> first | rfl | cases h
theorem star_back {pos : Pos} {env : Env} : ∀ (es : List Expr), es.all notStar = true → (backTo pos (starEach es env)).any (·.1) = false
 | [], _ => rfl
 | e :: es, h => by
  rw [List.all_cons, Bool.and_eq_true] at h
  rw [star_cons es env h.1]
  show (false || (backTo pos (starEach es env)).any (·.1)) = false
  rw [star_back es h.2]; rfl
theorem star_few {pos : Pos} {env : Env} : ∀ (es : List Expr), es.all notStar = true → (backTo pos (starEach es env)).all (fun x => !x.1) = true
 | [], _ => rfl
 | e :: es, h => by
  rw [List.all_cons, Bool.and_eq_true] at h
  rw [star_cons es env h.1]
  show (true && (backTo pos (starEach es env)).all (fun x => !x.1)) = true
  rw [star_few es h.2]; rfl
section
variable {X : Cx} {e : Expr} {es : List Expr} {te : TE} {t : TA} {x : Str} {p pos : Pos} {id T : String} {r : List V → Hp → VK → Prop}
theorem pac (ha : PE X e te) (hr : PA X es t) (hs : notStar e = true := by rfl) : PA X (e :: es) (tCons te t) := pa_cons ha hr (star_cons es X.env hs)
theorem pcb (hc : CallR X (.builtin id) r) (hg : Gl X x) (hm : X.mg x = none) (hv : bootBuiltins x = some (.builtin id)) (ha : PA X (e :: es) t) (hn : x ≠ "__name__" := by decide +kernel) (hdb : (x == ("__debug__" : Str)) = false := by decide +kernel)
  (hs : (e :: es).all notStar = true := by rfl) : PE X (.Call (.Name x p) (e :: es) [] pos) (tCB r t) := by
 have h2 := hs
 rw [List.all_cons, Bool.and_eq_true] at h2
 exact pe_callB hc hg hm hv ha hn hdb (star_cons es X.env h2.1) (star_back es h2.2)
theorem pct (hc : CallR X (.type T) r) (hg : Gl X x) (hm : X.mg x = none) (hv : bootBuiltins x = some (.type T)) (ha : PA X (e :: es) t) (hn : x ≠ "__name__" := by decide +kernel) (hdb : (x == ("__debug__" : Str)) = false := by decide +kernel)
  (hs : (e :: es).all notStar = true := by rfl) : PE X (.Call (.Name x p) (e :: es) [] pos) (tCB r t) := by
 have h2 := hs
 rw [List.all_cons, Bool.and_eq_true] at h2
 exact pe_callTy hc hg hm hv ha hn hdb (star_cons es X.env h2.1) (star_back es h2.2)
end
structure Src (K : PySem.W.Frag) (mg : Str → Option Value) (x : Str) (ps : List Str) (st : Stmt) : Prop where
 ex : ∃ f fd, Fun K x x st f fd ∧ mg x = some (.ref f) ∧ Binds K fd ps []
structure Def (P : Program) (w : World) (K : PySem.W.Frag) (mg : Str → Option Value) (base : Heap) (k : Nat) (x : Str) (ps : List Str) (sp : Sp) : Prop where
 ex : ∃ f fd, FnOk P w K mg base CX0 k f fd ps sp ∧ mg x = some (.ref f) ∧ PySem.W.keepIn K (.ref f) = true ∧ Binds K fd ps []
section
variable {P : Program} {w : World} {K : PySem.W.Frag} {mg : Str → Option Value} {base : Heap}
theorem Src.def {x : Str} {st : Stmt} {N ps : List Str} {k : Nat} {sp : Sp} (F : Src K mg x ps st) (S : FnScope N ps (defScope st)) (len : ∀ vs H Q E, sp vs H Q E → vs.length = ps.length)
  (hbody : ∀ (f : Addr) (cdv : Value) (A : Around) (outer : List Env) (s : Shared) (H : Hp) (vs : List V) (Q : VK) (E : XK), Room k (A.deeper (envOfC x (defScope st) s.heap.objs.size f cdv)) → sp vs H Q E →
   ∃ t, PSs (cxOf CX0 P w K mg base N x (defScope st) f cdv A outer s H E).nox (defBody st) t ∧ t { nx := fun _ H' => Q .non H', rt := Q } (start N vs) H) : Def P w K mg base (k + 1) x ps sp := by
 obtain ⟨f, fd, F, hm, hb⟩ := F.ex
 exact ⟨f, fd, F.ok S len (hbody f), hm, F.kp, hb⟩
end
section
variable {X : Cx} {e : Expr} {es : List Expr} {t : TA} {x : Str} {p pos : Pos} {k : Nat} {ps : List Str} {sp : Sp}
theorem pe_own (D : Def X.prog X.w X.K X.mg X.base k x ps sp) (hr : Room k X.A) (hg : Gl X x) (hx : Passes CX0 X E0) (ha : PA X (e :: es) t) (hdb : (x == ("__debug__" : Str)) = false := by decide +kernel) (hs : (e :: es).all notStar = true := by rfl) :
  PE X (.Call (.Name x p) (e :: es) [] pos) (tCall sp [] E0 t) := by
 obtain ⟨f, fd, F, hm, hk, hb⟩ := D.ex
 have h2 := hs
 rw [List.all_cons, Bool.and_eq_true] at h2
 exact pe_call F hr hg hm hk hb .nil hx ha hdb (star_cons es X.env h2.1) (star_back es h2.2)
theorem pe_ty (T : String) (hg : Gl X x) (hm : X.mg x = none) (hv : bootBuiltins x = some (.type T)) (hn : x ≠ "__name__" := by decide +kernel) (hd : (x == ("__debug__" : Str)) = false := by decide +kernel) : PE X (.Name x pos) (tC (.ty T)) :=
 pe_bltn hg hm hv rfl hn hd
end
noncomputable def bsOk (scope : Scope) (N : List Str) : Bool :=
 (match scope.kind with | .function => true | _ => false) && decide N.Nodup && scope.names.all fun y => y.2 != .cell && scope.names.lookup y.1 == some y.2
theorem bs_mk {scope : Scope} {N : List Str} (h : bsOk scope N = true) : BlkScope scope N := by
 unfold bsOk at h
 rw [Bool.and_eq_true, Bool.and_eq_true] at h
 obtain ⟨⟨h1, h2⟩, h3⟩ := h
 have h3 := List.all_eq_true.mp h3
 refine ⟨?_, of_decide_eq_true h2, fun y hy => ?_, fun y hy => ?_⟩
 ·cases e : scope.kind <;> rw [e] at h1 <;> first | rfl | cases h1
 ·have := h3 y hy
  rw [Bool.and_eq_true] at this
  simpa using this.1
 ·have := h3 y hy
  rw [Bool.and_eq_true] at this
  simpa using this.2
section
variable {X : Cx} {K : PySem.W.Frag}
variable {o e : Expr} {es : List Expr} {to : TE} {t : TA} {name : Str} {apos cpos : Pos} {T id : String} {r : V → List V → Hp → VK → Prop}
theorem pe_bmK (pa : PlainAttrs T) (slot : Slot T name id) (hty : typeOf (.builtin id) = pure (.type "method_descriptor")) (hm : MtR X id r) (ho : PE X o to) (ha : PA X (e :: es) t)
  (hbase : attributeBase o name X.env (eval o X.env) = eval o X.env := by rfl) (hs : (e :: es).all notStar = true := by rfl) (hfew : decide ((e :: es).length + 0 + 0 < 30) = true := by rfl)
  (hline : (apos.endLine == cpos.line) = true := by rfl) (hK : X.K = K := by rfl) : PE X (.Call (.Attribute o name apos) (e :: es) [] cpos) (tBM K T r to t) := by
 subst hK
 have h2 := hs
 rw [List.all_cons, Bool.and_eq_true] at h2
 refine pe_bm pa slot hty hm ho ha hbase ?_ hline (star_cons es X.env h2.1) (star_back es h2.2)
 rw [star_few _ hs]
 show (true && true && decide ((e :: es).length + 0 + 0 < 30)) = true
 rw [hfew]; rfl
end
end L2
namespace L2
open PySem PySem.Spec PyProof.Rows
end L2
set_option maxHeartbeats 400000
namespace PySem.W
open PySem PySem.Calls PyProof.Rows Builtin Builtin.ObjectAttr
section
variable {prog : Program} {w : World} {A : Around} {E : Value → Shared → Prop} {s : Shared} {K : Frag} {x C : Addr} {ox : Obj} {od : Option Obj} {name : Str} {expr : Bool} {Q : Value → Shared → Prop}
end
end PySem.W
namespace PySem.W
open PySem PySem.Calls PyProof.Rows Builtin Builtin.ObjectAttr
section
variable {prog : Program} {w : World} {A : Around} {E : Value → Shared → Prop} {s : Shared} {K : Frag} {x C : Addr} {ox : Obj} {od : Option Obj}
variable {nm q : Str} {N : Addr} {bs bm : List Value} {hdct : Bool} {sn : List Str} {sub : List Value} {ab : Bool} {col : Option Bool} {dd : Option Addr} {k0 k1 k2 k3 k5 : Option Value} {newId : String}
end
end PySem.W
set_option maxHeartbeats 1000000
namespace L2
open PySem PySem.Spec PyProof.Rows
section
variable {P : Program} {w : World} {H : Hp} {h : Heap}
end
section
variable {X : Cx} {pins : List (Addr × Obj)} {σ : St} {H : Hp} {s : Shared}
end
section
variable {X : Cx} {o e value : Expr} {es : List Expr} {f d : Str} {pos pos' apos p : Pos} {ta tv : TE} {t : TA} {K : PySem.W.Frag}
end
end L2
namespace PySem.W
open PySem PySem.Calls PyProof.Rows Builtin Builtin.ObjectAttr
section
variable {prog : Program} {w : World} {A : Around} {E : Value → Shared → Prop} {s : Shared} {K : Frag} {x C : Addr} {ox : Obj} {od : Option Obj}
end
end PySem.W
namespace L2
open PySem PySem.Spec PyProof.Rows
section
variable {X : Cx} {K : PySem.W.Frag}
variable {C f : Addr} {fd : FuncData} {ps : List Str} {k : Nat} {sp : Sp} {ds : List Value} {dvs : List V} {CX : CXT} {E : XK}
end
end L2
namespace L2
open PySem PySem.Spec PyProof.Rows
section
variable {X : Cx} {K : PySem.W.Frag}
end
end L2
set_option maxHeartbeats 4000000
namespace J
open PySem PySem.Spec PyProof.Rows L2
section
variable {P : Program} {w : World} {K : PySem.W.Frag} {mg : Str → Option Value} {base : Heap}
theorem by1 {p : List Value → Prop} (h : ∀ a, p [a]) (us : List Value) (e : us.length = 1) : p us := by
 cases us with
 | nil => cases e
 | cons a r =>
  have e : r = [] := List.eq_nil_of_length_eq_zero (Nat.succ.inj e)
  subst e; exact h a
theorem by2 {p : List Value → Prop} (h : ∀ a b, p [a, b]) (us : List Value) (e : us.length = 2) : p us := by
 cases us with
 | nil => cases e
 | cons a r => exact by1 (p := fun r => p (a :: r)) (h a) r (Nat.succ.inj e)
theorem by3 {p : List Value → Prop} (h : ∀ a b c, p [a, b, c]) (us : List Value) (e : us.length = 3) : p us := by
 cases us with
 | nil => cases e
 | cons a r => exact by2 (p := fun r => p (a :: r)) (h a) r (Nat.succ.inj e)
theorem by4 {p : List Value → Prop} (h : ∀ a b c d, p [a, b, c, d]) (us : List Value) (e : us.length = 4) : p us := by
 cases us with
 | nil => cases e
 | cons a r => exact by3 (p := fun r => p (a :: r)) (h a) r (Nat.succ.inj e)
theorem src_mk {x : Str} {st : Stmt} {f : Addr} {oc : Value} {od an : Option Addr} {osl : Array (Option Value)} {kV doc pm cdv ct : Value} {h : Heap} {ps : List Str} (X : K.In h) (G : h.Ns mainGlobals mg)
  (a : PySem.W.nsIn K mainGlobals x = some (some (.ref f))) (l : K.lookup f = some ⟨oc, od, .func (PySem.W.fnOf x x (defArgs st) (defBody st) (defScope st) .none kV doc pm an cdv ct), osl⟩)
  (c : PySem.W.codeIn K cdv x = true) (k : PySem.W.keepIn K (.ref f) = true)
  (b : ∀ (kV doc pm : Value) (an : Option Addr) (cdv ct : Value) (us : List Value), us.length = ps.length → bindArgs (PySem.W.fnOf x x (defArgs st) (defBody st) (defScope st) .none kV doc pm an cdv ct) ⟨us, []⟩ = pure (ps.zip us)) : Src K mg x ps st :=
 ⟨f, _, fun_mk (st := st) l c k, PySem.W.mg_of X G a, (fun_mk (st := st) l c k).binds b⟩
end
end J
namespace M
open PySem L2
inductive D where
 | non | bl (b : Bool) | int (i : Int) | str (x : Str) | tup (ds : List D) | lst (ds : List D) | dct (ks : List Key) (ds : List D) | loc (n : Nat) | ty (n : String) | scr (ns : List Int) | stc (xs : List Str) | fd | fn (a : Addr)
inductive MO where
 | lst (ds : List D) | dct (ks : List Key) (ds : List D) | feed (n : Nat) | ins (C : Addr) (ks : List Str) (ds : List D) | ddt (F : Addr → List Addr → Heap → Prop) (ks : List D)
noncomputable def fd3 (l s d : Int) : List (Key × V) := [(.inr "left", .int l), (.inr "seed", .int s), (.inr "drawn", .int d)]
noncomputable abbrev Sto := List (Option MO)
noncomputable def MO.d : MO → D
 | .lst ds => .lst ds
 | .dct ks ds => .dct ks ds
 | .feed _ => .fd
 | .ins _ _ _ => .fd
 | .ddt _ _ => .fd
inductive R where
 | dat (d : D) | new (o : MO)
noncomputable def R.d : R → D
 | .dat d => d
 | .new o => o.d
theorem al {H : Hp} {p : Addr} {o : HO} (hp : H p = none) : Same H (upd H p o) := fun b o' e => by rw [upd_ne (ne_of_none e hp)]; exact e
structure Wd where
 B : Hp
 r : Nat → Option Addr
structure Wd.le (w w' : Wd) : Prop where
 b : Same w.B w'.B
 r : ∀ n a, w.r n = some a → w'.r n = some a
theorem Wd.le.refl {w : Wd} : w.le w := ⟨Same.refl _, fun _ _ h => h⟩
theorem Wd.le.trans {w w1 w2 : Wd} (h : w.le w1) (g : w1.le w2) : w.le w2 := ⟨h.b.trans g.b, fun n a e => g.r n a (h.r n a e)⟩
mutual
noncomputable def Rep (K : PySem.W.Frag) (w : Wd) : D → V → Prop
 | .non, v => v = .non
 | .bl b, v => v = .bl b
 | .int i, v => v = .int i
 | .str x, v => v = .str x
 | .ty n, v => v = .ty n
 | .fd, v => ∃ a, v = .ref a
 | .fn a, v => v = .ref a
 | .loc n, v => ∃ a, w.r n = some a ∧ v = .ref a
 | .tup ds, v => ∃ a xs, v = .ref a ∧ w.B a = some (.tup xs) ∧ Reps K w ds xs
 | .stc ss, v => ∃ a, v = .ref a ∧ SqT K w.B a (ss.map V.str)
 | .lst ds, v => ∃ a xs, v = .ref a ∧ w.B a = some (.lst xs) ∧ Reps K w ds xs
 | .scr ns, v => ∃ a, v = .ref a ∧ SqL K w.B a (ns.map V.int)
 | .dct ks ds, v => ∃ a kvs, v = .ref a ∧ w.B a = some (.dK kvs) ∧ kvs.map (·.1) = ks ∧ Reps K w ds (kvs.map (·.2))
noncomputable def Reps (K : PySem.W.Frag) (w : Wd) : List D → List V → Prop
 | [], xs => xs = []
 | d :: ds, xs => ∃ x r, xs = x :: r ∧ Rep K w d x ∧ Reps K w ds r
end
mutual
theorem Rep.le {K : PySem.W.Frag} {w w' : Wd} (e : w.le w') : ∀ (d : D) (v : V), Rep K w d v → Rep K w' d v
 | .non, _, h => by simpa [Rep] using h
 | .bl b, _, h => by simpa [Rep] using h
 | .int i, _, h => by simpa [Rep] using h
 | .str x, _, h => by simpa [Rep] using h
 | .ty x, _, h => by simpa [Rep] using h
 | .fd, _, h => by simpa [Rep] using h
 | .fn _, _, h => by simpa [Rep] using h
 | .loc n, v, h => by
  simp only [Rep] at h ⊢
  obtain ⟨a, h1, h2⟩ := h
  exact ⟨a, e.r _ _ h1, h2⟩
 | .lst ds, v, h => by
  simp only [Rep] at h ⊢
  obtain ⟨a, xs, h1, h2, h3⟩ := h
  exact ⟨a, xs, h1, e.b _ _ h2, Reps.le e ds xs h3⟩
 | .scr ns, v, h => by
  simp only [Rep] at h ⊢
  obtain ⟨a, h1, h2⟩ := h
  exact ⟨a, h1, e.b.seq h2⟩
 | .tup ds, v, h => by
  simp only [Rep] at h ⊢
  obtain ⟨a, xs, h1, h2, h3⟩ := h
  exact ⟨a, xs, h1, e.b _ _ h2, Reps.le e ds xs h3⟩
 | .stc ns, v, h => by
  simp only [Rep] at h ⊢
  obtain ⟨a, h1, h2⟩ := h
  exact ⟨a, h1, SqT.same e.b h2⟩
 | .dct ks ds, v, h => by
  simp only [Rep] at h ⊢
  obtain ⟨a, xs, h1, h2, h3, h4⟩ := h
  exact ⟨a, xs, h1, e.b _ _ h2, h3, Reps.le e ds _ h4⟩
theorem Reps.le {K : PySem.W.Frag} {w w' : Wd} (e : w.le w') : ∀ (ds : List D) (xs : List V), Reps K w ds xs → Reps K w' ds xs
 | [], _, h => by simpa [Reps] using h
 | d :: ds, xs, h => by
  simp only [Reps] at h ⊢
  obtain ⟨x, r, h1, h2, h3⟩ := h
  exact ⟨x, r, h1, Rep.le e d x h2, Reps.le e ds r h3⟩
end
section
variable {K : PySem.W.Frag} {w w' : Wd}
theorem Reps.nil : Reps K w [] [] := by simp [Reps]
theorem Reps.cons {d : D} {v : V} {ds : List D} {vs : List V} (h : Rep K w d v) (t : Reps K w ds vs) : Reps K w (d :: ds) (v :: vs) := by
 simp only [Reps]; exact ⟨v, vs, rfl, h, t⟩
theorem Reps.length : ∀ {ds : List D} {vs : List V}, Reps K w ds vs → vs.length = ds.length
 | [], _, h => by simp only [Reps] at h; subst h; rfl
 | d :: ds, vs, h => by
  simp only [Reps] at h
  obtain ⟨x, r, rfl, _, h⟩ := h
  simp [Reps.length h]
theorem Reps.get : ∀ {ds : List D} {vs : List V} {i : Nat} {d : D}, Reps K w ds vs → ds[i]? = some d → ∃ v, vs[i]? = some v ∧ Rep K w d v
 | [], _, _, _, _, e => by simp at e
 | d :: ds, vs, 0, d', h, e => by
  simp only [Reps] at h
  obtain ⟨x, r, rfl, h1, h⟩ := h
  simp at e; subst e
  exact ⟨x, rfl, h1⟩
 | d :: ds, vs, i + 1, d', h, e => by
  simp only [Reps] at h
  obtain ⟨x, r, rfl, h1, h⟩ := h
  obtain ⟨v, e1, e2⟩ := Reps.get (i := i) h (by simpa using e)
  exact ⟨v, by simpa using e1, e2⟩
theorem Reps.append : ∀ {ds es : List D} {vs us : List V}, Reps K w ds vs → Reps K w es us → Reps K w (ds ++ es) (vs ++ us)
 | [], _, _, _, h, g => by simp only [Reps] at h; subst h; exact g
 | d :: ds, es, vs, us, h, g => by
  simp only [Reps] at h
  obtain ⟨x, r, rfl, h1, h⟩ := h
  exact Reps.cons h1 (Reps.append h g)
theorem Reps.snoc {ds : List D} {vs : List V} {d : D} {v : V} (h : Reps K w ds vs) (g : Rep K w d v) : Reps K w (ds ++ [d]) (vs ++ [v]) := h.append (.cons g .nil)
theorem Reps.take : ∀ (n : Nat) {ds : List D} {vs : List V}, Reps K w ds vs → Reps K w (ds.take n) (vs.take n)
 | 0, _, _, _ => by simp [Reps]
 | n + 1, [], _, h => by simp only [Reps] at h; subst h; simp [Reps]
 | n + 1, d :: ds, vs, h => by
  simp only [Reps] at h
  obtain ⟨x, r, rfl, h1, h⟩ := h
  exact Reps.cons h1 (Reps.take n h)
theorem Reps.drop : ∀ (n : Nat) {ds : List D} {vs : List V}, Reps K w ds vs → Reps K w (ds.drop n) (vs.drop n)
 | 0, _, _, h => h
 | n + 1, [], _, h => by simp only [Reps] at h; subst h; simp [Reps]
 | n + 1, d :: ds, vs, h => by
  simp only [Reps] at h
  obtain ⟨x, r, rfl, h1, h⟩ := h
  exact Reps.drop n h
end
noncomputable def RepO (K : PySem.W.Frag) (w : Wd) : MO → HO → Prop
 | .lst ds, u => ∃ xs, u = .lst xs ∧ Reps K w ds xs
 | .dct ks ds, u => ∃ kvs, u = .dK kvs ∧ kvs.map (·.1) = ks ∧ Reps K w ds (kvs.map (·.2))
 | .feed n, u => ∃ l s : Int, u = .dK (fd3 l s n) ∧ 0 ≤ l ∧ 0 ≤ s ∧ s < 1000003
 | .ins C ks ds, u => ∃ dx fs, u = .ins C dx fs ∧ fs.map (·.1) = ks ∧ Reps K w ds (fs.map (·.2))
 | .ddt F ks, u => ∃ (a : Addr) (bs : List Addr), u = .ext (F a bs) ∧ Reps K w ks (bs.map V.ref)
theorem RepO.le {K : PySem.W.Frag} {w w' : Wd} (e : w.le w') : ∀ {o : MO} {u : HO}, RepO K w o u → RepO K w' o u
 | .lst ds, u, ⟨xs, h1, h2⟩ => ⟨xs, h1, h2.le e⟩
 | .dct ks ds, u, ⟨xs, h1, h2, h3⟩ => ⟨xs, h1, h2, h3.le e⟩
 | .feed n, u, h => h
 | .ins C ks ds, u, ⟨dx, fs, h1, h2, h3⟩ => ⟨dx, fs, h1, h2, h3.le e⟩
 | .ddt F ks, u, ⟨a, bs, h1, h2⟩ => ⟨a, bs, h1, h2.le e⟩
structure Ok (K : PySem.W.Frag) (w : Wd) (H : Hp) (S : Sto) : Prop where
 base : Same w.B H
 live : ∀ n o, S[n]? = some (some o) → ∃ a u, w.r n = some a ∧ w.B a = none ∧ H a = some u ∧ RepO K w o u
 inj : ∀ n m o o', S[n]? = some (some o) → S[m]? = some (some o') → w.r n = w.r m → n = m
 top : ∀ n, S.length ≤ n → w.r n = none
noncomputable def RepR (K : PySem.W.Frag) (w : Wd) (H : Hp) (S : Sto) : R → V → Prop
 | .dat d, v => Rep K w d v
 | .new o, v => ∃ a u, v = .ref a ∧ w.B a = none ∧ H a = some u ∧ RepO K w o u ∧ ∀ n o', S[n]? = some (some o') → w.r n ≠ some a
noncomputable def EnvR (K : PySem.W.Frag) (w : Wd) (δ : List (Option D)) (σ : St) : Prop := δ.length = σ.length ∧ ∀ (i : Nat) (d : D), δ[i]? = some (some d) → ∃ v, σ[i]? = some (some v) ∧ Rep K w d v
theorem EnvR.le {K : PySem.W.Frag} {w w' : Wd} {δ : List (Option D)} {σ : St} (h : EnvR K w δ σ) (e : w.le w') : EnvR K w' δ σ := ⟨h.1, fun i d q => by
 obtain ⟨v, h1, h2⟩ := h.2 i d q
 exact ⟨v, h1, h2.le e⟩⟩
theorem EnvR.set {K : PySem.W.Frag} {w : Wd} {δ : List (Option D)} {σ : St} {d : D} {v : V} (h : EnvR K w δ σ) (g : Rep K w d v) (i : Nat) : EnvR K w (δ.set i (some d)) (σ.set i (some v)) := by
 refine ⟨by simp [h.1], fun j e q => ?_⟩
 by_cases hij : i = j
 ·subst hij
  rw [List.getElem?_set] at q ⊢
  rw [if_pos rfl] at q ⊢
  by_cases hl : i < δ.length
  ·rw [if_pos hl] at q
   rw [if_pos (by rw [← h.1]; exact hl)]
   have : d = e := by simpa using q
   subst this
   exact ⟨v, rfl, g⟩
  ·rw [if_neg hl] at q; cases q
 ·rw [List.getElem?_set_ne hij] at q ⊢
  exact h.2 j e q
section
variable {K : PySem.W.Frag} {w w' : Wd} {H H' : Hp} {S S' : Sto}
theorem freeze {r : R} {v : V} (k : Ok K w H S) (h : RepR K w H S r v) : ∃ w', w.le w' ∧ Ok K w' H S ∧ Rep K w' r.d v := by
 cases r with
 | dat d => exact ⟨w, .refl, k, h⟩
 | new o =>
  obtain ⟨a, u, rfl, hb, ha, ho, hn⟩ := h
  have le : w.le ⟨upd w.B a u, w.r⟩ := ⟨al hb, fun _ _ e => e⟩
  refine ⟨⟨upd w.B a u, w.r⟩, le, ⟨fun b o' e => ?_, fun n o' e => ?_, k.inj, k.top⟩, ?_⟩
  ·by_cases hba : b = a
   ·subst hba
    have e : upd w.B b u b = some o' := e
    rw [upd_same] at e; rw [ha]; exact e
   ·have e : upd w.B a u b = some o' := e
    rw [upd_ne hba] at e; exact k.base b o' e
  ·obtain ⟨a', u', h1, h2, h3, h4⟩ := k.live n o' e
   have : a' ≠ a := by intro z; subst z; exact hn n o' e h1
   exact ⟨a', u', h1, by show upd w.B a u a' = none; rw [upd_ne this]; exact h2, h3, h4.le le⟩
  ·cases o with
   | lst ds =>
    obtain ⟨xs, rfl, h⟩ := ho
    show Rep K _ (.lst ds) _
    simp only [Rep]
    exact ⟨a, xs, rfl, upd_same, h.le le⟩
   | dct ks ds =>
    obtain ⟨kvs, rfl, h1, h⟩ := ho
    show Rep K _ (.dct ks ds) _
    simp only [Rep]
    exact ⟨a, kvs, rfl, upd_same, h1, h.le le⟩
   | feed n =>
    show Rep K _ .fd _
    simp only [Rep]
    exact ⟨a, rfl⟩
   | ins C ks ds =>
    show Rep K _ .fd _
    simp only [Rep]
    exact ⟨a, rfl⟩
   | ddt F ks =>
    show Rep K _ .fd _
    simp only [Rep]
    exact ⟨a, rfl⟩
theorem store {o : MO} {v : V} (k : Ok K w H S) (h : RepR K w H S (.new o) v) : ∃ w', w.le w' ∧ Ok K w' H (S ++ [some o]) ∧ Rep K w' (.loc S.length) v := by
 obtain ⟨a, u, rfl, hb, ha, ho, hn⟩ := h
 let r' : Nat → Option Addr := fun n => if n = S.length then some a else w.r n
 have le : w.le ⟨w.B, r'⟩ := ⟨Same.refl _, fun n b e => by
  have : n ≠ S.length := by
   intro z; subst z
   rw [k.top _ (Nat.le_refl _)] at e; cases e
  show (if n = S.length then some a else w.r n) = some b
  rw [if_neg this]; exact e⟩
 have at_ : ∀ n o', (S ++ [some o])[n]? = some (some o') → (n = S.length ∧ o' = o) ∨ (n < S.length ∧ S[n]? = some (some o')) := fun n o' e => by
  by_cases hl : n < S.length
  ·rw [List.getElem?_append_left hl] at e
   exact .inr ⟨hl, e⟩
  ·rw [List.getElem?_append_right (by omega)] at e
   have : n - S.length = 0 := by
    cases q : n - S.length with
    | zero => rfl
    | succ j => rw [q] at e; simp at e
   rw [this] at e
   have e : o = o' := by simpa using e
   exact .inl ⟨by omega, e.symm⟩
 refine ⟨⟨w.B, r'⟩, le, ⟨k.base, fun n o' e => ?_, fun n m o1 o2 e1 e2 e => ?_, fun n hn => ?_⟩, ?_⟩
 ·rcases at_ n o' e with ⟨rfl, rfl⟩ | ⟨hl, e⟩
  ·exact ⟨a, u, by show (if _ then _ else _) = _; rw [if_pos rfl], hb, ha, ho.le le⟩
  ·obtain ⟨a', u', h1, h2, h3, h4⟩ := k.live n o' e
   exact ⟨a', u', le.r _ _ h1, h2, h3, h4.le le⟩
 ·rcases at_ n o1 e1 with ⟨rfl, rfl⟩ | ⟨hl, q1⟩
  ·rcases at_ m o2 e2 with ⟨rfl, rfl⟩ | ⟨hl2, q2⟩
   ·rfl
   ·exfalso
    have e : (if S.length = S.length then some a else w.r S.length) = (if m = S.length then some a else w.r m) := e
    rw [if_pos rfl, if_neg (by omega)] at e
    exact hn m o2 q2 e.symm
  ·rcases at_ m o2 e2 with ⟨rfl, rfl⟩ | ⟨hl2, q2⟩
   ·exfalso
    have e : (if n = S.length then some a else w.r n) = (if S.length = S.length then some a else w.r S.length) := e
    rw [if_pos rfl, if_neg (by omega)] at e
    exact hn n o1 q1 e
   ·have e : (if n = S.length then some a else w.r n) = (if m = S.length then some a else w.r m) := e
    rw [if_neg (by omega), if_neg (by omega)] at e
    exact k.inj n m o1 o2 q1 q2 e
 ·rw [List.length_append] at hn
  have : n ≠ S.length := by simp at hn; omega
  show (if n = S.length then some a else w.r n) = none
  rw [if_neg this]
  exact k.top n (by simp at hn; omega)
 ·simp only [Rep]
  exact ⟨a, by show (if _ then _ else _) = _; rw [if_pos rfl], rfl⟩
theorem Ok.alloc {p : Addr} {o : HO} (k : Ok K w H S) (hp : H p = none) : Ok K w (upd H p o) S :=
 ⟨k.base.trans (al hp), fun n o' e => by
  obtain ⟨a, u, h1, h2, h3, h4⟩ := k.live n o' e
  exact ⟨a, u, h1, h2, al hp _ _ h3, h4⟩, k.inj, k.top⟩
theorem Ok.free {p : Addr} (k : Ok K w H S) (hp : H p = none) : w.B p = none := k.base.free hp
theorem Ok.fresh {p : Addr} {o : HO} {m : MO} (k : Ok K w H S) (hp : H p = none) (h : RepO K w m o) : RepR K w (upd H p o) S (.new m) (.ref p) :=
 ⟨p, o, rfl, k.free hp, upd_same, h, fun n o' e z => by
  obtain ⟨a, u, h1, h2, h3, h4⟩ := k.live n o' e
  rw [z] at h1; cases h1
  rw [hp] at h3; cases h3⟩
theorem Ok.newTup {p : Addr} {ds : List D} {xs : List V} (k : Ok K w H S) (hp : H p = none) (h : Reps K w ds xs) : ∃ w', w.le w' ∧ Ok K w' (upd H p (.tup xs)) S ∧ Rep K w' (.tup ds) (.ref p) := by
 have hb := k.free hp
 have le : w.le ⟨upd w.B p (.tup xs), w.r⟩ := ⟨al hb, fun _ _ e => e⟩
 refine ⟨⟨upd w.B p (.tup xs), w.r⟩, le, ⟨fun b o e => ?_, fun n o e => ?_, k.inj, k.top⟩, ?_⟩
 ·by_cases hbp : b = p
  ·subst hbp
   have e : upd w.B b (.tup xs) b = some o := e
   rw [upd_same] at e ⊢; exact e
  ·have e : upd w.B p (.tup xs) b = some o := e
   rw [upd_ne hbp] at e ⊢; exact k.base b o e
 ·obtain ⟨a, u, h1, h2, h3, h4⟩ := k.live n o e
  have hne : a ≠ p := ne_of_none h3 hp
  exact ⟨a, u, h1, by show upd w.B p _ a = none; rw [upd_ne hne]; exact h2, by rw [upd_ne hne]; exact h3, h4.le le⟩
 ·simp only [Rep]
  exact ⟨p, xs, rfl, upd_same, h.le le⟩
theorem Ok.put {n : Nat} {a : Addr} {o o' : MO} {u' : HO} (k : Ok K w H S) (e : S[n]? = some (some o)) (ha : w.r n = some a) (h : RepO K w o' u') : Ok K w (upd H a u') (S.set n (some o')) := by
 have hn : n < S.length := by
  rcases Nat.lt_or_ge n S.length with h | h
  ·exact h
  ·rw [List.getElem?_eq_none h] at e; cases e
 have at_ : ∀ m q, (S.set n (some o'))[m]? = some (some q) → (m = n ∧ q = o') ∨ (m ≠ n ∧ S[m]? = some (some q)) := fun m q z => by
  by_cases hm : n = m
  ·subst hm
   rw [List.getElem?_set, if_pos rfl, if_pos hn] at z
   have z : o' = q := by simpa using z
   exact .inl ⟨rfl, z.symm⟩
  ·rw [List.getElem?_set_ne hm] at z
   exact .inr ⟨fun y => hm y.symm, z⟩
 obtain ⟨a0, u0, h1, h2, h3, _⟩ := k.live n o e
 rw [ha] at h1; cases h1
 refine ⟨fun b q z => ?_, fun m q z => ?_, fun m l q q' z z' y => ?_, fun m hm => k.top m (by simpa using hm)⟩
 ·rw [upd_ne (by intro y; subst y; rw [h2] at z; cases z)]
  exact k.base b q z
 ·rcases at_ m q z with ⟨rfl, rfl⟩ | ⟨hm, z⟩
  ·exact ⟨a, u', ha, h2, upd_same, h⟩
  ·obtain ⟨b, u, g1, g2, g3, g4⟩ := k.live m q z
   have : b ≠ a := by
    intro y; subst y
    exact hm (k.inj m n q o z e (g1.trans ha.symm))
   exact ⟨b, u, g1, g2, by rw [upd_ne this]; exact g3, g4⟩
 ·have old : ∀ m q, (S.set n (some o'))[m]? = some (some q) → ∃ q0, S[m]? = some (some q0) := fun m q z => by
   rcases at_ m q z with ⟨rfl, rfl⟩ | ⟨hm, z⟩
   ·exact ⟨o, e⟩
   ·exact ⟨q, z⟩
  obtain ⟨q0, z0⟩ := old m q z
  obtain ⟨q1, z1⟩ := old l q' z'
  exact k.inj m l q0 q1 z0 z1 y
end
noncomputable def see (S : Sto) : D → D
 | .loc n => match S[n]? with
  | some (some o) => o.d
  | _ => .loc n
 | d => d
section
variable {K : PySem.W.Frag} {w : Wd} {H : Hp} {S : Sto} {v : V}
theorem see_lst {d : D} {ds : List D} (k : Ok K w H S) (h : Rep K w d v) (e : see S d = .lst ds) : ∃ a xs, v = .ref a ∧ H a = some (.lst xs) ∧ Reps K w ds xs := by
 cases d with
 | loc n =>
  simp only [Rep] at h
  obtain ⟨a, h1, rfl⟩ := h
  simp only [see] at e
  split at e
  next o q =>
   obtain ⟨a', u, g1, g2, g3, g4⟩ := k.live n o q
   rw [h1] at g1; cases g1
   cases o with
   | lst es =>
    have : es = ds := by simpa [MO.d] using e
    subst this
    obtain ⟨xs, rfl, g⟩ := g4
    exact ⟨a, xs, rfl, g3, g⟩
   | dct ks es => simp [MO.d] at e
   | feed n => simp [MO.d] at e
   | ins C ks ds => simp [MO.d] at e
   | ddt F ks => simp [MO.d] at e
  next => cases e
 | lst es =>
  have : es = ds := by simpa [see] using e
  subst this
  simp only [Rep] at h
  obtain ⟨a, xs, h1, h2, h3⟩ := h
  exact ⟨a, xs, h1, k.base _ _ h2, h3⟩
 | _ => simp [see] at e
theorem see_tup {d : D} {ds : List D} (k : Ok K w H S) (h : Rep K w d v) (e : see S d = .tup ds) : ∃ a xs, v = .ref a ∧ H a = some (.tup xs) ∧ Reps K w ds xs := by
 cases d with
 | loc n =>
  simp only [see] at e
  split at e
  next o q => cases o <;> simp [MO.d] at e
  next => cases e
 | tup es =>
  have : es = ds := by simpa [see] using e
  subst this
  simp only [Rep] at h
  obtain ⟨a, xs, h1, h2, h3⟩ := h
  exact ⟨a, xs, h1, k.base _ _ h2, h3⟩
 | _ => simp [see] at e
theorem see_dct {d : D} {ks : List Key} {ds : List D} (k : Ok K w H S) (h : Rep K w d v) (e : see S d = .dct ks ds) : ∃ a kvs, v = .ref a ∧ H a = some (.dK kvs) ∧ kvs.map (·.1) = ks ∧ Reps K w ds (kvs.map (·.2)) := by
 cases d with
 | loc n =>
  simp only [Rep] at h
  obtain ⟨a, h1, rfl⟩ := h
  simp only [see] at e
  split at e
  next o q =>
   obtain ⟨a', u, g1, g2, g3, g4⟩ := k.live n o q
   rw [h1] at g1; cases g1
   cases o with
   | lst es => simp [MO.d] at e
   | feed n => simp [MO.d] at e
   | ins C ks ds => simp [MO.d] at e
   | ddt F ks => simp [MO.d] at e
   | dct ks' es =>
    have : ks' = ks ∧ es = ds := by simpa [MO.d] using e
    obtain ⟨rfl, rfl⟩ := this
    obtain ⟨kvs, rfl, g⟩ := g4
    exact ⟨a, kvs, rfl, g3, g⟩
  next => cases e
 | dct ks' es =>
  have : ks' = ks ∧ es = ds := by simpa [see] using e
  obtain ⟨rfl, rfl⟩ := this
  simp only [Rep] at h
  obtain ⟨a, xs, h1, h2, h3⟩ := h
  exact ⟨a, xs, h1, k.base _ _ h2, h3⟩
 | _ => simp [see] at e
end
end M
namespace M
open PySem L2
noncomputable abbrev AEnv := List (Option D)
noncomputable abbrev AK := R → Sto → Prop
noncomputable abbrev AE := AEnv → Sto → AK → Prop
noncomputable abbrev AT := AEnv → Sto → (Bool → Sto → Prop) → Prop
noncomputable abbrev AA := AEnv → Sto → (List D → Sto → Prop) → Prop
noncomputable abbrev AO := AEnv → Sto → (Option Int → Sto → Prop) → Prop
structure AEnds where
 nx : AEnv → Sto → Prop
 rt : AK
 bk : AEnv → Sto → Prop := fun _ _ => False
 ct : AEnv → Sto → Prop := fun _ _ => False
noncomputable abbrev AS := AEnds → AEnv → Sto → Prop
noncomputable abbrev AG := D → AEnv → Sto → (AEnv → Sto → Prop) → Prop
noncomputable abbrev AGs := List D → AEnv → Sto → (AEnv → Sto → Prop) → Prop
noncomputable abbrev AI := AEnv → Sto → (List D → (Sto → Prop) → Sto → Prop) → Prop
noncomputable abbrev A2 := D → D → Sto → AK → Prop
noncomputable abbrev A1 := D → Sto → AK → Prop
noncomputable abbrev AN := List D → Sto → AK → Prop
section
variable (K : PySem.W.Frag) (w : Wd)
noncomputable def BackV (Qa : AK) (Q : VK) : Prop := ∀ r S' v w' H', w.le w' → Ok K w' H' S' → RepR K w' H' S' r v → Qa r S' → Q v H'
noncomputable def BackB (Qa : Bool → Sto → Prop) (Q : Bool → Hp → Prop) : Prop := ∀ b S' w' H', w.le w' → Ok K w' H' S' → Qa b S' → Q b H'
noncomputable def BackL (Qa : List D → Sto → Prop) (Q : List V → Hp → Prop) : Prop := ∀ ds S' vs w' H', w.le w' → Ok K w' H' S' → Reps K w' ds vs → Qa ds S' → Q vs H'
noncomputable def BackO (Qa : Option Int → Sto → Prop) (Q : Option Int → Hp → Prop) : Prop := ∀ i S' w' H', w.le w' → Ok K w' H' S' → Qa i S' → Q i H'
noncomputable def BackE (Qa : AEnv → Sto → Prop) (Q : St → Hp → Prop) : Prop := ∀ δ S' σ w' H', w.le w' → Ok K w' H' S' → EnvR K w' δ σ → Qa δ S' → Q σ H'
structure BackS (Da : AEnds) (D : Ends) : Prop where
 nx : BackE K w Da.nx D.nx
 rt : BackV K w Da.rt D.rt
 bk : BackE K w Da.bk D.bk
 ct : BackE K w Da.ct D.ct
structure ItR (J : It) (ds : List D) (P : Sto → Prop) : Prop where
 go : ∀ i H S w' d, w.le w' → Ok K w' H S → P S → ds[i]? = some d → J.go i H
 yld : ∀ i H S w' d x H', w.le w' → Ok K w' H S → P S → ds[i]? = some d → J.yld i H x H' → ∃ w3, w'.le w3 ∧ Ok K w3 H' S ∧ Rep K w3 d x
 stop : ∀ i H S w', w.le w' → Ok K w' H S → P S → i = ds.length → J.stop i H
noncomputable def BackI (Qa : List D → (Sto → Prop) → Sto → Prop) (R : It → Hp → Prop) : Prop := ∀ ds P S' J w' H', w.le w' → Ok K w' H' S' → ItR K w' J ds P → Qa ds P S' → R J H'
end
section
variable {K : PySem.W.Frag} {w w' : Wd}
theorem BackV.le {Qa : AK} {Q : VK} (h : BackV K w Qa Q) (e : w.le w') : BackV K w' Qa Q := fun r S v w2 H l => h r S v w2 H (e.trans l)
theorem BackB.le {Qa} {Q} (h : BackB K w Qa Q) (e : w.le w') : BackB K w' Qa Q := fun r S w2 H l => h r S w2 H (e.trans l)
theorem BackE.le {Qa} {Q} (h : BackE K w Qa Q) (e : w.le w') : BackE K w' Qa Q := fun r S v w2 H l => h r S v w2 H (e.trans l)
theorem BackS.le {Da : AEnds} {D : Ends} (h : BackS K w Da D) (e : w.le w') : BackS K w' Da D := ⟨h.nx.le e, h.rt.le e, h.bk.le e, h.ct.le e⟩
end
section
variable (K : PySem.W.Frag)
noncomputable def conE (a : AE) : TE := fun σ H Q => ∃ w δ S Qa, Ok K w H S ∧ EnvR K w δ σ ∧ a δ S Qa ∧ BackV K w Qa Q
noncomputable def conT (a : AT) : TT := fun σ H Q => ∃ w δ S Qa, Ok K w H S ∧ EnvR K w δ σ ∧ a δ S Qa ∧ BackB K w Qa Q
noncomputable def conA (a : AA) : TA := fun σ H Q => ∃ w δ S Qa, Ok K w H S ∧ EnvR K w δ σ ∧ a δ S Qa ∧ BackL K w Qa Q
noncomputable def conO (a : AO) : TO := fun σ H Q => ∃ w δ S Qa, Ok K w H S ∧ EnvR K w δ σ ∧ a δ S Qa ∧ BackO K w Qa Q
noncomputable def conS (a : AS) : TS := fun D σ H => ∃ w δ S Da, Ok K w H S ∧ EnvR K w δ σ ∧ a Da δ S ∧ BackS K w Da D
noncomputable def conG (a : AG) : TG := fun x σ H Q => ∃ w d δ S Qa, Ok K w H S ∧ EnvR K w δ σ ∧ Rep K w d x ∧ a d δ S Qa ∧ BackE K w Qa Q
noncomputable def conGs (a : AGs) : TGs := fun xs σ H Q => ∃ w ds δ S Qa, Ok K w H S ∧ EnvR K w δ σ ∧ Reps K w ds xs ∧ a ds δ S Qa ∧ BackE K w Qa Q
noncomputable def conI (a : AI) : TI := fun σ H R => ∃ w δ S Qa, Ok K w H S ∧ EnvR K w δ σ ∧ a δ S Qa ∧ BackI K w Qa R
noncomputable def con2 (a : A2) : R2 := fun x y H Q => ∃ w d e S Qa, Ok K w H S ∧ Rep K w d x ∧ Rep K w e y ∧ a d e S Qa ∧ BackV K w Qa Q
noncomputable def con1 (a : A1) : V → Hp → VK → Prop := fun x H Q => ∃ w d S Qa, Ok K w H S ∧ Rep K w d x ∧ a d S Qa ∧ BackV K w Qa Q
noncomputable def conN (a : AN) : List V → Hp → VK → Prop := fun xs H Q => ∃ w ds S Qa, Ok K w H S ∧ Reps K w ds xs ∧ a ds S Qa ∧ BackV K w Qa Q
noncomputable def conM (a : D → List D → Sto → AK → Prop) : V → List V → Hp → VK → Prop := fun x xs H Q => ∃ w d ds S Qa, Ok K w H S ∧ Rep K w d x ∧ Reps K w ds xs ∧ a d ds S Qa ∧ BackV K w Qa Q
noncomputable def conSp (a : AN) : Sp := fun vs H Q _ => conN K a vs H Q
end
structure GE (X : Cx) (e : Expr) (a : AE) : Prop where
 p : PE X e (conE X.K a)
structure GT (X : Cx) (e : Expr) (a : AT) : Prop where
 p : PT X e (conT X.K a)
structure GW (X : Cx) (e : Expr) (a : AT) : Prop where
 p : PW X e (conT X.K a)
structure GA (X : Cx) (e : List Expr) (a : AA) : Prop where
 p : PA X e (conA X.K a)
structure GO (X : Cx) (e : Option Expr) (a : AO) : Prop where
 p : PO X e (conO X.K a)
structure GS (X : Cx) (s : Stmt) (a : AS) : Prop where
 p : PS X s (conS X.K a)
structure GSs (X : Cx) (s : List Stmt) (a : AS) : Prop where
 p : PSs X s (conS X.K a)
structure GG (X : Cx) (e : Expr) (a : AG) : Prop where
 p : PG X e (conG X.K a)
structure GGs (X : Cx) (e : List Expr) (a : AGs) : Prop where
 p : PGs X e (conGs X.K a)
structure GI (X : Cx) (tg e : Expr) (a : AI) : Prop where
 p : PI X tg e (conI X.K a)
structure GTs (X : Cx) (e : List Expr) (a : AT) : Prop where
 p : PTs X e (conT X.K a)
structure Op2 (X : Cx) (f : Value → Value → Sem Value) (a : A2) : Prop where
 p : OpR X f (con2 X.K a)
structure Op1 (X : Cx) (f : Value → Sem Value) (a : A1) : Prop where
 p : UnR X f (con1 X.K a)
structure OpC (X : Cx) (f : Value) (a : AN) : Prop where
 p : CallR X f (conN X.K a)
structure OpI (X : Cx) (a : A2) : Prop where
 p : IxR X (con2 X.K a)
section
variable {X : Cx}
theorem mE {e : Expr} {t u : TE} (h : PE X e t) (m : ∀ σ H Q, u σ H Q → t σ H Q) : PE X e u := fun pins s σ H Q I q => h pins s σ H Q I (m σ H Q q)
theorem mT {e : Expr} {t u : TT} (h : PT X e t) (m : ∀ σ H Q, u σ H Q → t σ H Q) : PT X e u := fun pins s σ H Q I q => h pins s σ H Q I (m σ H Q q)
theorem mW {e : Expr} {t u : TT} (h : PW X e t) (m : ∀ σ H Q, u σ H Q → t σ H Q) : PW X e u := fun wh pins s σ H Q I q => h wh pins s σ H Q I (m σ H Q q)
theorem mA {e : List Expr} {t u : TA} (h : PA X e t) (m : ∀ σ H Q, u σ H Q → t σ H Q) : PA X e u := fun pos pins s σ H Q I q => h pos pins s σ H Q I (m σ H Q q)
theorem mO {e : Option Expr} {t u : TO} (h : PO X e t) (m : ∀ σ H Q, u σ H Q → t σ H Q) : PO X e u := fun pins s σ H Q I q => h pins s σ H Q I (m σ H Q q)
theorem mS {e : Stmt} {t u : TS} (h : PS X e t) (m : ∀ D σ H, u D σ H → t D σ H) : PS X e u := fun pins s σ H D I q => h pins s σ H D I (m D σ H q)
theorem mSs {e : List Stmt} {t u : TS} (h : PSs X e t) (m : ∀ D σ H, u D σ H → t D σ H) : PSs X e u := fun pins s σ H D I q => h pins s σ H D I (m D σ H q)
theorem mG {e : Expr} {t u : TG} (h : PG X e t) (m : ∀ x σ H Q, u x σ H Q → t x σ H Q) : PG X e u := fun pins s σ H x v Q I r q => h pins s σ H x v Q I r (m x σ H Q q)
theorem mGs {e : List Expr} {t u : TGs} (h : PGs X e t) (m : ∀ x σ H Q, u x σ H Q → t x σ H Q) : PGs X e u := fun pins s σ H x v Q I r q => h pins s σ H x v Q I r (m x σ H Q q)
theorem mI {g e : Expr} {t u : TI} (h : PI X g e t) (m : ∀ σ H R, u σ H R → t σ H R) : PI X g e u := fun pins s σ H R I q => h pins s σ H R I (m σ H R q)
theorem mTs {e : List Expr} {t u : TT} (h : PTs X e t) (m : ∀ σ H Q, u σ H Q → t σ H Q) : PTs X e u := fun pins s σ H Q I q => h pins s σ H Q I (m σ H Q q)
theorem m2 {f : Value → Value → Sem Value} {t u : R2} (h : OpR X f t) (m : ∀ x y H Q, u x y H Q → t x y H Q) : OpR X f u := fun pins s σ H x y v u Q I r r' q => h pins s σ H x y v u Q I r r' (m x y H Q q)
theorem m1 {f : Value → Sem Value} {t u : V → Hp → VK → Prop} (h : UnR X f t) (m : ∀ x H Q, u x H Q → t x H Q) : UnR X f u := fun pins s σ H x v Q I r q => h pins s σ H x v Q I r (m x H Q q)
theorem mC {f : Value} {t u : List V → Hp → VK → Prop} (h : CallR X f t) (m : ∀ x H Q, u x H Q → t x H Q) : CallR X f u := fun pins s σ H x v Q I r q => h pins s σ H x v Q I r (m x H Q q)
end
noncomputable def aVar (i : Nat) : AE := fun δ S Q => ∃ d, δ[i]? = some (some d) ∧ Q (.dat d) S
noncomputable def aC (d : D) : AE := fun _ S Q => Q (.dat d) S
noncomputable def aOp (r : A2) (a b : AE) : AE := fun δ S Q => a δ S fun x S1 => b δ S1 fun y S2 => r x.d y.d S2 Q
noncomputable def aUn (r : A1) (a : AE) : AE := fun δ S Q => a δ S fun x S1 => r x.d S1 Q
noncomputable def aNil : AA := fun _ S Q => Q [] S
noncomputable def aCons (a : AE) (b : AA) : AA := fun δ S Q => a δ S fun x S1 => b δ S1 fun xs S2 => Q (x.d :: xs) S2
noncomputable def aTup (a : AA) : AE := fun δ S Q => a δ S fun ds S1 => ds.length ≤ sizeLine ∧ Q (.dat (.tup ds)) S1
noncomputable def aLst (a : AA) : AE := fun δ S Q => a δ S fun ds S1 => ds.length ≤ sizeLine ∧ Q (.new (.lst ds)) S1
noncomputable def aAlloc (a : AE) : AE := fun δ S Q => a δ S fun r S1 => match r with
 | .new o => Q (.dat (.loc S1.length)) (S1 ++ [some o])
 | .dat d => Q (.dat d) S1
noncomputable def aCall (sp : AN) (a : AA) : AE := fun δ S Q => a δ S fun ds S1 => sp ds S1 Q
noncomputable def aB (a : AE) : AT := fun δ S Q => a δ S fun r S1 => ∃ b, r.d = .bl b ∧ Q b S1
noncomputable def aTruD : D → Option Bool
 | .non => some false
 | .bl b => some b
 | .int i => some (i != 0)
 | .str y => if y.length ≤ sizeLine then some ((y.length : Int) != 0) else none
 | .tup ds => some (!ds.isEmpty)
 | .lst ds => some (!ds.isEmpty)
 | .dct ks _ => some (!ks.isEmpty)
 | _ => none
noncomputable def aTru (a : AE) : AT := fun δ S Q => a δ S fun r S1 => ∃ b, aTruD (see S1 r.d) = some b ∧ Q b S1
noncomputable def aAndV (a b : AE) : AE := fun δ S Q => a δ S fun x S1 => ∃ c, x.d = .bl c ∧ if c = true then b δ S1 Q else Q (.dat (.bl false)) S1
noncomputable def aOrV (a b : AE) : AE := fun δ S Q => a δ S fun x S1 => ∃ c, x.d = .bl c ∧ if c = true then Q (.dat (.bl true)) S1 else b δ S1 Q
noncomputable def aNotV (a : AE) : AE := fun δ S Q => a δ S fun x S1 => ∃ c, x.d = .bl c ∧ Q (.dat (.bl (!c))) S1
noncomputable def aAnd (a b : AT) : AT := fun δ S Q => a δ S fun c S1 => if c = true then b δ S1 Q else Q false S1
noncomputable def aOr (a b : AT) : AT := fun δ S Q => a δ S fun c S1 => if c = true then Q true S1 else b δ S1 Q
noncomputable def aNot (a : AT) : AT := fun δ S Q => a δ S fun c S1 => Q (!c) S1
noncomputable def aIf (t : AT) (a b : AE) : AE := fun δ S Q => t δ S fun c S1 => if c = true then a δ S1 Q else b δ S1 Q
noncomputable def aChain (r r' : A2) (a b c : AE) : AE := fun δ S Q => a δ S fun x S1 => b δ S1 fun y S2 => r x.d y.d S2 fun z S3 => ∃ k, z.d = .bl k ∧ if k = true then c δ S3 fun z' S4 => r' y.d z'.d S4 Q else Q (.dat (.bl false)) S3
noncomputable def aNoPart : AO := fun _ S Q => Q none S
noncomputable def aPart (a : AE) : AO := fun δ S Q => a δ S fun r S1 => ∃ i, r.d = .int i ∧ Q (some i) S1
noncomputable def aSl (r : D → Option Int → Option Int → Sto → AK → Prop) (a : AE) (l u : AO) : AE := fun δ S Q => a δ S fun x S1 => l δ S1 fun i S2 => u δ S2 fun j S3 => r x.d i j S3 Q
noncomputable def aNext : AS := fun D δ S => D.nx δ S
noncomputable def aSeq (a b : AS) : AS := fun D δ S => a { D with nx := b D } δ S
noncomputable def aRet (a : AE) : AS := fun D δ S => a δ S D.rt
noncomputable def aRetN : AS := fun D _ S => D.rt (.dat .non) S
noncomputable def aDrop (a : AE) : AS := fun D δ S => a δ S fun _ S1 => D.nx δ S1
noncomputable def aIfS (c : AT) (a b : AS) : AS := fun D δ S => c δ S fun k S1 => if k = true then a D δ S1 else b D δ S1
noncomputable def agName (i : Nat) : AG := fun d δ S Q => Q (δ.set i (some d)) S
noncomputable def agNil : AGs := fun ds δ S Q => ds = [] ∧ Q δ S
noncomputable def agCons (a : AG) (b : AGs) : AGs := fun ds δ S Q => ∃ d r, ds = d :: r ∧ a d δ S fun δ1 S1 => b r δ1 S1 Q
noncomputable def agTup (n : Nat) (a : AGs) : AG := fun d δ S Q => ∃ ds, d = .tup ds ∧ ds.length = n ∧ a ds δ S Q
noncomputable def aAsg (a : AE) (g : AG) : AS := fun D δ S => a δ S fun r S1 => g r.d δ S1 D.nx
noncomputable def loopD (P : Sto → Prop) (g : AG) (b : AS) : List D → AEnds → AEnv → Sto → Prop
 | [], D, δ, S => P S ∧ D.nx δ S
 | x :: xs, D, δ, S => P S ∧ g x δ S fun δ2 S2 => b { D with nx := loopD P g b xs D, ct := loopD P g b xs D, bk := D.nx } δ2 S2
noncomputable def aFor (i : AI) (g : AG) (b : AS) : AS := fun D δ S => i δ S fun ds P S1 => loopD P g b ds D δ S1
noncomputable def aYes : AT := fun _ S Q => Q true S
noncomputable def compD (P : Sto → Prop) (g : AG) (t : AT) (e : AE) : List D → List D → AEnv → Sto → (List D → Sto → Prop) → Prop
 | [], acc, _, S, Q => P S ∧ Q acc S
 | x :: xs, acc, δ, S, Q => P S ∧ g x δ S fun δ2 S2 => t δ2 S2 fun b S3 => if b = true then e δ2 S3 fun r S4 => acc.length < sizeLine ∧ compD P g t e xs (acc ++ [r.d]) δ2 S4 Q else compD P g t e xs acc δ2 S3 Q
noncomputable def captA (caps : List (Option Nat)) (δ : AEnv) : AEnv := caps.map fun o => o.bind fun i => (δ[i]?).getD none
noncomputable def aComp (caps : List (Option Nat)) (i : AI) (g : AG) (t : AT) (e : AE) : AE := fun δ S Q => i δ S fun ds P S1 => compD P g t e ds [] (captA caps δ) S1 fun ds' S2 => Q (.new (.lst ds')) S2
noncomputable def iRngD (lo : Int) (n : Nat) : List D := (List.range n).map fun k : Nat => .int (lo + (k : Int))
noncomputable def iRng (a : AA) : AI := fun δ S Q => a δ S fun ds S1 => ∃ j : Int, ds = [.int j] ∧ (-(2 ^ 62) ≤ j ∧ j < 2 ^ 62) ∧ Q (iRngD 0 j.toNat) (fun _ => True) S1
noncomputable def signs (x : Str) : List D := x.cps.toList.map fun c => .str ⟨#[c]⟩
end M
namespace M
open PySem L2
section
variable {K : PySem.W.Frag}
theorem BackV.go {w : Wd} {Qa : AK} {Q : VK} (h : ∀ r S' v w' H', w.le w' → Ok K w' H' S' → Rep K w' r.d v → Qa r S' → Q v H') : BackV K w Qa Q := fun r S' v w' H' le ok rep q => by
 obtain ⟨w2, le2, ok2, rep2⟩ := freeze ok rep
 exact h r S' v w2 H' (le.trans le2) ok2 rep2 q
theorem BackV.dat {w w' : Wd} {Qa : AK} {Q : VK} {d : D} {v : V} {S : Sto} {H : Hp} (h : BackV K w Qa Q) (le : w.le w') (ok : Ok K w' H S) (rep : Rep K w' d v) (q : Qa (.dat d) S) : Q v H := h (.dat d) S v w' H le ok rep q
theorem s_var {i : Nat} : ∀ σ H Q, conE K (aVar i) σ H Q → tVar i σ H Q := by
 rintro σ H Q ⟨w, δ, S, Qa, ok, env, ⟨d, e, q⟩, bk⟩
 obtain ⟨v, e1, e2⟩ := env.2 i d e
 exact ⟨v, e1, bk.dat .refl ok e2 q⟩
theorem s_c {d : D} {v : V} (h : ∀ w, Rep K w d v) : ∀ σ H Q, conE K (aC d) σ H Q → tC v σ H Q := by
 rintro σ H Q ⟨w, δ, S, Qa, ok, env, q, bk⟩
 exact bk.dat .refl ok (h w) q
theorem s_op {r : A2} {a b : AE} : ∀ σ H Q, conE K (aOp r a b) σ H Q → tOp (con2 K r) (conE K a) (conE K b) σ H Q := by
 rintro σ H Q ⟨w, δ, S, Qa, ok, env, q, bk⟩
 refine ⟨w, δ, S, _, ok, env, q, .go fun r1 S1 v1 w1 H1 le1 ok1 rep1 q1 => ?_⟩
 refine ⟨w1, δ, S1, _, ok1, env.le le1, q1, .go fun r2 S2 v2 w2 H2 le2 ok2 rep2 q2 => ?_⟩
 exact ⟨w2, r1.d, r2.d, S2, Qa, ok2, rep1.le le2, rep2, q2, bk.le (le1.trans le2)⟩
theorem s_un {r : A1} {a : AE} : ∀ σ H Q, conE K (aUn r a) σ H Q → tUn (con1 K r) (conE K a) σ H Q := by
 rintro σ H Q ⟨w, δ, S, Qa, ok, env, q, bk⟩
 refine ⟨w, δ, S, _, ok, env, q, .go fun r1 S1 v1 w1 H1 le1 ok1 rep1 q1 => ?_⟩
 exact ⟨w1, r1.d, S1, Qa, ok1, rep1, q1, bk.le le1⟩
theorem s_nil : ∀ σ H Q, conA K aNil σ H Q → tNil σ H Q := by
 rintro σ H Q ⟨w, δ, S, Qa, ok, env, q, bk⟩
 exact bk [] S [] w H .refl ok .nil q
theorem s_cons {a : AE} {b : AA} : ∀ σ H Q, conA K (aCons a b) σ H Q → tCons (conE K a) (conA K b) σ H Q := by
 rintro σ H Q ⟨w, δ, S, Qa, ok, env, q, bk⟩
 refine ⟨w, δ, S, _, ok, env, q, .go fun r1 S1 v1 w1 H1 le1 ok1 rep1 q1 => ?_⟩
 refine ⟨w1, δ, S1, _, ok1, env.le le1, q1, fun ds S2 vs w2 H2 le2 ok2 rep2 q2 => ?_⟩
 exact bk _ S2 _ w2 H2 (le1.trans le2) ok2 (.cons (rep1.le le2) rep2) q2
theorem s_tup {a : AA} : ∀ σ H Q, conE K (aTup a) σ H Q → tTup (conA K a) σ H Q := by
 rintro σ H Q ⟨w, δ, S, Qa, ok, env, q, bk⟩
 refine ⟨w, δ, S, _, ok, env, q, fun ds S1 vs w1 H1 le1 ok1 rep1 ⟨hl, q1⟩ => ⟨by rw [rep1.length]; exact hl, fun p hp => ?_⟩⟩
 obtain ⟨w2, le2, ok2, rep2⟩ := ok1.newTup hp rep1
 exact bk.dat (le1.trans le2) ok2 rep2 q1
theorem s_lst {a : AA} : ∀ σ H Q, conE K (aLst a) σ H Q → tLst (conA K a) σ H Q := by
 rintro σ H Q ⟨w, δ, S, Qa, ok, env, q, bk⟩
 refine ⟨w, δ, S, _, ok, env, q, fun ds S1 vs w1 H1 le1 ok1 rep1 ⟨hl, q1⟩ => ⟨by rw [rep1.length]; exact hl, fun p hp => ?_⟩⟩
 exact bk (.new (.lst ds)) S1 _ w1 _ le1 (ok1.alloc hp) (ok1.fresh hp ⟨vs, rfl, rep1⟩) q1
theorem s_alloc {a : AE} : ∀ σ H Q, conE K (aAlloc a) σ H Q → conE K a σ H Q := by
 rintro σ H Q ⟨w, δ, S, Qa, ok, env, q, bk⟩
 refine ⟨w, δ, S, _, ok, env, q, fun r S1 v w1 H1 le1 ok1 rep1 q1 => ?_⟩
 cases r with
 | dat d => exact bk.dat le1 ok1 rep1 q1
 | new o =>
  obtain ⟨w2, le2, ok2, rep2⟩ := store ok1 rep1
  exact bk.dat (le1.trans le2) ok2 rep2 q1
theorem s_call {sp : AN} {a : AA} {E : XK} : ∀ σ H Q, conE K (aCall sp a) σ H Q → tCall (conSp K sp) [] E (conA K a) σ H Q := by
 rintro σ H Q ⟨w, δ, S, Qa, ok, env, q, bk⟩
 refine ⟨w, δ, S, _, ok, env, q, fun ds S1 vs w1 H1 le1 ok1 rep1 q1 => ?_⟩
 exact ⟨w1, ds, S1, Qa, ok1, by rw [List.append_nil]; exact rep1, q1, bk.le le1⟩
theorem s_cb {r : AN} {a : AA} : ∀ σ H Q, conE K (aCall r a) σ H Q → tCB (conN K r) (conA K a) σ H Q := by
 rintro σ H Q ⟨w, δ, S, Qa, ok, env, q, bk⟩
 refine ⟨w, δ, S, _, ok, env, q, fun ds S1 vs w1 H1 le1 ok1 rep1 q1 => ?_⟩
 exact ⟨w1, ds, S1, Qa, ok1, rep1, q1, bk.le le1⟩
theorem rep_bl {w : Wd} {b : Bool} {v : V} {d : D} (h : Rep K w d v) (e : d = .bl b) : v = .bl b := by subst e; simpa [Rep] using h
theorem rep_int {w : Wd} {b : Int} {v : V} {d : D} (h : Rep K w d v) (e : d = .int b) : v = .int b := by subst e; simpa [Rep] using h
theorem rep_str {w : Wd} {b : Str} {v : V} {d : D} (h : Rep K w d v) (e : d = .str b) : v = .str b := by subst e; simpa [Rep] using h
theorem rep_ty {w : Wd} {n : String} {v : V} {d : D} (h : Rep K w d v) (e : d = .ty n) : v = .ty n := by subst e; simpa [Rep] using h
theorem Rep.bl {w : Wd} {b : Bool} : Rep K w (.bl b) (.bl b) := by simp [Rep]
theorem Rep.int {w : Wd} {b : Int} : Rep K w (.int b) (.int b) := by simp [Rep]
theorem Rep.str {w : Wd} {b : Str} : Rep K w (.str b) (.str b) := by simp [Rep]
theorem Rep.non {w : Wd} : Rep K w .non .non := by simp [Rep]
theorem Rep.ty {w : Wd} {n : String} : Rep K w (.ty n) (.ty n) := by simp [Rep]
theorem s_b {a : AE} : ∀ σ H Q, conT K (aB a) σ H Q → tB (conE K a) σ H Q := by
 rintro σ H Q ⟨w, δ, S, Qa, ok, env, q, bk⟩
 refine ⟨w, δ, S, _, ok, env, q, .go fun r1 S1 v1 w1 H1 le1 ok1 rep1 ⟨b, e, q1⟩ => ⟨b, rep_bl rep1 e, bk b S1 w1 H1 le1 ok1 q1⟩⟩
theorem tru_see {w : Wd} {H : Hp} {S : Sto} {d : D} {v : V} {b : Bool} (ok : Ok K w H S) (h : Rep K w d v) (e : aTruD (see S d) = some b) : TruV K v H b := by
 cases q : see S d with
 | lst ds =>
  rw [q] at e
  obtain ⟨a, xs, rfl, h1, h2⟩ := see_lst ok h q
  refine Or.inl ⟨xs, SqL.of h1, ?_⟩
  have : b = !ds.isEmpty := by simpa [aTruD] using e.symm
  rw [this]
  have := h2.length
  cases ds <;> cases xs <;> simp at this ⊢
 | tup ds =>
  rw [q] at e
  obtain ⟨a, xs, rfl, h1, h2⟩ := see_tup ok h q
  refine Or.inr (Or.inl ⟨xs, SqT.of h1, ?_⟩)
  have : b = !ds.isEmpty := by simpa [aTruD] using e.symm
  rw [this]
  have := h2.length
  cases ds <;> cases xs <;> simp at this ⊢
 | dct ks ds =>
  rw [q] at e
  obtain ⟨a, kvs, rfl, h1, h2, h3⟩ := see_dct ok h q
  refine Or.inr (Or.inr ⟨kvs, h1, ?_⟩)
  have : b = !ks.isEmpty := by simpa [aTruD] using e.symm
  rw [this, ← h2]
  cases kvs <;> simp
 | _ =>
  rw [q] at e
  cases d <;> simp [see] at q <;> first
   | (subst q; simp only [Rep] at h; subst h; simp [aTruD] at e; simp [TruV, e]; done)
   | (simp [aTruD] at e; done)
   | skip
  all_goals first
   | (simp only [Rep] at h; subst h; subst q; simp only [aTruD, Option.some.injEq] at e; subst e; rfl)
   | (simp only [Rep] at h; subst h; simp only [aTruD, Option.some.injEq] at e; subst e; rfl)
   | (split at q <;> first | (rename_i o _; cases o <;> simp [MO.d] at q) | (cases q; simp [aTruD] at e) | cases q)
   | (simp only [Rep] at h; subst h; subst q; simp only [aTruD] at e; split at e; next hl => exact ⟨hl, by simpa using e.symm⟩; next => cases e)
   | skip
end
end M
namespace M
open PySem L2
section
variable {K : PySem.W.Frag}
theorem s_tru {a : AE} : ∀ σ H Q, conT K (aTru a) σ H Q → (conE K a) σ H (fun x H' => ∃ k, TruV K x H' k ∧ Q k H') := by
 rintro σ H Q ⟨w, δ, S, Qa, ok, env, q, bk⟩
 exact ⟨w, δ, S, _, ok, env, q, .go fun r1 S1 v1 w1 H1 le1 ok1 rep1 ⟨b, e, q1⟩ => ⟨b, tru_see ok1 rep1 e, bk b S1 w1 H1 le1 ok1 q1⟩⟩
theorem s_andV {a b : AE} : ∀ σ H Q, conE K (aAndV a b) σ H Q → tAndV (conE K a) (conE K b) σ H Q := by
 rintro σ H Q ⟨w, δ, S, Qa, ok, env, q, bk⟩
 refine ⟨w, δ, S, _, ok, env, q, .go fun r1 S1 v1 w1 H1 le1 ok1 rep1 ⟨c, e, q1⟩ => ⟨c, rep_bl rep1 e, ?_⟩⟩
 cases c with
 | true => exact iteT ⟨w1, δ, S1, Qa, ok1, env.le le1, by simpa using q1, bk.le le1⟩
 | false => exact iteF (bk.dat le1 ok1 .bl (by simpa using q1))
theorem s_orV {a b : AE} : ∀ σ H Q, conE K (aOrV a b) σ H Q → tOrV (conE K a) (conE K b) σ H Q := by
 rintro σ H Q ⟨w, δ, S, Qa, ok, env, q, bk⟩
 refine ⟨w, δ, S, _, ok, env, q, .go fun r1 S1 v1 w1 H1 le1 ok1 rep1 ⟨c, e, q1⟩ => ⟨c, rep_bl rep1 e, ?_⟩⟩
 cases c with
 | false => exact iteF ⟨w1, δ, S1, Qa, ok1, env.le le1, by simpa using q1, bk.le le1⟩
 | true => exact iteT (bk.dat le1 ok1 .bl (by simpa using q1))
theorem s_notV {a : AE} : ∀ σ H Q, conE K (aNotV a) σ H Q → tNotV (conE K a) σ H Q := by
 rintro σ H Q ⟨w, δ, S, Qa, ok, env, q, bk⟩
 exact ⟨w, δ, S, _, ok, env, q, .go fun r1 S1 v1 w1 H1 le1 ok1 rep1 ⟨c, e, q1⟩ => ⟨c, rep_bl rep1 e, bk.dat le1 ok1 .bl q1⟩⟩
theorem s_and {a b : AT} : ∀ σ H Q, conT K (aAnd a b) σ H Q → tAnd (conT K a) (conT K b) σ H Q := by
 rintro σ H Q ⟨w, δ, S, Qa, ok, env, q, bk⟩
 refine ⟨w, δ, S, _, ok, env, q, fun c S1 w1 H1 le1 ok1 q1 => ?_⟩
 cases c with
 | true => exact iteT ⟨w1, δ, S1, Qa, ok1, env.le le1, by simpa using q1, bk.le le1⟩
 | false => exact iteF (bk _ S1 w1 H1 le1 ok1 (by simpa using q1))
theorem s_or {a b : AT} : ∀ σ H Q, conT K (aOr a b) σ H Q → tOr (conT K a) (conT K b) σ H Q := by
 rintro σ H Q ⟨w, δ, S, Qa, ok, env, q, bk⟩
 refine ⟨w, δ, S, _, ok, env, q, fun c S1 w1 H1 le1 ok1 q1 => ?_⟩
 cases c with
 | false => exact iteF ⟨w1, δ, S1, Qa, ok1, env.le le1, by simpa using q1, bk.le le1⟩
 | true => exact iteT (bk _ S1 w1 H1 le1 ok1 (by simpa using q1))
theorem s_not {a : AT} : ∀ σ H Q, conT K (aNot a) σ H Q → tNot (conT K a) σ H Q := by
 rintro σ H Q ⟨w, δ, S, Qa, ok, env, q, bk⟩
 exact ⟨w, δ, S, _, ok, env, q, fun c S1 w1 H1 le1 ok1 q1 => bk _ S1 w1 H1 le1 ok1 q1⟩
theorem s_chain {r r' : A2} {a b c : AE} : ∀ σ H Q, conE K (aChain r r' a b c) σ H Q → tChain (con2 K r) (con2 K r') (conE K a) (conE K b) (conE K c) σ H Q := by
 rintro σ H Q ⟨w, δ, S, Qa, ok, env, q, bk⟩
 refine ⟨w, δ, S, _, ok, env, q, .go fun r1 S1 v1 w1 H1 le1 ok1 rep1 q1 => ?_⟩
 refine ⟨w1, δ, S1, _, ok1, env.le le1, q1, .go fun r2 S2 v2 w2 H2 le2 ok2 rep2 q2 => ?_⟩
 refine ⟨w2, r1.d, r2.d, S2, _, ok2, rep1.le le2, rep2, q2, .go fun r3 S3 v3 w3 H3 le3 ok3 rep3 ⟨k, e3, q3⟩ => ⟨k, rep_bl rep3 e3, ?_⟩⟩
 have le13 := le1.trans (le2.trans le3)
 cases k with
 | false => exact iteF (bk.dat le13 ok3 .bl (by simpa using q3))
 | true =>
  rw [if_pos rfl] at q3
  refine iteT ⟨w3, δ, S3, _, ok3, env.le le13, q3, .go fun r4 S4 v4 w4 H4 le4 ok4 rep4 q4 => ?_⟩
  exact ⟨w4, r2.d, r4.d, S4, _, ok4, rep2.le (le3.trans le4), rep4, q4, bk.le (le13.trans le4)⟩
theorem s_noPart : ∀ σ H Q, conO K aNoPart σ H Q → tNoPart σ H Q := by
 rintro σ H Q ⟨w, δ, S, Qa, ok, env, q, bk⟩
 exact bk none S w H .refl ok q
theorem s_part {a : AE} : ∀ σ H Q, conO K (aPart a) σ H Q → tPart (conE K a) σ H Q := by
 rintro σ H Q ⟨w, δ, S, Qa, ok, env, q, bk⟩
 exact ⟨w, δ, S, _, ok, env, q, .go fun r1 S1 v1 w1 H1 le1 ok1 rep1 ⟨i, e, q1⟩ => ⟨i, rep_int rep1 e, bk _ S1 w1 H1 le1 ok1 q1⟩⟩
noncomputable def conSl (K : PySem.W.Frag) (a : D → Option Int → Option Int → Sto → AK → Prop) : V → Option Int → Option Int → Hp → VK → Prop := fun x i j H Q => ∃ w d S Qa, Ok K w H S ∧ Rep K w d x ∧ a d i j S Qa ∧ BackV K w Qa Q
theorem s_sl {r : D → Option Int → Option Int → Sto → AK → Prop} {a : AE} {l u : AO} : ∀ σ H Q, conE K (aSl r a l u) σ H Q → tSl (conSl K r) (conE K a) (conO K l) (conO K u) σ H Q := by
 rintro σ H Q ⟨w, δ, S, Qa, ok, env, q, bk⟩
 refine ⟨w, δ, S, _, ok, env, q, .go fun r1 S1 v1 w1 H1 le1 ok1 rep1 q1 => ?_⟩
 refine ⟨w1, δ, S1, _, ok1, env.le le1, q1, fun i S2 w2 H2 le2 ok2 q2 => ?_⟩
 refine ⟨w2, δ, S2, _, ok2, env.le (le1.trans le2), q2, fun j S3 w3 H3 le3 ok3 q3 => ?_⟩
 exact ⟨w3, r1.d, S3, Qa, ok3, rep1.le (le2.trans le3), q3, bk.le (le1.trans (le2.trans le3))⟩
theorem s_next : ∀ D σ H, conS K aNext D σ H → tNext D σ H := by
 rintro D σ H ⟨w, δ, S, Da, ok, env, q, bk⟩
 exact bk.nx δ S σ w H .refl ok env q
theorem s_seq {a b : AS} : ∀ D σ H, conS K (aSeq a b) D σ H → tSeq (conS K a) (conS K b) D σ H := by
 rintro D σ H ⟨w, δ, S, Da, ok, env, q, bk⟩
 refine ⟨w, δ, S, _, ok, env, q, ⟨fun δ1 S1 σ1 w1 H1 le1 ok1 env1 q1 => ?_, bk.rt, bk.bk, bk.ct⟩⟩
 exact ⟨w1, δ1, S1, Da, ok1, env1, q1, bk.le le1⟩
theorem s_ret {a : AE} : ∀ D σ H, conS K (aRet a) D σ H → tRet (conE K a) D σ H := by
 rintro D σ H ⟨w, δ, S, Da, ok, env, q, bk⟩
 exact ⟨w, δ, S, _, ok, env, q, bk.rt⟩
theorem s_drop {a : AE} : ∀ D σ H, conS K (aDrop a) D σ H → tDrop (conE K a) D σ H := by
 rintro D σ H ⟨w, δ, S, Da, ok, env, q, bk⟩
 exact ⟨w, δ, S, _, ok, env, q, .go fun r1 S1 v1 w1 H1 le1 ok1 rep1 q1 => bk.nx δ S1 σ w1 H1 le1 ok1 (env.le le1) q1⟩
theorem s_ifS {c : AT} {a b : AS} : ∀ D σ H, conS K (aIfS c a b) D σ H → tIfS (conT K c) (conS K a) (conS K b) D σ H := by
 rintro D σ H ⟨w, δ, S, Da, ok, env, q, bk⟩
 refine ⟨w, δ, S, _, ok, env, q, fun k S1 w1 H1 le1 ok1 q1 => ?_⟩
 cases k with
 | true => exact iteT ⟨w1, δ, S1, Da, ok1, env.le le1, by simpa using q1, bk.le le1⟩
 | false => exact iteF ⟨w1, δ, S1, Da, ok1, env.le le1, by simpa using q1, bk.le le1⟩
theorem s_gName {i : Nat} : ∀ x σ H Q, conG K (agName i) x σ H Q → gName i x σ H Q := by
 rintro x σ H Q ⟨w, d, δ, S, Qa, ok, env, rep, q, bk⟩
 exact bk _ S _ w H .refl ok (env.set rep i) q
theorem s_gNil : ∀ x σ H Q, conGs K agNil x σ H Q → gNil x σ H Q := by
 rintro x σ H Q ⟨w, ds, δ, S, Qa, ok, env, rep, ⟨rfl, q⟩, bk⟩
 exact ⟨by simpa [Reps] using rep, bk _ S _ w H .refl ok env q⟩
theorem s_gCons {a : AG} {b : AGs} : ∀ x σ H Q, conGs K (agCons a b) x σ H Q → gCons (conG K a) (conGs K b) x σ H Q := by
 rintro x σ H Q ⟨w, ds, δ, S, Qa, ok, env, rep, ⟨d, r, rfl, q⟩, bk⟩
 simp only [Reps] at rep
 obtain ⟨v, vs, rfl, h1, h2⟩ := rep
 refine ⟨v, vs, rfl, w, d, δ, S, _, ok, env, h1, q, fun δ1 S1 σ1 w1 H1 le1 ok1 env1 q1 => ?_⟩
 exact ⟨w1, r, δ1, S1, Qa, ok1, env1, h2.le le1, q1, bk.le le1⟩
theorem s_gTup {n : Nat} {a : AGs} : ∀ x σ H Q, conG K (agTup n a) x σ H Q → gTup K n (conGs K a) x σ H Q := by
 rintro x σ H Q ⟨w, d, δ, S, Qa, ok, env, rep, ⟨ds, rfl, hl, q⟩, bk⟩
 simp only [Rep] at rep
 obtain ⟨p, xs, rfl, h1, h2⟩ := rep
 exact ⟨p, xs, rfl, SqT.of (ok.base _ _ h1), by rw [h2.length]; exact hl, w, ds, δ, S, Qa, ok, env, h2, q, bk⟩
theorem s_asg {a : AE} {g : AG} : ∀ D σ H, conS K (aAsg a g) D σ H → tAsg (conE K a) (conG K g) D σ H := by
 rintro D σ H ⟨w, δ, S, Da, ok, env, q, bk⟩
 refine ⟨w, δ, S, _, ok, env, q, .go fun r1 S1 v1 w1 H1 le1 ok1 rep1 q1 => ?_⟩
 exact ⟨w1, r1.d, δ, S1, _, ok1, env.le le1, rep1, q1, bk.nx.le le1⟩
theorem s_for {i : AI} {g : AG} {b : AS} : ∀ D σ H, conS K (aFor i g b) D σ H → tFor (conI K i) (conG K g) (conS K b) D σ H := by
 rintro D σ H ⟨w, δ, S, Da, ok, env, q, bk⟩
 refine ⟨w, δ, S, _, ok, env, q, fun ds P S1 J w1 H1 le1 ok1 it q1 => ?_⟩
 refine ⟨fun i m σ H => m = ds.length - i ∧ i ≤ ds.length ∧ ∃ w2 δ2 S2, w1.le w2 ∧ Ok K w2 H S2 ∧ EnvR K w2 δ2 σ ∧ loopD P g b (ds.drop i) Da δ2 S2, ⟨ds.length, by simp, Nat.zero_le _, w1, δ, S1, .refl, ok1, env.le le1, by simpa using q1⟩, ?_⟩
 rintro i m σ2 H2 ⟨rfl, hi, w2, δ2, S2, le2, ok2, env2, lp⟩
 by_cases hlt : i < ds.length
 ·rw [List.drop_eq_getElem_cons hlt] at lp
  obtain ⟨hP, lp⟩ := lp
  have hd : ds[i]? = some ds[i] := List.getElem?_eq_getElem hlt
  refine .inr ⟨it.go i H2 S2 w2 _ le2 ok2 hP hd, fun σ' H' => ∃ w3 δ3 S3, w1.le w3 ∧ Ok K w3 H' S3 ∧ EnvR K w3 δ3 σ' ∧ loopD P g b (ds.drop (i + 1)) Da δ3 S3, fun σ' H' h => ⟨_, by omega, rfl, hlt, h⟩, fun x H' y => ?_⟩
  obtain ⟨w2', le2', ok2, rx⟩ := it.yld i H2 S2 w2 _ x H' le2 ok2 hP hd y
  replace env2 := env2.le le2'
  replace le2 := le2.trans le2'
  refine ⟨w2', ds[i], δ2, S2, _, ok2, env2, rx, lp, fun δ3 S3 σ3 w3 H3 le3 ok3 env3 q3 => ?_⟩
  have lew := le1.trans (le2.trans le3)
  refine ⟨w3, δ3, S3, _, ok3, env3, q3, ⟨?_, bk.rt.le lew, bk.nx.le lew, ?_⟩⟩
  ·exact fun δ4 S4 σ4 w4 H4 le4 ok4 env4 q4 => ⟨w4, δ4, S4, le2.trans (le3.trans le4), ok4, env4, q4⟩
  ·exact fun δ4 S4 σ4 w4 H4 le4 ok4 env4 q4 => ⟨w4, δ4, S4, le2.trans (le3.trans le4), ok4, env4, q4⟩
 ·have e : i = ds.length := by omega
  subst e
  rw [List.drop_length] at lp
  exact .inl ⟨it.stop _ H2 S2 w2 le2 ok2 lp.1 rfl, bk.nx δ2 S2 σ2 w2 H2 (le1.trans le2) ok2 env2 lp.2⟩
theorem s_yes : ∀ σ H Q, conT K aYes σ H Q → tYes σ H Q := by
 rintro σ H Q ⟨w, δ, S, Qa, ok, env, q, bk⟩
 exact bk true S w H .refl ok q
theorem env_capt {w : Wd} {δ : AEnv} {σ : St} (h : EnvR K w δ σ) (caps : List (Option Nat)) : EnvR K w (captA caps δ) (capt caps σ) := by
 refine ⟨by simp [captA, capt], fun i d e => ?_⟩
 simp only [captA, List.getElem?_map] at e
 cases q : caps[i]? with
 | none => rw [q] at e; cases e
 | some o =>
  rw [q] at e
  cases o with
  | none => simp at e
  | some j =>
   cases z : δ[j]? with
   | none => rw [Option.map_some] at e; simp [z] at e
   | some d' =>
    simp [z] at e
    subst e
    obtain ⟨v, h1, h2⟩ := h.2 j d z
    exact ⟨v, by simp [capt, List.getElem?_map, q, h1], h2⟩
theorem s_comp {caps : List (Option Nat)} {i : AI} {g : AG} {t : AT} {e : AE} : ∀ σ H Q, conE K (aComp caps i g t e) σ H Q → tComp caps (conI K i) (conG K g) (conT K t) (conE K e) σ H Q := by
 rintro σ H Q ⟨w, δ, S, Qa, ok, env, q, bk⟩
 refine ⟨w, δ, S, _, ok, env, q, fun ds P S1 J w1 H1 le1 ok1 it q1 => ?_⟩
 refine ⟨fun i m xs τ H => m = ds.length - i ∧ i ≤ ds.length ∧ ∃ w2 δ2 S2 acc, w1.le w2 ∧ Ok K w2 H S2 ∧ EnvR K w2 δ2 τ ∧ Reps K w2 acc xs ∧ compD P g t e (ds.drop i) acc δ2 S2 (fun ds' S2 => Qa (.new (.lst ds')) S2),
  ⟨ds.length, by simp, Nat.zero_le _, w1, captA caps δ, S1, [], .refl, ok1, env_capt (env.le le1) caps, .nil, by simpa using q1⟩, ?_⟩
 rintro i m xs τ2 H2 ⟨rfl, hi, w2, δ2, S2, acc, le2, ok2, env2, reps, lp⟩
 by_cases hlt : i < ds.length
 ·rw [List.drop_eq_getElem_cons hlt] at lp
  obtain ⟨hP, lp⟩ := lp
  have hd : ds[i]? = some ds[i] := List.getElem?_eq_getElem hlt
  refine .inr ⟨it.go i H2 S2 w2 _ le2 ok2 hP hd, fun ys τ' H' => ∃ w3 δ3 S3 acc, w1.le w3 ∧ Ok K w3 H' S3 ∧ EnvR K w3 δ3 τ' ∧ Reps K w3 acc ys ∧ compD P g t e (ds.drop (i + 1)) acc δ3 S3 (fun ds' S2 => Qa (.new (.lst ds')) S2), fun ys σ' H' h => ⟨_, by omega, rfl, hlt, h⟩, fun x H' y => ?_⟩
  obtain ⟨w2', le2', ok2, rx⟩ := it.yld i H2 S2 w2 _ x H' le2 ok2 hP hd y
  replace env2 := env2.le le2'
  replace le2 := le2.trans le2'
  replace reps := reps.le le2'
  refine ⟨w2', ds[i], δ2, S2, _, ok2, env2, rx, lp, fun δ3 S3 σ3 w3 H3 le3 ok3 env3 q3 => ?_⟩
  refine ⟨w3, δ3, S3, _, ok3, env3, q3, fun k S4 w4 H4 le4 ok4 q4 => ?_⟩
  cases k with
  | false =>
   exact iteF ⟨w4, δ3, S4, acc, le2.trans (le3.trans le4), ok4, env3.le le4, reps.le (le3.trans le4), by simpa using q4⟩
  | true =>
   rw [if_pos rfl] at q4
   refine iteT ⟨w4, δ3, S4, _, ok4, env3.le le4, q4, .go fun r5 S5 v5 w5 H5 le5 ok5 rep5 ⟨hz, q5⟩ => ?_⟩
   exact ⟨by rw [reps.length]; exact hz, w5, δ3, S5, acc ++ [r5.d], le2.trans (le3.trans (le4.trans le5)), ok5, env3.le (le4.trans le5), (reps.le (le3.trans (le4.trans le5))).snoc rep5, q5⟩
 ·have e : i = ds.length := by omega
  subst e
  rw [List.drop_length] at lp
  refine .inl ⟨it.stop _ H2 S2 w2 le2 ok2 lp.1 rfl, fun p hp => ?_⟩
  exact bk (.new (.lst acc)) S2 _ w2 _ (le1.trans le2) (ok2.alloc hp) (ok2.fresh hp ⟨xs, rfl, reps⟩) lp.2
theorem itr_lst {w : Wd} {p : Addr} {xs : List V} {ds : List D} (h1 : w.B p = some (.lst xs)) (h : Reps K w ds xs) : ItR K w (Itl K p) ds (fun _ => True) where
 go := fun i H S w' d le ok hP e => by
  obtain ⟨v, e1, _⟩ := h.get e
  exact ⟨xs, v, SqL.of ((le.b.trans ok.base) _ _ h1), e1⟩
 yld := fun i H S w' d x H' le ok hP e y => by
  obtain ⟨v, e1, e2⟩ := h.get e
  obtain ⟨y1, y2⟩ := y
  have := y2 xs (SqL.of ((le.b.trans ok.base) _ _ h1))
  rw [e1] at this; cases this
  subst y1
  exact ⟨w', .refl, ok, e2.le le⟩
 stop := fun i H S w' le ok hP e => ⟨xs, SqL.of ((le.b.trans ok.base) _ _ h1), by rw [h.length]; omega⟩
theorem itr_loc {w : Wd} {p : Addr} {n : Nat} {ds : List D} (hp : w.r n = some p) : ItR K w (Itl K p) ds (fun S => S[n]? = some (some (.lst ds))) where
 go := fun i H S w' d le ok hP e => by
  obtain ⟨b, u, k1, k2, k3, ys, rfl, k5⟩ := ok.live n _ hP
  rw [le.r n p hp] at k1; cases k1
  obtain ⟨v, e1, _⟩ := k5.get e
  exact ⟨ys, v, SqL.of k3, e1⟩
 yld := fun i H S w' d x H' le ok hP e y => by
  obtain ⟨b, u, k1, k2, k3, ys, rfl, k5⟩ := ok.live n _ hP
  rw [le.r n p hp] at k1; cases k1
  obtain ⟨v, e1, e2⟩ := k5.get e
  obtain ⟨y1, y2⟩ := y
  have := y2 ys (SqL.of k3)
  rw [e1] at this; cases this
  subst y1
  exact ⟨w', .refl, ok, e2⟩
 stop := fun i H S w' le ok hP e => by
  obtain ⟨b, u, k1, k2, k3, ys, rfl, k5⟩ := ok.live n _ hP
  rw [le.r n p hp] at k1; cases k1
  exact ⟨ys, SqL.of k3, by rw [k5.length]; omega⟩
theorem itr_tup {w : Wd} {p : Addr} {xs : List V} {ds : List D} (h1 : w.B p = some (.tup xs)) (h2 : Reps K w ds xs) : ItR K w (Itt K p) ds (fun _ => True) where
 go := fun i H S w' d le ok hP e => by
  obtain ⟨v, e1, _⟩ := h2.get e
  exact ⟨xs, v, SqT.of ((le.b.trans ok.base) _ _ h1), e1⟩
 yld := fun i H S w' d x H' le ok hP e y => by
  obtain ⟨v, e1, e2⟩ := h2.get e
  obtain ⟨y1, y2⟩ := y
  have := y2 xs (SqT.of ((le.b.trans ok.base) _ _ h1))
  rw [e1] at this; cases this
  subst y1
  exact ⟨w', .refl, ok, e2.le le⟩
 stop := fun i H S w' le ok hP e => ⟨xs, SqT.of ((le.b.trans ok.base) _ _ h1), by rw [h2.length]; omega⟩
theorem itr_str {w : Wd} {x : Str} : ItR K w (Its x) (signs x) (fun _ => True) where
 go := fun i H S w' d le ok hP e => by
  have : i < (signs x).length := by
   rcases Nat.lt_or_ge i (signs x).length with h | h
   ·exact h
   ·rw [List.getElem?_eq_none h] at e; cases e
  show i < x.cps.size
  simpa [signs] using this
 yld := fun i H S w' d y H' le ok hP e z => by
  obtain ⟨z1, c, z2, rfl⟩ := z
  subst z1
  refine ⟨w', .refl, ok, ?_⟩
  rw [signs, List.getElem?_map] at e
  have z2' : x.cps.toList[i]? = some c := by simpa using z2
  rw [z2'] at e
  have : D.str ⟨#[c]⟩ = d := by simpa using e
  subst this
  exact .str
 stop := fun i H S w' le ok hP e => by
  show _ = _
  rw [e]; simp [signs]
noncomputable def iAnyD (S1 : Sto) (Q : List D → (Sto → Prop) → Sto → Prop) : D → Prop
 | .lst ds => Q ds (fun _ => True) S1
 | .tup ds => Q ds (fun _ => True) S1
 | .str x => Q (signs x) (fun _ => True) S1
 | .loc n => ∃ ds, S1[n]? = some (some (.lst ds)) ∧ Q ds (fun S => S[n]? = some (some (.lst ds))) S1
 | _ => False
noncomputable def iAny (t : AE) : AI := fun δ S Q => t δ S fun r S1 => iAnyD S1 Q r.d
theorem s_iAny {t : AE} : ∀ σ H R, conI K (iAny t) σ H R → (conE K t) σ H fun x H1 => (∃ a, x = .ref a ∧ (∃ xs, SqL K H1 a xs) ∧ R (Itl K a) H1) ∨ (∃ a, x = .ref a ∧ (∃ xs, SqT K H1 a xs) ∧ R (Itt K a) H1) ∨ ∃ y, x = .str y ∧ R (Its y) H1 := by
 rintro σ H R ⟨w, δ, S, Qa, ok, env, q, bk⟩
 refine ⟨w, δ, S, _, ok, env, q, .go fun r1 S1 v1 w1 H1 le1 ok1 rep1 q1 => ?_⟩
 generalize r1.d = d at rep1 q1
 cases d with
 | lst ds =>
  simp only [Rep] at rep1
  obtain ⟨p, xs, rfl, h1, h2⟩ := rep1
  exact .inl ⟨p, rfl, ⟨xs, SqL.of (ok1.base _ _ h1)⟩, bk ds _ S1 _ w1 H1 le1 ok1 (itr_lst h1 h2) q1⟩
 | tup ds =>
  simp only [Rep] at rep1
  obtain ⟨p, xs, rfl, h1, h2⟩ := rep1
  exact .inr (.inl ⟨p, rfl, ⟨xs, SqT.of (ok1.base _ _ h1)⟩, bk ds _ S1 _ w1 H1 le1 ok1 (itr_tup h1 h2) q1⟩)
 | str x => exact .inr (.inr ⟨x, rep_str rep1 rfl, bk _ _ S1 _ w1 H1 le1 ok1 itr_str q1⟩)
 | loc n =>
  simp only [Rep] at rep1
  obtain ⟨p, hp, rfl⟩ := rep1
  obtain ⟨ds, e, q1⟩ := q1
  obtain ⟨p', u, g1, g2, g3, xs, rfl, g5⟩ := ok1.live n _ e
  rw [hp] at g1; cases g1
  exact .inl ⟨p, rfl, ⟨xs, SqL.of g3⟩, bk ds _ S1 _ w1 H1 le1 ok1 (itr_loc hp) q1⟩
 | _ => exact q1.elim
theorem rng_at {lo : Int} {n i : Nat} {d : D} (e : (iRngD lo n)[i]? = some d) : i < n ∧ d = .int (lo + (i : Int)) := by
 unfold iRngD at e
 rw [List.getElem?_map] at e
 by_cases h : i < n
 ·rw [List.getElem?_range h] at e
  exact ⟨h, by simpa using e.symm⟩
 ·rw [List.getElem?_eq_none (by simpa using h)] at e; cases e
theorem s_iRng {a : AA} : ∀ σ H R, conI K (iRng a) σ H R → iRng1 (conA K a) σ H R := by
 rintro σ H R ⟨w, δ, S, Qa, ok, env, q, bk⟩
 refine ⟨w, δ, S, _, ok, env, q, fun ds S1 vs w1 H1 le1 ok1 rep1 ⟨j, hd, ⟨h1, h2⟩, q1⟩ => ⟨j, ?_, h1, h2, ?_⟩⟩
 ·subst hd
  simp only [Reps, Rep] at rep1
  obtain ⟨x, r, rfl, rfl, rfl⟩ := rep1
  rfl
 ·refine bk _ _ S1 _ w1 H1 le1 ok1 ⟨fun i H S w' d le ok hP e => ?_, fun i H S w' d x H' le ok hP e y => ?_, fun i H S w' le ok hP e => ?_⟩ q1
  ·exact (rng_at e).1
  ·obtain ⟨y1, y2⟩ := y
   obtain ⟨e1, rfl⟩ := rng_at e
   subst y2 y1
   exact ⟨w', .refl, ok, .int⟩
  ·show _ ≤ _
   rw [e]; simp [iRngD]
end
end M
namespace M
open PySem PySem.Spec PyProof.Rows L2
section
variable {X : Cx} {pos : Pos} {e a b c : Expr} {es : List Expr}
theorem pv (i : Nat) {x : Str} (hN : X.N[i]? = some x := by rfl) (hv : Vis X.env.scope x := by first | exact Or.inl rfl | exact Or.inr (Or.inl rfl) | exact Or.inr (Or.inr rfl)) (hd : (x == ("__debug__" : Str)) = false := by decide)
  (hcd : (x == ("__classdict__" : Str)) = false := by decide) : GE X (.Name x pos) (aVar i) := ⟨mE (L2.pe_var hN hv hd hcd) s_var⟩
theorem pe_int {i j} : GE X (.Constant (.int i) j pos) (aC (.int i)) := ⟨mE L2.pe_int (s_c fun _ => .int)⟩
theorem pe_bl {i j} : GE X (.Constant (.bool i) j pos) (aC (.bl i)) := ⟨mE L2.pe_bl (s_c fun _ => .bl)⟩
theorem pe_str {i j} : GE X (.Constant (.str i) j pos) (aC (.str i)) := ⟨mE L2.pe_str (s_c fun _ => .str)⟩
theorem pe_non {j} : GE X (.Constant .none j pos) (aC .non) := ⟨mE L2.pe_non (s_c fun _ => .non)⟩
theorem pe_ty (T : String) {x : Str} (hg : Gl X x) (hm : X.mg x = none) (hv : bootBuiltins x = some (.type T)) (hn : x ≠ "__name__" := by decide +kernel) (hd : (x == ("__debug__" : Str)) = false := by decide +kernel) : GE X (.Name x pos) (aC (.ty T)) :=
 ⟨mE (L2.pe_ty T hg hm hv hn hd) (s_c fun _ => .ty)⟩
theorem pe_glob {x : Str} {d : D} {v : V} {u : Value} (hg : Gl X x) (hm : X.mg x = some u) (r : RelV v u) (h : ∀ w, Rep X.K w d v) (hd : (x == ("__debug__" : Str)) = false := by decide) : GE X (.Name x pos) (aC d) :=
 ⟨mE (L2.pe_glob hg hm r hd) (s_c h)⟩
theorem pe_op {op : Operator} {r : A2} {ta tb : AE} (ho : Op2 X (binaryOp op) r) (ha : GE X a ta) (hb : GE X b tb) : GE X (.BinOp a op b pos) (aOp r ta tb) := ⟨mE (L2.pe_op ho.p ha.p hb.p) s_op⟩
theorem pe_un {op : UnaryOp} {r : A1} {ta : AE} (ho : Op1 X (unaryOp op) r) (ha : GE X a ta) : GE X (.UnaryOp op a pos) (aUn r ta) := ⟨mE (L2.pe_un ho.p ha.p) s_un⟩
theorem pe_cmpR {op : CmpOp} {r : A2} {ta tb : AE} (ho : Op2 X (compareOp op) r) (ha : GE X a ta) (hb : GE X b tb) (hm : behindInMarks op b = false) : GE X (.Compare a [op] [b] pos) (aOp r ta tb) := ⟨mE (L2.pe_cmpR ho.p ha.p hb.p hm) s_op⟩
theorem pe_ix {r : A2} {ta tb : AE} (ho : OpI X r) (ha : GE X a ta) (hb : GE X b tb) (hs : PlainIx b) : GE X (.Subscript a b pos) (aOp r ta tb) := ⟨mE (L2.pe_ix ho.p ha.p hb.p hs) s_op⟩
theorem pa_nil : GA X [] aNil := ⟨mA L2.pa_nil s_nil⟩
theorem pac {ta : AE} {t : AA} (ha : GE X e ta) (hr : GA X es t) (hs : notStar e = true := by rfl) : GA X (e :: es) (aCons ta t) := ⟨mA (L2.pac ha.p hr.p hs) s_cons⟩
theorem pe_tup {k : Nat} {t : AA} (h : GA X es t) : GE X (.Tuple es k pos) (aTup t) := ⟨mE (L2.pe_tup h.p) s_tup⟩
theorem pe_lst {t : AA} (h : GA X es t) : GE X (.List es pos) (aLst t) := ⟨mE (L2.pe_lst h.p) s_lst⟩
theorem alo {t : AE} (h : GE X e t) : GE X e (aAlloc t) := ⟨mE h.p s_alloc⟩
theorem pe_one {op} {t : AE} (h : GE X a t) : GE X (.BoolOp op [a] pos) t := ⟨L2.pe_one h.p⟩
theorem pe_and {rest : List Expr} {ta tb : AE} (ha : GE X a ta) (hb : GE X (.BoolOp .And (b :: rest) pos) tb) : GE X (.BoolOp .And (a :: b :: rest) pos) (aAndV ta tb) := ⟨mE (L2.pe_and ha.p hb.p) s_andV⟩
theorem pe_or {rest : List Expr} {ta tb : AE} (ha : GE X a ta) (hb : GE X (.BoolOp .Or (b :: rest) pos) tb) : GE X (.BoolOp .Or (a :: b :: rest) pos) (aOrV ta tb) := ⟨mE (L2.pe_or ha.p hb.p) s_orV⟩
theorem pe_not {ta : AE} (ha : GE X a ta) : GE X (.UnaryOp .Not a pos) (aNotV ta) := ⟨mE (L2.pe_not ha.p) s_notV⟩
theorem pe_chain {op op' : CmpOp} {r r' : A2} {ta tb tc : AE} (ho : Op2 X (compareOp op) r) (ho' : Op2 X (compareOp op') r') (ha : GE X a ta) (hb : GE X b tb) (hc : GE X c tc) (hm : lastMarks [op, op'] [b, c] = false := by with_unfolding_all rfl) :
  GE X (.Compare a [op, op'] [b, c] pos) (aChain r r' ta tb tc) := ⟨mE (L2.pe_chain ho.p ho'.p ha.p hb.p hc.p hm) s_chain⟩
theorem po_none : GO X none aNoPart := ⟨mO L2.po_none s_noPart⟩
theorem po_some {t : AE} (h : GE X e t) : GO X (some e) (aPart t) := ⟨mO (L2.po_some h.p) s_part⟩
structure OpS (X : Cx) (r : D → Option Int → Option Int → Sto → AK → Prop) : Prop where
 p : SlR X (conSl X.K r)
theorem pe_slice {lo hi : Option Expr} {p2 : Pos} {r : D → Option Int → Option Int → Sto → AK → Prop} {te : AE} {tl th : AO} (hr : OpS X r) (he : GE X e te) (hl : GO X lo tl) (hu : GO X hi th) : GE X (.Subscript e (.Slice lo hi none p2) pos) (aSl r te tl th) :=
 ⟨mE (L2.pe_slice hr.p he.p hl.p hu.p) s_sl⟩
theorem pcb {id : String} {r : AN} {t : AA} {x : Str} {p : Pos} (hc : OpC X (.builtin id) r) (hg : Gl X x) (hm : X.mg x = none) (hv : bootBuiltins x = some (.builtin id)) (ha : GA X (e :: es) t) (hn : x ≠ "__name__" := by decide +kernel) (hdb : (x == ("__debug__" : Str)) = false := by decide +kernel)
  (hs : (e :: es).all notStar = true := by rfl) : GE X (.Call (.Name x p) (e :: es) [] pos) (aCall r t) := ⟨mE (L2.pcb hc.p hg hm hv ha.p hn hdb hs) s_cb⟩
theorem pct {T : String} {r : AN} {t : AA} {x : Str} {p : Pos} (hc : OpC X (.type T) r) (hg : Gl X x) (hm : X.mg x = none) (hv : bootBuiltins x = some (.type T)) (ha : GA X (e :: es) t) (hn : x ≠ "__name__" := by decide +kernel) (hdb : (x == ("__debug__" : Str)) = false := by decide +kernel)
  (hs : (e :: es).all notStar = true := by rfl) : GE X (.Call (.Name x p) (e :: es) [] pos) (aCall r t) := ⟨mE (L2.pct hc.p hg hm hv ha.p hn hdb hs) s_cb⟩
theorem pe_own {k : Nat} {ps : List Str} {sp : AN} {t : AA} {x : Str} {p : Pos} (D : Def X.prog X.w X.K X.mg X.base k x ps (conSp X.K sp)) (hr : Room k X.A) (hg : Gl X x) (ha : GA X (e :: es) t) (hdb : (x == ("__debug__" : Str)) = false := by decide +kernel) (hs : (e :: es).all notStar = true := by rfl) :
  GE X (.Call (.Name x p) (e :: es) [] pos) (aCall sp t) := ⟨mE (L2.pe_own D hr hg pass0 ha.p hdb hs) s_call⟩
theorem pt_val {t : AE} (h : GE X e t) (he : ∀ whole, isTrue e X.env whole = (do let v ← whole; standAt e.pos; holding [v] (truthy v)) := by intro _; rfl) : GT X e (aTru t) := ⟨mT (L2.pt_truth h.p he) s_tru⟩
theorem pt_cmpR {op : CmpOp} {r : A2} {ta tb : AE} (ho : Op2 X (compareOp op) r) (ha : GE X a ta) (hb : GE X b tb) (hm : behindInMarks op b = false) : GT X (.Compare a [op] [b] pos) (aB (aOp r ta tb)) :=
 ⟨mT (L2.pt_cmpR ho.p ha.p hb.p hm) fun σ H Q h => by
  obtain ⟨w, δ, S, Qa, ok, env, q, bk⟩ := s_b σ H Q h
  exact s_op σ H _ ⟨w, δ, S, Qa, ok, env, q, bk⟩⟩
theorem pt_chain {op op' : CmpOp} {r r' : A2} {ta tb tc : AE} (ho : Op2 X (compareOp op) r) (ho' : Op2 X (compareOp op') r') (ha : GE X a ta) (hb : GE X b tb) (hc : GE X c tc) (hm : lastMarks [op, op'] [b, c] = false := by with_unfolding_all rfl) :
  GT X (.Compare a [op, op'] [b, c] pos) (aB (aChain r r' ta tb tc)) := ⟨mT (L2.pt_chain ho.p ho'.p ha.p hb.p hc.p hm) fun σ H Q h => by
  obtain ⟨w, δ, S, Qa, ok, env, q, bk⟩ := s_b σ H Q h
  exact s_chain σ H _ ⟨w, δ, S, Qa, ok, env, q, bk⟩⟩
theorem pw_pt {t : AT} (h : GW X e t) : GT X e t := ⟨h.p.pt⟩
theorem pw_and1 {t : AT} (h : GT X a t) : GW X (.BoolOp .And [a] pos) t := ⟨L2.pw_and1 h.p⟩
theorem pw_or1 {t : AT} (h : GT X a t) : GW X (.BoolOp .Or [a] pos) t := ⟨L2.pw_or1 h.p⟩
theorem pw_and {rest : List Expr} {t u : AT} (ha : GT X a t) (hb : GW X (.BoolOp .And (b :: rest) pos) u) : GW X (.BoolOp .And (a :: b :: rest) pos) (aAnd t u) := ⟨mW (L2.pw_and ha.p hb.p) s_and⟩
theorem pw_or {rest : List Expr} {t u : AT} (ha : GT X a t) (hb : GW X (.BoolOp .Or (b :: rest) pos) u) : GW X (.BoolOp .Or (a :: b :: rest) pos) (aOr t u) := ⟨mW (L2.pw_or ha.p hb.p) s_or⟩
theorem pt_not {t : AT} (h : GT X a t) : GT X (.UnaryOp .Not a pos) (aNot t) := ⟨mT (L2.pt_not h.p) s_not⟩
theorem pts_nil : GTs X [] aYes := ⟨mTs L2.pts_nil s_yes⟩
theorem pts_one {t : AT} (h : GT X c t) : GTs X [c] t := ⟨L2.pts_one h.p⟩
theorem pi_range1 {tg : Expr} {t : AA} {p : Pos} (hg : Gl X "range") (hm : X.mg "range" = none) (ha : GA X [a] t) (hs : starEach [a] X.env = [(false, eval a X.env)] := by rfl) : GI X tg (.Call (.Name "range" p) [a] [] pos) (iRng t) := ⟨mI (L2.pi_range1 hg hm ha.p hs) s_iRng⟩
theorem pi_any0 {tg l : Expr} {tl : TE} (hl : PE X l tl) : PI X tg l (fun σ H R => tl σ H fun x H1 => (∃ a, x = .ref a ∧ (∃ xs, SqL X.K H1 a xs) ∧ R (Itl X.K a) H1) ∨ (∃ a, x = .ref a ∧ (∃ xs, SqT X.K H1 a xs) ∧ R (Itt X.K a) H1) ∨ ∃ y, x = .str y ∧ R (Its y) H1) := by
 intro pins s σ H R I h
 refine thn (hl pins s σ H _ I h) fun v s1 ⟨x, H1, I1, r1, q1⟩ => ?_
 rcases q1 with ⟨a, rfl, ⟨xs, hq⟩, q⟩ | ⟨a, rfl, ⟨xs, hq⟩, q⟩ | ⟨y, rfl, q⟩
 ·cases r1
  obtain ⟨its, rv, p, hz⟩ := I1.list hq
  refine wpAny_pyIter_list p.isList ?_
  refine ⟨s1.heap.objs.size, [s1.heap.objs.size], _, _, H1, rfl, I1.kept (t' := s1.toks) fun b o e => Heap.get?_push_of_some _ e, turn_list a _, ⟨_, Heap.get?_push_size _ rfl, rfl, rfl⟩, fun b hb => ?_, q⟩
  have e : b = s1.heap.objs.size := by simpa using hb
  subst e
  exact I1.fpOk (Nat.le_refl _) (I1.hok.fresh (Nat.le_refl _))
 ·cases r1
  obtain ⟨its, rv, p, hz⟩ := I1.tuple hq
  refine wpAny_pyIter_tuple (show s1.heap.IsTuple a its.toArray from p) ?_
  refine ⟨s1.heap.objs.size, [s1.heap.objs.size], _, _, H1, rfl, I1.kept (t' := s1.toks) fun b o e => Heap.get?_push_of_some _ e, turn_tuple a _, ⟨_, Heap.get?_push_size _ rfl, rfl, rfl⟩, fun b hb => ?_, q⟩
  have e : b = s1.heap.objs.size := by simpa using hb
  subst e
  exact I1.fpOk (Nat.le_refl _) (I1.hok.fresh (Nat.le_refl _))
 ·obtain ⟨t, rfl⟩ := r1
  refine wpAny_pyIter_strU ?_
  refine ⟨s1.heap.objs.size, [s1.heap.objs.size], _, _, H1, rfl, I1.kept (t' := s1.toks) fun b o e => Heap.get?_push_of_some _ e, turn_str _ y t, ⟨_, Heap.get?_push_size _ rfl, rfl, rfl⟩, fun b hb => ?_, q⟩
  have e : b = s1.heap.objs.size := by simpa using hb
  subst e
  exact I1.fpOk (Nat.le_refl _) (I1.hok.fresh (Nat.le_refl _))
theorem pi_any {tg l : Expr} {tl : AE} (hl : GE X l tl) : GI X tg l (iAny tl) := ⟨mI (pi_any0 hl.p) s_iAny⟩
theorem pe_comp {elt tg iter : Expr} {ifs : List Expr} {scope : Scope} {N : List Str} {caps : List (Option Nat)} {wi : AI} {g : AG} {tt : AT} {te : AE}
  (S : BlkScope scope N) (hcap : capOk X.N X.env scope N caps = true) (hfr : L2.freeOk X.env scope = true) (hc : X.calm = true) (hi : GI X tg iter wi)
  (hg : ∀ s₀ H₀ C fp, GG (blk X scope N s₀ H₀ C fp) tg g) (ht : ∀ s₀ H₀ C fp, GTs (blk X scope N s₀ H₀ C fp) ifs tt) (he : ∀ s₀ H₀ C fp, GE (blk X scope N s₀ H₀ C fp) elt te)
  (hs : ∀ x, foldedSetIterable iter X.env x = pure x := by intro _; rfl) : GE X (.ListComp elt [⟨tg, iter, ifs, 0⟩] scope pos) (aComp caps wi g tt te) :=
 ⟨mE (L2.pe_comp S hcap hfr hc hi.p (fun s₀ H₀ C fp => (hg s₀ H₀ C fp).p) (fun s₀ H₀ C fp => (ht s₀ H₀ C fp).p) (fun s₀ H₀ C fp => (he s₀ H₀ C fp).p) hs) s_comp⟩
theorem pss_nil : GSs X [] aNext := ⟨mSs L2.pss_nil s_next⟩
theorem pss_one {st : Stmt} {t : AS} (h : GS X st t) : GSs X [st] t := ⟨L2.pss_one h.p⟩
theorem pss_cons {st : Stmt} {rest : List Stmt} {t u : AS} (h : GS X st t) (g : GSs X rest u) : GSs X (st :: rest) (aSeq t u) := ⟨mSs (L2.pss_cons h.p g.p) s_seq⟩
theorem ps_expr {t : AE} (h : GE X e t) (hs : swapsWith e none pos.line X.env = pure false := by rfl) : GS X (.Expr e pos) (aDrop t) := ⟨mS (L2.ps_expr h.p hs) s_drop⟩
theorem ps_ret {t : AE} (h : GE X e t) : GS X (.Return (some e) pos) (aRet t) := ⟨mS (L2.ps_ret h.p) s_ret⟩
theorem ps_if {p q : List Stmt} {tc : AT} {t u : AS} (hc : GT X c tc) (ha : GSs X p t) (hb : GSs X q u) : GS X (.If c p q pos) (aIfS tc t u) := ⟨mS (L2.ps_if hc.p ha.p hb.p) s_ifS⟩
theorem pg_name {i : Nat} {x : Str} (hN : X.N.Nodup) (hi : X.N[i]? = some x) (hx : Loc X.env.scope x) (hf : X.fn x = true ∨ X.env.scope.names.lookup x = some .local := by first | exact .inl rfl | exact .inr rfl | assumption) : GG X (.Name x pos) (agName i) := ⟨mG (L2.pg_name hN hi hx hf) s_gName⟩
theorem pgs_nil : GGs X [] agNil := ⟨mGs L2.pgs_nil s_gNil⟩
theorem pgs_cons {t : AG} {u : AGs} (h1 : GG X e t) (h2 : GGs X es u) (hs : (assignEach (e :: es) X.env).map (·.2) = assign e X.env :: (assignEach es X.env).map (·.2) := by rfl) : GGs X (e :: es) (agCons t u) := ⟨mGs (L2.pgs_cons h1.p h2.p hs) s_gCons⟩
theorem pg_tup {k : Nat} {t : AGs} {n : Nat} (hc : X.calm = true) (h : GGs X es t) (hn : (assignEach es X.env).length = n := by rfl) (hst : (assignEach es X.env).findIdx? (·.1) = none := by rfl) : GG X (.Tuple es k pos) (agTup n t) := ⟨mG (L2.pg_tup hc h.p hn hst) s_gTup⟩
theorem ps_asg {tg : Expr} {t : AE} {g : AG} (he : GE X e t) (hg : GG X tg g) (hs : swapsWithSole [tg] e pos.line X.env = pure false := by rfl) (hw : swappedStores [tg] e X.env = pure none := by rfl)
  (h1 : (assignEach [tg] X.env).map (·.2) = [assign tg X.env] := by rfl) : GS X (.Assign [tg] e pos) (aAsg t g) := ⟨mS (L2.ps_asg he.p hg.p hs hw h1) s_asg⟩
theorem ps_set {i : Nat} {x : Str} {t : AE} {pos' : Pos} (hN : X.N.Nodup) (hi : X.N[i]? = some x) (hx : Loc X.env.scope x) (he : GE X e t) (hs : swapsWith e (some (.Name x pos')) pos.line X.env = pure false := by rfl) (hf : X.fn x = true ∨ X.env.scope.names.lookup x = some .local := by first | exact .inl rfl | exact .inr rfl | assumption) :
  GS X (.Assign [.Name x pos'] e pos) (aAsg t (agName i)) := ⟨mS (L2.ps_set hN hi hx he.p hs hf) fun D σ H h => by
  obtain ⟨w, δ, S, Qa, ok, env, q, bk⟩ := s_asg D σ H h
  exact ⟨w, δ, S, Qa, ok, env, q, fun r S' v w' H' le ok' rep q' => s_gName _ _ _ _ (bk r S' v w' H' le ok' rep q')⟩⟩
theorem ps_setComp {elt tg iter : Expr} {ifs : List Expr} {scope : Scope} {N : List Str} {caps : List (Option Nat)} {pos' spos : Pos} {wi : AI} {g : AG} {tt : AT} {te : AE} {i : Nat} {x : Str}
  (hN : X.N.Nodup) (hix : X.N[i]? = some x) (hx : X.env.scope.names.lookup x = some .local)
  (S : BlkScope scope N) (hcap : capOk X.N X.env scope N caps = true) (hfr : L2.freeOk X.env scope = true) (hc : X.calm = true) (hi : GI X tg iter wi)
  (hg : ∀ s₀ H₀ C fp, GG (blk X scope N s₀ H₀ C fp) tg g) (ht : ∀ s₀ H₀ C fp, GTs (blk X scope N s₀ H₀ C fp) ifs tt) (he : ∀ s₀ H₀ C fp, GE (blk X scope N s₀ H₀ C fp) elt te)
  (hsw : swapsWith (.ListComp elt [⟨tg, iter, ifs, 0⟩] scope pos) (some (.Name x pos')) spos.line X.env = pure true := by rfl)
  (hs : ∀ x, foldedSetIterable iter X.env x = pure x := by intro _; rfl) : GS X (.Assign [.Name x pos'] (.ListComp elt [⟨tg, iter, ifs, 0⟩] scope pos) spos) (aAsg (aComp caps wi g tt te) (agName i)) :=
 ⟨mS (L2.ps_setComp hN hix hx S hcap hfr hc hi.p (fun s₀ H₀ C fp => (hg s₀ H₀ C fp).p) (fun s₀ H₀ C fp => (ht s₀ H₀ C fp).p) (fun s₀ H₀ C fp => (he s₀ H₀ C fp).p) hsw hs) fun D σ H h => by
  obtain ⟨w, δ, S, Qa, ok, env, q, bk⟩ := s_asg D σ H h
  exact s_comp _ _ _ ⟨w, δ, S, Qa, ok, env, q, fun r S' v w' H' le ok' rep q' => s_gName _ _ _ _ (bk r S' v w' H' le ok' rep q')⟩⟩
theorem ps_for {tg iter : Expr} {body : List Stmt} {wi : AI} {g : AG} {tb : AS} (hp : PassesOwn (model X.prog X.w) X.A X.env X.xe) (hc : X.calm = true) (hi : GI X tg iter wi) (hg : GG X tg g) (hb : GSs X body tb)
  (hs : ∀ x, foldedSetIterable iter X.env x = pure x := by intro _; rfl) : GS X (.For tg iter body [] pos) (aFor wi g tb) := ⟨mS (L2.ps_for hp hc hi.p hg.p hb.p hs) s_for⟩
end
end M
namespace M
open PySem PySem.Spec PyProof.Rows L2
section
variable {X : Cx}
theorem or2 {f : Value → Value → Sem Value} {r r' : R2} (h : OpR X f r) (h' : OpR X f r') : OpR X f (fun x y H Q => r x y H Q ∨ r' x y H Q) := by
 intro pins s σ H x y v u Q I rx ry q
 rcases q with q | q
 ·exact h pins s σ H x y v u Q I rx ry q
 ·exact h' pins s σ H x y v u Q I rx ry q
theorem orC {f : Value} {r r' : List V → Hp → VK → Prop} (h : CallR X f r) (h' : CallR X f r') : CallR X f (fun x H Q => r x H Q ∨ r' x H Q) := by
 intro pins s σ H x v Q I rx q
 rcases q with q | q
 ·exact h pins s σ H x v Q I rx q
 ·exact h' pins s σ H x v Q I rx q
variable {K : PySem.W.Frag} {w : Wd} {H : Hp} {S : Sto} {v u : V} {d e : D}
theorem see_int {i : Int} (h : Rep K w d v) (z : see S d = .int i) : v = .int i := by
 cases d <;> simp only [see] at z
 case loc n => split at z <;> first | (rename_i o _; cases o <;> simp [MO.d] at z) | cases z
 all_goals first | cases z | skip
 simpa [Rep] using h
theorem see_str {i : Str} (h : Rep K w d v) (z : see S d = .str i) : v = .str i := by
 cases d <;> simp only [see] at z
 case loc n => split at z <;> first | (rename_i o _; cases o <;> simp [MO.d] at z) | cases z
 all_goals first | cases z | skip
 simpa [Rep] using h
theorem see_bl {i : Bool} (h : Rep K w d v) (z : see S d = .bl i) : v = .bl i := by
 cases d <;> simp only [see] at z
 case loc n => split at z <;> first | (rename_i o _; cases o <;> simp [MO.d] at z) | cases z
 all_goals first | cases z | skip
 simpa [Rep] using h
theorem see_non (h : Rep K w d v) (z : see S d = .non) : v = .non := by
 cases d <;> simp only [see] at z
 case loc n => split at z <;> first | (rename_i o _; cases o <;> simp [MO.d] at z) | cases z
 all_goals first | cases z | skip
 simpa [Rep] using h
theorem see_scr {ns : List Int} (k : Ok K w H S) (h : Rep K w d v) (z : see S d = .scr ns) : ∃ a, v = .ref a ∧ SqL K H a (ns.map V.int) := by
 cases d <;> simp only [see] at z
 case loc n => split at z <;> first | (rename_i o _; cases o <;> simp [MO.d] at z) | cases z
 all_goals first | cases z | skip
 simp only [Rep] at h
 obtain ⟨a, h1, h2⟩ := h
 exact ⟨a, h1, k.base.seq h2⟩
noncomputable def aI (C : Int → Int → Prop) (g : Int → Int → D) : A2 := fun x y S Q => ∃ i j, x = .int i ∧ y = .int j ∧ C i j ∧ Q (.dat (g i j)) S
theorem c_I {C : Int → Int → Prop} {g : Int → Int → D} {g' : Int → Int → V} (h : ∀ w i j, Rep K w (g i j) (g' i j)) : ∀ x y H Q, con2 K (aI C g) x y H Q → rI C g' x y H Q := by
 rintro x y H Q ⟨w, d, e, S, Qa, ok, r1, r2, ⟨i, j, e1, e2, hc, q⟩, bk⟩
 exact ⟨i, j, rep_int r1 e1, rep_int r2 e2, hc, bk.dat .refl ok (h w i j) q⟩
theorem rI_of0 {g : Int → Int → V} : ∀ x y H Q, rI (fun _ _ => True) g x y H Q → rI0 g x y H Q := by
 rintro x y H Q ⟨i, j, h1, h2, _, q⟩
 exact ⟨i, j, h1, h2, q⟩
theorem o_sub : Op2 X (binaryOp .Sub) (aI (fun _ _ => True) fun i j => .int (i - j)) := ⟨m2 L2.op_sub fun x y H Q h => rI_of0 x y H Q (c_I (g' := fun i j => .int (i - j)) (fun _ _ _ => .int) x y H Q h)⟩
theorem o_fdiv : Op2 X (binaryOp .FloorDiv) (aI CDiv fun i j => .int (i / j)) := ⟨m2 L2.op_fdiv (c_I fun _ _ _ => .int)⟩
theorem o_mod : Op2 X (binaryOp .Mod) (aI (fun _ j => 0 < j) fun i j => .int (i % j)) := ⟨m2 L2.op_mod (c_I fun _ _ _ => .int)⟩
theorem o_pow : Op2 X (binaryOp .Pow) (aI CPow fun i j => .int (i ^ j.toNat)) := ⟨m2 L2.op_pow (c_I fun _ _ _ => .int)⟩
theorem o_ge : Op2 X (compareOp .GtE) (aI (fun _ _ => True) fun i j => .bl (decide (j ≤ i))) := ⟨m2 L2.op_ge fun x y H Q h => rI_of0 x y H Q (c_I (g' := fun i j => .bl (decide (j ≤ i))) (fun _ _ _ => .bl) x y H Q h)⟩
noncomputable def aLt : A2 := fun x y S Q => match x, y with
 | .int i, .int j => Q (.dat (.bl (decide (i < j)))) S
 | .str i, .str j => Q (.dat (.bl (decide (i.cps.toList < j.cps.toList)))) S
 | _, _ => False
noncomputable def aLe : A2 := fun x y S Q => match x, y with
 | .int i, .int j => Q (.dat (.bl (decide (i ≤ j)))) S
 | .str i, .str j => Q (.dat (.bl (!decide (j.cps.toList < i.cps.toList)))) S
 | _, _ => False
theorem o_lt : Op2 X (compareOp .Lt) aLt := ⟨m2 (or2 L2.op_lt L2.op_lt_str) fun x y H Q h => by
 obtain ⟨w, d, e, S, Qa, ok, r1, r2, q, bk⟩ := h
 cases d <;> cases e <;> first | exact q.elim | skip
 ·exact .inl ⟨_, _, rep_int r1 rfl, rep_int r2 rfl, bk.dat .refl ok .bl q⟩
 ·exact .inr ⟨_, _, rep_str r1 rfl, rep_str r2 rfl, bk.dat .refl ok .bl q⟩⟩
theorem o_le : Op2 X (compareOp .LtE) aLe := ⟨m2 (or2 L2.op_le L2.op_le_str) fun x y H Q h => by
 obtain ⟨w, d, e, S, Qa, ok, r1, r2, q, bk⟩ := h
 cases d <;> cases e <;> first | exact q.elim | skip
 ·exact .inl ⟨_, _, rep_int r1 rfl, rep_int r2 rfl, bk.dat .refl ok .bl q⟩
 ·exact .inr ⟨_, _, rep_str r1 rfl, rep_str r2 rfl, bk.dat .refl ok .bl q⟩⟩
noncomputable def aAdd : A2 := fun x y S Q => match see S x, see S y with
 | .int i, .int j => Q (.dat (.int (i + j))) S
 | .str i, .str j => i.length + j.length ≤ sizeLine ∧ Q (.dat (.str (i ++ j))) S
 | .lst xs, .lst ys => xs.length + ys.length ≤ sizeLine ∧ Q (.new (.lst (xs ++ ys))) S
 | .tup xs, .tup ys => xs ≠ [] ∧ xs.length + ys.length ≤ sizeLine ∧ Q (.dat (.tup (xs ++ ys))) S
 | _, _ => False
theorem o_add : Op2 X (binaryOp .Add) aAdd := ⟨m2 (or2 L2.op_add (or2 L2.op_add_str (or2 L2.op_cat L2.op_catT))) fun x y H Q h => by
 obtain ⟨w, d, e, S, Qa, ok, r1, r2, q, bk⟩ := h
 unfold aAdd at q
 cases z1 : see S d <;> cases z2 : see S e <;> rw [z1, z2] at q <;> first | exact q.elim | skip
 ·exact .inl ⟨_, _, see_int r1 z1, see_int r2 z2, bk.dat .refl ok .int q⟩
 ·exact .inr (.inl ⟨_, _, see_str r1 z1, see_str r2 z2, q.1, bk.dat .refl ok .str q.2⟩)
 ·obtain ⟨a, xs, rfl, h1, g1⟩ := see_tup ok r1 z1
  obtain ⟨b, ys, rfl, h2, g2⟩ := see_tup ok r2 z2
  obtain ⟨hne, hl, q⟩ := q
  refine .inr (.inr (.inr ⟨a, b, xs, ys, rfl, rfl, SqT.of h1, SqT.of h2, ?_, by rw [g1.length, g2.length]; exact hl, fun hy => ?_, fun hy p hp => ?_⟩))
  ·intro z; subst z
   have := g1.length
   simp at this
   exact hne (List.eq_nil_of_length_eq_zero this.symm)
  ·subst hy
   have : _ = [] := List.eq_nil_of_length_eq_zero g2.length.symm
   rw [this, List.append_nil] at q
   cases d <;> simp only [see] at z1
   case tup => cases z1; exact bk.dat .refl ok r1 q
   case loc n => split at z1 <;> first | (rename_i o _; cases o <;> simp [MO.d] at z1) | cases z1
   all_goals cases z1
  ·obtain ⟨w2, le2, ok2, rep2⟩ := ok.newTup hp (g1.append g2)
   exact bk.dat le2 ok2 rep2 q
 ·obtain ⟨a, xs, rfl, h1, g1⟩ := see_lst ok r1 z1
  obtain ⟨b, ys, rfl, h2, g2⟩ := see_lst ok r2 z2
  refine .inr (.inr (.inl ⟨a, b, xs, ys, rfl, rfl, h1, h2, by rw [g1.length, g2.length]; exact q.1, fun p hp => ?_⟩))
  exact bk (.new (.lst _)) S _ w _ .refl (ok.alloc hp) (ok.fresh hp ⟨_, rfl, g1.append g2⟩) q.2⟩
end
end M
namespace M
open PySem PySem.Spec PyProof.Rows PySem.SeqAt L2
mutual
noncomputable def pur : D → Bool
 | .non | .bl _ | .int _ | .str _ => true
 | .tup ds | .lst ds => purs ds
 | _ => false
noncomputable def purs : List D → Bool
 | [] => true
 | d :: ds => pur d && purs ds
end
mutual
noncomputable def py : D → PyData
 | .non => .none
 | .bl b => .bool b
 | .int i => .int i
 | .str x => .str x
 | .tup ds => .tuple (pys ds)
 | .lst ds => .list (pys ds)
 | _ => .none
noncomputable def pys : List D → List PyData
 | [] => []
 | d :: ds => py d :: pys ds
end
section
variable {K : PySem.W.Frag} {w : Wd} {H : Hp} {S : Sto}
mutual
theorem dat_of (e : Same w.B H) : ∀ (d : D) (v : V), pur d = true → Rep K w d v → DatV K H (py d) v
 | .non, v, _, h => by simpa [Rep, py, DatV] using h
 | .bl _, v, _, h => by simpa [Rep, py, DatV] using h
 | .int _, v, _, h => by simpa [Rep, py, DatV] using h
 | .str _, v, _, h => by simpa [Rep, py, DatV] using h
 | .tup ds, v, hp, h => by
  simp only [Rep, py, DatV] at h ⊢
  obtain ⟨a, xs, h1, h2, h3⟩ := h
  exact ⟨a, xs, h1, SqT.of (e _ _ h2), dats_of e ds xs (by simpa [pur] using hp) h3⟩
 | .lst ds, v, hp, h => by
  simp only [Rep, py, DatV] at h ⊢
  obtain ⟨a, xs, h1, h2, h3⟩ := h
  exact ⟨a, xs, h1, SqL.of (e _ _ h2), dats_of e ds xs (by simpa [pur] using hp) h3⟩
 | .dct _ _, _, hp, _ => by simp [pur] at hp
 | .loc _, _, hp, _ => by simp [pur] at hp
 | .ty _, _, hp, _ => by simp [pur] at hp
 | .scr _, _, hp, _ => by simp [pur] at hp
 | .stc _, _, hp, _ => by simp [pur] at hp
 | .fd, _, hp, _ => by simp [pur] at hp
 | .fn _, _, hp, _ => by simp [pur] at hp
theorem dats_of (e : Same w.B H) : ∀ (ds : List D) (vs : List V), purs ds = true → Reps K w ds vs → DatVs K H (pys ds) vs
 | [], vs, _, h => by simpa [Reps, pys, DatVs] using h
 | d :: ds, vs, hp, h => by
  simp only [purs, Bool.and_eq_true] at hp
  simp only [Reps, pys, DatVs] at h ⊢
  obtain ⟨x, r, h1, h2, h3⟩ := h
  exact ⟨x, r, h1, dat_of e d x hp.1 h2, dats_of e ds r hp.2 h3⟩
end
theorem see_dat (k : Ok K w H S) {d : D} {v : V} (h : Rep K w d v) (hp : pur (see S d) = true) : DatV K H (py (see S d)) v := by
 cases d with
 | loc n =>
  cases z : see S (.loc n) with
  | lst ds =>
   rw [z] at hp
   obtain ⟨a, xs, rfl, h1, h2⟩ := see_lst k h z
   simp only [py, DatV]
   exact ⟨a, xs, rfl, SqL.of h1, dats_of k.base ds xs (by simpa [pur] using hp) h2⟩
  | _ =>
   rw [z] at hp
   simp only [see] at z
   split at z <;> first | (rename_i o _; cases o <;> simp [MO.d] at z) | (cases z; simp [pur] at hp) | cases z
   all_goals simp [pur] at hp
 | _ => exact dat_of k.base _ v (by simpa [see] using hp) h
end
noncomputable def fit (d : D) : Bool := pur d && shaped (py d)
noncomputable def aEq : A2 := fun x y S Q => match see S x, see S y with
 | .str a, .str b => Q (.dat (.bl (decide (a = b)))) S
 | .int a, .int b => Q (.dat (.bl (decide (a = b)))) S
 | .bl a, .bl b => Q (.dat (.bl (decide (a = b)))) S
 | x', y' => fit x' = true ∧ fit y' = true ∧ Q (.dat (.bl (PyData.eqv (py x') (py y')))) S
noncomputable def aNe : A2 := fun x y S Q => match see S x, see S y with
 | .str a, .str b => Q (.dat (.bl (!decide (a = b)))) S
 | .int a, .int b => Q (.dat (.bl (!decide (a = b)))) S
 | .bl a, .bl b => Q (.dat (.bl (!decide (a = b)))) S
 | x', y' => fit x' = true ∧ fit y' = true ∧ Q (.dat (.bl (!PyData.eqv (py x') (py y')))) S
section
variable {X : Cx}
noncomputable def rEqD (K : PySem.W.Frag) : R2 := fun x y H Q => ∃ a b, DatV K H a x ∧ DatV K H b y ∧ shaped a = true ∧ shaped b = true ∧ Q (.bl (PyData.eqv a b)) H
noncomputable def rNeD (K : PySem.W.Frag) : R2 := fun x y H Q => ∃ a b, DatV K H a x ∧ DatV K H b y ∧ shaped a = true ∧ shaped b = true ∧ Q (.bl (!PyData.eqv a b)) H
theorem op_eqD {k : Nat} (hr : Room k X.A) : OpR X (compareOp .Eq) (rEqD X.K) := by
 intro pins s σ H x y v u Q I rx ry h
 obtain ⟨a, b, h1, h2, h3, h4, q⟩ := h
 obtain ⟨as, ra⟩ := I.reads a x v h1 rx
 obtain ⟨bs, rb⟩ := I.reads b y u h2 ry
 exact eq_dataH ra rb h3 h4 hr.units ⟨.bl _, H, I, rfl, q⟩
theorem op_neD {k : Nat} (hr : Room k X.A) : OpR X (compareOp .NotEq) (rNeD X.K) := by
 intro pins s σ H x y v u Q I rx ry h
 obtain ⟨a, b, h1, h2, h3, h4, q⟩ := h
 obtain ⟨as, ra⟩ := I.reads a x v h1 rx
 obtain ⟨bs, rb⟩ := I.reads b y u h2 ry
 exact ne_dataH ra rb h3 h4 hr.units ⟨.bl _, H, I, rfl, q⟩
theorem fit_dat {K : PySem.W.Frag} {w : Wd} {H : Hp} {S : Sto} {d : D} {v : V} (k : Ok K w H S) (h : Rep K w d v) (hf : fit (see S d) = true) : DatV K H (py (see S d)) v ∧ shaped (py (see S d)) = true := by
 unfold fit at hf
 rw [Bool.and_eq_true] at hf
 exact ⟨see_dat k h hf.1, hf.2⟩
theorem o_eq {k : Nat} (hr : Room k X.A) : Op2 X (compareOp .Eq) aEq := ⟨m2 (or2 L2.op_eq (op_eqD hr)) fun x y H Q h => by
 obtain ⟨w, d, e, S, Qa, ok, r1, r2, q, bk⟩ := h
 unfold aEq at q
 split at q
 next a b z1 z2 =>
  refine .inl ⟨by rw [see_str r1 z1, see_str r2 z2]; rfl, ?_⟩
  rw [see_str r1 z1, see_str r2 z2]
  exact bk.dat .refl ok (by rw [show decide (V.str a = V.str b) = decide (a = b) by simp]; exact .bl) q
 next a b z1 z2 =>
  refine .inl ⟨by rw [see_int r1 z1, see_int r2 z2]; rfl, ?_⟩
  rw [see_int r1 z1, see_int r2 z2]
  exact bk.dat .refl ok (by rw [show decide (V.int a = V.int b) = decide (a = b) by simp]; exact .bl) q
 next a b z1 z2 =>
  refine .inl ⟨by rw [see_bl r1 z1, see_bl r2 z2]; rfl, ?_⟩
  rw [see_bl r1 z1, see_bl r2 z2]
  exact bk.dat .refl ok (by rw [show decide (V.bl a = V.bl b) = decide (a = b) by simp]; exact .bl) q
 next =>
  obtain ⟨f1, f2, q⟩ := q
  obtain ⟨g1, s1⟩ := fit_dat ok r1 f1
  obtain ⟨g2, s2⟩ := fit_dat ok r2 f2
  exact .inr ⟨_, _, g1, g2, s1, s2, bk.dat .refl ok .bl q⟩⟩
theorem o_ne {k : Nat} (hr : Room k X.A) : Op2 X (compareOp .NotEq) aNe := ⟨m2 (or2 L2.op_ne (op_neD hr)) fun x y H Q h => by
 obtain ⟨w, d, e, S, Qa, ok, r1, r2, q, bk⟩ := h
 unfold aNe at q
 split at q
 next a b z1 z2 =>
  refine .inl ⟨by rw [see_str r1 z1, see_str r2 z2]; rfl, ?_⟩
  rw [see_str r1 z1, see_str r2 z2]
  exact bk.dat .refl ok (by rw [show decide (V.str a = V.str b) = decide (a = b) by simp]; exact .bl) q
 next a b z1 z2 =>
  refine .inl ⟨by rw [see_int r1 z1, see_int r2 z2]; rfl, ?_⟩
  rw [see_int r1 z1, see_int r2 z2]
  exact bk.dat .refl ok (by rw [show decide (V.int a = V.int b) = decide (a = b) by simp]; exact .bl) q
 next a b z1 z2 =>
  refine .inl ⟨by rw [see_bl r1 z1, see_bl r2 z2]; rfl, ?_⟩
  rw [see_bl r1 z1, see_bl r2 z2]
  exact bk.dat .refl ok (by rw [show decide (V.bl a = V.bl b) = decide (a = b) by simp]; exact .bl) q
 next =>
  obtain ⟨f1, f2, q⟩ := q
  obtain ⟨g1, s1⟩ := fit_dat ok r1 f1
  obtain ⟨g2, s2⟩ := fit_dat ok r2 f2
  exact .inr ⟨_, _, g1, g2, s1, s2, bk.dat .refl ok .bl q⟩⟩
noncomputable def inD (d : D) (ds : List D) : Bool := ds.any fun y => PyData.eqv (py y) (py d)
noncomputable def aIn (neg : Bool) : A2 := fun x y S Q => match see S y with
 | .tup ds => fit (see S x) = true ∧ fit (.tup ds) = true ∧ Q (.dat (.bl (neg != inD (see S x) ds))) S
 | .lst ds => fit (see S x) = true ∧ fit (.lst ds) = true ∧ Q (.dat (.bl (neg != inD (see S x) ds))) S
 | .stc ss => fit (see S x) = true ∧ fit (.tup (ss.map D.str)) = true ∧ Q (.dat (.bl (neg != inD (see S x) (ss.map D.str)))) S
 | _ => False
noncomputable def rInD (K : PySem.W.Frag) (neg : Bool) : R2 := fun x y H Q => ∃ d ds, DatV K H d x ∧ (DatV K H (.tuple ds) y ∨ DatV K H (.list ds) y) ∧ shaped d = true ∧ PyData.canLayAll0 ds = true ∧ Q (.bl (neg != ds.any fun y => PyData.eqv y d)) H
theorem op_inD {k : Nat} (hr : Room k X.A) : OpR X (compareOp .In) (rInD X.K false) := by
 intro pins s σ H x y v u Q I rx ry h
 obtain ⟨d, ds, h1, h2, h3, h4, q⟩ := h
 obtain ⟨as, ra⟩ := I.reads d x v h1 rx
 have hu := hr.un
 rcases h2 with h2 | h2
 ·obtain ⟨bs, rb⟩ := I.reads _ y u h2 ry
  exact PySem.SeqAt.in_tuple_reads rb ra h4 (canLay_of_shaped h3) (room_in_shaped h3 (by omega)) ⟨.bl _, H, I, by simp [L2.RelV], q⟩
 ·obtain ⟨bs, rb⟩ := I.reads _ y u h2 ry
  exact PySem.SeqAt.in_list_reads rb ra h4 (canLay_of_shaped h3) (room_in_shaped h3 (by omega)) ⟨.bl _, H, I, by simp [L2.RelV], q⟩
theorem op_notInD {k : Nat} (hr : Room k X.A) : OpR X (compareOp .NotIn) (rInD X.K true) := by
 intro pins s σ H x y v u Q I rx ry h
 obtain ⟨d, ds, h1, h2, h3, h4, q⟩ := h
 obtain ⟨as, ra⟩ := I.reads d x v h1 rx
 have hu := hr.un
 rcases h2 with h2 | h2
 ·obtain ⟨bs, rb⟩ := I.reads _ y u h2 ry
  exact PySem.SeqAt.notIn_tuple_reads rb ra h4 (canLay_of_shaped h3) (room_in_shaped h3 (by omega)) ⟨.bl _, H, I, by simp [L2.RelV], q⟩
 ·obtain ⟨bs, rb⟩ := I.reads _ y u h2 ry
  exact PySem.SeqAt.notIn_list_reads rb ra h4 (canLay_of_shaped h3) (room_in_shaped h3 (by omega)) ⟨.bl _, H, I, by simp [L2.RelV], q⟩
theorem pys_map (ds : List D) : pys ds = ds.map py := by
 induction ds with
 | nil => rfl
 | cons d ds ih => simp [pys, ih]
theorem any_pys (ds : List D) (p : PyData → Bool) : (pys ds).any p = ds.any fun y => p (py y) := by
 rw [pys_map, List.any_map]; rfl
theorem stc_dat {K : PySem.W.Frag} {H : Hp} : ∀ (ss : List Str), DatVs K H (pys (ss.map D.str)) (ss.map V.str)
 | [] => by simp [pys, DatVs]
 | s :: ss => by
  simp only [List.map_cons, pys, DatVs, py, DatV]
  exact ⟨_, _, rfl, rfl, stc_dat ss⟩
theorem see_stc {K : PySem.W.Frag} {w : Wd} {H : Hp} {S : Sto} {d : D} {v : V} {ss : List Str} (k : Ok K w H S) (h : Rep K w d v) (z : see S d = .stc ss) : ∃ a, v = .ref a ∧ SqT K H a (ss.map V.str) := by
 cases d <;> simp only [see] at z
 case loc n => split at z <;> first | (rename_i o _; cases o <;> simp [MO.d] at z) | cases z
 all_goals first | cases z | skip
 simp only [Rep] at h
 obtain ⟨a, h1, h2⟩ := h
 exact ⟨a, h1, SqT.same k.base h2⟩
theorem fit_lay {ds : List D} (h : fit (.tup ds) = true) : PyData.canLayAll0 (pys ds) = true := by
 unfold fit at h
 rw [Bool.and_eq_true] at h
 have := canLay_of_shaped h.2
 simpa [py, PyData.canLay0] using this
theorem fit_layL {ds : List D} (h : fit (.lst ds) = true) : PyData.canLayAll0 (pys ds) = true := by
 unfold fit at h
 rw [Bool.and_eq_true] at h
 have := canLay_of_shaped h.2
 simpa [py, PyData.canLay0] using this
theorem c_in {K : PySem.W.Frag} {neg : Bool} : ∀ x y H Q, con2 K (aIn neg) x y H Q → rInD K neg x y H Q := by
 rintro x y H Q ⟨w, d, e, S, Qa, ok, r1, r2, q, bk⟩
 unfold aIn at q
 split at q
 next ds z =>
  obtain ⟨f1, f2, q⟩ := q
  obtain ⟨g1, s1⟩ := fit_dat ok r1 f1
  obtain ⟨g2, s2⟩ := fit_dat ok r2 (by rw [z]; exact f2)
  rw [z] at g2
  refine ⟨_, pys ds, g1, .inl (by simpa only [py] using g2), s1, fit_lay f2, ?_⟩
  rw [any_pys]
  exact bk.dat .refl ok .bl q
 next ds z =>
  obtain ⟨f1, f2, q⟩ := q
  obtain ⟨g1, s1⟩ := fit_dat ok r1 f1
  obtain ⟨g2, s2⟩ := fit_dat ok r2 (by rw [z]; exact f2)
  rw [z] at g2
  refine ⟨_, pys ds, g1, .inr (by simpa only [py] using g2), s1, fit_layL f2, ?_⟩
  rw [any_pys]
  exact bk.dat .refl ok .bl q
 next ss z =>
  obtain ⟨f1, f2, q⟩ := q
  obtain ⟨g1, s1⟩ := fit_dat ok r1 f1
  obtain ⟨a, rfl, g2⟩ := see_stc ok r2 z
  refine ⟨_, pys (ss.map D.str), g1, .inl ?_, s1, fit_lay f2, ?_⟩
  ·simp only [DatV]
   exact ⟨a, _, rfl, g2, stc_dat ss⟩
  ·rw [any_pys]
   exact bk.dat .refl ok .bl q
 next => exact q.elim
theorem o_in {k : Nat} (hr : Room k X.A) : Op2 X (compareOp .In) (aIn false) := ⟨m2 (op_inD hr) c_in⟩
theorem o_notIn {k : Nat} (hr : Room k X.A) : Op2 X (compareOp .NotIn) (aIn true) := ⟨m2 (op_notInD hr) c_in⟩
end
end M
namespace M
open PySem PySem.Spec PyProof.Rows PySem.SeqAt L2
section
variable {X : Cx} {K : PySem.W.Frag} {w : Wd} {H : Hp} {S : Sto} {d : D} {v : V}
theorem reps_atI {ds : List D} {xs : List V} {i : Int} {e : D} (h : Reps K w ds xs) (q : atI ds i = some e) : ∃ u, atI xs i = some u ∧ Rep K w e u := by
 unfold atI at q ⊢
 rw [h.length]
 cases z : ixN ds.length i with
 | none => rw [z] at q; cases q
 | some j =>
  rw [z] at q
  exact h.get q
noncomputable def aIx : A2 := fun x y S Q => match see S x, y with
 | .lst ds, .int i => ∃ e, atI ds i = some e ∧ Q (.dat e) S
 | .tup ds, .int i => ∃ e, atI ds i = some e ∧ Q (.dat e) S
 | .str z, .int i => z.length ≤ sizeLine ∧ ∃ c, atI z.cps.toList i = some c ∧ Q (.dat (.str ⟨#[c]⟩)) S
 | .scr ns, .int i => ∃ n, atI ns i = some n ∧ Q (.dat (.int n)) S
 | _, _ => False
theorem atI_map {α β : Type} {f : α → β} {xs : List α} {i : Int} {a : α} (h : atI xs i = some a) : atI (xs.map f) i = some (f a) := by
 unfold atI at h ⊢
 rw [List.length_map]
 cases z : ixN xs.length i with
 | none => rw [z] at h; cases h
 | some j =>
  rw [z] at h
  have h : xs[j]? = some a := h
  show (xs.map f)[j]? = some (f a)
  rw [List.getElem?_map, h]; rfl
theorem o_ix : OpI X aIx := ⟨fun value slice pins s σ H x y v u Q I rx ry h hs => by
 refine L2.ix_seq value slice pins s σ H x y v u Q I rx ry ?_ hs
 obtain ⟨w, d, e, S, Qa, ok, r1, r2, q, bk⟩ := h
 unfold aIx at q
 split at q
 next ds i z =>
  obtain ⟨a, xs, rfl, h1, h2⟩ := see_lst ok r1 z
  obtain ⟨e', he, q⟩ := q
  obtain ⟨u', g1, g2⟩ := reps_atI h2 he
  exact .inl ⟨a, xs, i, u', rfl, rep_int r2 rfl, SqL.of h1, g1, bk.dat .refl ok g2 q⟩
 next ds i z =>
  obtain ⟨a, xs, rfl, h1, h2⟩ := see_tup ok r1 z
  obtain ⟨e', he, q⟩ := q
  obtain ⟨u', g1, g2⟩ := reps_atI h2 he
  exact .inr (.inl ⟨a, xs, i, u', rfl, rep_int r2 rfl, SqT.of h1, g1, bk.dat .refl ok g2 q⟩)
 next y i z =>
  obtain ⟨hl, c, hc, q⟩ := q
  exact .inr (.inr ⟨y, i, c, see_str r1 z, rep_int r2 rfl, hl, hc, bk.dat .refl ok .str q⟩)
 next ns i z =>
  obtain ⟨a, rfl, h1⟩ := see_scr ok r1 z
  obtain ⟨n, hn, q⟩ := q
  exact .inl ⟨a, _, i, .int n, rfl, rep_int r2 rfl, h1, atI_map hn, bk.dat .refl ok .int q⟩
 next => exact q.elim⟩
noncomputable def cutD {α : Type} (xs : List α) (lo hi : Option Int) : List α := (xs.drop (HT.sIx xs.length 0 lo)).take (HT.sIx xs.length xs.length hi - HT.sIx xs.length 0 lo)
theorem reps_cut {ds : List D} {xs : List V} (h : Reps K w ds xs) (lo hi : Option Int) : Reps K w (cutD ds lo hi) (cutV xs lo hi) := by
 unfold cutD cutV
 rw [h.length]
 exact (h.drop _).take _
end
section
variable {prog : Program} {w : World} {A : Around} {E : Value → Shared → Prop} {s : Shared}
theorem getItem_tuple_whole {t sl : Addr} {items : Array Value} {vl vu : Value} {lo hi : Option Int} {Q : Value → Shared → Prop} (ht : IsTup s.heap t items) (hs : s.heap.IsSliceOf sl vl vu .none) (pl : IsPart vl lo) (pu : IsPart vu hi)
  (hw : HT.sIx items.size 0 lo = 0 ∧ HT.sIx items.size items.size hi = items.size) (h : Q (.ref t) s) : wpAny (model prog w) A (getItem (.ref t) (.ref sl)) Q E s := by
 obtain ⟨os, hos, hcs, hds⟩ := id hs
 have hTs : s.TypeIs (.ref sl) "slice" := ⟨os, hos, hcs⟩
 unfold getItem
 try with_reducible refine wpAny_holding ?_
 first | refine wpAny_bind (wpAny_pure ?_) | skip
 refine wpAny_bind (wpAny_sequenceKey ht.typeIs (by decide) ?_)
 refine wpAny_bind (wpAny_callSpecial?_slot (name := Str.ofString "__getitem__") ht.typeIs PyProof.Rows.slot_tuple_getitem
  (wpAny_call_entry PyProof.Rows.slot_tuple_getitem ht.typeIs PyProof.Rows.entry_tuple_getitem ?_ (PyProof.Rows.args_tuple_getitem _ _)))
 show wpAny _ _ (Builtin.Tuple.tupleItemsOf (.ref t) >>= _) _ _ s
 refine wpAny_bind (PyProof.Rows.tupleItemsOf_ ht ?_)
 refine wpAny_bind (wpAny_typeOf hTs ?_)
 rw [if_pos (by decide)]
 refine wpAny_bind (HT.sliceApplied_gen hs pl pu ?_)
 have hyes : (((HT.sIx items.size 0 lo : Nat) : Int) == 0 && (1 : Int) == 1 && (HT.sIx items.size items.size hi - HT.sIx items.size 0 lo) == items.size) = true := by
  rw [hw.1, hw.2]; simp
 show wpAny _ _ (if (((HT.sIx items.size 0 lo : Nat) : Int) == 0 && (1 : Int) == 1 && (HT.sIx items.size items.size hi - HT.sIx items.size 0 lo) == items.size) = true then _ else _) _ _ s
 rw [if_pos hyes]
 refine wpAny_bind (m := Builtin.Tuple.tupleIsExact (.ref t)) ?_
 unfold Builtin.Tuple.tupleIsExact
 refine wpAny_bind (wpAny_typeOf ht.typeIs (wpAny_pure ?_))
 rw [if_pos (by decide)]
 exact wpAny_bind (wpAny_rule (wpAny_pure ⟨_, rfl, wpAny_pure h⟩))
end
section
variable {X : Cx} {K : PySem.W.Frag} {w : Wd} {H : Hp} {S : Sto} {d : D} {v : V}
noncomputable def aSlc : D → Option Int → Option Int → Sto → AK → Prop := fun x lo hi S Q => match see S x with
 | .lst ds => Q (.new (.lst (cutD ds lo hi))) S
 | .tup ds => Q (.dat (.tup (cutD ds lo hi))) S
 | .str z => z.length ≤ sizeLine ∧ Q (.dat (.str (Txt.slice z lo hi))) S
 | .scr ns => Q (.new (.lst ((cutD ns lo hi).map D.int))) S
 | _ => False
noncomputable def rSlW (K : PySem.W.Frag) : V → Option Int → Option Int → Hp → VK → Prop := fun x lo hi H Q => ∃ a xs, x = .ref a ∧ SqT K H a xs ∧ (HT.sIx xs.length 0 lo = 0 ∧ HT.sIx xs.length xs.length hi = xs.length) ∧ Q (.ref a) H
theorem sl_whole : SlR X (rSlW X.K) := by
 intro pins s σ H x v vl vu lo hi sl Q I rx hs pl pu h
 obtain ⟨a, xs, rfl, hx, hw, q⟩ := h
 cases rx
 obtain ⟨its, r, ht, hz⟩ := I.tuple hx
 have hlen : its.toArray.size = xs.length := by rw [List.size_toArray]; exact r.length.symm
 refine ⟨"tuple", _, PyProof.Rows.slot_tuple_getitem.lookup, ht.typeIs, ?_⟩
 exact getItem_tuple_whole ht hs pl pu (by rw [hlen]; exact hw) ⟨.ref a, H, I, rfl, q⟩
theorem cut_whole {α : Type} {xs : List α} {lo hi : Option Int} (h : HT.sIx xs.length 0 lo = 0 ∧ HT.sIx xs.length xs.length hi = xs.length) : cutD xs lo hi = xs := by
 unfold cutD
 rw [h.1, h.2]; simp
theorem cut_map {α β : Type} (f : α → β) (xs : List α) (lo hi : Option Int) : cutD (xs.map f) lo hi = (cutD xs lo hi).map f := by
 unfold cutD
 rw [List.length_map, List.map_take, List.map_drop]
theorem reps_ints {w : Wd} : ∀ (ns : List Int), Reps K w (ns.map D.int) (ns.map V.int)
 | [] => .nil
 | n :: ns => .cons .int (reps_ints ns)
theorem o_slc : OpS X aSlc := ⟨by
 intro pins s σ H x v vl vu lo hi sl Q I rx hs pl pu h
 refine (L2.sl_list.or (L2.sl_tup.or (sl_whole.or L2.sl_str))) pins s σ H x v vl vu lo hi sl Q I rx hs pl pu ?_
 obtain ⟨w, d, S, Qa, ok, r1, q, bk⟩ := h
 unfold aSlc at q
 split at q
 next ds z =>
  obtain ⟨a, xs, rfl, h1, h2⟩ := see_lst ok r1 z
  exact .inl ⟨a, xs, rfl, SqL.of h1, fun p hp => bk (.new (.lst _)) S _ w _ .refl (ok.alloc hp) (ok.fresh hp ⟨_, rfl, reps_cut h2 lo hi⟩) q⟩
 next ds z =>
  obtain ⟨a, xs, rfl, h1, h2⟩ := see_tup ok r1 z
  by_cases hw : HT.sIx xs.length 0 lo = 0 ∧ HT.sIx xs.length xs.length hi = xs.length
  ·refine .inr (.inr (.inl ⟨a, xs, rfl, SqT.of h1, hw, ?_⟩))
   rw [h2.length] at hw
   rw [cut_whole hw] at q
   cases d <;> simp only [see] at z
   case tup => cases z; exact bk.dat .refl ok r1 q
   case loc n => split at z <;> first | (rename_i o _; cases o <;> simp [MO.d] at z) | cases z
   all_goals cases z
  ·refine .inr (.inl ⟨a, xs, rfl, SqT.of h1, hw, fun p hp => ?_⟩)
   obtain ⟨w2, le2, ok2, rep2⟩ := ok.newTup hp (reps_cut h2 lo hi)
   exact bk.dat le2 ok2 rep2 q
 next y z => exact .inr (.inr (.inr ⟨y, see_str r1 z, q.1, bk.dat .refl ok .str q.2⟩))
 next ns z =>
  obtain ⟨a, rfl, h1⟩ := see_scr ok r1 z
  refine .inl ⟨a, _, rfl, h1, fun p hp => bk (.new (.lst _)) S _ w _ .refl (ok.alloc hp) (ok.fresh hp ⟨_, rfl, ?_⟩) q⟩
  have := reps_cut (reps_ints (K := X.K) (w := w) ns) lo hi
  rw [cut_map] at this
  exact this
 next => exact q.elim⟩
noncomputable def aMul : A2 := fun x y S Q => match see S x, y with
 | .int i, .int j => CMul i j ∧ Q (.dat (.int (i * j))) S
 | .lst ds, .int k => (-(2 ^ 63) ≤ k ∧ k < 2 ^ 63) ∧ ds.length * k.toNat ≤ sizeLine ∧ Q (.new (.lst (List.replicate k.toNat ds).flatten)) S
 | .str z, .int n => MulOk z n ∧ Q (.dat (.str (Txt.mul z n))) S
 | _, _ => False
theorem reps_rep {ds : List D} {xs : List V} (h : Reps K w ds xs) : ∀ k : Nat, Reps K w (List.replicate k ds).flatten (List.replicate k xs).flatten
 | 0 => .nil
 | k + 1 => by
  rw [List.replicate_succ, List.replicate_succ, List.flatten_cons, List.flatten_cons]
  exact h.append (reps_rep h k)
theorem o_mul : Op2 X (binaryOp .Mult) aMul := ⟨m2 (or2 L2.op_mul (or2 L2.op_rep L2.op_mul_str)) fun x y H Q h => by
 obtain ⟨w, d, e, S, Qa, ok, r1, r2, q, bk⟩ := h
 unfold aMul at q
 split at q
 next i j z => exact .inl ⟨i, j, see_int r1 z, rep_int r2 rfl, q.1, bk.dat .refl ok .int q.2⟩
 next ds k z =>
  obtain ⟨a, xs, rfl, h1, h2⟩ := see_lst ok r1 z
  obtain ⟨⟨g1, g2⟩, hl, q⟩ := q
  refine .inr (.inl ⟨a, k, xs, rfl, rep_int r2 rfl, h1, g1, g2, by rw [h2.length]; exact hl, fun p hp => ?_⟩)
  exact bk (.new (.lst _)) S _ w _ .refl (ok.alloc hp) (ok.fresh hp ⟨_, rfl, reps_rep h2 k.toNat⟩) q
 next y n z => exact .inr (.inr ⟨y, n, see_str r1 z, rep_int r2 rfl, q.1, bk.dat .refl ok .str q.2⟩)
 next => exact q.elim⟩
end
end M
namespace M
open PySem PySem.Spec PyProof.Rows PySem.SeqAt L2
mutual
noncomputable def bel (n : Nat) : D → Bool
 | .loc m => decide (m < n)
 | .tup ds | .lst ds | .dct _ ds => bels n ds
 | _ => true
noncomputable def bels (n : Nat) : List D → Bool
 | [] => true
 | d :: ds => bel n d && bels n ds
end
noncomputable def belO (n : Nat) : MO → Bool
 | .lst ds => bels n ds
 | .dct _ ds => bels n ds
 | .feed _ => true
 | .ins _ _ ds => bels n ds
 | .ddt _ ks => bels n ks
mutual
theorem bel_pur (n : Nat) : ∀ d : D, pur d = true → bel n d = true
 | .non, _ => by simp [bel]
 | .bl _, _ => by simp [bel]
 | .int _, _ => by simp [bel]
 | .str _, _ => by simp [bel]
 | .tup ds, h => by simp only [bel]; exact bels_pur n ds (by simpa [pur] using h)
 | .lst ds, h => by simp only [bel]; exact bels_pur n ds (by simpa [pur] using h)
 | .dct _ _, h => by simp [pur] at h
 | .loc _, h => by simp [pur] at h
 | .ty _, h => by simp [pur] at h
 | .scr _, h => by simp [pur] at h
 | .stc _, h => by simp [pur] at h
 | .fd, h => by simp [pur] at h
 | .fn _, h => by simp [pur] at h
theorem bels_pur (n : Nat) : ∀ ds : List D, purs ds = true → bels n ds = true
 | [], _ => by simp [bels]
 | d :: ds, h => by
  simp only [purs, Bool.and_eq_true] at h
  simp only [bels, Bool.and_eq_true]
  exact ⟨bel_pur n d h.1, bels_pur n ds h.2⟩
end
noncomputable def restr (n : Nat) (w : Wd) : Wd := ⟨w.B, fun k => if k < n then w.r k else none⟩
section
variable {K : PySem.W.Frag} {w w1 : Wd} {H H1 : Hp} {S S0 S1 : Sto}
mutual
theorem rep_restr (n : Nat) : ∀ (d : D) (v : V), bel n d = true → Rep K w d v → Rep K (restr n w) d v
 | .non, _, _, h => by simpa [Rep] using h
 | .bl _, _, _, h => by simpa [Rep] using h
 | .int _, _, _, h => by simpa [Rep] using h
 | .str _, _, _, h => by simpa [Rep] using h
 | .ty _, _, _, h => by simpa [Rep] using h
 | .fd, _, _, h => by simpa [Rep] using h
 | .fn _, _, _, h => by simpa [Rep] using h
 | .scr _, _, _, h => by simpa [Rep, restr] using h
 | .stc _, _, _, h => by simpa [Rep, restr] using h
 | .loc m, v, hb, h => by
  simp only [bel, decide_eq_true_eq] at hb
  simp only [Rep] at h ⊢
  obtain ⟨a, h1, h2⟩ := h
  exact ⟨a, by show (if m < n then w.r m else none) = _; rw [if_pos hb]; exact h1, h2⟩
 | .tup ds, v, hb, h => by
  simp only [Rep] at h ⊢
  obtain ⟨a, xs, h1, h2, h3⟩ := h
  exact ⟨a, xs, h1, h2, reps_restr n ds xs (by simpa [bel] using hb) h3⟩
 | .lst ds, v, hb, h => by
  simp only [Rep] at h ⊢
  obtain ⟨a, xs, h1, h2, h3⟩ := h
  exact ⟨a, xs, h1, h2, reps_restr n ds xs (by simpa [bel] using hb) h3⟩
 | .dct ks ds, v, hb, h => by
  simp only [Rep] at h ⊢
  obtain ⟨a, xs, h1, h2, h3, h4⟩ := h
  exact ⟨a, xs, h1, h2, h3, reps_restr n ds _ (by simpa [bel] using hb) h4⟩
theorem reps_restr (n : Nat) : ∀ (ds : List D) (vs : List V), bels n ds = true → Reps K w ds vs → Reps K (restr n w) ds vs
 | [], _, _, h => by simpa [Reps] using h
 | d :: ds, vs, hb, h => by
  simp only [bels, Bool.and_eq_true] at hb
  simp only [Reps] at h ⊢
  obtain ⟨x, r, h1, h2, h3⟩ := h
  exact ⟨x, r, h1, rep_restr n d x hb.1 h2, reps_restr n ds r hb.2 h3⟩
end
mutual
theorem rep_bel (n : Nat) (ht : ∀ k, n ≤ k → w.r k = none) : ∀ (d : D) (v : V), Rep K w d v → bel n d = true
 | .non, _, _ => by simp [bel]
 | .bl _, _, _ => by simp [bel]
 | .int _, _, _ => by simp [bel]
 | .str _, _, _ => by simp [bel]
 | .ty _, _, _ => by simp [bel]
 | .fd, _, _ => by simp [bel]
 | .fn _, _, _ => by simp [bel]
 | .scr _, _, _ => by simp [bel]
 | .stc _, _, _ => by simp [bel]
 | .loc m, v, h => by
  simp only [Rep] at h
  obtain ⟨a, h1, h2⟩ := h
  simp only [bel, decide_eq_true_eq]
  rcases Nat.lt_or_ge m n with q | q
  ·exact q
  ·rw [ht m q] at h1; cases h1
 | .tup ds, v, h => by
  simp only [Rep] at h
  obtain ⟨a, xs, h1, h2, h3⟩ := h
  simp only [bel]; exact reps_bel n ht ds xs h3
 | .lst ds, v, h => by
  simp only [Rep] at h
  obtain ⟨a, xs, h1, h2, h3⟩ := h
  simp only [bel]; exact reps_bel n ht ds xs h3
 | .dct ks ds, v, h => by
  simp only [Rep] at h
  obtain ⟨a, xs, h1, h2, h3, h4⟩ := h
  simp only [bel]; exact reps_bel n ht ds _ h4
theorem reps_bel (n : Nat) (ht : ∀ k, n ≤ k → w.r k = none) : ∀ (ds : List D) (vs : List V), Reps K w ds vs → bels n ds = true
 | [], _, _ => by simp [bels]
 | d :: ds, vs, h => by
  simp only [Reps] at h
  obtain ⟨x, r, h1, h2, h3⟩ := h
  simp only [bels, Bool.and_eq_true]
  exact ⟨rep_bel n ht d x h2, reps_bel n ht ds r h3⟩
end
theorem repO_restr (n : Nat) : ∀ {o : MO} {u : HO}, belO n o = true → RepO K w o u → RepO K (restr n w) o u
 | .lst ds, u, hb, ⟨xs, h1, h2⟩ => ⟨xs, h1, reps_restr n ds xs hb h2⟩
 | .dct ks ds, u, hb, ⟨xs, h1, h2, h3⟩ => ⟨xs, h1, h2, reps_restr n ds _ hb h3⟩
 | .feed _, u, _, h => h
 | .ins C ks ds, u, hb, ⟨dx, fs, h1, h2, h3⟩ => ⟨dx, fs, h1, h2, reps_restr n ds _ hb h3⟩
 | .ddt F ks, u, hb, ⟨a, bs, h1, h2⟩ => ⟨a, bs, h1, reps_restr n ks _ hb h2⟩
theorem repO_bel (n : Nat) (ht : ∀ k, n ≤ k → w.r k = none) : ∀ {o : MO} {u : HO}, RepO K w o u → belO n o = true
 | .lst ds, u, ⟨xs, h1, h2⟩ => reps_bel n ht ds xs h2
 | .dct ks ds, u, ⟨xs, h1, h2, h3⟩ => reps_bel n ht ds _ h3
 | .feed _, u, h => rfl
 | .ins C ks ds, u, ⟨dx, fs, h1, h2, h3⟩ => reps_bel n ht ds _ h3
 | .ddt F ks, u, ⟨a, bs, h1, h2⟩ => reps_bel n ht ks _ h2
noncomputable def out (n : Nat) (S1 : Sto) : R → Option R
 | .dat (.loc m) => if m < n then some (.dat (.loc m)) else match S1[m]? with
  | some (some o) => if belO n o = true then some (.new o) else none
  | _ => none
 | .dat d => if bel n d = true then some (.dat d) else none
 | .new o => if belO n o = true then some (.new o) else none
noncomputable def chg (S0 S1 : Sto) : Prop := ∀ k o, k < S0.length → S1[k]? = some (some o) → S0[k]? = some (some o) ∨ belO S0.length o = true
noncomputable def ret (S0 S1 : Sto) (r : R) (Q : AK) : Prop := ∃ r', out S0.length S1 r = some r' ∧ chg S0 S1 ∧ Q r' (S1.take S0.length)
theorem ret_ok {r : R} {v : V} {Qa : AK} {Q : VK} (ok : Ok K w H S0) (le : w.le w1) (ok1 : Ok K w1 H1 S1) (rep : RepR K w1 H1 S1 r v) (h : ret S0 S1 r Qa) (bk : BackV K w Qa Q) : Q v H1 := by
 obtain ⟨r', ho, hc, q⟩ := h
 generalize hn : S0.length = n at *
 have lt : ∀ k a, w.r k = some a → k < n := fun k a e => by
  rcases Nat.lt_or_ge k n with z | z
  ·exact z
  ·rw [ok.top k (by omega)] at e; cases e
 have at_ : ∀ k o, (S1.take n)[k]? = some (some o) → k < n ∧ S1[k]? = some (some o) := fun k o e => by
  rw [List.getElem?_take] at e
  by_cases z : k < n
  ·rw [if_pos z] at e; exact ⟨z, e⟩
  ·rw [if_neg z] at e; cases e
 have le2 : w.le (restr n w1) := ⟨le.b, fun k a e => by show (if k < n then w1.r k else none) = _; rw [if_pos (lt k a e)]; exact le.r k a e⟩
 have bl : ∀ k o, k < n → S1[k]? = some (some o) → belO n o = true := fun k o hk e => by
  rcases hc k o (by omega) e with z | z
  ·obtain ⟨a, u, _, _, _, h4⟩ := ok.live k o z
   exact repO_bel n (fun k hk => ok.top k (by omega)) h4
  ·rw [hn] at z; exact z
 have ok2 : Ok K (restr n w1) H1 (S1.take n) := ⟨ok1.base, fun k o e => by
   obtain ⟨hk, e⟩ := at_ k o e
   obtain ⟨a, u, h1, h2, h3, h4⟩ := ok1.live k o e
   exact ⟨a, u, by show (if k < n then w1.r k else none) = _; rw [if_pos hk]; exact h1, h2, h3, repO_restr n (bl k o hk e) h4⟩,
  fun k m o o' e e' z => by
   obtain ⟨hk, e⟩ := at_ k o e
   obtain ⟨hm, e'⟩ := at_ m o' e'
   have z : (if k < n then w1.r k else none) = (if m < n then w1.r m else none) := z
   rw [if_pos hk, if_pos hm] at z
   exact ok1.inj k m o o' e e' z,
  fun k hk => by
   show (if k < n then w1.r k else none) = none
   by_cases z : k < n
   ·rw [if_pos z]
    rw [List.length_take] at hk
    exact ok1.top k (by omega)
   ·rw [if_neg z]⟩
 refine bk r' (S1.take n) v (restr n w1) H1 le2 ok2 ?_ q
 have fresh : ∀ m o a, n ≤ m → S1[m]? = some (some o) → w1.r m = some a → ∀ k o', (S1.take n)[k]? = some (some o') → (restr n w1).r k ≠ some a := fun m o a hm e ha k o' e' z => by
  obtain ⟨hk, e'⟩ := at_ k o' e'
  have z : (if k < n then w1.r k else none) = some a := z
  rw [if_pos hk] at z
  have := ok1.inj k m o' o e' e (z.trans ha.symm)
  omega
 cases r with
 | new o =>
  simp only [out] at ho
  split at ho
  next hb =>
   cases ho
   obtain ⟨a, u, rfl, h1, h2, h3, h4⟩ := rep
   refine ⟨a, u, rfl, h1, h2, repO_restr n hb h3, fun k o' e z => ?_⟩
   obtain ⟨hk, e⟩ := at_ k o' e
   have z : (if k < n then w1.r k else none) = some a := z
   rw [if_pos hk] at z
   exact h4 k o' e z
  next => cases ho
 | dat d =>
  have gen : (if bel n d = true then some (R.dat d) else none) = some r' → RepR K (restr n w1) H1 (S1.take n) r' v := fun ho => by
   split at ho
   next hb => cases ho; exact rep_restr n d v hb rep
   next => cases ho
  cases d with
  | loc m =>
   simp only [out] at ho
   split at ho
   next hm => exact gen (by simp [bel, hm, ho])
   next hm =>
    have hm : n ≤ m := by omega
    split at ho
    next o e =>
     split at ho
     next hb =>
      cases ho
      have rep : Rep K w1 (.loc m) v := rep
      simp only [Rep] at rep
      obtain ⟨a, ha, rfl⟩ := rep
      obtain ⟨a', u, h1, h2, h3, h4⟩ := ok1.live m o e
      rw [ha] at h1; cases h1
      exact ⟨a, u, rfl, h2, h3, repO_restr n hb h4, fresh m o a hm e ha⟩
     next => cases ho
    next => cases ho
  | _ => exact gen (by simpa only [out] using ho)
end
noncomputable def startA (N : List Str) (ds : List D) : AEnv := ds.map some ++ List.replicate (N.length - ds.length) none
theorem env_start {K : PySem.W.Frag} {w : Wd} {N : List Str} {ds : List D} {vs : List V} (h : Reps K w ds vs) : EnvR K w (startA N ds) (L2.start N vs) := by
 have hl := h.length
 refine ⟨by simp [startA, L2.start, hl], fun i d e => ?_⟩
 unfold startA at e
 by_cases hi : i < ds.length
 ·rw [List.getElem?_append_left (by simpa using hi), List.getElem?_map] at e
  cases z : ds[i]? with
  | none => rw [z] at e; cases e
  | some d' =>
   rw [z] at e
   have e : d' = d := by simpa using e
   subst e
   obtain ⟨v, h1, h2⟩ := h.get z
   refine ⟨v, ?_, h2⟩
   unfold L2.start
   rw [List.getElem?_append_left (by rw [List.length_map, hl]; exact hi), List.getElem?_map, h1]; rfl
 ·rw [List.getElem?_append_right (by simpa using hi), List.getElem?_replicate] at e
  split at e <;> cases e
section
variable {P : Program} {w : World} {K : PySem.W.Frag} {mg : Str → Option Value} {base : Heap}
theorem defA {x : Str} {st : Stmt} {N ps : List Str} {k : Nat} {sp : AN} (F : Src K mg x ps st) (S : FnScope N ps (defScope st)) (len : ∀ ds S Q, sp ds S Q → ds.length = ps.length)
  (hbody : ∀ (f : Addr) (cdv : Value) (A : Around) (outer : List Env) (s : Shared) (H : Hp) (E : XK), Room k (A.deeper (envOfC x (defScope st) s.heap.objs.size f cdv)) →
   ∃ a, GSs (cxOf CX0 P w K mg base N x (defScope st) f cdv A outer s H E).nox (defBody st) a ∧ ∀ ds S Q, sp ds S Q → a { nx := fun _ S' => ret S S' (.dat .non) Q, rt := fun r S' => ret S S' r Q } (startA N ds) S) : Def P w K mg base (k + 1) x ps (conSp K sp) :=
 F.def S (fun vs H Q E h => by
  obtain ⟨w, ds, S, Qa, ok, rep, q, bk⟩ := h
  rw [rep.length]; exact len ds S Qa q) fun f cdv A outer s H vs Q E hr h => by
  obtain ⟨a, ha, hd⟩ := hbody f cdv A outer s H E hr
  obtain ⟨w, ds, S, Qa, ok, rep, q, bk⟩ := h
  refine ⟨_, ha.p, w, startA N ds, S, _, ok, env_start rep, hd ds S Qa q, ⟨fun δ S' σ w' H' le ok' env q' => ?_, fun r S' v w' H' le ok' rep' q' => ?_, fun _ _ _ _ _ _ _ _ z => z.elim, fun _ _ _ _ _ _ _ _ z => z.elim⟩⟩
  ·exact ret_ok (r := .dat .non) (v := .non) ok le ok' (show Rep K w' .non .non from .non) q' bk
  ·exact ret_ok ok le ok' rep' q' bk
end
end M
namespace M
open PySem PySem.Spec PyProof.Rows PySem.SeqAt L2
section
variable {X : Cx} {K : PySem.W.Frag} {w : Wd} {H : Hp} {S : Sto} {d : D} {v : V}
theorem reps1 {vs : List V} (h : Reps K w [d] vs) : ∃ v, vs = [v] ∧ Rep K w d v := by
 simp only [Reps] at h
 obtain ⟨x, r, rfl, h1, rfl⟩ := h
 exact ⟨x, rfl, h1⟩
theorem reps2 {e : D} {vs : List V} (h : Reps K w [d, e] vs) : ∃ v u, vs = [v, u] ∧ Rep K w d v ∧ Rep K w e u := by
 simp only [Reps] at h
 obtain ⟨x, r, rfl, h1, y, r', rfl, h2, rfl⟩ := h
 exact ⟨x, y, rfl, h1, h2⟩
noncomputable def lenD : D → Option Nat
 | .lst ds => some ds.length
 | .tup ds => some ds.length
 | .scr ns => some ns.length
 | .dct ks _ => some ks.length
 | .str z => if z.length ≤ sizeLine then some z.length else none
 | _ => none
noncomputable def aLen : AN := fun ds S Q => ∃ d n, ds = [d] ∧ lenD (see S d) = some n ∧ Q (.dat (.int n)) S
theorem o_len : OpC X (.builtin "len") aLen := ⟨mC (orC L2.call_len L2.call_lenD) fun xs H Q h => by
 obtain ⟨w, ds, S, Qa, ok, rep, ⟨d, n, rfl, e, q⟩, bk⟩ := h
 obtain ⟨v, rfl, r1⟩ := reps1 rep
 cases z : see S d with
 | lst ds =>
  rw [z] at e
  have e : ds.length = n := by simpa [lenD] using e
  obtain ⟨a, xs, rfl, h1, h2⟩ := see_lst ok r1 z
  exact .inl ⟨_, n, rfl, .inl ⟨xs, SqL.of h1, by rw [h2.length, e]⟩, bk.dat .refl ok .int q⟩
 | tup ds =>
  rw [z] at e
  have e : ds.length = n := by simpa [lenD] using e
  obtain ⟨a, xs, rfl, h1, h2⟩ := see_tup ok r1 z
  exact .inl ⟨_, n, rfl, .inr ⟨xs, SqT.of h1, by rw [h2.length, e]⟩, bk.dat .refl ok .int q⟩
 | scr ns =>
  rw [z] at e
  have e : ns.length = n := by simpa [lenD] using e
  obtain ⟨a, rfl, h1⟩ := see_scr ok r1 z
  exact .inl ⟨_, n, rfl, .inl ⟨_, h1, by rw [List.length_map, e]⟩, bk.dat .refl ok .int q⟩
 | str y =>
  rw [z] at e
  simp only [lenD] at e
  split at e
  next hl =>
   cases e
   exact .inl ⟨_, _, rfl, (by rw [see_str r1 z]; exact ⟨hl, rfl⟩), bk.dat .refl ok .int q⟩
  next => cases e
 | dct ks ds =>
  rw [z] at e
  have e : ks.length = n := by simpa [lenD] using e
  obtain ⟨a, kvs, rfl, h1, h2, _⟩ := see_dct ok r1 z
  refine .inr ⟨a, kvs, rfl, h1, ?_⟩
  rw [← List.length_map (f := (·.1)), h2, e]
  exact bk.dat .refl ok .int q
 | _ => rw [z] at e; simp [lenD] at e⟩
noncomputable def tyD : D → Option String
 | .non => some "NoneType"
 | .bl _ => some "bool"
 | .int _ => some "int"
 | .str _ => some "str"
 | .tup _ => some "tuple"
 | .lst _ => some "list"
 | _ => none
noncomputable def isiD (d : D) (T : String) : Option Bool := (tyD d).bind fun t => if T == "str" || T == "int" || T == "bool" || T == "tuple" || T == "list" then some (t == T || (t == "bool" && T == "int")) else none
noncomputable def aIsi : AN := fun ds S Q => ∃ d T b, ds = [d, .ty T] ∧ isiD (see S d) T = some b ∧ Q (.dat (.bl b)) S
theorem ty_see (ok : Ok K w H S) (h : Rep K w d v) {t : String} (e : tyD (see S d) = some t) : TyOf K H v (.type t) := by
 cases z : see S d with
 | lst ds =>
  rw [z] at e; cases e
  obtain ⟨a, xs, rfl, h1, h2⟩ := see_lst ok h z
  exact .lst h1
 | tup ds =>
  rw [z] at e; cases e
  obtain ⟨a, xs, rfl, h1, h2⟩ := see_tup ok h z
  exact .tup h1
 | non => rw [z] at e; cases e; rw [see_non h z]; exact .non
 | bl b => rw [z] at e; cases e; rw [see_bl h z]; exact .bl b
 | int b => rw [z] at e; cases e; rw [see_int h z]; exact .int b
 | str b => rw [z] at e; cases e; rw [see_str h z]; exact .str b
 | _ => rw [z] at e; simp [tyD] at e
theorem kit_of {t T : String} {b : Bool} (ht : t = "NoneType" ∨ t = "bool" ∨ t = "int" ∨ t = "str" ∨ t = "tuple" ∨ t = "list")
  (e : (if T == "str" || T == "int" || T == "bool" || T == "tuple" || T == "list" then some (t == T || (t == "bool" && T == "int")) else none) = some b) : PySem.W.kitOne K (.type t) (.type T) = some b := by
 split at e
 next hT =>
  simp only [Bool.or_eq_true, beq_iff_eq] at hT
  cases e
  rcases hT with (((rfl | rfl) | rfl) | rfl) | rfl <;> rcases ht with rfl | rfl | rfl | rfl | rfl | rfl <;> rfl
 next => cases e
theorem tyD_in {t : String} (e : tyD d = some t) : t = "NoneType" ∨ t = "bool" ∨ t = "int" ∨ t = "str" ∨ t = "tuple" ∨ t = "list" := by
 cases d <;> simp [tyD] at e <;> subst e <;> simp
theorem o_isi : OpC X (.builtin "isinstance") aIsi := ⟨mC L2.call_isi fun xs H Q h => by
 obtain ⟨w, ds, S, Qa, ok, rep, ⟨d, T, b, rfl, e, q⟩, bk⟩ := h
 obtain ⟨v, u, rfl, r1, r2⟩ := reps2 rep
 unfold isiD at e
 cases z : tyD (see S d) with
 | none => rw [z] at e; cases e
 | some t =>
  rw [z] at e
  refine ⟨v, .ty T, _, _, b, (by rw [rep_ty r2 rfl]), relTy.1, relTy.2, ty_see ok r1 z, kit_of (tyD_in z) e, bk.dat .refl ok .bl q⟩⟩
noncomputable def aListOf : AN := fun ds S Q => ∃ d, ds = [d] ∧ match see S d with
 | .lst es => Q (.new (.lst es)) S
 | .tup es => Q (.new (.lst es)) S
 | .scr ns => Q (.new (.lst (ns.map D.int))) S
 | _ => False
theorem o_listOf : OpC X (.type "list") aListOf := ⟨mC L2.call_list_of fun xs H Q h => by
 obtain ⟨w, ds, S, Qa, ok, rep, ⟨d, rfl, q⟩, bk⟩ := h
 obtain ⟨v, rfl, r1⟩ := reps1 rep
 split at q
 next es z =>
  obtain ⟨a, xs, rfl, h1, h2⟩ := see_lst ok r1 z
  exact ⟨a, xs, rfl, .inl (SqL.of h1), fun p hp => bk (.new (.lst _)) S _ w _ .refl (ok.alloc hp) (ok.fresh hp ⟨_, rfl, h2⟩) q⟩
 next es z =>
  obtain ⟨a, xs, rfl, h1, h2⟩ := see_tup ok r1 z
  exact ⟨a, xs, rfl, .inr (SqT.of h1), fun p hp => bk (.new (.lst _)) S _ w _ .refl (ok.alloc hp) (ok.fresh hp ⟨_, rfl, h2⟩) q⟩
 next ns z =>
  obtain ⟨a, rfl, h1⟩ := see_scr ok r1 z
  exact ⟨a, _, rfl, .inl h1, fun p hp => bk (.new (.lst _)) S _ w _ .refl (ok.alloc hp) (ok.fresh hp ⟨_, rfl, reps_ints ns⟩) q⟩
 next => exact q.elim⟩
noncomputable def aTupleOf : AN := fun ds S Q => ∃ d, ds = [d] ∧ match see S d with
 | .lst es => Q (.dat (.tup es)) S
 | .tup es => Q (.dat (.tup es)) S
 | _ => False
theorem o_tupleOf : OpC X (.type "tuple") aTupleOf := ⟨mC L2.call_tuple_of fun xs H Q h => by
 obtain ⟨w, ds, S, Qa, ok, rep, ⟨d, rfl, q⟩, bk⟩ := h
 obtain ⟨v, rfl, r1⟩ := reps1 rep
 split at q
 next es z =>
  obtain ⟨a, xs, rfl, h1, h2⟩ := see_lst ok r1 z
  refine ⟨a, xs, rfl, .inl ⟨SqL.of h1, fun p hp => ?_⟩⟩
  obtain ⟨w2, le2, ok2, rep2⟩ := ok.newTup hp h2
  exact bk.dat le2 ok2 rep2 q
 next es z =>
  obtain ⟨a, xs, rfl, h1, h2⟩ := see_tup ok r1 z
  refine ⟨a, xs, rfl, .inr ⟨SqT.of h1, ?_⟩⟩
  cases d <;> simp only [see] at z
  case tup => cases z; exact bk.dat .refl ok r1 q
  case loc n => split at z <;> first | (rename_i o _; cases o <;> simp [MO.d] at z) | cases z
  all_goals cases z
 next => exact q.elim⟩
theorem bls_reps : ∀ {ns : List Bool} {xs : List V}, Reps K w (ns.map D.bl) xs → xs = ns.map V.bl
 | [], _, h => by simpa [Reps] using h
 | n :: ns, xs, h => by
  simp only [List.map_cons, Reps, Rep] at h
  obtain ⟨x, r, rfl, rfl, h⟩ := h
  rw [bls_reps h]; rfl
noncomputable def aAll : AN := fun ds S Q => ∃ (d : D) (bs : List Bool), ds = [d] ∧ see S d = .lst (bs.map D.bl) ∧ Q (.dat (.bl (bs.all id))) S
theorem o_all (hc : X.calm = true) : OpC X (.builtin "all") aAll := ⟨mC (L2.call_all hc) fun xs H Q h => by
 obtain ⟨w, ds, S, Qa, ok, rep, ⟨d, bs, rfl, z, q⟩, bk⟩ := h
 obtain ⟨v, rfl, r1⟩ := reps1 rep
 obtain ⟨a, xs, rfl, h1, h2⟩ := see_lst ok r1 z
 rw [bls_reps h2] at h1
 exact ⟨a, bs, rfl, SqL.of h1, bk.dat .refl ok .bl q⟩⟩
end
end M
namespace M
open PySem PySem.Spec PyProof.Rows PySem.SeqAt L2
noncomputable abbrev AM := D → List D → Sto → AK → Prop
structure OpM (X : Cx) (id : String) (r : AM) : Prop where
 p : MtR X id (conM X.K r)
noncomputable def isTy (T : String) : D → Prop
 | .lst _ => T = "list"
 | .str _ => T = "str"
 | .scr _ => T = "list"
 | .dct _ _ => T = "dict"
 | _ => False
noncomputable def aBM (T : String) (r : AM) (a : AE) (b : AA) : AE := fun δ S Q => a δ S fun x S1 => isTy T (see S1 x.d) ∧ b δ S1 fun ds S2 => r x.d ds S2 Q
section
variable {X : Cx} {K : PySem.W.Frag} {w : Wd} {H : Hp} {S : Sto} {d : D} {v : V}
theorem ty_is {T : String} (ok : Ok K w H S) (h : Rep K w d v) (t : isTy T (see S d)) : tyV K T v H := by
 cases z : see S d with
 | lst ds =>
  rw [z] at t; cases t
  obtain ⟨a, xs, rfl, h1, h2⟩ := see_lst ok h z
  exact .inl ⟨rfl, xs, SqL.of h1⟩
 | str y => rw [z] at t; cases t; rw [see_str h z]; exact rfl
 | scr ns =>
  rw [z] at t; cases t
  obtain ⟨a, rfl, h1⟩ := see_scr ok h z
  exact .inl ⟨rfl, _, h1⟩
 | dct ks ds =>
  rw [z] at t; cases t
  obtain ⟨a, kvs, rfl, h1, _⟩ := see_dct ok h z
  exact .inr (.inr (.inl ⟨rfl, .inl ⟨kvs, h1⟩⟩))
 | _ => rw [z] at t; exact t.elim
theorem s_bm {T : String} {r : AM} {a : AE} {b : AA} : ∀ σ H Q, conE K (aBM T r a b) σ H Q → tBM K T (conM K r) (conE K a) (conA K b) σ H Q := by
 rintro σ H Q ⟨w, δ, S, Qa, ok, env, q, bk⟩
 refine ⟨w, δ, S, _, ok, env, q, .go fun r1 S1 v1 w1 H1 le1 ok1 rep1 ⟨ty, q1⟩ => ⟨ty_is ok1 rep1 ty, ?_⟩⟩
 refine ⟨w1, δ, S1, _, ok1, env.le le1, q1, fun ds S2 vs w2 H2 le2 ok2 rep2 q2 => ?_⟩
 exact ⟨w2, r1.d, ds, S2, Qa, ok2, rep1.le le2, rep2, q2, bk.le (le1.trans le2)⟩
theorem pe_bm {o e : Expr} {es : List Expr} {to : AE} {t : AA} {name : Str} {apos cpos : Pos} {T id : String} {r : AM} (pa : PlainAttrs T) (slot : Slot T name id) (hty : typeOf (.builtin id) = pure (.type "method_descriptor")) (hm : OpM X id r) (ho : GE X o to) (ha : GA X (e :: es) t)
  (hbase : attributeBase o name X.env (eval o X.env) = eval o X.env := by rfl) (hs : (e :: es).all notStar = true := by rfl) (hfew : decide ((e :: es).length + 0 + 0 < 30) = true := by rfl)
  (hline : (apos.endLine == cpos.line) = true := by rfl) : GE X (.Call (.Attribute o name apos) (e :: es) [] cpos) (aBM T r to t) := ⟨mE (L2.pe_bmK pa slot hty hm.p ho.p ha.p hbase hs hfew hline) s_bm⟩
theorem mM {id : String} {t u : V → List V → Hp → VK → Prop} (h : MtR X id t) (m : ∀ x xs H Q, u x xs H Q → t x xs H Q) : MtR X id u := fun pins s σ H x xs v us Q I rx rs q => h pins s σ H x xs v us Q I rx rs (m x xs H Q q)
theorem loc_at {n : Nat} {ds : List D} (ok : Ok K w H S) (h : Rep K w (.loc n) v) (e : S[n]? = some (some (.lst ds))) : ∃ a xs, v = .ref a ∧ w.r n = some a ∧ H a = some (.lst xs) ∧ Reps K w ds xs := by
 simp only [Rep] at h
 obtain ⟨a, h1, rfl⟩ := h
 obtain ⟨a', u, g1, g2, g3, xs, rfl, g5⟩ := ok.live n _ e
 rw [h1] at g1; cases g1
 exact ⟨a, xs, rfl, h1, g3, g5⟩
theorem repO_lst {ds : List D} {xs : List V} (h : Reps K w ds xs) : RepO K w (.lst ds) (.lst xs) := ⟨xs, rfl, h⟩
noncomputable def aAppend : AM := fun x ds S Q => ∃ n es e, x = .loc n ∧ ds = [e] ∧ S[n]? = some (some (.lst es)) ∧ es.length < sizeLine ∧ Q (.dat .non) (S.set n (some (.lst (es ++ [e]))))
theorem m_append : OpM X "list.append" aAppend := ⟨mM (X := X) (t := rAppend) L2.mt_append fun x xs H Q h => by
 obtain ⟨w, d, ds, S, Qa, ok, r1, r2, ⟨n, es, e, rfl, rfl, hS, hl, q⟩, bk⟩ := h
 obtain ⟨a, ys, rfl, ha, hH, hr⟩ := loc_at ok r1 hS
 obtain ⟨v, rfl, r3⟩ := reps1 r2
 exact ⟨a, ys, v, rfl, rfl, hH, by rw [hr.length]; exact hl, bk.dat .refl (ok.put hS ha (repO_lst (hr.snoc r3))) .non q⟩⟩
noncomputable def rExtendT (K : PySem.W.Frag) : V → List V → Hp → VK → Prop := fun x vs H Q => ∃ l b xs zs, x = .ref l ∧ vs = [.ref b] ∧ H l = some (.lst xs) ∧ H b = some (.tup zs) ∧ xs.length + zs.length ≤ sizeLine ∧ Q .non (upd H l (.lst (xs ++ zs)))
theorem ext_tup {l b : Addr} {xs zs : Array Value} {n k : Nat} {dd : Option Addr} {sl : Array (Option Value)} (h0 : ¬(!xs.isEmpty && Builtin.List.listTooLong (xs.size + zs.size)) = true) (h1 : xs.size ≤ sizeLine) (h2 : xs.size + zs.size ≤ sizeLine + 1) :
  Meets (Builtin.«list.extend» ⟨[.ref l, .ref b], []⟩) (fun _ R s => s.heap.get? l = some { cls := .type "list", dict := none, data := .seq xs n, slots := #[] } ∧ s.heap.get? b = some { cls := .type "tuple", dict := dd, data := .seq zs k, slots := sl } ∧ R (.ok (.ret Value.none)) { s with heap := s.heap.update l (Obj.mapSeq fun x => x ++ zs), toks := s.toks }) :=
 .of_wp fun prog w A R s h => by
  obtain ⟨hl, hb, q⟩ := h
  obtain ⟨hp, g, dr, tk, os⟩ := s
  have e1 := AutoSeq1.idx_int
  have e2 := AutoSeq1.sub_tuple_tuple
  have e3 := AutoSeq1.sub_list_list
  have e4 := AutoSeq1.sub_tuple_list
  have e5 := AutoSeq1.sub_list_tuple
  have z : (xs ++ zs).size ≤ sizeLine + 1 := by rw [Array.size_append]; exact h2
  wp_walk using (wpAny_updateSeq hl rfl (hz := h1) (_hz' := z)), AutoSeq1.wpAny_loadPart' hl, AutoSeq1.wpAny_loadPart' hb
  exact ⟨_, rfl, q⟩
theorem mt_extendT : MtR X "list.extend" (rExtendT X.K) := by
 intro pins s σ H x vs v us Q I rx rv h
 obtain ⟨l, b, xs, zs, rfl, rfl, hH, hB, hz, q⟩ := h
 cases rx
 obtain ⟨u, rfl, ru⟩ := rv.one
 cases ru
 obtain ⟨z, its, n, r, hl, e⟩ := I.lstM hH
 obtain ⟨its2, r2, ⟨⟨c2, dd, da, sl⟩, e2, hc2, n2, d2⟩, z2⟩ := I.tuple (SqT.of hB)
 simp only at hc2 d2
 subst hc2 d2
 have hl2 := r2.length
 have hsz : its.toArray.size + its2.toArray.size ≤ sizeLine := by rw [List.size_toArray, List.size_toArray]; omega
 have hlong : ¬ (!its.toArray.isEmpty && Builtin.List.listTooLong (its.toArray.size + its2.toArray.size)) = true := by
  rw [notLongL hsz, Bool.and_false]
  exact Bool.false_ne_true
 refine call_meets F.slot_list_extend ⟨_, e, rfl⟩ F.entry_list_extend (F.args_list_extend_2 _ _)
  (ext_tup (n := n) (k := n2) (dd := dd) (sl := sl) hlong (by rw [List.size_toArray]; omega) (by omega)) ⟨e, e2, ?_⟩
 refine ⟨.non, _, I.lset (its' := its ++ its2) hH e (by simp) (r.append r2) ?_, rfl, q⟩
 rw [List.length_append]
 omega
noncomputable def aExtend : AM := fun x ds S Q => ∃ n es e fs, x = .loc n ∧ ds = [e] ∧ S[n]? = some (some (.lst es)) ∧ (see S e = .lst fs ∨ see S e = .tup fs) ∧ es.length + fs.length ≤ sizeLine ∧ Q (.dat .non) (S.set n (some (.lst (es ++ fs))))
theorem m_extend : OpM X "list.extend" aExtend := ⟨mM (MtR.or (X := X) (r := rExtend) L2.mt_extend mt_extendT) fun x xs H Q h => by
 obtain ⟨w, d, ds, S, Qa, ok, r1, r2, ⟨n, es, e, fs, rfl, rfl, hS, hf, hl, q⟩, bk⟩ := h
 obtain ⟨a, ys, rfl, ha, hH, hr⟩ := loc_at ok r1 hS
 obtain ⟨v, rfl, r3⟩ := reps1 r2
 rcases hf with hf | hf
 ·obtain ⟨b, zs, rfl, g1, g2⟩ := see_lst ok r3 hf
  exact .inl ⟨a, b, ys, zs, rfl, rfl, hH, g1, by rw [hr.length, g2.length]; exact hl, bk.dat .refl (ok.put hS ha (repO_lst (hr.append g2))) .non q⟩
 ·obtain ⟨b, zs, rfl, g1, g2⟩ := see_tup ok r3 hf
  exact .inr ⟨a, b, ys, zs, rfl, rfl, hH, g1, by rw [hr.length, g2.length]; exact hl, bk.dat .refl (ok.put hS ha (repO_lst (hr.append g2))) .non q⟩⟩
end
end M
namespace M
open PySem L2
theorem loop_by {P : Sto → Prop} {g : AG} {b : AS} {D : AEnds} (I : List M.D → AEnv → Sto → Prop) (hn : ∀ δ S, I [] δ S → P S ∧ D.nx δ S)
  (hc : ∀ x xs δ S N, I (x :: xs) δ S → (∀ δ' S', I xs δ' S' → N δ' S') → P S ∧ g x δ S fun δ2 S2 => b { D with nx := N, ct := N, bk := D.nx } δ2 S2) : ∀ ds δ S, I ds δ S → loopD P g b ds D δ S
 | [], δ, S, h => hn δ S h
 | x :: xs, δ, S, h => hc x xs δ S _ h fun δ' S' h' => loop_by I hn hc xs δ' S' h'
theorem comp_by {P : Sto → Prop} {g : AG} {t : AT} {e : AE} {Q : List M.D → Sto → Prop} (I : List M.D → List M.D → AEnv → Sto → Prop) (hn : ∀ acc δ S, I [] acc δ S → P S ∧ Q acc S)
  (hc : ∀ x xs acc δ S (N : List M.D → AEnv → Sto → Prop), I (x :: xs) acc δ S → (∀ acc' δ' S', I xs acc' δ' S' → N acc' δ' S') → P S ∧ g x δ S fun δ2 S2 => t δ2 S2 fun b S3 => if b = true then e δ2 S3 fun r S4 => acc.length < sizeLine ∧ N (acc ++ [r.d]) δ2 S4 else N acc δ2 S3) :
  ∀ ds acc δ S, I ds acc δ S → compD P g t e ds acc δ S Q
 | [], acc, δ, S, h => hn acc δ S h
 | x :: xs, acc, δ, S, h => hc x xs acc δ S (fun acc' δ' S' => compD P g t e xs acc' δ' S' Q) h fun acc' δ' S' h' => comp_by I hn hc xs acc' δ' S' h'
theorem comp_map {P : Sto → Prop} {e : AE} {Q : List M.D → Sto → Prop} {δ : AEnv} {S : Sto} (f : M.D → M.D) (hP : P S) : ∀ (xs acc : List M.D) (δ' : AEnv), δ'.set 0 none = δ.set 0 none → (∀ x ∈ xs, ∀ Q : AK, Q (.dat (f x)) S → e (δ.set 0 (some x)) S Q) → acc.length + xs.length ≤ sizeLine → Q (acc ++ xs.map f) S →
  compD P (agName 0) aYes e xs acc δ' S Q
 | [], acc, δ', _, _, _, q => ⟨hP, by simpa using q⟩
 | x :: xs, acc, δ', hd, h, hl, q => by
  refine ⟨hP, ?_⟩
  have e1 : δ'.set 0 (some x) = δ.set 0 (some x) := by
   have := congrArg (fun l => l.set 0 (some x)) hd
   simpa [List.set_set] using this
  simp only [agName, aYes, if_true]
  rw [e1]
  refine h x (by simp) _ ⟨by simp at hl; omega, ?_⟩
  refine comp_map f hP xs _ _ (by simp [List.set_set]) (fun y hy => h y (by simp [hy])) (by simp at hl ⊢; omega) ?_
  simpa [R.d, List.append_assoc] using q
theorem see_pur {S : Sto} {d : D} (h : pur d = true) : see S d = d := by
 cases d <;> first | rfl | simp [pur] at h
theorem see_int' {S : Sto} {i : Int} : see S (.int i) = .int i := rfl
theorem see_str' {S : Sto} {i : Str} : see S (.str i) = .str i := rfl
theorem see_bl' {S : Sto} {i : Bool} : see S (.bl i) = .bl i := rfl
theorem see_non' {S : Sto} : see S .non = .non := rfl
theorem see_tup' {S : Sto} {i : List D} : see S (.tup i) = .tup i := rfl
theorem see_lst' {S : Sto} {i : List D} : see S (.lst i) = .lst i := rfl
theorem see_stc' {S : Sto} {i : List Str} : see S (.stc i) = .stc i := rfl
theorem see_scr' {S : Sto} {i : List Int} : see S (.scr i) = .scr i := rfl
theorem rd_dat {d : D} : (R.dat d).d = d := rfl
theorem rd_new {o : MO} : (R.new o).d = o.d := rfl
theorem mod_lst {ds : List D} : (MO.lst ds).d = .lst ds := rfl
theorem le_int' {i j : Int} {S : Sto} {Q : AK} : aLe (.int i) (.int j) S Q = Q (.dat (.bl (decide (i ≤ j)))) S := rfl
theorem lt_int' {i j : Int} {S : Sto} {Q : AK} : aLt (.int i) (.int j) S Q = Q (.dat (.bl (decide (i < j)))) S := rfl
theorem le_str' {i j : Str} {S : Sto} {Q : AK} : aLe (.str i) (.str j) S Q = Q (.dat (.bl (!decide (j.cps.toList < i.cps.toList)))) S := rfl
theorem aI_int {C : Int → Int → Prop} {g : Int → Int → D} {i j : Int} {S : Sto} {Q : AK} : aI C g (.int i) (.int j) S Q = (C i j ∧ Q (.dat (g i j)) S) := by
 refine propext ⟨fun ⟨a, b, e1, e2, h⟩ => ?_, fun h => ⟨i, j, rfl, rfl, h⟩⟩
 cases e1; cases e2; exact h
theorem add_int' {i j : Int} {S : Sto} {Q : AK} : aAdd (.int i) (.int j) S Q = Q (.dat (.int (i + j))) S := rfl
theorem add_lst' {i j : List D} {S : Sto} {Q : AK} : aAdd (.lst i) (.lst j) S Q = (i.length + j.length ≤ sizeLine ∧ Q (.new (.lst (i ++ j))) S) := rfl
theorem eq_int' {i j : Int} {S : Sto} {Q : AK} : aEq (.int i) (.int j) S Q = Q (.dat (.bl (decide (i = j)))) S := rfl
theorem eq_str' {i j : Str} {S : Sto} {Q : AK} : aEq (.str i) (.str j) S Q = Q (.dat (.bl (decide (i = j)))) S := rfl
theorem tru_bl {b : Bool} : aTruD (.bl b) = some b := rfl
theorem tru_lst {ds : List D} : aTruD (.lst ds) = some (!ds.isEmpty) := rfl
theorem tru_tup {ds : List D} : aTruD (.tup ds) = some (!ds.isEmpty) := rfl
theorem out_dat {n : Nat} {S : Sto} {d : D} (h : pur d = true) : out n S (.dat d) = some (.dat d) := by
 have b := bel_pur n d h
 cases d <;> first | (simp [pur] at h; done) | (simp only [out]; rw [if_pos b])
theorem chg_same {S : Sto} : chg S S := fun _ _ _ e => .inl e
theorem ret_pur {S : Sto} {d : D} {Q : AK} (h : pur d = true) (q : Q (.dat d) S) : ret S S (.dat d) Q := ⟨_, out_dat h, chg_same, by rw [List.take_length]; exact q⟩
theorem ret_bl {S : Sto} {b : Bool} {Q : AK} : ret S S (.dat (.bl b)) Q = Q (.dat (.bl b)) S := by
 refine propext ⟨fun ⟨r, h1, _, h2⟩ => ?_, ret_pur rfl⟩
 simp [out, bel] at h1
 subst h1
 rw [List.take_length] at h2; exact h2
theorem ret_int {S : Sto} {b : Int} {Q : AK} : ret S S (.dat (.int b)) Q = Q (.dat (.int b)) S := by
 refine propext ⟨fun ⟨r, h1, _, h2⟩ => ?_, ret_pur rfl⟩
 simp [out, bel] at h1
 subst h1
 rw [List.take_length] at h2; exact h2
theorem ret_new {S : Sto} {ds : List D} {Q : AK} (h : purs ds = true) (q : Q (.new (.lst ds)) S) : ret S S (.new (.lst ds)) Q :=
 ⟨_, by simp only [out]; rw [if_pos (show belO _ (.lst ds) = true from bels_pur _ ds h)], chg_same, by rw [List.take_length]; exact q⟩
theorem ret_loc {S : Sto} {ds : List D} {Q : AK} {S' : Sto} {n : Nat} (hn : S.length ≤ n) (h : purs ds = true) (e : S'[n]? = some (some (.lst ds))) (hs : S'.take S.length = S) (q : Q (.new (.lst ds)) S) : ret S S' (.dat (.loc n)) Q := by
 refine ⟨.new (.lst ds), ?_, fun k o hk e => .inl ?_, by rw [hs]; exact q⟩
 ·simp only [out]
  rw [if_neg (by omega), e]
  show (if belO S.length (.lst ds) = true then some (R.new (.lst ds)) else none) = _
  rw [if_pos (show belO _ (.lst ds) = true from bels_pur _ ds h)]
 ·rw [← hs, List.getElem?_take, if_pos hk]; exact e
noncomputable def okS (x : Str) : Bool := x.cps.toList.all (fun c => decide (c < 128)) && decide (x.length ≤ 100)
noncomputable def thB : Nat → D → Bool
 | _, .non => true
 | _, .bl _ => true
 | _, .int _ => true
 | _, .str x => okS x
 | n + 1, .tup ds => decide (ds.length ≤ 100) && ds.all (thB n)
 | n + 1, .lst ds => decide (ds.length ≤ 100) && ds.all (thB n)
 | _, _ => false
theorem okS_ok {x : Str} (h : okS x = true) : PyData.strOk x = true := by
 unfold okS at h
 rw [Bool.and_eq_true] at h
 unfold PyData.strOk
 rw [← Array.all_toList]
 refine List.all_eq_true.mpr fun c hc => ?_
 have := of_decide_eq_true (List.all_eq_true.mp h.1 c hc)
 exact decide_eq_true (by omega)
theorem thB_mono : ∀ {n m : Nat} {d : D}, thB n d = true → n ≤ m → thB m d = true := by
 intro n
 induction n with
 | zero =>
  intro m d h _
  cases d <;> cases m <;> first | rfl | exact h | (simp [thB] at h; done)
 | succ n ih =>
  intro m d h hm
  cases m with
  | zero => omega
  | succ m =>
   cases d <;> first | rfl | exact h | skip
   ·simp only [thB, Bool.and_eq_true, List.all_eq_true] at h ⊢
    exact ⟨h.1, fun x hx => ih (h.2 x hx) (by omega)⟩
   ·simp only [thB, Bool.and_eq_true, List.all_eq_true] at h ⊢
    exact ⟨h.1, fun x hx => ih (h.2 x hx) (by omega)⟩
theorem th_all : ∀ (n : Nat) (d : D), thB n d = true → pur d = true ∧ (py d).canLay0 = true ∧ (py d).depth ≤ n := by
 intro n
 induction n with
 | zero =>
  intro d h
  cases d <;> first | (simp [thB] at h; done) | skip
  ·simp [pur, py, PyData.canLay0, PyData.depth]
  ·simp [pur, py, PyData.canLay0, PyData.depth]
  ·simp [pur, py, PyData.canLay0, PyData.depth]
  ·simp only [thB] at h
   simp [pur, py, PyData.canLay0, PyData.depth, okS_ok h]
 | succ n ih =>
  have all : ∀ ds : List D, (ds.all (thB n)) = true → purs ds = true ∧ PyData.canLayAll0 (pys ds) = true ∧ PyData.depthAll (pys ds) ≤ n := by
   intro ds
   induction ds with
   | nil => intro _; simp [purs, pys, PyData.canLayAll0, PyData.depthAll]
   | cons d ds ih2 =>
    intro h
    rw [List.all_cons, Bool.and_eq_true] at h
    obtain ⟨a1, a2, a3⟩ := ih d h.1
    obtain ⟨b1, b2, b3⟩ := ih2 h.2
    refine ⟨by simp [purs, a1, b1], by simp [pys, PyData.canLayAll0, a2, b2], ?_⟩
    simp only [pys, PyData.depthAll]
    omega
  intro d h
  cases d <;> first | (simp [thB] at h; done) | skip
  ·simp [pur, py, PyData.canLay0, PyData.depth]
  ·simp [pur, py, PyData.canLay0, PyData.depth]
  ·simp [pur, py, PyData.canLay0, PyData.depth]
  ·simp only [thB] at h
   simp [pur, py, PyData.canLay0, PyData.depth, okS_ok h]
  ·simp only [thB, Bool.and_eq_true] at h
   obtain ⟨a1, a2, a3⟩ := all _ h.2
   exact ⟨by simpa [pur] using a1, by simpa [py, PyData.canLay0] using a2, by simp only [py, PyData.depth]; omega⟩
  ·simp only [thB, Bool.and_eq_true] at h
   obtain ⟨a1, a2, a3⟩ := all _ h.2
   exact ⟨by simpa [pur] using a1, by simpa [py, PyData.canLay0] using a2, by simp only [py, PyData.depth]; omega⟩
theorem th_pur {n : Nat} {d : D} (h : thB n d = true) : pur d = true := (th_all n d h).1
theorem th_fit {n : Nat} {d : D} (h : thB n d = true) (hn : n ≤ 64) : fit d = true := by
 obtain ⟨a, b, c⟩ := th_all n d h
 unfold fit PySem.SeqAt.shaped
 rw [a, b, decide_eq_true (by omega)]; rfl
theorem th_item {n : Nat} {ds : List D} {d : D} (h : thB (n + 1) (.tup ds) = true) (hd : d ∈ ds) : thB n d = true := by
 simp only [thB, Bool.and_eq_true, List.all_eq_true] at h
 exact h.2 d hd
theorem th_short {n : Nat} {ds : List D} (h : thB (n + 1) (.tup ds) = true) : ds.length ≤ 100 := by
 simp only [thB, Bool.and_eq_true] at h
 exact of_decide_eq_true h.1
noncomputable def isS (x : D) (s : Str) : Bool := match x with
 | .str a => decide (a = s)
 | _ => false
noncomputable def inS (x : D) (ss : List Str) : Bool := ss.any fun s => isS x s
theorem eqv_str {x : D} {s : Str} (h : pur x = true) : PyData.eqv (.str s) (py x) = isS x s := by
 cases x <;> first | (simp [pur] at h; done) | simp only [py, PyData.eqv, isS]
 rename_i a
 by_cases e : s = a
 ·subst e; simp
 ·rw [decide_eq_false (fun z => e z.symm)]
  exact beq_eq_false_iff_ne.mpr e
theorem eqv_str' {x : D} {s : Str} (h : pur x = true) : PyData.eqv (py x) (.str s) = isS x s := by
 cases x <;> first | (simp [pur] at h; done) | simp only [py, PyData.eqv, isS]
 rename_i a
 by_cases e : a = s
 ·subst e; simp
 ·rw [decide_eq_false e]
  exact beq_eq_false_iff_ne.mpr e
theorem inD_strs {x : D} (h : pur x = true) : ∀ ss : List Str, inD x (ss.map D.str) = inS x ss
 | [] => rfl
 | s :: ss => by
  have := inD_strs h ss
  unfold inD inS at this ⊢
  rw [List.map_cons, List.any_cons, List.any_cons, this]
  rw [show PyData.eqv (py (.str s)) (py x) = isS x s from eqv_str h]
theorem eq_text {n : Nat} {x : D} {s : Str} {S : Sto} {Q : AK} (h : thB n x = true) (hn : n ≤ 64) (hs : okS s = true) (q : Q (.dat (.bl (isS x s))) S) : aEq x (.str s) S Q := by
 have hp := th_pur h
 unfold aEq
 rw [see_pur hp, see_str']
 cases x <;> first | (simp [pur] at hp; done) | skip
 case str a => exact q
 all_goals (refine ⟨th_fit h hn, th_fit (n := 0) (d := .str s) hs (by decide), ?_⟩; rw [show py (D.str s) = .str s from rfl, eqv_str' hp]; exact q)
theorem in_texts {n : Nat} {x : D} {ss : List Str} {neg : Bool} {S : Sto} {Q : AK} (h : thB n x = true) (hn : n ≤ 64) (hs : ss.all okS = true) (q : Q (.dat (.bl (neg != inS x ss))) S) (hl : ss.length ≤ 100 := by decide) : aIn neg x (.tup (ss.map D.str)) S Q := by
 have hp := th_pur h
 unfold aIn
 rw [see_pur hp, see_tup']
 refine ⟨th_fit h hn, th_fit (n := 1) ?_ (by decide), ?_⟩
 ·simp only [thB, List.all_map, List.length_map, decide_eq_true hl, Bool.true_and]
  exact hs
 ·rw [inD_strs hp]; exact q
theorem in_stc {n : Nat} {x : D} {ss : List Str} {neg : Bool} {S : Sto} {Q : AK} (h : thB n x = true) (hn : n ≤ 64) (hs : ss.all okS = true) (q : Q (.dat (.bl (neg != inS x ss))) S) (hl : ss.length ≤ 100 := by decide) : aIn neg x (.stc ss) S Q := by
 have hp := th_pur h
 unfold aIn
 rw [see_pur hp, see_stc']
 refine ⟨th_fit h hn, th_fit (n := 1) ?_ (by decide), ?_⟩
 ·simp only [thB, List.all_map, List.length_map, decide_eq_true hl, Bool.true_and]
  exact hs
 ·rw [inD_strs hp]; exact q
end M
namespace M
open PySem PySem.Spec PyProof.Rows PySem.SeqAt L2
section
variable {X : Cx}
noncomputable def rCat0 (K : PySem.W.Frag) : R2 := fun x y H Q => ∃ a b, x = .ref a ∧ y = .ref b ∧ SqT K H a [] ∧ (∃ ys, SqT K H b ys) ∧ Q (.ref b) H
theorem op_cat0 : OpR X (binaryOp .Add) (rCat0 X.K) := by
 intro pins s σ H x y v u Q I rx ry h
 obtain ⟨a, b, rfl, rfl, ha, ⟨ys, hb⟩, q⟩ := h
 cases rx
 cases ry
 obtain ⟨its, r1, p1, _⟩ := I.tuple ha
 obtain ⟨its2, r2, p2, _⟩ := I.tuple hb
 have e : its = [] := by cases r1; rfl
 subst e
 obtain ⟨⟨cls, dd, data, sl⟩, ho, hc, n, hd⟩ := id p1
 obtain ⟨⟨cls2, dd2, data2, sl2⟩, ho2, hc2, n2, hd2⟩ := id p2
 simp only at hc hd hc2 hd2
 subst hc hd hc2 hd2
 exact concat_meets ⟨_, ho, rfl⟩ ⟨_, ho2, rfl⟩ noFill_tuple_add seq_tuple_add PySem.F.slot_tuple_add PySem.F.entry_tuple_add (PySem.F.args_tuple_add_2 _ _)
  (tuple_addW0 a b #[] its2.toArray n n2 dd dd2 sl sl2 rfl) ⟨ho, ho2, .ref b, H, I, rfl, q⟩
noncomputable def aAdd0 : A2 := fun x y S Q => match see S x, see S y with
 | .tup [], .tup ys => Q (.dat (.tup ys)) S
 | _, _ => aAdd x y S Q
theorem see_tupD {S : Sto} {d : D} {ds : List D} (z : see S d = .tup ds) : d = .tup ds := by
 cases d <;> simp only [see] at z
 case loc n => split at z <;> first | (rename_i o _; cases o <;> simp [MO.d] at z) | cases z
 all_goals first | cases z | skip
 rfl
theorem o_add0 : Op2 X (binaryOp .Add) aAdd0 := ⟨m2 (or2 o_add.p op_cat0) fun x y H Q h => by
 obtain ⟨w, d, e, S, Qa, ok, r1, r2, q, bk⟩ := h
 unfold aAdd0 at q
 split at q
 next ys z1 z2 =>
  obtain ⟨a, xs, rfl, h1, g1⟩ := see_tup ok r1 z1
  obtain ⟨b, us, rfl, h2, g2⟩ := see_tup ok r2 z2
  have : xs = [] := by simpa [Reps] using g1
  subst this
  have e2 := see_tupD z2
  subst e2
  exact .inr ⟨a, b, rfl, rfl, SqT.of h1, ⟨us, SqT.of h2⟩, bk.dat .refl ok r2 q⟩
 next => exact .inl ⟨w, d, e, S, Qa, ok, r1, r2, q, bk⟩⟩
end
end M
namespace M
open PySem PySem.Spec PyProof.Rows L2
section
variable {X : Cx}
theorem reps_ints' {K : PySem.W.Frag} {w : Wd} : ∀ {ns : List Int} {xs : List V}, Reps K w (ns.map D.int) xs → xs = ns.map V.int
 | [], xs, h => by simpa [Reps] using h
 | s :: ss, xs, h => by
  simp only [List.map_cons, Reps] at h
  obtain ⟨x, r, rfl, h1, h2⟩ := h
  rw [rep_int h1 rfl, reps_ints' h2]; rfl
end
end M
namespace M1
open PySem PySem.Spec PyProof.Rows
namespace F
end F
section
variable {prog : Program} {w : World} {A : Around} {E : Value → Shared → Prop} {s : Shared}
end
section
variable {prog : Program} {w : World} {A : Around} {s : Shared} {R : Result → Shared → Prop} {I l : Addr} {items : Array Value}
variable {wr : List Addr} {G : Array GenState → Array GenState → Prop} {n : Nat} {P : Nat → Value → Prop} {St : Nat → Shared → Prop}
end
section
variable {prog : Program} {w : World} {A : Around} {E : Value → Shared → Prop} {s : Shared} {I l : Addr} {items : Array Value}
end
end M1
namespace L2
open PySem PySem.Spec PyProof.Rows
theorem vals_rev : ∀ {xs : List V} {us : List Value}, Vals xs us → Vals xs.reverse us.reverse
 | _, _, .nil => .nil
 | _, _, .cons r t => by simpa using (vals_rev t).append (.cons r .nil)
section
variable {X : Cx} {e : Expr} {ta : TE} {p p2 pos pos2 : Pos}
end
end L2
namespace M
open PySem PySem.Spec PyProof.Rows L2
section
variable {K : PySem.W.Frag}
theorem reps_rev {w : Wd} : ∀ {ds : List D} {xs : List V}, Reps K w ds xs → Reps K w ds.reverse xs.reverse
 | [], _, h => by simp only [Reps] at h; subst h; simp [Reps]
 | d :: ds, xs, h => by
  simp only [Reps] at h
  obtain ⟨x, r, rfl, h1, h2⟩ := h
  rw [List.reverse_cons, List.reverse_cons]
  exact (reps_rev h2).snoc h1
end
section
variable {X : Cx} {e o value : Expr} {es : List Expr} {p p2 pos pos2 apos tpos : Pos}
end
section
variable {P : Program} {w : World} {K : PySem.W.Frag} {mg : Str → Option Value} {base : Heap} {C : Addr}
theorem okB {x qual : Str} {st : Stmt} {f : Addr} {fd : FuncData} {N ps : List Str} {k : Nat} {sp : AN} (F : Fun K x qual st f fd) (S : FnScope N ps (defScope st)) (len : ∀ ds S Q, sp ds S Q → ds.length = ps.length)
  (hbody : ∀ (f : Addr) (cdv : Value) (A : Around) (outer : List Env) (s : Shared) (H : Hp) (E : XK), Room k (A.deeper (PyProof.Rows.envOfC qual (defScope st) s.heap.objs.size f cdv)) →
   ∃ a, GSs (cxOf CX0 P w K mg base N qual (defScope st) f cdv A outer s H E).nox (defBody st) a ∧ ∀ ds S Q, sp ds S Q → a { nx := fun _ S' => M.ret S S' (.dat .non) Q, rt := fun r S' => M.ret S S' r Q } (startA N ds) S) : FnOk P w K mg base CX0 (k + 1) f fd ps (conSp K sp) :=
 F.ok S (fun vs H Q E h => by
  obtain ⟨w, ds, S, Qa, ok, rep, q, bk⟩ := h
  rw [rep.length]; exact len ds S Qa q) fun cdv A outer s H vs Q E hr h => by
  obtain ⟨a, ha, hd⟩ := hbody f cdv A outer s H E hr
  obtain ⟨w, ds, S, Qa, ok, rep, q, bk⟩ := h
  refine ⟨_, ha.p, w, startA N ds, S, _, ok, env_start rep, hd ds S Qa q, ⟨fun δ S' σ w' H' le ok' env q' => ?_, fun r S' v w' H' le ok' rep' q' => ?_, fun _ _ _ _ _ _ _ _ z => z.elim, fun _ _ _ _ _ _ _ _ z => z.elim⟩⟩
  ·exact ret_ok (r := .dat .non) (v := .non) ok le ok' (show Rep K w' .non .non from .non) q' bk
  ·exact ret_ok ok le ok' rep' q' bk
end
section
variable {X : Cx} {e o : Expr} {es : List Expr} {p pos apos : Pos} {C : Addr} {k : Nat} {m : Str} {ps : List Str} {sp : AN}
end
end M
namespace L2
open PySem PySem.Spec PyProof.Rows
open Builtin Builtin.Str
section
variable {prog : Program} {w : World} {A : Around} {E : Value → Shared → Prop} {s : Shared} {x : Str} {t : Tok} {Q : Value → Shared → Prop}
end
section
variable {X : Cx}
end
end L2
namespace M
open PySem PySem.Spec PyProof.Rows L2
section
variable {X : Cx}
end
end M
namespace Srt
open PySem PySem.W PyProof.Rows
structure Ord (α : Type) where
 lt : α → α → Bool
 irr : ∀ a, lt a a = false
 tr : ∀ a b c, lt a b = true → lt b c = true → lt a c = true
 nt : ∀ a b c, lt a c = true → lt a b = true ∨ lt b c = true
noncomputable def run {β : Type} (f : Nat → Nat → Bool) : KasT β → β
 | .ret a => a
 | .ask i j k => run f (k (f i j))
theorem run_bind {β γ : Type} {f : Nat → Nat → Bool} {g : β → KasT γ} : ∀ t : KasT β, run f (t.bind g) = run f (g (run f t))
 | .ret a => rfl
 | .ask i j k => run_bind (k (f i j))
section
variable {α : Type} (O : Ord α)
noncomputable def le (a b : α) : Prop := O.lt b a = false
variable {O}
theorem le_rfl (a : α) : le O a a := O.irr a
theorem le_of {a b : α} (h : O.lt a b = true) : le O a b := by
 unfold le
 cases e : O.lt b a with
 | false => rfl
 | true => have := O.tr _ _ _ h e; rw [O.irr] at this; cases this
theorem le_tr {a b c : α} (h : le O a b) (g : le O b c) : le O a c := by
 unfold le at *
 cases e : O.lt c a with
 | false => rfl
 | true =>
  rcases O.nt _ b _ e with z | z
  ·rw [g] at z; cases z
  ·rw [h] at z; cases z
theorem le_not {a b : α} (h : ¬ O.lt a b = true) : le O b a := by unfold le; simpa using h
end
section
variable {α : Type} {O : Ord α} {k : Nat → α} {p : Array Nat}
noncomputable def val (k : Nat → α) (p : Array Nat) (i : Nat) : α := k (p.getD i 0)
variable (O k)
noncomputable def Up (p : Array Nat) (m : Nat) : Prop := ∀ i j, i ≤ j → j < m → le O (val k p i) (val k p j)
noncomputable def Down (p : Array Nat) (m : Nat) : Prop := ∀ i j, i ≤ j → j < m → le O (val k p j) (val k p i)
noncomputable abbrev ask (i j : Nat) : Bool := O.lt (k i) (k j)
variable {O k}
theorem up_more {n : Nat} (h : Up O k p n) (h1 : 1 ≤ n) (g : le O (val k p (n - 1)) (val k p n)) : Up O k p (n + 1) := fun i j hij hj => by
 by_cases e : j < n
 ·exact h i j hij e
 ·have : j = n := by omega
  subst this
  by_cases e2 : i = j
  ·subst e2; exact le_rfl _
  ·exact le_tr (h i (j - 1) (by omega) (by omega)) g
theorem down_more {n : Nat} (h : Down O k p n) (h1 : 1 ≤ n) (g : le O (val k p n) (val k p (n - 1))) : Down O k p (n + 1) := fun i j hij hj => by
 by_cases e : j < n
 ·exact h i j hij e
 ·have : j = n := by omega
  subst this
  by_cases e2 : i = j
  ·subst e2; exact le_rfl _
  ·exact le_tr g (h i (j - 1) (by omega) (by omega))
theorem asc_ok : ∀ (f n : Nat), 1 ≤ n → Up O k p n → n ≤ run (ask O k) (kas_asc p f n) ∧ run (ask O k) (kas_asc p f n) ≤ n + f ∧ Up O k p (run (ask O k) (kas_asc p f n))
 | 0, n, _, h => ⟨Nat.le_refl _, Nat.le_refl _, h⟩
 | f + 1, n, h1, h => by
  show n ≤ run _ (if O.lt (val k p n) (val k p (n - 1)) = true then _ else _) ∧ _
  by_cases e : O.lt (val k p n) (val k p (n - 1)) = true
  ·have : run (ask O k) (kas_asc p (f + 1) n) = n := by
    show run _ (if O.lt (val k p n) (val k p (n - 1)) = true then _ else _) = _
    rw [if_pos e]; rfl
   rw [if_pos e, this]
   exact ⟨Nat.le_refl _, by omega, h⟩
  ·have e2 : run (ask O k) (kas_asc p (f + 1) n) = run (ask O k) (kas_asc p f (n + 1)) := by
    show run _ (if O.lt (val k p n) (val k p (n - 1)) = true then _ else _) = _
    rw [if_neg e]
   rw [if_neg e, e2]
   obtain ⟨a, b, c⟩ := asc_ok f (n + 1) (by omega) (up_more h h1 (le_not e))
   exact ⟨by omega, by omega, c⟩
theorem getD_of {x : Nat} : p.getD x 0 = (p[x]?).getD 0 := by
 by_cases h : x < p.size
 ·simp [Array.getD, h]
 ·simp [Array.getD, h, Array.getElem?_eq_none (Nat.le_of_not_lt h)]
theorem val_rev {i j : Nat} (hj : j ≤ p.size) (x : Nat) : val k (kas_rev p i j) x = if i ≤ x ∧ x < j then val k p (i + j - 1 - x) else val k p x := by
 unfold val kas_rev
 rw [getD_of, getElem?_mirror_all hj]
 split <;> rw [getD_of]
theorem rev_size {i j : Nat} : (kas_rev p i j).size = p.size := mirror_size _ _ _ _
theorem rev_perm {i j : Nat} : (kas_rev p i j).Perm p := mirror_perm _ _ _ _
noncomputable def Flat (O : Ord α) (k : Nat → α) (p : Array Nat) (n q : Nat) : Prop := q + 1 ≤ n ∧ ∀ i j, n - (q + 1) ≤ i → i < n → n - (q + 1) ≤ j → j < n → le O (val k p i) (val k p j)
theorem down_rev {n q : Nat} (hn : n ≤ p.size) (h : Down O k p n) (f : Flat O k p n q) : Down O k (kas_rev p (n - (q + 1)) n) n := fun i j hij hj => by
 obtain ⟨f1, f2⟩ := f
 rw [val_rev hn, val_rev hn]
 by_cases a : n - (q + 1) ≤ j
 ·rw [if_pos ⟨a, hj⟩]
  by_cases b : n - (q + 1) ≤ i
  ·rw [if_pos ⟨b, by omega⟩]
   exact f2 _ _ (by omega) (by omega) (by omega) (by omega)
  ·rw [if_neg (by omega)]
   exact h _ _ (by omega) (by omega)
 ·rw [if_neg (by omega), if_neg (by omega)]
  exact h _ _ hij hj
theorem flat0 {n : Nat} (h : 1 ≤ n) : Flat O k p n 0 := ⟨by omega, fun i j a b c d => by
 have : i = j := by omega
 subst this; exact le_rfl _⟩
theorem desc_ok : ∀ (f n q : Nat) (p : Array Nat), n + f ≤ p.size → Down O k p n → Flat O k p n q →
  ∃ p' n' q', run (ask O k) (kas_desc f p n q) = (p', n', q') ∧ p'.Perm p ∧ n ≤ n' ∧ n' ≤ n + f ∧ Down O k p' n' ∧ Flat O k p' n' q'
 | 0, n, q, p, hz, h, fl => ⟨p, n, q, rfl, Array.Perm.refl _, Nat.le_refl _, Nat.le_refl _, h, fl⟩
 | f + 1, n, q, p, hz, h, fl => by
  have h1 : 1 ≤ n := by have := fl.1; omega
  have e0 : run (ask O k) (kas_desc (f + 1) p n q) = run (ask O k) (if O.lt (val k p n) (val k p (n - 1)) = true then (if q > 0 then kas_desc f (kas_rev p (n - (q + 1)) n) (n + 1) 0 else kas_desc f p (n + 1) 0)
    else .ask (p.getD (n - 1) 0) (p.getD n 0) fun d => if d = true then .ret (p, n, q) else kas_desc f p (n + 1) (q + 1)) := rfl
  rw [e0]
  by_cases e : O.lt (val k p n) (val k p (n - 1)) = true
  ·rw [if_pos e]
   by_cases hq : q > 0
   ·rw [if_pos hq]
    have hd := down_rev (by omega) h fl
    have e1 : val k (kas_rev p (n - (q + 1)) n) n = val k p n := by rw [val_rev (by omega), if_neg (by omega)]
    have e2 : le O (val k (kas_rev p (n - (q + 1)) n) n) (val k (kas_rev p (n - (q + 1)) n) (n - 1)) := by
     have hf := fl.1
     rw [e1, val_rev (by omega), if_pos (by omega)]
     exact le_tr (le_of e) (h _ _ (by omega) (by omega))
    obtain ⟨p', n', q', a, b, c, d, e3, f3⟩ := desc_ok f (n + 1) 0 (kas_rev p (n - (q + 1)) n) (by rw [rev_size]; omega) (down_more hd h1 e2) (flat0 (by omega))
    exact ⟨p', n', q', a, b.trans rev_perm, by omega, by omega, e3, f3⟩
   ·rw [if_neg hq]
    obtain ⟨p', n', q', a, b, c, d, e3, f3⟩ := desc_ok f (n + 1) 0 p (by omega) (down_more h h1 (le_of e)) (flat0 (by omega))
    exact ⟨p', n', q', a, b, by omega, by omega, e3, f3⟩
  ·rw [if_neg e]
   show ∃ p' n' q', run _ (if O.lt (val k p (n - 1)) (val k p n) = true then _ else _) = _ ∧ _
   by_cases g : O.lt (val k p (n - 1)) (val k p n) = true
   ·rw [if_pos g]
    exact ⟨p, n, q, rfl, Array.Perm.refl _, Nat.le_refl _, by omega, h, fl⟩
   ·rw [if_neg g]
    have l1 := le_not e
    have l2 := le_not g
    have fl2 : Flat O k p (n + 1) (q + 1) := ⟨by have := fl.1; omega, fun i j a b c d => by
     have hf := fl.1
     by_cases hi : i = n
     ·by_cases hj : j = n
      ·rw [hi, hj]; exact le_rfl _
      ·rw [hi]; exact le_tr l2 (fl.2 _ _ (by omega) (by omega) (by omega) (by omega))
     ·by_cases hj : j = n
      ·rw [hj]; exact le_tr (fl.2 _ _ (by omega) (by omega) (by omega) (by omega)) l1
      ·exact fl.2 _ _ (by omega) (by omega) (by omega) (by omega)⟩
    obtain ⟨p', n', q', a, b, c, d, e3, f3⟩ := desc_ok f (n + 1) (q + 1) p (by omega) (down_more h h1 l2) fl2
    exact ⟨p', n', q', a, b, by omega, by omega, e3, f3⟩
theorem tail_ok {n m : Nat} (h1 : 1 ≤ n) (hn : n ≤ m) (hz : m ≤ p.size) (h : Down O k p n) : ∃ c p', run (ask O k) (kas_tail3 n m p) = (c, p') ∧ p'.Perm p ∧ n ≤ c ∧ c ≤ m ∧ Up O k p' c := by
 unfold kas_tail3
 rw [run_bind]
 have hu : Up O k (kas_rev p 0 n) n := fun i j hij hj => by
  rw [val_rev (by omega), val_rev (by omega), if_pos (by omega), if_pos (by omega)]
  exact h _ _ (by omega) (by omega)
 obtain ⟨a, b, c⟩ := asc_ok (m - n) n h1 hu
 exact ⟨_, _, rfl, rev_perm, a, by omega, c⟩
theorem descPart_ok {n m : Nat} (h1 : 1 ≤ n) (hn : n + 1 ≤ m) (hz : m ≤ p.size) (h : Down O k p n) (g : le O (val k p n) (val k p (n - 1))) : ∃ c p', run (ask O k) (kas_descPart n m p) = (c, p') ∧ p'.Perm p ∧ 1 ≤ c ∧ c ≤ m ∧ Up O k p' c := by
 unfold kas_descPart
 rw [run_bind]
 obtain ⟨p', n', q', a, b, c, d, e, f⟩ := desc_ok (m - (n + 1)) (n + 1) 0 p (by omega) (down_more h h1 g) (flat0 (by omega))
 have hs : p'.size = p.size := b.size_eq
 rw [a]
 dsimp only
 by_cases hq : q' > 0
 ·rw [if_pos hq]
  obtain ⟨c1, p1, a1, b1, c2, d1, e1⟩ := tail_ok (m := m) (by omega) (by omega) (by rw [rev_size]; omega) (down_rev (by omega) e f)
  exact ⟨c1, p1, a1, b1.trans (rev_perm.trans b), by omega, d1, e1⟩
 ·rw [if_neg hq]
  obtain ⟨c1, p1, a1, b1, c2, d1, e1⟩ := tail_ok (m := m) (by omega) (by omega) (by omega) e
  exact ⟨c1, p1, a1, b1.trans b, by omega, d1, e1⟩
theorem count_ok {m : Nat} (hm : 1 ≤ m) (hz : m ≤ p.size) : ∃ c p', run (ask O k) (kas_count m p) = (c, p') ∧ p'.Perm p ∧ 1 ≤ c ∧ c ≤ m ∧ Up O k p' c := by
 unfold kas_count
 rw [run_bind]
 have u1 : Up O k p 1 := fun i j hij hj => by
  have : i = j := by omega
  subst this; exact le_rfl _
 obtain ⟨a, b, c⟩ := asc_ok (m - 1) 1 (Nat.le_refl _) u1
 have stop : run (ask O k) (kas_asc p (m - 1) 1) < m → O.lt (val k p (run (ask O k) (kas_asc p (m - 1) 1))) (val k p (run (ask O k) (kas_asc p (m - 1) 1) - 1)) = true := by
  have : ∀ (f n : Nat), run (ask O k) (kas_asc p f n) < n + f → O.lt (val k p (run (ask O k) (kas_asc p f n))) (val k p (run (ask O k) (kas_asc p f n) - 1)) = true := by
   intro f
   induction f with
   | zero => intro n h; exact absurd h (Nat.lt_irrefl _)
   | succ f ih =>
    intro n h
    by_cases e : O.lt (val k p n) (val k p (n - 1)) = true
    ·have e2 : run (ask O k) (kas_asc p (f + 1) n) = n := by
      show run _ (if O.lt (val k p n) (val k p (n - 1)) = true then _ else _) = _
      rw [if_pos e]; rfl
     rw [e2]; exact e
    ·have e2 : run (ask O k) (kas_asc p (f + 1) n) = run (ask O k) (kas_asc p f (n + 1)) := by
      show run _ (if O.lt (val k p n) (val k p (n - 1)) = true then _ else _) = _
      rw [if_neg e]
     rw [e2] at h ⊢
     exact ih (n + 1) (by omega)
  intro h
  exact this (m - 1) 1 (by omega)
 generalize run (ask O k) (kas_asc p (m - 1) 1) = n at a b c stop
 by_cases e1 : (n == m) = true
 ·rw [if_pos e1]
  exact ⟨n, p, rfl, Array.Perm.refl _, a, by omega, c⟩
 ·rw [if_neg e1]
  have hnm : n ≠ m := fun z => e1 (by rw [z]; exact beq_self_eq_true _)
  have st := le_of (stop (by omega))
  by_cases e2 : n > 1
  ·rw [if_pos e2]
   show ∃ c p', run _ (if O.lt (val k p 0) (val k p (n - 1)) = true then _ else _) = _ ∧ _
   by_cases e3 : O.lt (val k p 0) (val k p (n - 1)) = true
   ·rw [if_pos e3]
    exact ⟨n, p, rfl, Array.Perm.refl _, a, by omega, c⟩
   ·rw [if_neg e3]
    have all : ∀ i j, i < n → j < n → le O (val k p i) (val k p j) := fun i j hi hj => le_tr (c i (n - 1) (by omega) (by omega)) (le_tr (le_not e3) (c 0 j (by omega) hj))
    have hd : Down O k (kas_rev p 0 n) n := fun i j hij hj => by
     rw [val_rev (by omega), val_rev (by omega), if_pos (by omega), if_pos (by omega)]
     exact all _ _ (by omega) (by omega)
    obtain ⟨c1, p1, a1, b1, c2, d1, e4⟩ := descPart_ok (m := m) a (by omega) (by rw [rev_size]; omega) hd (by
     rw [val_rev (by omega), val_rev (by omega), if_neg (by omega), if_pos (by omega)]
     exact le_tr st (all _ _ (by omega) (by omega)))
    exact ⟨c1, p1, a1, b1.trans rev_perm, c2, d1, e4⟩
  ·rw [if_neg e2]
   have hn1 : n = 1 := by omega
   subst hn1
   obtain ⟨c1, p1, a1, b1, c2, d1, e4⟩ := descPart_ok (m := m) (k := k) (O := O) (p := p) (n := 1) (by omega) (by omega) hz (fun i j hij hj => by
    have : i = j := by omega
    subst this; exact le_rfl _) st
   exact ⟨c1, p1, a1, b1, c2, d1, e4⟩
theorem place_ok {j : Nat} : ∀ (f l r : Nat), r ≤ l + f → l ≤ r → r ≤ j → (∀ i, i < l → le O (val k p i) (val k p j)) → (∀ i, r ≤ i → i < j → le O (val k p j) (val k p i)) → Up O k p j →
  ∃ x, run (ask O k) (kas_place p j f l r) = x ∧ x ≤ j ∧ (∀ i, i < x → le O (val k p i) (val k p j)) ∧ ∀ i, x ≤ i → i < j → le O (val k p j) (val k p i)
 | 0, l, r, h, hlr, hr, a, b, u => by
  have : l = r := by omega
  subst this
  exact ⟨l, rfl, hr, a, b⟩
 | f + 1, l, r, h, hlr, hr, a, b, u => by
  show ∃ x, run _ (if l ≥ r then _ else _) = x ∧ _
  by_cases e : l ≥ r
  ·rw [if_pos e]
   have : l = r := by omega
   subst this
   exact ⟨l, rfl, hr, a, b⟩
  ·rw [if_neg e]
   show ∃ x, run _ (if O.lt (val k p j) (val k p ((l + r) / 2)) = true then _ else _) = x ∧ _
   by_cases g : O.lt (val k p j) (val k p ((l + r) / 2)) = true
   ·rw [if_pos g]
    exact place_ok f l ((l + r) / 2) (by omega) (by omega) (by omega) a (fun i h1 h2 => le_tr (le_of g) (u _ _ h1 h2)) u
   ·rw [if_neg g]
    exact place_ok f ((l + r) / 2 + 1) r (by omega) (by omega) hr (fun i h1 => le_tr (u _ _ (show i ≤ (l + r) / 2 by omega) (by omega)) (le_not g)) b u
theorem val_bub {j d : Nat} (hj : j < p.size) (hd : d ≤ j) (x : Nat) : val k (bubble p j d) x = if x = j - d then val k p j else if j - d < x ∧ x ≤ j then val k p (x - 1) else val k p x := by
 have h1 : ∀ y, val k p y = k ((p[y]?).getD 0) := fun y => by unfold val; rw [getD_of]
 rw [h1 j, h1 (x - 1), h1 x]
 unfold val
 rw [getD_of, getElem?_bubble hj d hd]
 split
 ·rfl
 ·split <;> rfl
theorem bin_ok : ∀ (f j : Nat) (p : Array Nat), 1 ≤ j → j + f = p.size → Up O k p j → ∃ p', run (ask O k) (kas_bin f p j) = p' ∧ p'.Perm p ∧ Up O k p' p.size
 | 0, j, p, h1, h, u => ⟨p, rfl, Array.Perm.refl _, by rw [← h]; exact u⟩
 | f + 1, j, p, h1, h, u => by
  show ∃ p', run _ ((kas_place p j j 0 j).bind _) = p' ∧ _
  rw [run_bind]
  obtain ⟨x, ex, hx, a, b⟩ := place_ok (p := p) (j := j) j 0 j (by omega) (by omega) (Nat.le_refl _) (fun i z => by omega) (fun i h1 h2 => by omega) u
  rw [ex]
  have hu : Up O k (bubble p j (j - x)) (j + 1) := fun i i' hii hi' => by
   rw [val_bub (by omega) (by omega), val_bub (by omega) (by omega)]
   repeat' split
   all_goals first | exact le_rfl _ | (exact u _ _ (by omega) (by omega)) | (exact a _ (by omega)) | (exact b _ (by omega) (by omega)) | (exfalso; omega)
  obtain ⟨p', e1, e2, e3⟩ := bin_ok f (j + 1) (bubble p j (j - x)) (by omega) (by rw [bubble_size]; omega) hu
  exact ⟨p', e1, e2.trans (bubble_perm _ _ _), by rw [bubble_size] at e3; exact e3⟩
theorem sort_ok {n : Nat} (hn : 1 ≤ n) : ∃ p : Array Nat, run (ask O k) (kas_sort n) = p ∧ p.Perm (List.toArray (List.range n)) ∧ Up O k p n := by
 unfold kas_sort
 rw [run_bind]
 have hz : (List.toArray (List.range n)).size = n := by simp
 obtain ⟨c, p', a, b, c1, c2, u⟩ := count_ok (O := O) (k := k) (p := List.toArray (List.range n)) hn (by omega)
 rw [a]
 dsimp only
 have hs : p'.size = n := by rw [b.size_eq, hz]
 by_cases e : c < n
 ·rw [if_pos e]
  have em : max c 1 = c := by omega
  rw [em]
  obtain ⟨p2, e1, e2, e3⟩ := bin_ok (n - c) c p' c1 (by omega) u
  exact ⟨p2, e1, e2.trans b, by rw [hs] at e3; exact e3⟩
 ·rw [if_neg e]
  have : c = n := by omega
  subst this
  exact ⟨p', rfl, b, u⟩
end
end Srt
namespace M5
open PySem PySem.Spec PyProof.Rows
theorem layNew_kept (t : SetTable) (es : Array (Int × Value)) (h : Int) (x : Value) : (layNew t es h x).2.1.led = t.led ∧ ((layNew t es h x).2.1.plain = true → t.plain = true) := by
 unfold layNew
 split
 ·unfold SetTable.orStandIn
  dsimp only
  split
  ·exact ⟨rfl, fun z => z⟩
  ·exact ⟨rfl, fun z => by cases z⟩
 ·exact ⟨rfl, fun z => by cases z⟩
theorem relaid_kept {t t' : SetTable} {hs : Array Int} {n : Nat} {o : Array Nat} (h : t.relaid hs n = some (t', o)) : t'.led = t.led ∧ t'.plain = t.plain := by
 unfold SetTable.relaid SetTable.laid at h
 cases hl : SetTable.layClean (SetTable.sizeAbove n - 1) hs with
 | none => rw [hl] at h; cases h
 | some ow =>
  rw [hl] at h
  have h : some _ = some _ := h
  injection h with h
  injection h with h1 h2
  subst h1
  exact ⟨rfl, rfl⟩
theorem relayAll_kept (t : SetTable) (es : Array (Int × Value)) (n : Nat) : (relayAll t es n).2.1.led = t.led ∧ ((relayAll t es n).2.1.plain = true → t.plain = true) := by
 unfold relayAll
 split
 ·rename_i t' order he
  dsimp only
  split
  ·exact ⟨(relaid_kept he).1, fun z => by rw [← (relaid_kept he).2]; exact z⟩
  ·exact ⟨rfl, fun z => by cases z⟩
 ·exact ⟨rfl, fun z => by cases z⟩
section
variable {prog : Program} {w : World} {A : Around} {E : Value → Shared → Prop} {s : Shared}
theorem upd_set {h : Heap} {a : Addr} {o : Obj} {es : Array (Int × Value)} {ep : Nat} {t : SetTable} (es' : Array (Int × Value)) (t' : SetTable) (ho : h.get? a = some o) (hd : o.data = .set es ep t) :
  (h.update a (Obj.putSet es' t')).get? a = some { o with data := .set es' (ep + 1) t' } := by
 have e := Heap.get?_update_self (Obj.putSet es' t') ho
 rw [putSet_of es' t' hd] at e
 exact e rfl
end
section
variable {prog : Program} {w : World} {A : Around} {R : Result → Shared → Prop} {I : Addr} {fp wr : List Addr} {G : Array GenState → Array GenState → Prop} {n : Nat} {P : Nat → Value → Prop} {St : Nat → Shared → Prop}
end
namespace F
theorem sub_tuple_set : isSubtype (.type "tuple") (.type "set") = pure false := by rw [isSubtype_type]; kernel_rfl
theorem sub_tuple_frozenset : isSubtype (.type "tuple") (.type "frozenset") = pure false := by rw [isSubtype_type]; kernel_rfl
end F
noncomputable def freshSet (led : Bool) : Obj := { cls := .type "set", dict := none, data := .set #[] 0 (.fresh 0 0 led) }
section
variable {prog : Program} {w : World} {A : Around} {E : Value → Shared → Prop} {s : Shared}
theorem set_new (a : Value) {Q₁ : Value → Shared → Prop} (h : Q₁ (.ref s.heap.objs.size) { s with heap := s.heap.push (freshSet (!w.params.followText "set-order")) }) :
  codeAny (model prog w) A (.call (.builtin "set.__new__") ⟨[.type "set", a], []⟩) (wants Q₁ E) s := by
 refine codeAny_of_tree ?_
 show wpAny _ A.in1 (do checkBuiltinCall "set.__new__" ⟨[.type "set", a], []⟩; again (.builtin "set.__new__" ⟨[.type "set", a], []⟩)) _ _ s
 refine wpAny_bind (wpAny_of_eq (PySem.F.newCall_set_1 a) (wpAny_pure ⟨plainId_quiet PySem.F.plain_set_new _, codeAny_builtin PySem.F.entry_set_new ?_⟩))
 rw [Around.under_plainId PySem.F.plain_set_new _]
 unfold Builtin.«set.__new__» Builtin.Frozenset.newClass
 have hsub := sub_set_self
 obtain ⟨hp, g, d, tk, os⟩ := s
 dsimp only
 wp_walk
 refine wpAny_askSetting (wpAny_pure ?_)
 dsimp only
 simp only [newObj]
 refine wpAny_bind (wpAny_alloc (wpAny_pure ?_))
 exact wpAny_pure h
end
end M5
namespace M5
open PySem PySem.Spec PyProof.Rows
namespace F
theorem owner_si : Manifest.owners.lookup (String.ofList ['r', 'o', 't', 'a', 'r', 'e', 't', 'i', '_', 't', 'e', 's'].reverse) = some Manifest.sig_set_iterator := by kernel_rfl
theorem owner_s : Manifest.owners.lookup (String.ofList ['t', 'e', 's'].reverse) = some Manifest.sig_set := by kernel_rfl
theorem slot_next : Slot "set_iterator" "__next__" "set_iterator.__next__" :=
 .of (owner := "set_iterator") (n := "__next__") (by rw [typeLookup_type, builtinLookup_eq_fast]; kernel_rfl) (by decide +kernel) (by decide +kernel) (by decide +kernel)
  (by first | exact .inl (by decide +kernel) | exact .inr (by decide +kernel)) (by rw [isSubtype_type]; kernel_rfl)
theorem entry_next : entryFor table "set_iterator.__next__" = some Builtin.«set_iterator.__next__» := entryFor_of_tree (by kernel_rfl)
theorem args_next (a : Value) : argsOk "set_iterator.__next__" ⟨[a], []⟩ := by
 unfold argsOk; rw [signature?_of (id := "set_iterator.__next__") (n := ['_', '_', 't', 'x', 'e', 'n', '_', '_']) (o := ['r', 'o', 't', 'a', 'r', 'e', 't', 'i', '_', 't', 'e', 's']) (by kernel_rfl) owner_si]; kernel_rfl
theorem slot_iter : Slot "set_iterator" "__iter__" "set_iterator.__iter__" :=
 .of (owner := "set_iterator") (n := "__iter__") (by rw [typeLookup_type, builtinLookup_eq_fast]; kernel_rfl) (by decide +kernel) (by decide +kernel) (by decide +kernel)
  (by first | exact .inl (by decide +kernel) | exact .inr (by decide +kernel)) (by rw [isSubtype_type]; kernel_rfl)
theorem args_iter (a : Value) : argsOk "set_iterator.__iter__" ⟨[a], []⟩ := by
 unfold argsOk; rw [signature?_of (id := "set_iterator.__iter__") (n := ['_', '_', 'r', 'e', 't', 'i', '_', '_']) (o := ['r', 'o', 't', 'a', 'r', 'e', 't', 'i', '_', 't', 'e', 's']) (by kernel_rfl) owner_si]; kernel_rfl
theorem entry_iter : entryFor table "set_iterator.__iter__" = some Builtin.«dict_keyiterator.__iter__» :=
 entryFor_alias (id' := "dict_keyiterator.__iter__") (by kernel_rfl) (by first | rfl | decide +kernel | (unfold String.splitOn; simp +decide [String.splitOnAux])) (by decide +kernel) (by kernel_rfl)
theorem slot_siter : Slot "set" "__iter__" "set.__iter__" :=
 .of (owner := "set") (n := "__iter__") (by rw [typeLookup_type, builtinLookup_eq_fast]; kernel_rfl) (by decide +kernel) (by decide +kernel) (by decide +kernel)
  (by first | exact .inl (by decide +kernel) | exact .inr (by decide +kernel)) (by rw [isSubtype_type]; kernel_rfl)
theorem args_siter (a : Value) : argsOk "set.__iter__" ⟨[a], []⟩ := by
 unfold argsOk; rw [signature?_of (id := "set.__iter__") (n := ['_', '_', 'r', 'e', 't', 'i', '_', '_']) (o := ['t', 'e', 's']) (by kernel_rfl) owner_s]; kernel_rfl
theorem entry_siter : entryFor table "set.__iter__" = some Builtin.«frozenset.__iter__» :=
 entryFor_alias (id' := "frozenset.__iter__") (by kernel_rfl) (by first | rfl | decide +kernel | (unfold String.splitOn; simp +decide [String.splitOnAux])) (by decide +kernel) (by kernel_rfl)
end F
noncomputable def itO (first : Value) (i : Nat) (a : Addr) (n ep : Nat) : Obj := { cls := .type "set_iterator", data := .fields #[first, rawInt i, .ref a, rawInt n, rawInt ep] }
noncomputable def IsIt (h : Heap) (I : Addr) (first : Value) (i : Nat) (a : Addr) (n ep : Nat) : Prop := ∃ o, h.get? I = some o ∧ o.cls = .type "set_iterator" ∧ o.data = .fields #[first, rawInt i, .ref a, rawInt n, rawInt ep]
noncomputable def SAt (h : Heap) (a : Addr) (es : Array (Int × Value)) (ep : Nat) (t : SetTable) : Prop := ∃ o, h.get? a = some o ∧ o.cls = .type "set" ∧ o.data = .set es ep t
theorem IsIt.at {h h' : Heap} {I a : Addr} {f : Value} {i n ep : Nat} (x : IsIt h I f i a n ep) (e : ∀ o, h.get? I = some o → h'.get? I = some o) : IsIt h' I f i a n ep := let ⟨o, ho, r⟩ := x; ⟨o, e _ ho, r⟩
theorem SAt.at {h h' : Heap} {a : Addr} {es : Array (Int × Value)} {ep : Nat} {t : SetTable} (x : SAt h a es ep t) (e : ∀ o, h.get? a = some o → h'.get? a = some o) : SAt h' a es ep t := let ⟨o, ho, r⟩ := x; ⟨o, e _ ho, r⟩
section
variable {prog : Program} {w : World} {A : Around} {E : Value → Shared → Prop} {s : Shared}
theorem IsIt.typeIs {I a : Addr} {f : Value} {i n ep : Nat} (x : IsIt s.heap I f i a n ep) : s.TypeIs (.ref I) "set_iterator" := let ⟨o, ho, hc, _⟩ := x; ⟨o, ho, hc⟩
theorem SAt.typeIs {a : Addr} {es : Array (Int × Value)} {ep : Nat} {t : SetTable} (x : SAt s.heap a es ep t) : s.TypeIs (.ref a) "set" := let ⟨o, ho, hc, _⟩ := x; ⟨o, ho, hc⟩
theorem any_choose {src : Source} {n : Nat} {Q : Nat → Shared → Prop} (hn : n ≠ 0) (h : ∀ i d, i < n → Q i { s with drawn := d }) : wpAny (model prog w) A (choose src n) Q E s := by
 intro Γ p hΓ
 show Sem.wp _ _ (.choose src n .pure) _ _ _ _
 rw [Sem.wp_choose]
 exact ⟨hn, h _ _ (Nat.mod_lt _ (Nat.pos_of_ne_zero hn))⟩
theorem erase_perm {α : Type} : ∀ {l : List α} {i : Nat} (h : i < l.length), (l[i] :: l.eraseIdx i).Perm l
 | x :: r, 0, h => .refl _
 | x :: r, i + 1, h => by
  have h' : i < r.length := Nat.lt_of_succ_lt_succ h
  show (r[i] :: x :: r.eraseIdx i).Perm (x :: r)
  exact (List.Perm.swap ..).trans ((erase_perm (Nat.lt_of_succ_lt_succ h)).cons x)
theorem any_draw {α : Type} : ∀ (n : Nat) (xs : List α) {s : Shared} {Q : List α → Shared → Prop}, xs.length = n → (∀ ys d, ys.Perm xs → Q ys { s with drawn := d }) → wpAny (model prog w) A (drawOrder n xs) Q E s
 | 0, xs, s, Q, hl, h => by
  obtain rfl : xs = [] := List.eq_nil_of_length_eq_zero hl
  unfold drawOrder
  exact wpAny_pure (h [] s.drawn .nil)
 | n + 1, [], s, Q, hl, h => by cases hl
 | n + 1, x :: r, s, Q, hl, h => by
  unfold drawOrder
  refine wpAny_bind (any_choose (by simp) fun i d hi => ?_)
  rw [List.getElem?_eq_getElem hi]
  dsimp only
  refine wpAny_bind (any_draw n _ ?_ fun ys d2 hp => ?_)
  ·rw [List.length_eraseIdx, if_pos hi, hl]; rfl
  ·refine wpAny_pure (h _ d2 ((hp.cons _).trans ?_))
   exact erase_perm hi
theorem pick_go {α : Type} (next : Nat → Nat) : ∀ (n k : Nat) (left : List α) (out : Array α), left.length = n → (pickOrder.go next n k left out).toList.Perm (out.toList ++ left)
 | 0, k, left, out, h => by
  obtain rfl : left = [] := List.eq_nil_of_length_eq_zero h
  unfold pickOrder.go
  simp
 | n + 1, k, left, out, h => by
  unfold pickOrder.go
  have hi : next k % left.length < left.length := Nat.mod_lt _ (by omega)
  rw [List.getElem?_eq_getElem hi]
  dsimp only
  refine (pick_go next n (k + 1) _ _ ?_).trans ?_
  ·rw [List.length_eraseIdx, if_pos hi, h]; rfl
  ·rw [Array.toList_push, List.append_assoc]
   exact (erase_perm hi).append_left _
theorem pick_perm {α : Type} (next : Nat → Nat) (xs : Array α) : (pickOrder next xs).toList.Perm xs.toList := by
 unfold pickOrder
 have := pick_go next xs.size 0 xs.toList #[] Array.length_toList
 simpa using this
end
end M5
namespace M5
open PySem PySem.Spec PyProof.Rows
section
variable {prog : Program} {w : World} {A : Around} {E : Value → Shared → Prop} {s : Shared}
theorem next_item {I a : Addr} {sl i n ep nx : Nat} {es : Array (Int × Value)} {t : SetTable} {x : Value} {Q : Option Value → Shared → Prop} (hit : IsIt s.heap I (rawInt sl) i a n ep) (hS : SAt s.heap a es ep t) (hf : t.fits es.size = true) (hn : es.size = n)
  (hs : ∀ {A' : Around} {Q' : Option (Value × Nat) → Shared → Prop} {E' : Value → Shared → Prop}, Q' (some (x, nx)) s → wpAny (model prog w) A' (setNext a sl i ep) Q' E' s)
  (hQ : ∀ h', IsIt h' I (rawInt nx) (i + 1) a n ep → Heap.SameBut I s.heap h' → Q (some x) { s with heap := h' }) : wpAny (model prog w) A (pyNext (.ref I)) Q E s := by
 obtain ⟨o, ho, hc, hd⟩ := id hit
 obtain ⟨os, hos, hcs, hds⟩ := id hS
 unfold pyNext
 refine wpAny_bind (wpAny_attempt (wpAny_callSpecial?_slot (name := Str.ofString "__next__") hit.typeIs F.slot_next
  (wpAny_call_entry F.slot_next hit.typeIs F.entry_next ?_ (F.args_next _))))
 unfold Builtin.«set_iterator.__next__»
 refine wpAny_bind (wpAny_of_eq (a := (Value.ref I, [])) rfl ?_)
 refine wpAny_bind (wpAny_fieldsOf ho hd ?_)
 dsimp only [rawInt]
 refine wpAny_bind (wpAny_setEntries_of hos hds hf ?_)
 rw [if_neg (by rw [hn]; simp)]
 refine wpAny_bind (hs ?_)
 dsimp only
 refine wpAny_bind (wpAny_setField ho hd (by simp) ?_)
 have ho2 := Heap.get?_update_self (Obj.mapFields (·.setIfInBounds 0 (rawInt nx))) ho (Obj.isFreed_of_fields (Obj.data_mapFields hd _))
 have hd2 := Obj.data_mapFields hd (·.setIfInBounds 0 (rawInt nx))
 refine wpAny_bind (wpAny_setField ho2 hd2 (by simp) ?_)
 refine wpAny_pure ⟨x, rfl, wpAny_pure (hQ _ ?_ ((Heap.SameBut.update ..).trans (Heap.SameBut.update ..)))⟩
 exact ⟨_, Heap.get?_update_self _ ho2 (Obj.isFreed_of_fields (Obj.data_mapFields hd2 _)), (Obj.cls_mapFields ..).trans ((Obj.cls_mapFields ..).trans hc), by
  rw [Obj.data_mapFields hd2]; simp [rawInt]⟩
theorem next_end {I a : Addr} {sl i n ep : Nat} {es : Array (Int × Value)} {t : SetTable} {Q : Option Value → Shared → Prop} (hh : A.handled = none) (hit : IsIt s.heap I (rawInt sl) i a n ep) (hS : SAt s.heap a es ep t) (hf : t.fits es.size = true) (hn : es.size = n)
  (hs : ∀ {A' : Around} {Q' : Option (Value × Nat) → Shared → Prop} {E' : Value → Shared → Prop}, Q' none s → wpAny (model prog w) A' (setNext a sl i ep) Q' E' s)
  (hQ : ∀ h', Heap.ExtBut I s.heap h' → Q none { s with heap := h' }) : wpAny (model prog w) A (pyNext (.ref I)) Q E s := by
 obtain ⟨o, ho, hc, hd⟩ := id hit
 obtain ⟨os, hos, hcs, hds⟩ := id hS
 unfold pyNext
 refine wpAny_bind (wpAny_attempt (wpAny_callSpecial?_slot (name := Str.ofString "__next__") hit.typeIs F.slot_next
  (wpAny_call_entry F.slot_next hit.typeIs F.entry_next ?_ (F.args_next _))))
 unfold Builtin.«set_iterator.__next__»
 refine wpAny_bind (wpAny_of_eq (a := (Value.ref I, [])) rfl ?_)
 refine wpAny_bind (wpAny_fieldsOf ho hd ?_)
 dsimp only [rawInt]
 refine wpAny_bind (wpAny_setEntries_of hos hds hf ?_)
 rw [if_neg (by rw [hn]; simp)]
 refine wpAny_bind (hs ?_)
 dsimp only
 refine wpAny_bind (wpAny_setField ho hd (by simp) ?_)
 refine wpAny_bind ?_
 simp only [newExc, newTuple]
 refine wpAny_bind (wpAny_newObj_type ?_ (by size_fits))
 refine wpAny_bind (m := firstArgMember _ _) (wpAny_of_eq (a := Value.none) (by first | rfl | (simp only [firstArgMember]; rfl)) ?_)
 refine wpAny_newObj_type ?_ (by size_fits)
 simp only [raiseNew]
 refine wpAny_bind (wpAny_handled ?_)
 first | rw [show A.in1.handled = none from hh] | rw [hh]
 refine wpAny_bind (wpAny_pure (wpAny_throw ?_))
 refine wpAny_bind (wpAny_isInstance (T := "StopIteration") (b := true) ⟨_, Heap.get?_push_size _ rfl, rfl⟩ isSubtype_stop ?_)
 refine wpAny_pure (hQ _ (Heap.ExtBut.push (Heap.ExtBut.push ?_ _) _))
 exact fun b ob hb e => (Heap.get?_update_other _ _ (Ne.symm hb)).trans e
theorem next_itemD {I T a : Addr} {i n ep pl : Nat} {tk : Tok} {es : Array (Int × Value)} {t : SetTable} {ps : Array Value} {hx : Int} {x : Value} {Q : Option Value → Shared → Prop} (hit : IsIt s.heap I (.ref T) i a n ep) (hS : SAt s.heap a es ep t) (hf : t.fits es.size = true) (hn : es.size = n)
  (hT : s.heap.IsTuple T ps) (hp : ps[i]? = some (.int pl tk)) (he : es[pl]? = some (hx, x))
  (hQ : ∀ h', IsIt h' I (.ref T) (i + 1) a n ep → Heap.SameBut I s.heap h' → Q (some x) { s with heap := h' }) : wpAny (model prog w) A (pyNext (.ref I)) Q E s := by
 obtain ⟨o, ho, hc, hd⟩ := id hit
 obtain ⟨os, hos, hcs, hds⟩ := id hS
 obtain ⟨ot, hot, hct, nt, hdt⟩ := id hT
 unfold pyNext
 refine wpAny_bind (wpAny_attempt (wpAny_callSpecial?_slot (name := Str.ofString "__next__") hit.typeIs F.slot_next
  (wpAny_call_entry F.slot_next hit.typeIs F.entry_next ?_ (F.args_next _))))
 unfold Builtin.«set_iterator.__next__»
 refine wpAny_bind (wpAny_of_eq (a := (Value.ref I, [])) rfl ?_)
 refine wpAny_bind (wpAny_fieldsOf ho hd ?_)
 dsimp only [rawInt]
 refine wpAny_bind (wpAny_setEntries_of hos hds hf ?_)
 rw [if_neg (by rw [hn]; simp)]
 refine wpAny_bind (wpAny_seqItems hot hdt ?_)
 dsimp only
 rw [Int.toNat_natCast, hp]
 dsimp only
 refine wpAny_bind ?_
 unfold setNextDrawn
 refine wpAny_bind (wpAny_setState_of hos hds hf ?_)
 dsimp only
 rw [if_neg (by simp), Int.toNat_natCast, he]
 dsimp only
 refine wpAny_pure ?_
 refine wpAny_bind (wpAny_setField ho hd (by simp) ?_)
 refine wpAny_pure ⟨x, rfl, wpAny_pure (hQ _ ?_ (Heap.SameBut.update ..))⟩
 exact ⟨_, Heap.get?_update_self _ ho (Obj.isFreed_of_fields (Obj.data_mapFields hd _)), (Obj.cls_mapFields ..).trans hc, by
  rw [Obj.data_mapFields hd]; simp [rawInt]⟩
theorem next_endD {I T a : Addr} {i n ep : Nat} {es : Array (Int × Value)} {t : SetTable} {ps : Array Value} {Q : Option Value → Shared → Prop} (hh : A.handled = none) (hit : IsIt s.heap I (.ref T) i a n ep) (hS : SAt s.heap a es ep t) (hf : t.fits es.size = true) (hn : es.size = n)
  (hT : s.heap.IsTuple T ps) (hp : ps[i]? = none)
  (hQ : ∀ h', Heap.ExtBut I s.heap h' → Q none { s with heap := h' }) : wpAny (model prog w) A (pyNext (.ref I)) Q E s := by
 obtain ⟨o, ho, hc, hd⟩ := id hit
 obtain ⟨os, hos, hcs, hds⟩ := id hS
 obtain ⟨ot, hot, hct, nt, hdt⟩ := id hT
 unfold pyNext
 refine wpAny_bind (wpAny_attempt (wpAny_callSpecial?_slot (name := Str.ofString "__next__") hit.typeIs F.slot_next
  (wpAny_call_entry F.slot_next hit.typeIs F.entry_next ?_ (F.args_next _))))
 unfold Builtin.«set_iterator.__next__»
 refine wpAny_bind (wpAny_of_eq (a := (Value.ref I, [])) rfl ?_)
 refine wpAny_bind (wpAny_fieldsOf ho hd ?_)
 dsimp only [rawInt]
 refine wpAny_bind (wpAny_setEntries_of hos hds hf ?_)
 rw [if_neg (by rw [hn]; simp)]
 refine wpAny_bind (wpAny_seqItems hot hdt ?_)
 dsimp only
 rw [Int.toNat_natCast, hp]
 dsimp only
 refine wpAny_bind (wpAny_setField ho hd (by simp) ?_)
 have ho2 := Heap.get?_update_self (Obj.mapFields (·.setIfInBounds 0 (rawInt 0))) ho (Obj.isFreed_of_fields (Obj.data_mapFields hd _))
 refine wpAny_bind (wpAny_setField ho2 (Obj.data_mapFields hd _) (by simp) ?_)
 refine wpAny_bind ?_
 simp only [newExc, newTuple]
 refine wpAny_bind (wpAny_newObj_type ?_ (by size_fits))
 refine wpAny_bind (m := firstArgMember _ _) (wpAny_of_eq (a := Value.none) (by first | rfl | (simp only [firstArgMember]; rfl)) ?_)
 refine wpAny_newObj_type ?_ (by size_fits)
 simp only [raiseNew]
 refine wpAny_bind (wpAny_handled ?_)
 first | rw [show A.in1.handled = none from hh] | rw [hh]
 refine wpAny_bind (wpAny_pure (wpAny_throw ?_))
 refine wpAny_bind (wpAny_isInstance (T := "StopIteration") (b := true) ⟨_, Heap.get?_push_size _ rfl, rfl⟩ isSubtype_stop ?_)
 refine wpAny_pure (hQ _ (Heap.ExtBut.push (Heap.ExtBut.push ?_ _) _))
 exact fun b ob hb e => (Heap.get?_update_other _ _ (Ne.symm hb)).trans ((Heap.get?_update_other _ _ (Ne.symm hb)).trans e)
end
end M5
namespace M5
open PySem PySem.Spec PyProof.Rows
section
variable {prog : Program} {w : World} {A : Around} {E : Value → Shared → Prop} {s : Shared}
theorem iter_it {I a : Addr} {f : Value} {i n ep : Nat} {Q : Value → Shared → Prop} (hit : IsIt s.heap I f i a n ep) (h : Q (.ref I) s) : wpAny (model prog w) A (pyIter (.ref I)) Q E s := by
 refine wpAny_pyIter_slot hit.typeIs F.slot_iter (wpAny_call_entry F.slot_iter hit.typeIs F.entry_iter ?_ (F.args_iter _))
 show wpAny _ _ (ret (.ref I)) _ _ s
 exact wpAny_pure ⟨_, rfl, "set_iterator", _, hit.typeIs, F.slot_next.lookup, h⟩
theorem walksN {I a : Addr} {ep : Nat} {es : Array (Int × Value)} {t : SetTable} {ord : List Value} {sl : Nat → Nat} (hh : A.handled = none) (hne : a ≠ I) (hf : t.fits es.size = true) (hlen : ord.length = es.size)
  (hs : ∀ i x, ord[i]? = some x → ∀ {A' : Around} {s' : Shared} {Q' : Option (Value × Nat) → Shared → Prop} {E' : Value → Shared → Prop}, SAt s'.heap a es ep t → Q' (some (x, sl (i + 1))) s' → wpAny (model prog w) A' (setNext a (sl i) i ep) Q' E' s')
  (he : ∀ {A' : Around} {s' : Shared} {Q' : Option (Value × Nat) → Shared → Prop} {E' : Value → Shared → Prop}, SAt s'.heap a es ep t → Q' none s' → wpAny (model prog w) A' (setNext a (sl ord.length) ord.length ep) Q' E' s') :
  Walks prog w A I [I, a] [I] ord.length (fun i v => ord[i]? = some v) (fun i h => IsIt h I (rawInt (sl i)) i a es.size ep ∧ SAt h a es ep t) where
 sub := fun b hb => by simp at hb; simp [hb]
 frame := fun _ _ _ x hk => ⟨x.1.at fun o e => hk I (by simp) o e, x.2.at fun o e => hk a (by simp) o e⟩
 item := fun i s Q E hi x hQ => by
  have hx : ord[i]? = some ord[i] := List.getElem?_eq_getElem hi
  refine next_item x.1 x.2 hf rfl (hs i _ hx x.2) fun h' hit' hs' => ?_
  exact hQ _ h' s.toks hx ⟨hit', x.2.at fun o e => (hs'.2 a hne).trans e⟩ fun b o hb eo => hs'.extBut b o (fun z => hb (by simp [z])) eo
 done := fun s Q E x hQ => next_end hh x.1 x.2 hf rfl (he x.2) fun h' he' => hQ h' s.toks fun b o hb eo => he' b o (fun z => hb (by simp [z])) eo
 self := fun _ _ _ _ x hQ => iter_it x.1 hQ
theorem walksD {I T a : Addr} {ep : Nat} {es : Array (Int × Value)} {t : SetTable} {ps : List Nat} {ord : List Value} (hh : A.handled = none) (hne : a ≠ I) (hT : T ≠ I) (hf : t.fits es.size = true)
  (ho : ord.length = ps.length) (hs : ∀ i (h : i < ps.length) (h2 : i < ord.length), ∃ k, es[ps[i]]? = some (k, ord[i])) :
  Walks prog w A I [I, a, T] [I] ord.length (fun i v => ord[i]? = some v) (fun i h => IsIt h I (.ref T) i a es.size ep ∧ SAt h a es ep t ∧ h.IsTuple T (ps.map fun (i : Nat) => rawInt i).toArray) where
 sub := fun b hb => by simp at hb; simp [hb]
 frame := fun _ _ _ x hk => ⟨x.1.at fun o e => hk I (by simp) o e, x.2.1.at fun o e => hk a (by simp) o e, x.2.2.at fun o e => hk T (by simp) o e⟩
 item := fun i s Q E hi x hQ => by
  have hx : ord[i]? = some ord[i] := List.getElem?_eq_getElem hi
  have hi2 : i < ps.length := by omega
  obtain ⟨k, hk⟩ := hs i hi2 hi
  refine next_itemD (pl := ps[i]) (tk := 0) x.1 x.2.1 hf rfl x.2.2 (by simp [hi2, rawInt]) hk fun h' hit' hs' => ?_
  exact hQ _ h' s.toks hx ⟨hit', x.2.1.at fun o e => (hs'.2 a hne).trans e, x.2.2.at fun o e => (hs'.2 T hT).trans e⟩ fun b o hb eo => hs'.extBut b o (fun z => hb (by simp [z])) eo
 done := fun s Q E x hQ => next_endD hh x.1 x.2.1 hf rfl x.2.2 (by simp [ho]) fun h' he' => hQ h' s.toks fun b o hb eo => he' b o (fun z => hb (by simp [z])) eo
 self := fun _ _ _ _ x hQ => iter_it x.1 hQ
theorem by_text {Q : Bool → Shared → Prop} (h : Q (w.params.followText "set-order") s) : wpAny (model prog w) A setsByText Q E s := by
 unfold setsByText
 exact wpAny_bind (wpAny_askSetting (wpAny_pure h))
theorem nextA {a : Addr} {ep i : Nat} {es : Array (Int × Value)} {t : SetTable} {Q : Option (Value × Nat) → Shared → Prop} (hb : w.params.followText "set-order" = true) (hS : SAt s.heap a es ep t) (hf : t.fits es.size = true)
  (h : Q (((pickOrder (w.params.setOrder a ep) es)[i]?).map fun e => (e.2, 0)) s) : wpAny (model prog w) A (setNext a 0 i ep) Q E s := by
 obtain ⟨o, ho, hc, hd⟩ := hS
 unfold setNext
 refine wpAny_bind (wpAny_setState_of ho hd hf ?_)
 dsimp only
 refine wpAny_bind (by_text ?_)
 rw [if_pos hb]
 rw [if_neg (by simp)]
 refine wpAny_bind ?_
 unfold setWalk
 refine wpAny_bind (wpAny_setState_of ho hd hf ?_)
 dsimp only
 refine wpAny_bind (by_text ?_)
 rw [if_pos hb]
 refine wpAny_bind (wpAny_askSetting (wpAny_pure ?_))
 exact wpAny_pure h
theorem pull {α : Type} (es : Array α) (ps : List Nat) (h : ps.Perm (List.range es.size)) : ∃ l : List α, l.length = ps.length ∧ l.Perm es.toList ∧ ∀ i (h : i < ps.length) (h2 : i < l.length), es[ps[i]]? = some l[i] := by
 have all : ∀ p ∈ ps, p < es.size := fun p hp => List.mem_range.mp (h.mem_iff.mp hp)
 have key : ∀ qs : List Nat, (∀ p ∈ qs, p < es.size) → ∃ l : List α, l.length = qs.length ∧ l = qs.filterMap (fun i => es[i]?) ∧ ∀ i (h : i < qs.length) (h2 : i < l.length), es[qs[i]]? = some l[i] := by
  intro qs
  induction qs with
  | nil => exact fun _ => ⟨[], rfl, rfl, fun i h => by simp at h⟩
  | cons q r ih =>
   intro a1
   obtain ⟨l, e1, e2, e3⟩ := ih fun p hp => a1 p (List.mem_cons_of_mem _ hp)
   have hq := a1 q List.mem_cons_self
   refine ⟨es[q] :: l, by simp [e1], by rw [List.filterMap_cons, Array.getElem?_eq_getElem hq, e2], fun i h h2 => ?_⟩
   cases i with
   | zero => simp [hq]
   | succ i => exact e3 i (by simpa using h) (by simpa using h2)
 obtain ⟨l, e1, e2, e3⟩ := key ps all
 refine ⟨l, e1, ?_, e3⟩
 rw [e2, ← filterMap_getElem?_range es]
 exact h.filterMap _
end
end M5
namespace M5
open PySem PySem.Spec PyProof.Rows
section
variable {prog : Program} {w : World} {A : Around} {E : Value → Shared → Prop} {s : Shared}
end
end M5
namespace M5
open PySem PySem.Spec PyProof.Rows
namespace F
end F
section
variable {prog : Program} {w : World} {A : Around} {E : Value → Shared → Prop} {s : Shared}
end
end M5
namespace L2
open PySem PySem.Spec PyProof.Rows
theorem Inv.drw {X : Cx} {pins : List (Addr × Obj)} {σ : List (Option V)} {H : Hp} {s : Shared} (I : Inv X pins σ H s) (d : Drawn) : Inv X pins σ H { s with drawn := d } :=
 ⟨I.ok, I.os, I.bare, I.base, I.loc, I.cell, I.free, I.freeC, I.pin, I.hok, I.len⟩
section
variable {X : Cx} {e : Expr} {ta : TE} {p p2 pos pos2 : Pos}
end
end L2
namespace M
open PySem PySem.Spec PyProof.Rows L2
section
variable {K : PySem.W.Frag}
end
section
variable {X : Cx} {e o i value : Expr} {p p2 pos pos2 pos' pc pu : Pos}
theorem o_neg : Op1 X (unaryOp .USub) (fun x S Q => ∃ i, x = .int i ∧ Q (.dat (.int (-i))) S) := ⟨m1 un_neg fun x H Q h => by
 obtain ⟨w, d, S, Qa, ok, r1, ⟨i, rfl, q⟩, bk⟩ := h
 exact ⟨i, rep_int r1 rfl, bk.dat .refl ok .int q⟩⟩
end
end M
namespace M
open PySem PySem.Spec PyProof.Rows L2
section
variable {K : PySem.W.Frag}
noncomputable def sb (m : Nat) (e : D) : D → D
 | .loc n => if n = m then e else .loc n
 | d => d
end
section
variable {X : Cx} {e : Expr} {pos : Pos}
end
end M
namespace M6
open PySem PySem.Spec PyProof.Rows
mutual
noncomputable def okK : PyData → Bool
 | .int _ => true
 | .str x => (PyData.str x).canLay0
 | .tuple xs => okKs xs
 | _ => false
noncomputable def okKs : List PyData → Bool
 | [] => true
 | x :: xs => okK x && okKs xs
end
mutual
noncomputable def hashK (w : World) : PyData → Int
 | .int i => hashInt i
 | .str x => hashStr w x
 | .tuple xs => reduceHash (Builtin.Tuple.tupleHashOf (hashKs w xs))
 | _ => 0
noncomputable def hashKs (w : World) : List PyData → List Int
 | [] => []
 | x :: xs => hashK w x :: hashKs w xs
end
mutual
noncomputable def drK : PyData → Nat
 | .int _ => 1
 | .str _ => 1
 | .tuple xs => drKs xs + 1
 | _ => 0
noncomputable def drKs : List PyData → Nat
 | [] => 0
 | x :: xs => drK x + drKs xs
end
theorem hashKs_append (w : World) : ∀ a b, hashKs w (a ++ b) = hashKs w a ++ hashKs w b
 | [], b => rfl
 | x :: a, b => by simp only [List.cons_append, hashKs, hashKs_append w a b]
theorem drKs_append : ∀ a b, drKs (a ++ b) = drKs a + drKs b
 | [], b => by simp [drKs]
 | x :: a, b => by simp only [List.cons_append, drKs, drKs_append a b]; omega
theorem okKs_mem : ∀ {xs : List PyData}, okKs xs = true → ∀ x ∈ xs, okK x = true
 | [], _, x, hx => by simp at hx
 | y :: xs, h, x, hx => by
  simp only [okKs, Bool.and_eq_true] at h
  rcases List.mem_cons.mp hx with rfl | hx
  ·exact h.1
  ·exact okKs_mem h.2 x hx
theorem depth_mem : ∀ {xs : List PyData} {x : PyData}, x ∈ xs → x.depth ≤ PyData.depthAll xs
 | y :: xs, x, hx => by
  simp only [PyData.depthAll]
  rcases List.mem_cons.mp hx with rfl | hx
  ·omega
  ·have := depth_mem hx; omega
theorem depth_tuple (xs : List PyData) : (PyData.tuple xs).depth = PyData.depthAll xs + 1 := by
 simp only [PyData.depth]
section
variable {prog : Program} {w : World}
theorem typeIs_of {s : Shared} {a : Addr} {o : Obj} (ho : s.heap.get? a = some o) (hc : o.cls = Value.type "tuple") : s.TypeIs (.ref a) "tuple" := ⟨o, ho, hc⟩
theorem pyHash_data : ∀ (n : Nat) (d : PyData) {v : Value} {as : List Addr} {A : Around} {E : Value → Shared → Prop} {s : Shared} {Q : Int → Shared → Prop}, d.depth ≤ n → okK d = true → Reads s.heap v d as → A.units + n < cLine →
  Q (hashK w d) { s with toks := s.toks + drK d } → wpAny (model prog w) A (pyHash v) Q E s := by
 intro n
 induction n with
 | zero =>
  intro d v as A E s Q hd hk hr hu h
  cases hr with
  | int i t => exact wpAny_pyHash_int h
  | str x t => exact wpAny_pyHash_str h
  | tuple ho hc hd' hall => rw [depth_tuple] at hd; omega
  | none => simp [okK] at hk
  | bool b => simp [okK] at hk
  | list _ _ _ _ => simp [okK] at hk
  | dict _ _ _ _ _ => simp [okK] at hk
 | succ n ih =>
  intro d v as A E s Q hd hk hr hu h
  cases hr with
  | int i t => exact wpAny_pyHash_int h
  | str x t => exact wpAny_pyHash_str h
  | none => simp [okK] at hk
  | bool b => simp [okK] at hk
  | list _ _ _ _ => simp [okK] at hk
  | dict _ _ _ _ _ => simp [okK] at hk
  | @tuple a o vs m xs as ho hc hdat hall =>
   have hT := typeIs_of ho hc
   have hk : okKs xs = true := hk
   rw [depth_tuple] at hd
   show wpAny (model prog w) A (pyHashByItsType (.ref a)) Q E s
   refine W.pyHash_slot (T := "tuple") hT F.slot_tuple_hash F.entry_tuple_hash (F.args_tuple_hash_1 (.ref a)) (by decide) (.inr (by omega)) ?_
   show wpAny (model prog w) A.in1 (do
    let __do_lift ← Builtin.Tuple.tupleItemsOf (.ref a)
    let __s ← forIn __do_lift (#[] : Array Int) fun x __s => do
       let __do_lift ← pyHash x
       pure (ForInStep.yield (__s.push __do_lift))
    retInt (Builtin.Tuple.tupleHashOf __s.toList)) _ E s
   refine wpAny_bind (wpAny_tupleItemsOf ho hdat (wpAny_bind ?_))
   rw [← Array.forIn_toList]
   refine wpAny_forIn_list _ (fun rest b s' => ∃ don left as', xs = don ++ left ∧ ReadsAll s.heap rest left as' ∧ b.toList = hashKs w don ∧ s' = { s with toks := s.toks + drKs don }) _ ?_ ?_ vs.toList #[] ⟨[], xs, _, rfl, hall, rfl, rfl⟩
   ·rintro x rest b s' ⟨don, left, as', rfl, hl, hb, rfl⟩
    cases hl with
    | @cons _ _ d' ds as1 bs hx hrest =>
     have hm : d' ∈ don ++ d' :: ds := by simp
     refine wpAny_bind (ih d' (as := as1) (s := { s with toks := s.toks + drKs don }) (by have := depth_mem hm; omega) (okKs_mem hk d' hm) hx (by show A.units + 1 + n < cLine; omega) ?_)
     refine wpAny_pure ⟨don ++ [d'], ds, bs, by simp, hrest, ?_, ?_⟩
     ·rw [Array.toList_push, hb, hashKs_append]; rfl
     ·rw [drKs_append]; simp only [drKs, Nat.add_zero, Nat.add_assoc]
   ·rintro b s' ⟨don, left, as', rfl, hl, hb, rfl⟩
    cases hl
    rw [List.append_nil] at h
    rw [hb]
    refine wpAny_mono (wpAny_ret_mkInt (Q := fun v s' => ∃ n t, v = Value.int n t ∧ Q (reduceHash n) s') ⟨_, _, rfl, ?_⟩) (fun fin s' => ?_) (fun _ _ z => z)
    ·have h : Q (reduceHash (Builtin.Tuple.tupleHashOf (hashKs w don))) { s with toks := s.toks + (drKs don + 1) } := h
     exact h
    ·rintro ⟨v, rfl, n, t, rfl, q⟩
     exact ⟨n, t, rfl, q⟩
theorem quiet_data : ∀ (n : Nat) (d : PyData) {v : Value} {as : List Addr} {A : Around} {E : Value → Shared → Prop} {s : Shared} {Q : Bool → Shared → Prop}, d.depth ≤ n → okK d = true → Reads s.heap v d as → Q true s → wpAny (model prog w) A (eqIsQuiet n v) Q E s := by
 intro n
 induction n with
 | zero =>
  intro d v as A E s Q hd hk hr h
  cases hr with
  | int i t => rw [eqIsQuiet_byValue 0 rfl]; exact wpAny_pure h
  | str x t => rw [eqIsQuiet_byValue 0 rfl]; exact wpAny_pure h
  | tuple ho hc hd' hall => rw [depth_tuple] at hd; omega
  | none => simp [okK] at hk
  | bool b => simp [okK] at hk
  | list _ _ _ _ => simp [okK] at hk
  | dict _ _ _ _ _ => simp [okK] at hk
 | succ n ih =>
  intro d v as A E s Q hd hk hr h
  cases hr with
  | int i t => rw [eqIsQuiet_byValue _ rfl]; exact wpAny_pure h
  | str x t => rw [eqIsQuiet_byValue _ rfl]; exact wpAny_pure h
  | none => simp [okK] at hk
  | bool b => simp [okK] at hk
  | list _ _ _ _ => simp [okK] at hk
  | dict _ _ _ _ _ => simp [okK] at hk
  | @tuple a o vs m xs as ho hc hdat hall =>
   have hT := typeIs_of ho hc
   have hk : okKs xs = true := hk
   rw [depth_tuple] at hd
   rw [eqIsQuiet.eq_def]
   refine wpAny_bind (wpAny_specialOf hT F.slot_tuple_eq.lookup ?_)
   refine wpAny_bind (wpAny_isInstance hT isSubtype_tuple_tuple ?_)
   rw [if_neg (by decide)]
   refine wpAny_bind (wpAny_seqItems ho hdat (wpAny_bind ?_))
   show wpAny (model prog w) A (forIn vs _ _) _ E s
   rw [← Array.forIn_toList]
   refine wpAny_forIn_list _ (fun rest r s' => r.1 = none ∧ s' = s ∧ ∃ left as', ReadsAll s.heap rest left as' ∧ ∀ x ∈ left, x ∈ xs) _ ?_ ?_ vs.toList (none, ()) ⟨rfl, rfl, xs, _, hall, fun _ hx => hx⟩
   ·rintro y rest ⟨r1, r2⟩ s' ⟨hr, rfl, left, as', hl, hsub⟩
    cases hl with
    | @cons _ _ d' ds as1 bs hx hrest =>
     have hm : d' ∈ xs := hsub d' (by simp)
     refine wpAny_bind (ih d' (as := as1) (by have := depth_mem hm; omega) (okKs_mem hk d' hm) hx ?_)
     exact wpAny_pure ⟨rfl, rfl, ds, bs, hrest, fun x hx => hsub x (List.mem_cons_of_mem _ hx)⟩
   ·rintro ⟨r1, r2⟩ s' ⟨hr, rfl, _⟩
    have hr : r1 = none := hr
    subst hr
    exact wpAny_pure h
end
noncomputable instance : DecidableEq PyData := fun _ _ => Classical.propDecidable _
mutual
theorem eqv_dec : ∀ x y : PyData, okK x = true → okK y = true → PyData.eqv x y = decide (x = y)
 | .int i, .int j, _, _ => by
  simp only [PyData.eqv]
  by_cases h : i = j
  ·subst h; simp
  ·have : ¬ PyData.int i = .int j := fun e => h (by injection e)
   rw [decide_eq_false this]; simpa using h
 | .str i, .str j, _, _ => by
  simp only [PyData.eqv]
  by_cases h : i = j
  ·subst h; simp
  ·have : ¬ PyData.str i = .str j := fun e => h (by injection e)
   rw [decide_eq_false this]; simpa using h
 | .tuple xs, .tuple ys, hx, hy => by
  simp only [PyData.eqv]
  rw [eqvs_dec xs ys hx hy]
  by_cases h : xs = ys
  ·subst h; simp
  ·have : ¬ PyData.tuple xs = .tuple ys := fun e => h (by injection e)
   rw [decide_eq_false this, decide_eq_false h]
 | .int i, .str j, _, _ => by rw [decide_eq_false (fun e => nomatch e)]; rfl
 | .int i, .tuple j, _, _ => by rw [decide_eq_false (fun e => nomatch e)]; rfl
 | .str i, .int j, _, _ => by rw [decide_eq_false (fun e => nomatch e)]; rfl
 | .str i, .tuple j, _, _ => by rw [decide_eq_false (fun e => nomatch e)]; rfl
 | .tuple i, .int j, _, _ => by rw [decide_eq_false (fun e => nomatch e)]; rfl
 | .tuple i, .str j, _, _ => by rw [decide_eq_false (fun e => nomatch e)]; rfl
 | .none, _, h, _ => by simp [okK] at h
 | .bool _, _, h, _ => by simp [okK] at h
 | .list _, _, h, _ => by simp [okK] at h
 | .dict _, _, h, _ => by simp [okK] at h
 | _, .none, _, h => by simp [okK] at h
 | _, .bool _, _, h => by simp [okK] at h
 | _, .list _, _, h => by simp [okK] at h
 | _, .dict _, _, h => by simp [okK] at h
theorem eqvs_dec : ∀ x y : List PyData, okKs x = true → okKs y = true → PyData.eqvAll x y = decide (x = y)
 | [], [], _, _ => by simp [PyData.eqvAll]
 | [], y :: ys, _, _ => by simp [PyData.eqvAll]
 | x :: xs, [], _, _ => by simp [PyData.eqvAll]
 | x :: xs, y :: ys, hx, hy => by
  simp only [okKs, Bool.and_eq_true] at hx hy
  simp only [PyData.eqvAll]
  rw [eqv_dec x y hx.1 hy.1, eqvs_dec xs ys hx.2 hy.2]
  by_cases h : x = y <;> by_cases g : xs = ys <;> simp [h, g]
end
mutual
theorem lay_ok : ∀ x : PyData, okK x = true → x.canLay0 = true
 | .int i, _ => rfl
 | .str i, h => h
 | .tuple xs, h => by simp only [PyData.canLay0]; exact lays_ok xs h
 | .none, h => by simp [okK] at h
 | .bool _, h => by simp [okK] at h
 | .list _, h => by simp [okK] at h
 | .dict _, h => by simp [okK] at h
theorem lays_ok : ∀ x : List PyData, okKs x = true → PyData.canLayAll0 x = true
 | [], _ => rfl
 | x :: xs, h => by
  simp only [okKs, Bool.and_eq_true] at h
  simp only [PyData.canLayAll0, lay_ok x h.1, lays_ok xs h.2, Bool.and_self]
end
noncomputable def isKey (h : Heap) (d : PyData) (a : Addr) : Prop := okK d = true ∧ d.depth ≤ 6 ∧ ∃ as, Reads h (.ref a) d as
mutual
theorem reads_but {h h' : Heap} {b : Addr} {ob : Obj} {es : Array DictEntry} {ep : Nat} (hb : h.get? b = some ob) (hd : ob.data = Data.dict es ep) (sm : Heap.SameBut b h h') : ∀ (d : PyData) {v : Value} {as : List Addr}, okK d = true → Reads h v d as → Reads h' v d as
 | .int i, v, as, hk, hr => by cases hr; exact .int ..
 | .str i, v, as, hk, hr => by cases hr; exact .str ..
 | .tuple xs, v, as, hk, hr => by
  cases hr with
  | @tuple a o vs m _ _ ho hc hdat hall =>
   have hne : a ≠ b := fun e => by
    subst e
    rw [hb] at ho; cases ho
    rw [hd] at hdat; cases hdat
   exact .tuple (by rw [sm.2 a hne]; exact ho) hc hdat (readss_but hb hd sm xs hk hall)
 | .none, _, _, h, _ => by simp [okK] at h
 | .bool _, _, _, h, _ => by simp [okK] at h
 | .list _, _, _, h, _ => by simp [okK] at h
 | .dict _, _, _, h, _ => by simp [okK] at h
theorem readss_but {h h' : Heap} {b : Addr} {ob : Obj} {es : Array DictEntry} {ep : Nat} (hb : h.get? b = some ob) (hd : ob.data = Data.dict es ep) (sm : Heap.SameBut b h h') : ∀ (ds : List PyData) {vs : List Value} {as : List Addr}, okKs ds = true → ReadsAll h vs ds as → ReadsAll h' vs ds as
 | [], vs, as, hk, hr => by cases hr; exact .nil
 | d :: ds, vs, as, hk, hr => by
  simp only [okKs, Bool.and_eq_true] at hk
  cases hr with
  | cons hx hr => exact .cons (reads_but hb hd sm d hk.1 hx) (readss_but hb hd sm ds hk.2 hr)
end
noncomputable def dataKind (prog : Program) (w : World) : HeapKind prog w PyData where
 is := isKey
 hash := hashK w
 draws := drK
 room := fun A => A.units + 10 < cLine
 inj := fun ⟨_, _, as, hx⟩ ⟨_, _, bs, hy⟩ => (Reads.unique hx _ _ hy).1
 keeps := fun ⟨h1, h2, as, hr⟩ hb hd sm => ⟨h1, h2, as, reads_but hb hd sm _ h1 hr⟩
 pyHash := fun hu ⟨h1, h2, as, hr⟩ h => pyHash_data 6 _ h2 h1 hr (by omega) h
 eqBool := fun {A E s x y a b Q} hu ⟨h1, h2, as, hr⟩ ⟨g1, g2, bs, gr⟩ h => SeqAt.eqBoolOverData prog w A E s _ _ _ _ _ _ Q hr gr (lay_ok _ h1) (lay_ok _ g1) (by omega) (by
  rw [eqv_dec _ _ h1 g1]
  exact h)
 quiet := fun ⟨h1, h2, as, hr⟩ h => quiet_data 8 _ (by omega) h1 hr h
end M6
namespace M6
open PySem PySem.Spec PyProof.Rows
noncomputable def RawD (h : Heap) (d : Addr) (es : Array DictEntry) (ep : Nat) : Prop := ∃ o, h.get? d = some o ∧ o.ExactDict ∧ o.data = Data.dict es ep
theorem RawD.at {h h' : Heap} {d : Addr} {es : Array DictEntry} {ep : Nat} (x : RawD h d es ep) (e : ∀ o, h.get? d = some o → h'.get? d = some o) : RawD h' d es ep := let ⟨o, ho, r⟩ := x; ⟨o, e o ho, r⟩
section
variable {prog : Program} {w : World} {A : Around} {E : Value → Shared → Prop} {s : Shared}
theorem RawD.typeIs {d : Addr} {es : Array DictEntry} {ep : Nat} (x : RawD s.heap d es ep) : s.TypeIs (.ref d) "dict" := let ⟨o, ho, hc, _⟩ := x; ⟨o, ho, hc.1⟩
theorem nextK {it d : Addr} {i ep : Nat} {es : Array DictEntry} {e : DictEntry} {Q : Option Value → Shared → Prop} (hit : s.heap.IsKeyIter it d i es.size ep) (hD : RawD s.heap d es ep) (hx : es[i]? = some e)
  (hQ : ∀ h', h'.IsKeyIter it d (i + 1) es.size ep → Heap.SameBut it s.heap h' → Q (some e.key) { s with heap := h' }) : wpAny (model prog w) A (pyNext (.ref it)) Q E s := by
 obtain ⟨o, ho, hc, hd⟩ := id hit
 obtain ⟨od, hod, hcd, hdd⟩ := id hD
 have hT := Heap.IsKeyIter.typeIs hit
 unfold pyNext
 refine wpAny_bind (wpAny_attempt (wpAny_callSpecial?_slot (name := Str.ofString "__next__") hT F.slot_dict_keyiterator_next
  (wpAny_call_entry F.slot_dict_keyiterator_next hT F.entry_dict_keyiterator_next ?_ (F.args_dict_keyiterator_next_1 _))))
 unfold Builtin.«dict_keyiterator.__next__»
 refine wpAny_bind (wpAny_pure ?_)
 refine wpAny_bind ?_
 refine wpAny_bind ?_
 refine wpAny_bind (wpAny_typeNameOfWhole_keyiter hT (wpAny_pure ?_))
 have hown : Builtin.Dict_items.ownsTuple "dict_keyiterator" = false := by decide +kernel
 refine wpAny_bind (wpAny_fieldsOf ho hd ?_)
 simp only [hown, Bool.false_eq_true, if_false, List.drop_zero]
 show wpAny (model prog w) A.in1 (if (Value.ref d == Value.none) = true then _ else _) _ _ s
 rw [if_neg (by exact Bool.false_ne_true)]
 refine wpAny_bind (wpAny_pure ?_)
 refine wpAny_bind (wpAny_dictEntries hod hdd ?_)
 rw [if_neg (by simp)]
 refine wpAny_bind (wpAny_pure ?_)
 refine wpAny_bind (wpAny_dictEpoch hod hdd ?_)
 rw [if_neg (by simp)]
 refine wpAny_pure ?_
 dsimp only
 rw [if_neg (by omega), show ((i : Int)).toNat = i from Int.toNat_natCast i, hx]
 dsimp only
 refine wpAny_bind (?_)
 refine wpAny_bind (wpAny_typeNameOfWhole_keyiter hT (wpAny_pure ?_))
 simp only [hown, Bool.false_eq_true, if_false]
 refine wpAny_bind (wpAny_isOneOf_keyiter hT ?_)
 refine wpAny_bind (wpAny_setField ho hd (by simp) ?_)
 have e1 : ∀ b : Bool, b = false → (if b = true then (i : Int) - 1 else (i : Int) + 1) = ((i + 1 : Nat) : Int) := fun b hb => by subst hb; simp
 rw [e1 _ (by decide +kernel)]
 refine wpAny_bind (wpAny_holding ?_)
 have ho2 := Heap.get?_update_self (Obj.mapFields (·.setIfInBounds (0 + 1) (rawInt ((i + 1 : Nat) : Int)))) ho (Obj.isFreed_of_fields (Obj.data_mapFields hd _))
 have hc2 := (Obj.cls_mapFields o (·.setIfInBounds (0 + 1) (rawInt ((i + 1 : Nat) : Int)))).trans hc
 refine wpAny_bind (wpAny_isOneOf_keyiter ⟨_, ho2, hc2⟩ ?_)
 rw [if_pos (by decide +kernel)]
 refine wpAny_pure (wpAny_pure ⟨e.key, rfl, wpAny_pure (hQ _ ?_ (Heap.SameBut.update ..))⟩)
 exact ⟨_, ho2, hc2, by rw [Obj.data_mapFields hd]; simp [rawInt]⟩
theorem endK {it d : Addr} {ep : Nat} {es : Array DictEntry} {Q : Option Value → Shared → Prop} (hh : A.handled = none) (hit : s.heap.IsKeyIter it d es.size es.size ep) (hD : RawD s.heap d es ep)
  (hQ : ∀ h', Heap.ExtBut it s.heap h' → Q none { s with heap := h' }) : wpAny (model prog w) A (pyNext (.ref it)) Q E s := by
 obtain ⟨o, ho, hc, hd⟩ := id hit
 obtain ⟨od, hod, hcd, hdd⟩ := id hD
 have hT := Heap.IsKeyIter.typeIs hit
 unfold pyNext
 refine wpAny_bind (wpAny_attempt (wpAny_callSpecial?_slot (name := Str.ofString "__next__") hT F.slot_dict_keyiterator_next
  (wpAny_call_entry F.slot_dict_keyiterator_next hT F.entry_dict_keyiterator_next ?_ (F.args_dict_keyiterator_next_1 _))))
 unfold Builtin.«dict_keyiterator.__next__»
 refine wpAny_bind (wpAny_pure ?_)
 refine wpAny_bind ?_
 refine wpAny_bind ?_
 refine wpAny_bind (wpAny_typeNameOfWhole_keyiter hT (wpAny_pure ?_))
 have hown : Builtin.Dict_items.ownsTuple "dict_keyiterator" = false := by decide +kernel
 refine wpAny_bind (wpAny_fieldsOf ho hd ?_)
 simp only [hown, Bool.false_eq_true, if_false, List.drop_zero]
 show wpAny (model prog w) A.in1 (if (Value.ref d == Value.none) = true then _ else _) _ _ s
 rw [if_neg (by exact Bool.false_ne_true)]
 refine wpAny_bind (wpAny_pure ?_)
 refine wpAny_bind (wpAny_dictEntries hod hdd ?_)
 rw [if_neg (by simp)]
 refine wpAny_bind (wpAny_pure ?_)
 refine wpAny_bind (wpAny_dictEpoch hod hdd ?_)
 rw [if_neg (by simp)]
 refine wpAny_pure ?_
 dsimp only
 rw [if_neg (by omega), show ((es.size : Int)).toNat = es.size from Int.toNat_natCast _, Array.getElem?_eq_none (Nat.le_refl _)]
 dsimp only
 refine wpAny_bind ?_
 refine wpAny_bind (wpAny_typeNameOfWhole_keyiter hT (wpAny_pure ?_))
 simp only [hown, Bool.false_eq_true, if_false]
 refine wpAny_bind (wpAny_setField ho hd (by simp) ?_)
 refine wpAny_bind ?_
 simp only [newExc, newTuple]
 refine wpAny_bind (wpAny_newObj_type ?_ (by size_fits))
 refine wpAny_bind (m := firstArgMember _ _) (wpAny_of_eq (a := Value.none) (by first | rfl | (simp only [firstArgMember]; rfl)) ?_)
 refine wpAny_newObj_type ?_ (by size_fits)
 simp only [raiseNew]
 refine wpAny_bind (wpAny_handled ?_)
 first | rw [show A.in1.handled = none from hh] | rw [hh]
 refine wpAny_bind (wpAny_pure (wpAny_throw ?_))
 refine wpAny_bind (wpAny_isInstance (T := "StopIteration") (b := true) ⟨_, Heap.get?_push_size _ rfl, rfl⟩ isSubtype_stop ?_)
 refine wpAny_pure (hQ _ (Heap.ExtBut.push (Heap.ExtBut.push ?_ _) _))
 exact fun b ob hb e => (Heap.get?_update_other _ _ (Ne.symm hb)).trans e
theorem iterK {d : Addr} {ep : Nat} {es : Array DictEntry} {Q : Value → Shared → Prop} (hd : (d == sysModules) = false) (hD : RawD s.heap d es ep)
  (hQ : Q (.ref s.heap.objs.size) { s with heap := s.heap.push { cls := .type "dict_keyiterator", data := .fields #[.ref d, .int 0 0, .int es.size 0, .int ep 0] } }) : wpAny (model prog w) A (pyIter (.ref d)) Q E s := by
 obtain ⟨od, hod, hcd, hdd⟩ := id hD
 have hT := hD.typeIs
 refine wpAny_pyIter_slot hT F.slot_dict_iter (wpAny_call_entry F.slot_dict_iter hT F.entry_dict_iter ?_ (F.args_dict_iter_1 _))
 unfold Builtin.«dict.__iter__»
 refine wpAny_bind (wpAny_bind (wpAny_notOrdered_dict hT (wpAny_pure ?_)))
 refine wpAny_bind (wpAny_pure ?_)
 unfold Builtin.Dict.showsAll
 rw [if_neg (by rw [hd]; exact Bool.false_ne_true)]
 refine wpAny_bind (wpAny_pure ?_)
 refine wpAny_bind (wpAny_dictEntries hod hdd ?_)
 refine wpAny_bind (wpAny_dictEpoch hod hdd ?_)
 refine wpAny_bind (wpAny_newObj_type ?_ (by size_fits))
 exact wpAny_pure ⟨_, rfl, "dict_keyiterator", _, ⟨_, Heap.get?_push_size _ rfl, rfl⟩, F.slot_dict_keyiterator_next.lookup, hQ⟩
theorem walksK (hh : A.handled = none) (I d : Addr) (hne : d ≠ I) (es : Array DictEntry) (ep : Nat) :
  Walks prog w A I [I, d] [I] es.size (fun i v => ∃ e, es[i]? = some e ∧ v = e.key) (fun i h => h.IsKeyIter I d i es.size ep ∧ RawD h d es ep) where
 sub := fun b hb => by simp only [List.mem_singleton] at hb; simp [hb]
 frame := fun i h h' st hk => ⟨Heap.IsKeyIter.at st.1 fun o e => hk I (by simp) o e, st.2.at fun o e => hk d (by simp) o e⟩
 item := fun i s Q E hi st hQ => by
  have hx : es[i]? = some es[i] := Array.getElem?_eq_getElem hi
  refine nextK st.1 st.2 hx fun h' hit' hs' => hQ es[i].key h' s.toks ⟨es[i], hx, rfl⟩ ⟨hit', st.2.at fun o e => by rw [hs'.2 d hne]; exact e⟩ fun b o hb e => ?_
  rw [hs'.2 b (fun z => hb (by simp [z]))]; exact e
 done := fun s Q E st hQ => endK hh st.1 st.2 fun h' he => hQ h' s.toks fun b o hb e => he b o (fun z => hb (by simp [z])) e
 self := fun i s Q E st hQ => wpAny_pyIter_keyiter st.1 hQ
theorem srcK {d : Addr} {es : Array DictEntry} {ep : Nat} (lo : (d == sysModules) = false) : W.KdlSrc prog w "dict" d d es.size (fun i v => ∃ e, es[i]? = some e ∧ v = e.key) (fun h => RawD h d es ep) where
 type := fun s hm => hm.typeIs
 there := fun h hm => by obtain ⟨o, ho, _⟩ := hm; exact ⟨Heap.lt_size ho, Heap.lt_size ho⟩
 keep := fun h h' hm hk => hm.at fun o e => hk d (.inl rfl) o e
 notList := by decide
 notTuple := by decide
 hint := fun A E s Q hm hq => W.kdl_hint_dict hm.typeIs hq
 iter := fun A s hh hm => by
  have hlt : d < s.heap.objs.size := by obtain ⟨o, ho, _⟩ := hm; exact Heap.lt_size ho
  exact ⟨_, _, fun E Q hq => iterK lo hm hq, walksK hh s.heap.objs.size d (Nat.ne_of_lt hlt) es ep, ⟨_, Heap.get?_push_size _ rfl, rfl, rfl⟩, hm.at fun o e => Heap.get?_push_of_some _ e⟩
theorem collectK {d : Addr} {es : Array DictEntry} {ep : Nat} {R : List Value → Shared → Prop} (lo : (d == sysModules) = false) (hh : A.handled = none) (hD : RawD s.heap d es ep) (hl : es.size ≤ sizeLine)
  (h : ∀ (h' : Heap) (tk : Nat), (∀ b o, s.heap.get? b = some o → h'.get? b = some o) → R (es.toList.map (·.key)) { s with heap := h', toks := tk }) : wpAny (model prog w) A (collect (.ref d)) R E s := by
 refine W.kdu_collect (srcK lo) hh hD hl fun h' tk acc kp hacc => ?_
 have : acc.toList = es.toList.map (·.key) := by
  refine List.ext_getElem? fun i => ?_
  rw [Array.getElem?_toList, List.getElem?_map, Array.getElem?_toList]
  cases z : acc[i]? with
  | some v =>
   obtain ⟨e, he, rfl⟩ := hacc.2 i v z
   rw [he]; rfl
  | none =>
   have : es.size ≤ i := by rw [← hacc.1]; exact Array.getElem?_eq_none_iff.mp z
   rw [Array.getElem?_eq_none this]; rfl
 rw [this]
 exact h h' tk kp
end
end M6
namespace M6
open PySem PySem.Spec PyProof.Rows
mutual
noncomputable def ltK : PyData → PyData → Bool
 | .int i, .int j => decide (i < j)
 | .str i, .str j => decide (i.cps.toList < j.cps.toList)
 | .tuple xs, .tuple ys => ltKs xs ys
 | _, _ => false
noncomputable def ltKs : List PyData → List PyData → Bool
 | [], [] => false
 | [], _ :: _ => true
 | _ :: _, [] => false
 | x :: xs, y :: ys => if x = y then ltKs xs ys else ltK x y
end
mutual
noncomputable def cmpK : PyData → PyData → Bool
 | .int _, .int _ => true
 | .str _, .str _ => true
 | .tuple xs, .tuple ys => cmpKs xs ys
 | _, _ => false
noncomputable def cmpKs : List PyData → List PyData → Bool
 | x :: xs, y :: ys => cmpK x y && cmpKs xs ys
 | _, _ => true
end
theorem reads_len {h : Heap} : ∀ {ds : List PyData} {vs : List Value} {as : List Addr}, ReadsAll h vs ds as → vs.length = ds.length
 | [], _, _, h => by cases h; rfl
 | _ :: _, _, _, h => by cases h with | cons _ r => simp [reads_len r]
section
variable {prog : Program} {w : World}
theorem lt_data : ∀ (n : Nat) (x y : PyData) {u v : Value} {as bs : List Addr} {A : Around} {E : Value → Shared → Prop} {s : Shared} {Q : Value → Shared → Prop}, x.depth ≤ n → y.depth ≤ n → okK x = true → okK y = true → cmpK x y = true → Reads s.heap u x as → Reads s.heap v y bs → A.units + n < cLine →
  Q (.bool (ltK x y)) s → wpAny (model prog w) A (compareOp .Lt u v) Q E s := by
 intro n
 induction n with
 | zero =>
  intro x y u v as bs A E s Q hx hy kx ky hc hr gr hu h
  cases hr with
  | int i t =>
   cases gr with
   | int j t' => exact wpAny_lt_int h
   | _ => simp [cmpK] at hc
  | str i t =>
   cases gr with
   | str j t' => exact lt_str h
   | _ => simp [cmpK] at hc
  | tuple ho hc hd' hall => rw [depth_tuple] at hx; omega
  | none => simp [okK] at kx
  | bool b => simp [okK] at kx
  | list _ _ _ _ => simp [okK] at kx
  | dict _ _ _ _ _ => simp [okK] at kx
 | succ n ih =>
  intro x y u v as bs A E s Q hx hy kx ky hc hr gr hu h
  cases hr with
  | int i t =>
   cases gr with
   | int j t' => exact wpAny_lt_int h
   | _ => simp [cmpK] at hc
  | str i t =>
   cases gr with
   | str j t' => exact lt_str h
   | _ => simp [cmpK] at hc
  | none => simp [okK] at kx
  | bool b => simp [okK] at kx
  | list _ _ _ _ => simp [okK] at kx
  | dict _ _ _ _ _ => simp [okK] at kx
  | @tuple a o us m xs as ho hcl hdat hall =>
   cases gr with
   | @tuple b o2 vs m2 ys bs ho2 hcl2 hdat2 hall2 =>
    have hT := typeIs_of ho hcl
    have hT2 := typeIs_of ho2 hcl2
    rw [depth_tuple] at hx hy
    have kx : okKs xs = true := kx
    have ky : okKs ys = true := ky
    have hc : cmpKs xs ys = true := hc
    show wpAny (model prog w) A (richCompare .Lt (.ref a) (.ref b)) Q E s
    refine wpAny_richCompare_same_room hT hT2 F.slot_tuple_lt ?_ (by omega)
    refine wpAny_call_entry F.slot_tuple_lt hT F.entry_tuple_lt ?_ (F.args_tuple_lt_2 _ _)
    unfold Builtin.«tuple.__lt__»
    refine wpAny_bind (wpAny_pure ?_)
    refine wpAny_bind (wpAny_isInstance hT2 isSubtype_tuple_tuple ?_)
    rw [if_neg (by decide)]
    refine wpAny_bind (wpAny_tupleItemsOf ho hdat (wpAny_bind (wpAny_tupleItemsOf ho2 hdat2 (wpAny_bind ?_))))
    refine wpAny_forIn_list _ (fun rest r s' => r.1 = none ∧ s' = s ∧ ∃ lx ly lu lv as' bs', rest = lu.zip lv ∧ ReadsAll s.heap lu lx as' ∧ ReadsAll s.heap lv ly bs' ∧ ltKs xs ys = ltKs lx ly ∧ (∀ z ∈ lx, z ∈ xs) ∧ (∀ z ∈ ly, z ∈ ys) ∧ cmpKs lx ly = true ∧ us.size + ly.length = vs.size + lx.length) _ ?_ ?_ (us.toList.zip vs.toList) (none, ())
     ⟨rfl, rfl, xs, ys, us.toList, vs.toList, _, _, rfl, hall, hall2, rfl, fun _ z => z, fun _ z => z, hc, by
      have h1 := reads_len hall
      have h2 := reads_len hall2
      rw [Array.length_toList] at h1 h2
      omega⟩
    ·rintro ⟨p, q⟩ rest ⟨r1, r2⟩ s' ⟨hr, rfl, lx, ly, lu, lv, as', bs', hz, h1, h2, hl, m1, m2, hcc, hsz⟩
     cases h1 with
     | nil => simp at hz
     | @cons _ _ d1 ds1 a1 b1 g1 t1 =>
      cases h2 with
      | nil => simp at hz
      | @cons _ _ d2 ds2 a2 b2 g2 t2 =>
       rw [List.zip_cons_cons] at hz
       injection hz with e1 e2
       injection e1 with e3 e4
       subst e3; subst e4; subst e2
       have n1 := m1 d1 (by simp)
       have n2 := m2 d2 (by simp)
       have k1 := okKs_mem kx d1 n1
       have k2 := okKs_mem ky d2 n2
       have dd1 := depth_mem n1
       have dd2 := depth_mem n2
       simp only [cmpKs, Bool.and_eq_true] at hcc
       dsimp only
       refine wpAny_bind (SeqAt.eqBoolOverData prog w _ _ _ _ _ _ _ _ _ _ g1 g2 (lay_ok _ k1) (lay_ok _ k2) (by show A.units + 1 + _ < cLine; omega) ?_)
       rw [eqv_dec _ _ k1 k2]
       by_cases he : d1 = d2
       ·rw [decide_eq_true he]
        refine wpAny_pure ⟨rfl, rfl, ds1, ds2, _, _, _, _, rfl, t1, t2, ?_, fun z hz => m1 z (List.mem_cons_of_mem _ hz), fun z hz => m2 z (List.mem_cons_of_mem _ hz), hcc.2, by simp only [List.length_cons] at hsz; omega⟩
        rw [hl]
        simp only [ltKs]
        rw [if_pos he]
       ·rw [decide_eq_false he]
        have hl2 : ltKs xs ys = ltK d1 d2 := by
         rw [hl]
         simp only [ltKs]
         rw [if_neg he]
        refine wpAny_bind (wpAny_rule ?_)
        refine wpAny_bind (ih d1 d2 (u := p) (v := q) (A := A.in1) (by omega) (by omega) k1 k2 hcc.1 g1 g2 (by show A.units + 1 + n < cLine; omega) ?_)
        refine wpAny_bind (wpAny_pure (wpAny_pure ?_))
        refine wpAny_pure ⟨_, rfl, (fun z => by cases z), ?_⟩
        rw [← hl2]; exact h
    ·rintro ⟨r1, r2⟩ s' ⟨hr, rfl, lx, ly, lu, lv, as', bs', hz, h1, h2, hl, m1, m2, hcc, hsz⟩
     have hr : r1 = none := hr
     subst hr
     refine wpAny_pure ⟨_, rfl, (fun z => by cases z), ?_⟩
     have hfin : decide (us.size < vs.size) = ltKs xs ys := by
      rw [hl]
      cases h1 with
      | nil =>
       cases ly with
       | nil => simp only [ltKs, List.length_nil] at hsz ⊢; exact decide_eq_false (by omega)
       | cons _ _ => simp only [ltKs, List.length_cons, List.length_nil] at hsz ⊢; exact decide_eq_true (by omega)
      | cons g1 t1 =>
       cases h2 with
       | nil => simp only [ltKs, List.length_cons, List.length_nil] at hsz ⊢; exact decide_eq_false (by omega)
       | cons g2 t2 => simp at hz
     show Q (.bool (decide (us.size < vs.size))) s'
     rw [hfin]; exact h
   | _ => simp [cmpK] at hc
theorem one_int {A : Around} {E : Value → Shared → Prop} {s : Shared} {i j : Int} {t u : Tok} {Q : Bool → Shared → Prop} (h : Q (decide (i < j)) s) : wpAny (model prog w) A (PyProof.Rows.oneLt' true (.int i t) (.int j u)) Q E s := W.kat_lt_int h
theorem one_data {A : Around} {E : Value → Shared → Prop} {s : Shared} {x y : PyData} {u v : Value} {as bs : List Addr} {Q : Bool → Shared → Prop} (n : Nat) (hx : x.depth ≤ n) (hy : y.depth ≤ n) (kx : okK x = true) (ky : okK y = true) (hc : cmpK x y = true) (hr : Reads s.heap u x as) (gr : Reads s.heap v y bs) (hu : A.units + n < cLine)
  (h : Q (ltK x y) s) : wpAny (model prog w) A (PyProof.Rows.oneLt' false u v) Q E s := W.kat_one u v (lt_data n x y hx hy kx ky hc hr gr hu h)
theorem lex_data {A : Around} {Q : Bool → Shared → Prop} {s : Shared} {m1 m2 : Nat} : ∀ (lx ly : List PyData) {lu lv : List Value} {as bs : List Addr} (i : Nat), (∀ z ∈ lx, z.depth ≤ 6) → (∀ z ∈ ly, z.depth ≤ 6) → okKs lx = true → okKs ly = true → cmpKs lx ly = true → ReadsAll s.heap lu lx as → ReadsAll s.heap lv ly bs → A.units + 6 < cLine →
  (i = 0 → ∃ p q lx' ly', lx = .int p :: lx' ∧ ly = .int q :: ly') → m1 + ly.length = m2 + lx.length → Q (ltKs lx ly) s → W.KatLex prog w A true (decide (m1 < m2)) Q (lu.zip lv) i s
 | [], ly, lu, lv, as, bs, i, d1, d2, k1, k2, hc, h1, h2, hu, h0, hm, h => by
  cases h1
  show Q (decide (m1 < m2)) s
  cases ly with
  | nil => simp only [ltKs, List.length_nil] at hm h; rw [decide_eq_false (by omega)]; exact h
  | cons _ _ => simp only [ltKs, List.length_nil, List.length_cons] at hm h; rw [decide_eq_true (by omega)]; exact h
 | x :: lx, [], lu, lv, as, bs, i, d1, d2, k1, k2, hc, h1, h2, hu, h0, hm, h => by
  cases h2
  rw [List.zip_nil_right]
  show Q (decide (m1 < m2)) s
  simp only [ltKs, List.length_nil, List.length_cons] at hm h
  rw [decide_eq_false (by omega)]; exact h
 | x :: lx, y :: ly, lu, lv, as, bs, i, d1, d2, k1, k2, hc, h1, h2, hu, h0, hm, h => by
  simp only [okKs, Bool.and_eq_true] at k1 k2
  simp only [cmpKs, Bool.and_eq_true] at hc
  have dx := d1 x (by simp)
  have dy := d2 y (by simp)
  cases h1 with
  | @cons u us _ _ a1 b1 g1 t1 =>
   cases h2 with
   | @cons v vs _ _ a2 b2 g2 t2 =>
    rw [List.zip_cons_cons, W.KatLex.eq_2]
    refine SeqAt.eqBoolOverData prog w _ _ _ _ _ _ _ _ _ _ g1 g2 (lay_ok _ k1.1) (lay_ok _ k2.1) (by omega) ?_
    rw [eqv_dec _ _ k1.1 k2.1]
    simp only [ltKs] at h
    by_cases he : x = y
    ·rw [decide_eq_true he, if_pos rfl]
     rw [if_pos he] at h
     exact lex_data lx ly (i + 1) (fun z hz => d1 z (List.mem_cons_of_mem _ hz)) (fun z hz => d2 z (List.mem_cons_of_mem _ hz)) k1.2 k2.2 hc.2 t1 t2 hu (fun z => by omega) (by simp only [List.length_cons] at hm; omega) h
    ·rw [decide_eq_false he, if_neg (by decide)]
     rw [if_neg he] at h
     by_cases hi : i = 0
     ·obtain ⟨p, q, lx', ly', e1, e2⟩ := h0 hi
      injection e1 with e1 _
      injection e2 with e2 _
      subst e1; subst e2; subst hi
      cases g1
      cases g2
      exact one_int h
     ·have : (true && i == 0) = false := by simp [hi]
      rw [this]
      exact one_data 6 dx dy k1.1 k2.1 hc.1 g1 g2 hu h
noncomputable def Alls {β : Type} (P : β → Prop) (n : Nat) : W.KasT β → Prop
 | .ret a => P a
 | .ask i j k => i < n ∧ j < n ∧ ∀ b, Alls P n (k b)
theorem Alls.bind {β γ : Type} {P : β → Prop} {R : γ → Prop} {n : Nat} {f : β → W.KasT γ} : ∀ {t : W.KasT β}, Alls P n t → (∀ a, P a → Alls R n (f a)) → Alls R n (t.bind f)
 | .ret a, h, g => g a h
 | .ask i j k, ⟨h1, h2, h3⟩, g => ⟨h1, h2, fun b => Alls.bind (h3 b) g⟩
theorem getD_lt {n : Nat} {p : Array Nat} (hn : 0 < n) (hp : p.Perm (List.range n).toArray) (x : Nat) : p.getD x 0 < n := by
 rw [Srt.getD_of]
 cases z : p[x]? with
 | none => exact hn
 | some y =>
  have hm : y ∈ p := Array.mem_of_getElem? z
  have := (hp.mem_iff).mp hm
  simpa using this
section
variable {n : Nat}
theorem asc_all (hn : 0 < n) {p : Array Nat} (hp : p.Perm (List.range n).toArray) : ∀ (f x : Nat), Alls (fun _ => True) n (W.kas_asc p f x)
 | 0, x => trivial
 | f + 1, x => ⟨getD_lt hn hp _, getD_lt hn hp _, fun b => by
  show Alls _ n (if b = true then _ else _)
  cases b
  ·exact asc_all hn hp f (x + 1)
  ·exact trivial⟩
theorem desc_all (hn : 0 < n) : ∀ (f : Nat) {p : Array Nat} (x q : Nat), p.Perm (List.range n).toArray → Alls (fun r : Array Nat × Nat × Nat => r.1.Perm (List.range n).toArray) n (W.kas_desc f p x q)
 | 0, p, x, q, hp => hp
 | f + 1, p, x, q, hp => ⟨getD_lt hn hp _, getD_lt hn hp _, fun b => by
  show Alls _ n (if b = true then (if q > 0 then _ else _) else _)
  cases b
  ·refine ⟨getD_lt hn hp _, getD_lt hn hp _, fun c => ?_⟩
   show Alls _ n (if c = true then _ else _)
   cases c
   ·exact desc_all hn f (x + 1) (q + 1) hp
   ·exact hp
  ·rw [if_pos rfl]
   by_cases hq : q > 0
   ·rw [if_pos hq]; exact desc_all hn f (x + 1) 0 (Srt.rev_perm.trans hp)
   ·rw [if_neg hq]; exact desc_all hn f (x + 1) 0 hp⟩
theorem tail_all (hn : 0 < n) {p : Array Nat} (hp : p.Perm (List.range n).toArray) (x m : Nat) : Alls (fun r : Nat × Array Nat => r.2.Perm (List.range n).toArray) n (W.kas_tail3 x m p) :=
 Alls.bind (asc_all hn (Srt.rev_perm.trans hp) _ _) fun a _ => Srt.rev_perm.trans hp
theorem descPart_all (hn : 0 < n) {p : Array Nat} (hp : p.Perm (List.range n).toArray) (x m : Nat) : Alls (fun r : Nat × Array Nat => r.2.Perm (List.range n).toArray) n (W.kas_descPart x m p) :=
 Alls.bind (desc_all hn _ _ _ hp) fun r hr => by
  by_cases h : r.2.2 > 0
  ·rw [if_pos h]; exact tail_all hn (Srt.rev_perm.trans hr) _ _
  ·rw [if_neg h]; exact tail_all hn hr _ _
theorem count_all (hn : 0 < n) {p : Array Nat} (hp : p.Perm (List.range n).toArray) (m : Nat) : Alls (fun r : Nat × Array Nat => r.2.Perm (List.range n).toArray) n (W.kas_count m p) :=
 Alls.bind (asc_all hn hp _ _) fun x _ => by
  by_cases h : (x == m) = true
  ·rw [if_pos h]; exact hp
  ·rw [if_neg h]
   by_cases h2 : x > 1
   ·rw [if_pos h2]
    refine ⟨getD_lt hn hp _, getD_lt hn hp _, fun b => ?_⟩
    show Alls _ n (if b = true then _ else _)
    cases b
    ·exact descPart_all hn (Srt.rev_perm.trans hp) _ _
    ·exact hp
   ·rw [if_neg h2]; exact descPart_all hn hp _ _
theorem place_all (hn : 0 < n) {p : Array Nat} (hp : p.Perm (List.range n).toArray) (k : Nat) : ∀ (f l r : Nat), Alls (fun _ => True) n (W.kas_place p k f l r)
 | 0, l, r => trivial
 | f + 1, l, r => by
  rw [W.kas_place.eq_2]
  by_cases h : l ≥ r
  ·rw [if_pos h]; exact trivial
  ·rw [if_neg h]
   refine ⟨getD_lt hn hp _, getD_lt hn hp _, fun b => ?_⟩
   show Alls _ n (if b = true then _ else _)
   cases b
   ·exact place_all hn hp k f _ _
   ·exact place_all hn hp k f _ _
theorem bin_all (hn : 0 < n) : ∀ (f : Nat) {p : Array Nat} (j : Nat), p.Perm (List.range n).toArray → Alls (fun r : Array Nat => r.Perm (List.range n).toArray) n (W.kas_bin f p j)
 | 0, p, j, hp => hp
 | f + 1, p, j, hp => by
  rw [W.kas_bin.eq_2]
  exact Alls.bind (place_all hn hp _ _ _ _) fun l _ => bin_all hn f (j + 1) ((bubble_perm _ _ _).trans hp)
theorem sort_all (hn : 0 < n) : Alls (fun r : Array Nat => r.Perm (List.range n).toArray) n (W.kas_sort n) :=
 Alls.bind (count_all hn (Array.Perm.refl _) _) fun r hr => by
  by_cases h : r.1 < n
  ·rw [if_pos h]; exact bin_all hn _ _ hr
  ·rw [if_neg h]; exact hr
end
end
end M6
namespace M6
open PySem PySem.Spec PyProof.Rows
section
variable {prog : Program} {w : World} {A : Around} {E : Value → Shared → Prop} {s : Shared}
theorem wp_run {β : Type} {n : Nat} {P : β → Prop} {f : Nat → Nat → Bool} {cmp : Nat → Nat → (Bool → Shared → Prop) → Shared → Prop} {Q : β → Shared → Prop} {s : Shared} (hc : ∀ i j C, i < n → j < n → C (f i j) s → cmp i j C s) : ∀ {t : W.KasT β}, Alls P n t → Q (Srt.run f t) s → W.KasT.kasWp cmp t Q s
 | .ret a, h, q => q
 | .ask i j k, ⟨h1, h2, h3⟩, q => hc i j _ h1 h2 (wp_run hc (h3 _) q)
theorem run_all {β : Type} {n : Nat} {P : β → Prop} {f : Nat → Nat → Bool} : ∀ {t : W.KasT β}, Alls P n t → P (Srt.run f t)
 | .ret a, h => h
 | .ask i j k, ⟨_, _, h3⟩ => show P (Srt.run f (k (f i j))) from run_all (h3 (f i j))
theorem run_eq {β : Type} {n : Nat} {P : β → Prop} {f g : Nat → Nat → Bool} : ∀ {t : W.KasT β}, Alls P n t → (∀ i j, i < n → j < n → f i j = g i j) → Srt.run f t = Srt.run g t
 | .ret a, h, _ => rfl
 | .ask i j k, ⟨h1, h2, h3⟩, e => by
  show Srt.run f (k (f i j)) = Srt.run g (k (g i j))
  rw [e i j h1 h2]
  exact run_eq (h3 _) e
theorem range_get {vs : List Value} : ((List.range vs.length).map fun i => vs.getD i Value.none) = vs := by
 refine List.ext_getElem (by simp) fun i h1 h2 => ?_
 simp [List.getD, List.getElem?_eq_getElem h2]
noncomputable def midHeap (h : Heap) (a : Addr) (vs : List Value) : Heap := ((h.update a (Obj.mapSeq fun _ => #[])).push (seqObj "tuple" vs.toArray 0)).push (seqObj "list" #[] 0)
theorem list_sortO {a : Addr} {vs : List Value} {n : Nat} {P : PySem.Fin → Shared → Prop} (f : Nat → Nat → Bool) (ho : s.heap.get? a = some (seqObj "list" vs.toArray n)) (h64 : vs.length < 64)
  (hk : 2 ≤ vs.length → ∃ κ, (∀ (Q : SortKind → Shared → Prop), Q κ { s with heap := midHeap s.heap a vs } → wpAny (model prog w) A (keyKind' vs.toArray) Q (fun _ _ => False) { s with heap := midHeap s.heap a vs }) ∧
   ∀ i j C, i < vs.length → j < vs.length → C (f i j) { s with heap := midHeap s.heap a vs } → W.kas_ask prog w A κ vs i j C { s with heap := midHeap s.heap a vs })
  (h : ∀ p : Array Nat, p.Perm (List.range vs.length).toArray → (2 ≤ vs.length → p = Srt.run f (W.kas_sort vs.length)) → P (.done (.ret .none)) { s with heap := sortedHeap s.heap a vs (p.toList.map fun i => vs.getD i Value.none).toArray }) :
  wpAny (model prog w) A (Builtin.«list.sort» ⟨[.ref a], []⟩) P E s := by
 obtain ⟨e1, ho1⟩ : ∃ e1, (s.heap.update a (Obj.mapSeq fun _ => #[])).get? a = some (seqObj "list" #[] e1) := ⟨_, get?_update_seq ho fun _ => #[]⟩
 have ho2 : (midHeap s.heap a vs).get? a = some (seqObj "list" #[] e1) := Heap.get?_push_of_some _ (Heap.get?_push_of_some _ ho1)
 have hz : vs.toArray.size ≤ sizeLine := by rw [List.size_toArray, sizeLine_eq]; omega
 rw [list_sort_plain a]
 refine wpAny_bind (listItems_at ho rfl (wpAny_bind (listUpdate_at ho rfl ?_ hz (Nat.zero_le _))))
 refine wpAny_bind (seqEpoch_at ho1 rfl (wpAny_bind (wpAny_newTuple ?_ (by simpa using hz))))
 refine wpAny_bind (wpAny_newList (wpAny_holding ?_) (Nat.zero_le _))
 show wpAny (model prog w) A (if vs.toArray.size < 2 then _ else _) P E { s with heap := midHeap s.heap a vs }
 by_cases h2 : vs.length < 2
 ·rw [if_pos (by rw [List.size_toArray]; exact h2)]
  refine wpAny_bind (wpAny_pure ?_)
  dsimp only
  rw [if_pos (by rw [List.size_toArray]; exact h2)]
  refine wpAny_bind (wpAny_pure ?_)
  have e2 : ((vs.toArray.zip vs.toArray).map (·.2)) = ((List.range vs.length).map fun i => vs.getD i Value.none).toArray := by
   rw [List.zip_toArray, List.map_toArray, List.map_snd_zip (Nat.le_refl _), range_get]
  refine wpAny_bind (seqEpoch_at ho2 rfl (wpAny_bind (listUpdate_at ho2 rfl ?_ (Nat.zero_le _) ?_)))
  ·show wpAny (model prog w) A (if (e1 != e1) = true then _ else _) P E _
   rw [if_neg (by simp)]
   refine wpAny_pure ?_
   have := h (List.range vs.length).toArray (Array.Perm.refl _) (fun z => by omega)
   rw [← e2] at this
   exact this
  ·show ((vs.toArray.zip vs.toArray).map (·.2)).size ≤ _
   rw [e2, range_get, List.size_toArray, sizeLine_eq]; omega
 ·rw [if_neg (by rw [List.size_toArray]; exact h2)]
  obtain ⟨κ, k1, k2⟩ := hk (by omega)
  refine wpAny_bind (wpAny_mono (k1 (fun κ' s' => κ' = κ ∧ s' = { s with heap := midHeap s.heap a vs }) ⟨rfl, rfl⟩) (fun κ' s' z => ?_) (fun _ _ z => z.elim))
  obtain ⟨rfl, rfl⟩ := z
  dsimp only
  rw [if_neg (by rw [List.size_toArray]; exact h2)]
  have hall := sort_all (n := vs.length) (by omega)
  refine wpAny_bind (wpAny_mono (W.kat_run (Q := fun st s' => ∃ p : Array Nat, (arrOf st).map (·.2) = (p.toList.map fun i => vs.getD i Value.none).toArray ∧ failedOf st = none ∧ p.Perm (List.range vs.length).toArray ∧ p = Srt.run f (W.kas_sort vs.length) ∧ s' = { s with heap := midHeap s.heap a vs }) (G := fun p s' => (p.Perm (List.range vs.length).toArray ∧ p = Srt.run f (W.kas_sort vs.length)) ∧ s' = { s with heap := midHeap s.heap a vs }) rfl (by omega) h64 ?_ (wp_run k2 hall ⟨⟨run_all hall, rfl⟩, rfl⟩)) ?_ (fun _ _ z => z))
  ·rintro p st' s' hp1 hp2 hp3 ⟨⟨hp4, hp5⟩, rfl⟩
   exact ⟨p, W.kat_snds rfl hp2, hp3, hp4, hp5, rfl⟩
  ·rintro ⟨⟨⟩, st⟩ s' ⟨p, o1, o2, o3, o4, rfl⟩
   dsimp only
   refine wpAny_bind (seqEpoch_at ho2 rfl (wpAny_bind (listUpdate_at ho2 rfl ?_ (Nat.zero_le _) ?_)))
   ·rw [o2]
    dsimp only
    rw [if_neg (by simp)]
    refine wpAny_pure ?_
    have := h p o3 fun _ => o4
    rw [← o1] at this
    exact this
   ·rw [o1]
    have := o3.size_eq
    rw [List.size_toArray, List.length_map, Array.length_toList, this, List.size_toArray, List.length_range, sizeLine_eq]; omega
mutual
theorem reads_off {h h' : Heap} {b : Addr} {ob : Obj} (hb : h.get? b = some ob) (hd : ob.cls ≠ .type "tuple") (kp : ∀ c o, c ≠ b → h.get? c = some o → h'.get? c = some o) : ∀ (d : PyData) {v : Value} {as : List Addr}, okK d = true → Reads h v d as → Reads h' v d as
 | .int i, v, as, hk, hr => by cases hr; exact .int ..
 | .str i, v, as, hk, hr => by cases hr; exact .str ..
 | .tuple xs, v, as, hk, hr => by
  cases hr with
  | @tuple a o vs m _ _ ho hc hdat hall =>
   have hne : a ≠ b := fun e => by
    subst e
    rw [hb] at ho; cases ho
    exact hd hc
   exact .tuple (kp a o hne ho) hc hdat (readss_off hb hd kp xs hk hall)
 | .none, _, _, h, _ => by simp [okK] at h
 | .bool _, _, _, h, _ => by simp [okK] at h
 | .list _, _, _, h, _ => by simp [okK] at h
 | .dict _, _, _, h, _ => by simp [okK] at h
theorem readss_off {h h' : Heap} {b : Addr} {ob : Obj} (hb : h.get? b = some ob) (hd : ob.cls ≠ .type "tuple") (kp : ∀ c o, c ≠ b → h.get? c = some o → h'.get? c = some o) : ∀ (ds : List PyData) {vs : List Value} {as : List Addr}, okKs ds = true → ReadsAll h vs ds as → ReadsAll h' vs ds as
 | [], vs, as, hk, hr => by cases hr; exact .nil
 | d :: ds, vs, as, hk, hr => by
  simp only [okKs, Bool.and_eq_true] at hk
  cases hr with
  | cons hx hr => exact .cons (reads_off hb hd kp d hk.1 hx) (readss_off hb hd kp ds hk.2 hr)
end
theorem perm_inv {α β : Type} {f : α → β} : ∀ {ks : List α} {out : List β}, out.Perm (ks.map f) → ∃ o' : List α, o'.Perm ks ∧ out = o'.map f
 | [], out, h => ⟨[], .refl _, by simpa using h⟩
 | k :: ks, out, h => by
  have hm : f k ∈ out := h.mem_iff.mpr (by simp)
  obtain ⟨l1, l2, rfl⟩ := List.append_of_mem hm
  have h2 : (l1 ++ l2).Perm (ks.map f) := by
   have := List.perm_middle.symm.trans h
   rw [List.map_cons] at this
   exact this.cons_inv
  obtain ⟨o', p1, p2⟩ := perm_inv h2
  obtain ⟨o1, o2, e1, e2, e3⟩ := List.map_eq_append_iff.mp p2.symm
  subst e1
  refine ⟨o1 ++ k :: o2, List.perm_middle.trans (p1.cons k), ?_⟩
  rw [List.map_append, List.map_cons, e2, e3]
mutual
theorem lt_irr : ∀ x : PyData, ltK x x = false
 | .int i => by simp only [ltK]; exact decide_eq_false (Int.lt_irrefl i)
 | .str i => by simp only [ltK]; exact decide_eq_false (List.lt_irrefl _)
 | .tuple xs => by simp only [ltK]; exact lts_irr xs
 | .none => by simp only [ltK]
 | .bool _ => by simp only [ltK]
 | .list _ => by simp only [ltK]
 | .dict _ => by simp only [ltK]
theorem lts_irr : ∀ x : List PyData, ltKs x x = false
 | [] => by simp only [ltKs]
 | x :: xs => by simp only [ltKs]; rw [if_pos trivial]; exact lts_irr xs
end
mutual
theorem lt_tr : ∀ x y z : PyData, cmpK x y = true → cmpK y z = true → cmpK x z = true → ltK x y = true → ltK y z = true → ltK x z = true
 | .int i, .int j, .int k, _, _, _, h, g => by simp only [ltK, decide_eq_true_eq] at h g ⊢; omega
 | .str i, .str j, .str k, _, _, _, h, g => by simp only [ltK, decide_eq_true_eq] at h g ⊢; exact List.lt_trans h g
 | .tuple xs, .tuple ys, .tuple zs, a, b, c, h, g => by simp only [ltK] at h g ⊢; exact lts_tr xs ys zs a b c h g
 | .none, _, _, a, _, _, _, _ => by simp [cmpK] at a
 | .bool _, _, _, a, _, _, _, _ => by simp [cmpK] at a
 | .list _, _, _, a, _, _, _, _ => by simp [cmpK] at a
 | .dict _, _, _, a, _, _, _, _ => by simp [cmpK] at a
 | .int i, .str j, _, a, _, _, _, _ => by simp [cmpK] at a
 | .int i, .tuple j, _, a, _, _, _, _ => by simp [cmpK] at a
 | .int i, .none, _, a, _, _, _, _ => by simp [cmpK] at a
 | .int i, .bool j, _, a, _, _, _, _ => by simp [cmpK] at a
 | .int i, .list j, _, a, _, _, _, _ => by simp [cmpK] at a
 | .int i, .dict j, _, a, _, _, _, _ => by simp [cmpK] at a
 | .str i, .int j, _, a, _, _, _, _ => by simp [cmpK] at a
 | .str i, .tuple j, _, a, _, _, _, _ => by simp [cmpK] at a
 | .str i, .none, _, a, _, _, _, _ => by simp [cmpK] at a
 | .str i, .bool j, _, a, _, _, _, _ => by simp [cmpK] at a
 | .str i, .list j, _, a, _, _, _, _ => by simp [cmpK] at a
 | .str i, .dict j, _, a, _, _, _, _ => by simp [cmpK] at a
 | .tuple i, .int j, _, a, _, _, _, _ => by simp [cmpK] at a
 | .tuple i, .str j, _, a, _, _, _, _ => by simp [cmpK] at a
 | .tuple i, .none, _, a, _, _, _, _ => by simp [cmpK] at a
 | .tuple i, .bool j, _, a, _, _, _, _ => by simp [cmpK] at a
 | .tuple i, .list j, _, a, _, _, _, _ => by simp [cmpK] at a
 | .tuple i, .dict j, _, a, _, _, _, _ => by simp [cmpK] at a
 | .int i, .int j, .str _, _, a, _, _, _ => by simp [cmpK] at a
 | .int i, .int j, .tuple _, _, a, _, _, _ => by simp [cmpK] at a
 | .int i, .int j, .none, _, a, _, _, _ => by simp [cmpK] at a
 | .int i, .int j, .bool _, _, a, _, _, _ => by simp [cmpK] at a
 | .int i, .int j, .list _, _, a, _, _, _ => by simp [cmpK] at a
 | .int i, .int j, .dict _, _, a, _, _, _ => by simp [cmpK] at a
 | .str i, .str j, .int _, _, a, _, _, _ => by simp [cmpK] at a
 | .str i, .str j, .tuple _, _, a, _, _, _ => by simp [cmpK] at a
 | .str i, .str j, .none, _, a, _, _, _ => by simp [cmpK] at a
 | .str i, .str j, .bool _, _, a, _, _, _ => by simp [cmpK] at a
 | .str i, .str j, .list _, _, a, _, _, _ => by simp [cmpK] at a
 | .str i, .str j, .dict _, _, a, _, _, _ => by simp [cmpK] at a
 | .tuple i, .tuple j, .int _, _, a, _, _, _ => by simp [cmpK] at a
 | .tuple i, .tuple j, .str _, _, a, _, _, _ => by simp [cmpK] at a
 | .tuple i, .tuple j, .none, _, a, _, _, _ => by simp [cmpK] at a
 | .tuple i, .tuple j, .bool _, _, a, _, _, _ => by simp [cmpK] at a
 | .tuple i, .tuple j, .list _, _, a, _, _, _ => by simp [cmpK] at a
 | .tuple i, .tuple j, .dict _, _, a, _, _, _ => by simp [cmpK] at a
theorem lts_tr : ∀ x y z : List PyData, cmpKs x y = true → cmpKs y z = true → cmpKs x z = true → ltKs x y = true → ltKs y z = true → ltKs x z = true
 | [], [], z, _, _, _, h, _ => by simp [ltKs] at h
 | [], y :: ys, [], _, _, _, _, g => by simp [ltKs] at g
 | [], y :: ys, z :: zs, _, _, _, _, _ => by simp only [ltKs]
 | x :: xs, [], z, _, _, _, h, _ => by simp [ltKs] at h
 | x :: xs, y :: ys, [], _, _, _, _, g => by simp [ltKs] at g
 | x :: xs, y :: ys, z :: zs, a, b, c, h, g => by
  simp only [cmpKs, Bool.and_eq_true] at a b c
  simp only [ltKs] at h g ⊢
  by_cases e1 : x = y
  ·rw [if_pos e1] at h
   subst e1
   by_cases e2 : x = z
   ·rw [if_pos e2] at g ⊢
    exact lts_tr xs ys zs a.2 b.2 c.2 h g
   ·rw [if_neg e2] at g ⊢
    exact g
  ·rw [if_neg e1] at h
   by_cases e2 : y = z
   ·subst e2
    rw [if_neg e1]
    exact h
   ·rw [if_neg e2] at g
    have t := lt_tr x y z a.1 b.1 c.1 h g
    rw [if_neg (fun e3 => by subst e3; rw [lt_irr] at t; cases t)]
    exact t
end
mutual
theorem lt_tri : ∀ x y : PyData, cmpK x y = true → x ≠ y → ltK x y = true ∨ ltK y x = true
 | .int i, .int j, _, n => by
  have : i ≠ j := fun e => n (by rw [e])
  simp only [ltK, decide_eq_true_eq]; omega
 | .str i, .str j, _, n => by
  simp only [ltK, decide_eq_true_eq]
  by_cases h : i.cps.toList < j.cps.toList
  ·exact .inl h
  ·by_cases g : j.cps.toList < i.cps.toList
   ·exact .inr g
   ·refine absurd ?_ n
    have e : i.cps.toList = j.cps.toList := List.le_antisymm g h
    obtain ⟨i⟩ := i
    obtain ⟨j⟩ := j
    have e : i.toList = j.toList := e
    rw [show i = j from Array.toList_inj.mp e]
 | .tuple xs, .tuple ys, a, n => by
  simp only [ltK]
  exact lts_tri xs ys a fun e => n (by rw [e])
 | .none, _, a, _ => by simp [cmpK] at a
 | .bool _, _, a, _ => by simp [cmpK] at a
 | .list _, _, a, _ => by simp [cmpK] at a
 | .dict _, _, a, _ => by simp [cmpK] at a
 | .int i, .str j, a, _ => by simp [cmpK] at a
 | .int i, .tuple j, a, _ => by simp [cmpK] at a
 | .int i, .none, a, _ => by simp [cmpK] at a
 | .int i, .bool j, a, _ => by simp [cmpK] at a
 | .int i, .list j, a, _ => by simp [cmpK] at a
 | .int i, .dict j, a, _ => by simp [cmpK] at a
 | .str i, .int j, a, _ => by simp [cmpK] at a
 | .str i, .tuple j, a, _ => by simp [cmpK] at a
 | .str i, .none, a, _ => by simp [cmpK] at a
 | .str i, .bool j, a, _ => by simp [cmpK] at a
 | .str i, .list j, a, _ => by simp [cmpK] at a
 | .str i, .dict j, a, _ => by simp [cmpK] at a
 | .tuple i, .int j, a, _ => by simp [cmpK] at a
 | .tuple i, .str j, a, _ => by simp [cmpK] at a
 | .tuple i, .none, a, _ => by simp [cmpK] at a
 | .tuple i, .bool j, a, _ => by simp [cmpK] at a
 | .tuple i, .list j, a, _ => by simp [cmpK] at a
 | .tuple i, .dict j, a, _ => by simp [cmpK] at a
theorem lts_tri : ∀ x y : List PyData, cmpKs x y = true → x ≠ y → ltKs x y = true ∨ ltKs y x = true
 | [], [], _, n => absurd rfl n
 | [], y :: ys, _, _ => .inl (by simp only [ltKs])
 | x :: xs, [], _, _ => .inr (by simp only [ltKs])
 | x :: xs, y :: ys, a, n => by
  simp only [cmpKs, Bool.and_eq_true] at a
  simp only [ltKs]
  by_cases e : x = y
  ·subst e
   rw [if_pos rfl, if_pos rfl]
   exact lts_tri xs ys a.2 fun e => n (by rw [e])
  ·rw [if_neg e, if_neg (Ne.symm e)]
   exact lt_tri x y a.1 e
end
noncomputable def ordK (S : List PyData) (hc : ∀ x ∈ S, ∀ y ∈ S, cmpK x y = true) : Srt.Ord { x // x ∈ S } where
 lt := fun a b => ltK a.1 b.1
 irr := fun a => lt_irr a.1
 tr := fun a b c h g => lt_tr _ _ _ (hc _ a.2 _ b.2) (hc _ b.2 _ c.2) (hc _ a.2 _ c.2) h g
 nt := fun a b c h => by
  by_cases e : a.1 = b.1
  ·exact .inr (by rw [← e]; exact h)
  ·rcases lt_tri _ _ (hc _ a.2 _ b.2) e with z | z
   ·exact .inl z
   ·exact .inr (lt_tr _ _ _ (hc _ b.2 _ a.2) (hc _ a.2 _ c.2) (hc _ b.2 _ c.2) z h)
theorem up_pair {ord : List (PyData × Addr)} {p : Array Nat} {n : Nat} {df : PyData × Addr} (hok : ∀ k ∈ ord, okK k.1 = true) (hc : ∀ k ∈ ord, ∀ l ∈ ord, cmpK k.1 l.1 = true) (hp : p.Perm (List.range n).toArray) (hn : n = ord.length) (hr : 2 ≤ n → p = Srt.run (fun i j => ltK (ord.getD i df).1 (ord.getD j df).1) (W.kas_sort n)) :
  (p.toList.map fun i => ord.getD i df).Pairwise (fun x y => ltK y.1 x.1 = false) := by
 have hsz : p.size = n := by have := hp.size_eq; simpa using this
 rw [List.pairwise_iff_getElem]
 intro i j hi hj hij
 have hi' : i < p.size := by simpa using hi
 have hj' : j < p.size := by simpa using hj
 have h2 : 2 ≤ n := by omega
 have hin : ∀ i ∈ p.toList, i < ord.length := fun i hi => by
  have := (Array.perm_iff_toList_perm.mp hp).mem_iff.mp hi
  rw [← hn]; simpa using this
 cases ord with
 | nil => simp at hn; omega
 | cons k0 rest =>
  generalize hS : (k0 :: rest).map (·.1) = S
  have hc' : ∀ x ∈ S, ∀ y ∈ S, cmpK x y = true := fun x hx y hy => by
   rw [← hS] at hx hy
   obtain ⟨a, a1, rfl⟩ := List.mem_map.mp hx
   obtain ⟨b, b1, rfl⟩ := List.mem_map.mp hy
   exact hc a a1 b b1
  have hm : ∀ i, ((k0 :: rest).getD i k0).1 ∈ S := fun i => by
   rw [← hS]
   refine List.mem_map.mpr ⟨_, ?_, rfl⟩
   by_cases h : i < (k0 :: rest).length
   ·rw [List.getD, List.getElem?_eq_getElem h]; exact List.getElem_mem h
   ·rw [List.getD, List.getElem?_eq_none (by omega)]; simp
  obtain ⟨p', e1, e2, e3⟩ := Srt.sort_ok (O := ordK S hc') (k := fun i => ⟨((k0 :: rest).getD i k0).1, hm i⟩) (n := n) (by omega)
  have eq : Srt.run (fun i j => ltK ((k0 :: rest).getD i df).1 ((k0 :: rest).getD j df).1) (W.kas_sort n) = p' := by
   rw [← e1]
   refine run_eq (sort_all (n := n) (by omega)) fun i j hi hj => ?_
   have d : ∀ i, i < n → (k0 :: rest).getD i df = (k0 :: rest).getD i k0 := fun i hi => by
    have : i < (k0 :: rest).length := by omega
    rw [List.getD, List.getD, List.getElem?_eq_getElem this]; rfl
   show _ = ltK ((k0 :: rest).getD i k0).1 ((k0 :: rest).getD j k0).1
   rw [d i hi, d j hj]
  obtain rfl : p = p' := (hr h2).trans eq
  have := e3 i j (by omega) (by omega)
  have this : ltK ((k0 :: rest).getD (p.getD j 0) k0).1 ((k0 :: rest).getD (p.getD i 0) k0).1 = false := this
  have g : ∀ x (hx : x < p.size), (k0 :: rest).getD (p.getD x 0) k0 = (k0 :: rest).getD p[x] df := fun x hx => by
   have e : p.getD x 0 = p[x] := by simp [Array.getD, hx]
   rw [e]
   have : p[x] < (k0 :: rest).length := hin _ (Array.getElem_mem_toList hx)
   rw [List.getD, List.getD, List.getElem?_eq_getElem this]; rfl
  rw [g i hi', g j hj'] at this
  rw [List.getElem_map, List.getElem_map, Array.getElem_toList, Array.getElem_toList]
  exact this
noncomputable def IntKey (h : Heap) (k : PyData × Addr) : Prop := isKey h k.1 k.2 ∧ ∃ p r, k.1 = .tuple (.int p :: r)
theorem kinds_ok {h : Heap} : ∀ {ks : List (PyData × Addr)}, (∀ k ∈ ks, IntKey h k) → ∃ fs, W.KatTups h (ks.map fun k => .ref k.2) fs ∧ fs.length = ks.length ∧ ∀ f ∈ fs, ∃ i t, f = Value.int i t
 | [], _ => ⟨[], .nil, rfl, by simp⟩
 | (d, a) :: ks, hk => by
  obtain ⟨fs, h1, h2, h3⟩ := kinds_ok fun k hk' => hk k (List.mem_cons_of_mem _ hk')
  obtain ⟨⟨k1, k2, as, hr⟩, p, r, e⟩ := hk (d, a) (by simp)
  have e : d = .tuple (.int p :: r) := e
  subst e
  cases hr with
  | @tuple _ o vs m _ _ ho hc hdat hall =>
   generalize hvs : vs.toList = l at hall
   cases hall with
   | @cons v l' _ _ a1 b1 g1 t1 =>
    cases g1 with
    | int _ t =>
     refine ⟨.int p t :: fs, .cons ho hc hdat ?_ h1, by simp [h2], fun f hf => ?_⟩
     ·rw [← Array.getElem?_toList, hvs]; rfl
     ·rcases List.mem_cons.mp hf with rfl | hf
      ·exact ⟨p, t, rfl⟩
      ·exact h3 f hf
theorem asks_ok {ks : List (PyData × Addr)} (hk : ∀ k ∈ ks, IntKey s.heap k) (hc : ∀ k ∈ ks, ∀ l ∈ ks, cmpK k.1 l.1 = true) (hu : A.units + 6 < cLine) (i j : Nat) (C : Bool → Shared → Prop) (hi : i < ks.length) (hj : j < ks.length) (h : C (ltK ks[i].1 ks[j].1) s) :
  W.kas_ask prog w A (tuples' true) (ks.map fun k => .ref k.2) i j C s := by
 have hx := hk ks[i] (List.getElem_mem hi)
 have hy := hk ks[j] (List.getElem_mem hj)
 have hxy := hc ks[i] (List.getElem_mem hi) ks[j] (List.getElem_mem hj)
 have e : ∀ n (hn : n < ks.length), (ks.map fun k => Value.ref k.2).getD n Value.none = .ref ks[n].2 := fun n hn => by simp [List.getD, hn]
 unfold W.kas_ask
 rw [e i hi, e j hj]
 generalize ks[i] = x at hx hxy h
 generalize ks[j] = y at hy hxy h
 obtain ⟨⟨k1, k2, as, hr⟩, p, r, e1⟩ := hx
 obtain ⟨⟨l1, l2, bs, gr⟩, q, t, e2⟩ := hy
 obtain ⟨dx, ax⟩ := x
 obtain ⟨dy, ay⟩ := y
 have e1 : dx = .tuple (.int p :: r) := e1
 have e2 : dy = .tuple (.int q :: t) := e2
 subst e1; subst e2
 have k2 : (PyData.tuple (.int p :: r)).depth ≤ 6 := k2
 have l2 : (PyData.tuple (.int q :: t)).depth ≤ 6 := l2
 rw [depth_tuple] at k2 l2
 cases hr with
 | @tuple _ o us m _ _ ho hcl hdat hall =>
  cases gr with
  | @tuple _ o2 vs m2 _ _ ho2 hcl2 hdat2 hall2 =>
   have n1 := reads_len hall
   have n2 := reads_len hall2
   rw [Array.length_toList] at n1 n2
   exact W.kat_lt ho hdat ho2 hdat2 (lex_data _ _ 0 (fun z hz => by have := depth_mem hz; omega) (fun z hz => by have := depth_mem hz; omega) k1 l1 hxy hall hall2 hu (fun _ => ⟨p, q, r, t, rfl, rfl⟩) (by omega) h)
theorem mid_other {h : Heap} {a : Addr} {vs : List Value} {b : Addr} {o : Obj} (hb : b ≠ a) (e : h.get? b = some o) : (midHeap h a vs).get? b = some o :=
 Heap.get?_push_of_some _ (Heap.get?_push_of_some _ ((Heap.get?_update_other _ _ (Ne.symm hb)).trans e))
theorem sorted_gen {d : Addr} {ks : List (PyData × Addr)} {R : Shared → Prop} {Q : Value → Shared → Prop} (hh : A.handled = none) (hk : ∀ k ∈ ks, IntKey s.heap k) (hc : ∀ k ∈ ks, ∀ l ∈ ks, cmpK k.1 l.1 = true) (h64 : ks.length < 64) (hu : A.units + 20 < cLine)
  (col : ∀ {A' : Around} {Q' : List Value → Shared → Prop} {E' : Value → Shared → Prop}, A'.handled = none → (∀ s1 (ord : List (PyData × Addr)), (∀ b o, s.heap.get? b = some o → s1.heap.get? b = some o) → R s1 → ord.Perm ks → Q' (ord.map fun k => Value.ref k.2) s1) → wpAny (model prog w) A' (collect (.ref d)) Q' E' s)
  (h : ∀ (s1 : Shared) (h2 : Heap) (out : List (PyData × Addr)) (c : Nat), R s1 → (∀ b o, s.heap.get? b = some o → s1.heap.get? b = some o) → (∀ b o, s1.heap.get? b = some o → h2.get? b = some o) → h2.get? s1.heap.objs.size = some (seqObj "list" (out.map fun k => Value.ref k.2).toArray c) → out.Perm ks → out.Pairwise (fun x y => ltK y.1 x.1 = false) → Q (.ref s1.heap.objs.size) { s1 with heap := h2 }) :
  wpAny (model prog w) A (call (.builtin "sorted") [.ref d]) Q E s := by
 refine Calls.call_function_entry kind_sorted plain_sorted entry_sorted (args_sorted1 _) ?_
 unfold Builtin.«sorted»
 refine wpAny_bind (m := checkCount "sorted" 1 1 _) (wpAny_pure ?_)
 refine wpAny_bind (col ?_ fun s1 ord kp hR hp0 => ?_)
 ·exact hh
 have hol : ord.length = ks.length := hp0.length_eq
 generalize hvs : (ord.map fun k => Value.ref k.2) = vs
 have hvl : vs.length = ord.length := by rw [← hvs, List.length_map]
 refine wpAny_bind (wpAny_newList ?_ (by first | (rw [sizeLine_eq]; omega) | (rw [List.size_toArray, sizeLine_eq]; omega)))
 have gL : (s1.heap.push (seqObj "list" vs.toArray 0)).get? s1.heap.objs.size = some (seqObj "list" vs.toArray 0) := Heap.get?_push_size _ rfl
 have hk' : ∀ k ∈ ord, IntKey (midHeap (s1.heap.push (seqObj "list" vs.toArray 0)) s1.heap.objs.size vs) k := fun k hk1 => by
  obtain ⟨⟨k1, k2, as, hr⟩, r⟩ := hk k (hp0.mem_iff.mp hk1)
  exact ⟨⟨k1, k2, as, reads_off gL (fun z => by injection z with z; exact absurd z (by decide)) (fun c o hc1 e => mid_other hc1 e) _ k1 (Reads.keeps (fun b o e => Heap.get?_push_of_some _ (kp b o e)) hr)⟩, r⟩
 have hc' : ∀ k ∈ ord, ∀ l ∈ ord, cmpK k.1 l.1 = true := fun k h1 l h2 => hc k (hp0.mem_iff.mp h1) l (hp0.mem_iff.mp h2)
 generalize hdef : (PyData.none, (0 : Addr)) = df
 have key : ∀ (A' : Around), A'.units + 8 < cLine → ∀ {P : PySem.Fin → Shared → Prop} {E' : Value → Shared → Prop}, (∀ p : Array Nat, p.Perm (List.range vs.length).toArray → (2 ≤ vs.length → p = Srt.run (fun i j => ltK (ord.getD i df).1 (ord.getD j df).1) (W.kas_sort vs.length)) → P (.done (.ret .none)) { s1 with heap := sortedHeap (s1.heap.push (seqObj "list" vs.toArray 0)) s1.heap.objs.size vs (p.toList.map fun i => vs.getD i Value.none).toArray }) →
   wpAny (model prog w) A' (Builtin.«list.sort» ⟨[.ref s1.heap.objs.size], []⟩) P E' { s1 with heap := s1.heap.push (seqObj "list" vs.toArray 0) } := fun A' hA P E' hP => by
  refine list_sortO (s := { s1 with heap := s1.heap.push (seqObj "list" vs.toArray 0) }) _ gL (by omega) (fun h2 => ⟨tuples' true, fun Q' hQ' => ?_, ?_⟩) hP
  ·obtain ⟨fs, f1, f2, f3⟩ := kinds_ok hk'
   rw [hvs] at f1
   refine W.kat_kind (T := .type "int") f1 (by omega) (fun v hv => ?_) (by decide) hQ'
   obtain ⟨i, t, rfl⟩ := f3 v hv
   intro A2 Q2 E2 s2 _ q
   exact wpAny_typeOf (typeIs_int s2 i t) q
  ·intro i j C hi hj hC
   have e : ∀ i (hi : i < ord.length), ord.getD i df = ord[i] := fun i hi => by simp [List.getD, hi]
   rw [e i (by omega), e j (by omega)] at hC
   have := asks_ok (prog := prog) (w := w) (A := A') (s := { s1 with heap := midHeap (s1.heap.push (seqObj "list" vs.toArray 0)) s1.heap.objs.size vs }) hk' hc' (by omega) i j C (by omega) (by omega) hC
   rw [hvs] at this
   exact this
 refine wpAny_bind (wpAny_holding (wpAny_call_entry slot_list_sort ⟨_, gL, rfl⟩ entry_list_sort (key _ ?_ fun p hp hrun => ⟨_, rfl, ?_⟩) (args_list_sort _)))
 ·show A.units + 1 + 1 + 8 < cLine
  omega
 ·obtain ⟨c, hcc⟩ := sortedHeap_at (out := (p.toList.map fun i => vs.getD i Value.none).toArray) gL
  have hpl : p.toList.Perm (List.range ord.length) := by have := Array.perm_iff_toList_perm.mp hp; rw [hvl] at this; simpa using this
  have hin : ∀ i ∈ p.toList, i < ord.length := fun i hi => List.mem_range.mp (hpl.mem_iff.mp hi)
  have eo : (p.toList.map fun i => vs.getD i Value.none) = (p.toList.map fun i => ord.getD i df).map fun k => Value.ref k.2 := by
   rw [List.map_map]
   refine List.map_congr_left fun i hi => ?_
   have := hin i hi
   rw [← hvs]
   simp [List.getD, this]
  refine wpAny_pure ⟨_, rfl, h s1 _ (p.toList.map fun i => ord.getD i df) c hR kp (fun b o e => ?_) (by rw [← eo]; exact hcc) ?_ ?_⟩
  ·have lb := Heap.lt_size e
   show (sortedHeap _ _ _ _).get? b = some o
   rw [sortedHeap_old (Nat.ne_of_lt lb) (by rw [size_push']; exact Nat.lt_succ_of_lt lb)]
   exact Heap.get?_push_of_some _ e
  ·refine (hpl.map _).trans ?_
   have : (List.range ord.length).map (fun i => ord.getD i df) = ord := by
    refine List.ext_getElem (by simp) fun i h1 h2 => ?_
    simp [List.getD, List.getElem?_eq_getElem h2]
   rw [this]; exact hp0
  ·exact up_pair (fun k hk1 => (hk' k hk1).1.1) hc' hp hvl hrun
theorem sorted_data {d : Addr} {es : Array DictEntry} {ep : Nat} {ks : List (PyData × Addr)} {Q : Value → Shared → Prop} (hh : A.handled = none) (lo : (d == sysModules) = false) (hD : RawD s.heap d es ep) (hes : es.toList.map (·.key) = ks.map fun k => .ref k.2) (hk : ∀ k ∈ ks, IntKey s.heap k) (hc : ∀ k ∈ ks, ∀ l ∈ ks, cmpK k.1 l.1 = true) (h64 : ks.length < 64) (hu : A.units + 20 < cLine)
  (h : ∀ (h1 h2 : Heap) (tk : Nat) (out : List (PyData × Addr)) (c : Nat), (∀ b o, s.heap.get? b = some o → h1.get? b = some o) → (∀ b o, h1.get? b = some o → h2.get? b = some o) → h2.get? h1.objs.size = some (seqObj "list" (out.map fun k => Value.ref k.2).toArray c) → out.Perm ks → Q (.ref h1.objs.size) { s with heap := h2, toks := tk }) :
  wpAny (model prog w) A (call (.builtin "sorted") [.ref d]) Q E s := by
 have hsz : es.size = ks.length := by have := congrArg List.length hes; simpa using this
 refine sorted_gen (R := fun s1 => ∃ h1 tk, s1 = { s with heap := h1, toks := tk }) hh hk hc h64 hu (fun hh' hQ => collectK lo hh' hD (by rw [sizeLine_eq]; omega) fun h1 tk kp => ?_) fun s1 h2 out c hR k1 k2 g hp _ => ?_
 ·rw [hes]
  exact hQ _ ks kp ⟨h1, tk, rfl⟩ (.refl _)
 ·obtain ⟨h1, tk, rfl⟩ := hR
  exact h h1 h2 tk out c k1 k2 g hp
end
end M6
namespace L2
open PySem PySem.Spec PyProof.Rows M6
noncomputable def nAt (W : World) (a : Addr) (xs : List (PyData × Addr)) : Heap → Prop := fun h => (a == sysModules) = false ∧ ∃ o es ep, h.get? a = some o ∧ o.ExactDict ∧ o.data = Data.dict es ep ∧
 es.toList = xs.map (fun x => ({ hash := hashK W x.1, key := .ref x.2, val := .bool true } : DictEntry)) ∧ (xs.map (·.1)).Nodup
theorem nAt.at {W : World} {a : Addr} {xs : List (PyData × Addr)} {h h' : Heap} (x : nAt W a xs h) (e : ∀ o, h.get? a = some o → h'.get? a = some o) : nAt W a xs h' := by
 obtain ⟨z, o, es, ep, h1, r⟩ := x
 exact ⟨z, o, es, ep, e o h1, r⟩
theorem nAt.ok {P : Program} {w W : World} {H : Hp} {h : Heap} {a : Addr} {xs : List (PyData × Addr)} (x : nAt W a xs h) : ObjOk P w H h a (.ext (nAt W a xs)) := by
 obtain ⟨z, o, es, ep, h1, r⟩ := id x
 exact ⟨x, ⟨o, h1⟩, fun h1 h2 y e => y.at e⟩
theorem ext_own {P : Program} {w W : World} {H : Hp} {h : Heap} {a b : Addr} {xs : List (PyData × Addr)} (x : ObjOk P w H h a (.ext (nAt W b xs))) : b = a := by
 obtain ⟨y, ⟨o, e⟩, st⟩ := x
 apply Classical.byContradiction
 intro hne
 obtain ⟨z, ob, es, ep, h1, h2, h3, r⟩ := id y
 have g1 : (h.update b fun _ => { cls := .none }).get? a = some o := (Heap.get?_update_other _ _ hne).trans e
 have g2 : (h.update b fun _ => { cls := .none }).get? b = some { cls := .none } := Heap.get?_update_self (fun _ => { cls := .none }) h1 rfl
 obtain ⟨_, o2, es2, ep2, k1, k2, k3, _⟩ := st h (h.update b fun _ => { cls := .none }) y fun o' e' => by rw [e] at e'; cases e'; exact g1
 rw [g2] at k1
 cases k1
 cases k3
noncomputable def putA (xs : List (PyData × Addr)) (d : PyData) (b : Addr) : List (PyData × Addr) := if (xs.any fun x => decide (x.1 = d)) = true then xs else xs ++ [(d, b)]
theorem putA_stored (xs : List (PyData × Addr)) (d : PyData) (b : Addr) : storedH (xs.map fun x => (x.1, x.2, Value.bool true)) d b (.bool true) = (putA xs d b).map fun x => (x.1, x.2, Value.bool true) := by
 have e : (atKey (xs.map fun x => (x.1, x.2, Value.bool true)) d).isSome = (xs.any fun x => decide (x.1 = d)) := by
  unfold atKey
  rw [Option.isSome_map]
  induction xs with
  | nil => rfl
  | cons x xs ih =>
   rw [List.map_cons, List.find?_cons, List.any_cons]
   by_cases h : x.1 = d
   ·simp [h]
   ·simp only [h, decide_false, Bool.false_or]; exact ih
 unfold storedH putA
 rw [e]
 by_cases h : (xs.any fun x => decide (x.1 = d)) = true
 ·rw [if_pos h, if_pos h, List.map_map]
  refine List.map_congr_left fun x _ => ?_
  simp only [Function.comp, putAt]
  split <;> rfl
 ·rw [if_neg h, if_neg h, List.map_append]; rfl
section
variable {X : Cx} {pins : List (Addr × Obj)} {σ : St} {H : Hp} {s : Shared} {A : Around} {E : Value → Shared → Prop}
noncomputable def KeysD (K : PySem.W.Frag) (H : Hp) (xs : List (PyData × Addr)) : Prop := ∀ x ∈ xs, okK x.1 = true ∧ x.1.depth ≤ 6 ∧ DatV K H x.1 (.ref x.2)
theorem Inv.key (I : Inv X pins σ H s) {d : PyData} {b : Addr} (h1 : okK d = true) (h2 : d.depth ≤ 6) (h3 : DatV X.K H d (.ref b)) : isKey s.heap d b :=
 ⟨h1, h2, I.reads d (.ref b) (.ref b) h3 rfl⟩
theorem n_setItem {a b : Addr} {xs : List (PyData × Addr)} {d : PyData} {Q : Unit → Shared → Prop} (hu : A.units + 20 < cLine) (I : Inv X pins σ H s) (e : H a = some (.ext (nAt X.w a xs))) (hk : KeysD X.K H xs) (h1 : okK d = true) (h2 : d.depth ≤ 6) (h3 : DatV X.K H d (.ref b)) (hl : xs.length < 1000)
  (h : ∀ s', Inv X pins σ (upd H a (.ext (nAt X.w a (putA xs d b)))) s' → Q () s') : wpAny (model X.prog X.w) A (setItem (.ref a) (.ref b) (.bool true)) Q E s := by
 obtain ⟨⟨z, o, es, ep, ho, hx, hd, hes, hn⟩, _, _⟩ := (show ObjOk X.prog X.w H s.heap a (.ext (nAt X.w a xs)) from I.hok a _ e)
 have dd : Heap.DictOfH (dataKind X.prog X.w) s.heap a (xs.map fun x => (x.1, x.2, Value.bool true)) := by
  refine ⟨o, es, ep, ho, hx, hd, ?_, fun x hx' => ?_, ?_⟩
  ·rw [hes, List.map_map]; rfl
  ·obtain ⟨y, hy, rfl⟩ := List.mem_map.mp hx'
   obtain ⟨k1, k2, k3⟩ := hk y hy
   exact I.key k1 k2 k3
  ·rw [List.map_map]; exact hn
 refine wpAny_setItem_heap (knd := dataKind X.prog X.w) (hsz := by rw [List.length_map, sizeLine_eq]; omega) (show A.units + 1 + 10 < cLine by omega) (I.key h1 h2 h3) dd fun h' dd' hs => h _ ?_
 rw [putA_stored] at dd'
 obtain ⟨q, es', ep', hq, x1, x2, x3, _, x5⟩ := dd'
 have nn : nAt X.w a (putA xs d b) h' := ⟨z, q, es', ep', hq, x1, x2, by rw [x3, List.map_map]; rfl, by rw [List.map_map] at x5; exact x5⟩
 exact d_write I (by rw [e]; exact True.intro) hs ⟨q, hq⟩ nn.ok
end
noncomputable def tDNewN (W : World) : TE := fun _ H Q => ∀ p, H p = none → Q (.ref p) (upd H p (.ext (nAt W p [])))
noncomputable def sNPut (K : PySem.W.Frag) (W : World) (td ty tv : TE) : TS := fun D σ H => tv σ H fun v H1 => td σ H1 fun x H2 => ty σ H2 fun y H3 => ∃ (a a' b : Addr) (xs : List (PyData × Addr)) (d : PyData), v = .bl true ∧ x = .ref a ∧ y = .ref b ∧ H3 a = some (.ext (nAt W a' xs)) ∧
 KeysD K H3 xs ∧ okK d = true ∧ d.depth ≤ 6 ∧ DatV K H3 d (.ref b) ∧ xs.length < 1000 ∧ (a' = a → D.nx σ (upd H3 a (.ext (nAt W a (putA xs d b)))))
noncomputable def rSortN (K : PySem.W.Frag) (W : World) : List V → Hp → VK → Prop := fun vs H Q => ∃ (a a' : Addr) (ks : List (PyData × Addr)), vs = [.ref a] ∧ H a = some (.ext (nAt W a' ks)) ∧ KeysD K H ks ∧ (∀ k ∈ ks, ∃ p r, k.1 = PyData.tuple (.int p :: r)) ∧ (∀ k ∈ ks, ∀ l ∈ ks, cmpK k.1 l.1 = true) ∧ ks.length < 64 ∧
 ∀ (p : Addr) (out : List (PyData × Addr)), H p = none → out.Perm ks → Q (.ref p) (upd H p (.lst (out.map fun k => V.ref k.2)))
theorem vals_refs {α : Type} (f : α → Addr) : ∀ l : List α, Vals (l.map fun x => V.ref (f x)) (l.map fun x => Value.ref (f x))
 | [] => .nil
 | x :: l => .cons rfl (vals_refs f l)
section
variable {X : Cx} {o i value : Expr} {td ty tv : TE} {pos pos' : Pos}
theorem pe_dnewN : PE X (.Dict [] [] pos) (tDNewN X.w) := fun pins s σ H Q I h =>
 wpAny_Dict_empty ⟨.ref s.heap.objs.size, _, I.laid (a := s.heap.objs.size) (o := .ext (nAt X.w s.heap.objs.size [])) (t' := s.toks) (fun _ _ q => Heap.get?_push_of_some _ q) (Nat.le_refl _)
  (nAt.ok ⟨beq_eq_false_iff_ne.mpr (Ne.symm (Nat.ne_of_lt I.big)), _, #[], 0, Heap.get?_push_size _ rfl, ⟨rfl, rfl, rfl⟩, rfl, rfl, List.nodup_nil⟩), rfl, h _ (I.hok.fresh (Nat.le_refl _))⟩
theorem ps_nput (hu : X.A.units + 20 < cLine) (ho : PE X o td) (hi : PE X i ty) (hv : PE X value tv) (hs : swapsWith value (some (.Subscript o i pos')) pos.line X.env = pure false) :
  PS X (.Assign [.Subscript o i pos'] value pos) (sNPut X.K X.w td ty tv) := by
 intro pins s σ H D I h
 refine wpAny_Assign_Subscript (thn (hv pins s σ H _ I h) fun r s1 ⟨v, H1, I1, rv, q1⟩ => thn (ho pins s1 σ H1 _ I1 q1) fun u s2 ⟨x, H2, I2, rx, q2⟩ => thn (hi pins s2 σ H2 _ I2 q2) fun iv s3 ⟨y, H3, I3, ry, a, a', b, xs, d, ev, ex, ey, e, k1, k2, k3, k4, k5, q3⟩ => ?_) hs
 subst ev ex ey
 obtain rfl : u = Value.ref a := rx
 obtain rfl : iv = Value.ref b := ry
 obtain rfl : r = Value.bool true := rv
 obtain rfl := ext_own (show ObjOk X.prog X.w H3 s3.heap a (.ext (nAt X.w a' xs)) from I3.hok a _ e)
 exact n_setItem hu I3 e k1 k2 k3 k4 k5 fun s4 I4 => ⟨σ, _, I4, q3 rfl⟩
theorem call_sortN {k : Nat} (hr : Room k X.A) : CallR X (.builtin "sorted") (rSortN X.K X.w) := by
 intro pins s σ H xs us Q I r h
 obtain ⟨a, a', ks, rfl, e, hk, h0, hc, hl, q⟩ := h
 obtain ⟨u, rfl, ru⟩ := vals1 r
 cases ru
 have ob := (show ObjOk X.prog X.w H s.heap a (.ext (nAt X.w a' ks)) from I.hok a _ e)
 obtain rfl := ext_own ob
 obtain ⟨⟨z, o, es, ep, ho, hx, hd, hes, hn⟩, _, _⟩ := ob
 refine sorted_data hr.hd z ⟨o, ho, hx, hd⟩ (by rw [hes, List.map_map]; rfl) (fun y hy => ?_) hc hl (by have := hr.units; omega) fun h1 h2 tk out c kp1 kp2 g hp => ?_
 ·obtain ⟨k1, k2, k3⟩ := hk y hy
  exact ⟨I.key k1 k2 k3, h0 y hy⟩
 ·have I1 : Inv X pins σ H { s with heap := h1, toks := tk } := I.kept (t' := tk) kp1
  refine ⟨.ref h1.objs.size, _, I1.laid (a := h1.objs.size) (t' := tk) (o := .lst (out.map fun k => V.ref k.2)) kp2 (Nat.le_refl _) ⟨by rw [List.length_map, hp.length_eq, sizeLine_eq]; omega, _, c, vals_refs (fun k => k.2) out, g⟩, rfl, q _ out (I1.hok.fresh (Nat.le_refl _)) hp⟩
end
end L2
namespace M6
open PySem PySem.Spec PyProof.Rows
section
variable {prog : Program} {w : World} {A : Around} {E : Value → Shared → Prop} {s : Shared}
end
end M6
namespace L2
open PySem PySem.Spec PyProof.Rows M6
section
variable {X : Cx}
end
end L2
namespace M6
open PySem PySem.Spec PyProof.Rows
section
variable {prog : Program} {w : World} {A : Around} {E : Value → Shared → Prop} {s : Shared}
end
section
variable {prog : Program} {w : World} {A : Around} {E : Value → Shared → Prop} {s : Shared} {K : Type} [DecidableEq K] {knd : KeyKind prog w K}
end
end M6
namespace L2
open PySem PySem.Spec PyProof.Rows M6
section
variable {X : Cx}
end
end L2
namespace M
open PySem PySem.Spec PyProof.Rows L2 M6
section
variable {K : PySem.W.Frag}
end
section
variable {X : Cx} {o i value : Expr} {pos pos' : Pos}
end
end M
namespace M
open PySem PySem.Spec PyProof.Rows L2 M6
noncomputable def nF (W : World) (ks : List D) : Addr → List Addr → Heap → Prop := fun a bs => nAt W a ((ks.map py).zip bs)
noncomputable def nO (W : World) (ks : List D) : MO := .ddt (nF W ks) ks
noncomputable def GoodK (d : D) : Prop := pur d = true ∧ okK (py d) = true ∧ (py d).depth ≤ 6 ∧ ∃ es, d = .tup es
noncomputable def putN (ks : List D) (k : D) : List D := if (ks.any fun j => decide (py j = py k)) = true then ks else ks ++ [k]
section
variable {K : PySem.W.Frag}
theorem good_ref {w : Wd} {H : Hp} {S : Sto} {d : D} {v : V} (ok : Ok K w H S) (h : Rep K w d v) (g : GoodK d) : ∃ b, v = .ref b ∧ DatV K H (py d) (.ref b) := by
 obtain ⟨g1, g2, g3, es, rfl⟩ := g
 have h2 := h
 simp only [Rep] at h2
 obtain ⟨b, ys, rfl, _⟩ := h2
 have := see_dat ok h (by simpa [see] using g1)
 exact ⟨b, rfl, by simpa [see] using this⟩
theorem keys_dat {w : Wd} {H : Hp} {S : Sto} (ok : Ok K w H S) : ∀ {ks : List D} {bs : List Addr}, Reps K w ks (bs.map V.ref) → (∀ k ∈ ks, GoodK k) → KeysD K H ((ks.map py).zip bs)
 | [], bs, _, _ => fun x hx => by simp at hx
 | k :: ks, [], h, _ => by simp only [List.map_nil, Reps] at h; obtain ⟨_, _, z, _⟩ := h; cases z
 | k :: ks, b :: bs, h, g => by
  simp only [List.map_cons, Reps] at h
  obtain ⟨x, r, e, h1, h2⟩ := h
  injection e with e1 e2
  subst e1; subst e2
  intro y hy
  rw [List.map_cons, List.zip_cons_cons] at hy
  rcases List.mem_cons.mp hy with rfl | hy
  ·obtain ⟨b', e, hd⟩ := good_ref ok h1 (g k (by simp))
   cases e
   exact ⟨(g k (by simp)).2.1, (g k (by simp)).2.2.1, hd⟩
  ·exact keys_dat ok h2 (fun k hk => g k (List.mem_cons_of_mem _ hk)) y hy
noncomputable def aDNewN (W : World) : AE := fun _ S Q => Q (.new (nO W [])) S
theorem s_dnewN {W : World} : ∀ σ H Q, conE K (aDNewN W) σ H Q → tDNewN W σ H Q := by
 rintro σ H Q ⟨w, δ, S, Qa, ok, env, q, bk⟩ p hp
 exact bk (.new (nO W [])) S _ w _ .refl (ok.alloc hp) (ok.fresh hp ⟨p, [], rfl, .nil⟩) q
noncomputable def aNPut (W : World) (a b c : AE) : AS := fun D δ S => c δ S fun r3 S1 => a δ S1 fun r1 S2 => b δ S2 fun r2 S3 => ∃ n ks, r3.d = .bl true ∧ r1.d = .loc n ∧ S3[n]? = some (some (nO W ks)) ∧ GoodK r2.d ∧ (∀ k ∈ ks, GoodK k) ∧ ks.length < 1000 ∧ D.nx δ (S3.set n (some (nO W (putN ks r2.d))))
theorem putA_zip {ks : List D} {bs : List Addr} {k : D} {b : Addr} (h : ks.length = bs.length) : ∃ bs', putA ((ks.map py).zip bs) (py k) b = ((putN ks k).map py).zip bs' ∧ (bs' = bs ∧ putN ks k = ks ∨ bs' = bs ++ [b] ∧ putN ks k = ks ++ [k]) := by
 have e : (((ks.map py).zip bs).any fun x => decide (x.1 = py k)) = (ks.any fun j => decide (py j = py k)) := by
  have : ((ks.map py).zip bs).map (·.1) = ks.map py := List.map_fst_zip (by rw [List.length_map]; omega)
  have h1 : (((ks.map py).zip bs).any fun x => decide (x.1 = py k)) = ((((ks.map py).zip bs).map (·.1)).any fun d => decide (d = py k)) := by rw [List.any_map]; rfl
  rw [h1, this, List.any_map]; rfl
 unfold putA putN
 rw [e]
 by_cases hc : (ks.any fun j => decide (py j = py k)) = true
 ·rw [if_pos hc, if_pos hc]
  exact ⟨bs, rfl, .inl ⟨rfl, rfl⟩⟩
 ·rw [if_neg hc, if_neg hc]
  refine ⟨bs ++ [b], ?_, .inr ⟨rfl, rfl⟩⟩
  rw [List.map_append, List.zip_append (by rw [List.length_map]; exact h)]; rfl
theorem s_nput {W : World} {a b c : AE} : ∀ D σ H, conS K (aNPut W a b c) D σ H → sNPut K W (conE K a) (conE K b) (conE K c) D σ H := by
 rintro D σ H ⟨w, δ, S, Da, ok, env, q, bk⟩
 refine ⟨w, δ, S, _, ok, env, q, .go fun r3 S1 v3 w1 H1 le1 ok1 rep3 q1 => ?_⟩
 refine ⟨w1, δ, S1, _, ok1, env.le le1, q1, .go fun r1 S2 v1 w2 H2 le2 ok2 rep1 q2 => ?_⟩
 refine ⟨w2, δ, S2, _, ok2, (env.le le1).le le2, q2, .go fun r2 S3 v2 w3 H3 le3 ok3 rep2 ⟨n, ks, z0, z1, z2, g1, g2, hl, q3⟩ => ?_⟩
 rw [z1] at rep1
 have rep1 := rep1.le le3
 simp only [Rep] at rep1
 obtain ⟨a, h0, rfl⟩ := rep1
 obtain ⟨a1, u, k1, k2, k3, a', bs, rfl, k5⟩ := ok3.live n _ z2
 rw [h0] at k1; cases k1
 obtain ⟨b, rfl, hb⟩ := good_ref ok3 rep2 g1
 have hlen : ks.length = bs.length := by have := k5.length; rw [List.length_map] at this; exact this.symm
 refine ⟨a, a', b, _, py r2.d, ?_, rfl, rfl, k3, keys_dat ok3 k5 g2, g1.2.1, g1.2.2.1, hb, ?_, fun e => ?_⟩
 ·rw [rep_bl rep3 z0]
 ·rw [List.length_zip, List.length_map]; omega
 ·subst e
  obtain ⟨bs', e1, e2⟩ := putA_zip (k := r2.d) (b := b) hlen
  rw [e1]
  refine bk.nx δ _ σ w3 _ ((le1.trans le2).trans le3) (ok3.put z2 h0 (o' := nO W (putN ks r2.d)) ⟨a', bs', rfl, ?_⟩) (((env.le le1).le le2).le le3) q3
  rcases e2 with ⟨rfl, e⟩ | ⟨rfl, e⟩
  ·rw [e]; exact k5
  ·rw [e, List.map_append]; exact k5.snoc rep2
noncomputable def aSortN (W : World) : AN := fun ds S Q => ∃ n ks, ds = [.loc n] ∧ S[n]? = some (some (nO W ks)) ∧ (∀ k ∈ ks, GoodK k ∧ ∃ p r, py k = PyData.tuple (.int p :: r)) ∧ (∀ k ∈ ks, ∀ l ∈ ks, cmpK (py k) (py l) = true) ∧ ks.length < 64 ∧ ∀ ks' : List D, ks'.Perm ks → Q (.new (.lst ks')) S
theorem zip_rep {w : Wd} : ∀ {ks : List D} {bs : List Addr}, Reps K w ks (bs.map V.ref) → ∀ x ∈ ks.zip bs, Rep K w x.1 (.ref x.2)
 | [], _, _, x, hx => by simp at hx
 | _ :: _, [], _, x, hx => by simp at hx
 | k :: ks, b :: bs, h, x, hx => by
  simp only [List.map_cons, Reps] at h
  obtain ⟨y, r, e, h1, h2⟩ := h
  injection e with e1 e2
  subst e1; subst e2
  rw [List.zip_cons_cons] at hx
  rcases List.mem_cons.mp hx with rfl | hx
  ·exact h1
  ·exact zip_rep h2 x hx
theorem reps_of_pairs {w : Wd} : ∀ {o : List (D × Addr)}, (∀ x ∈ o, Rep K w x.1 (.ref x.2)) → Reps K w (o.map (·.1)) (o.map fun x => V.ref x.2)
 | [], _ => .nil
 | x :: o, h => .cons (h x (by simp)) (reps_of_pairs fun y hy => h y (List.mem_cons_of_mem _ hy))
end
section
variable {X : Cx} {o i value : Expr} {pos pos' : Pos}
theorem pe_dnewN : GE X (.Dict [] [] pos) (aDNewN X.w) := ⟨mE L2.pe_dnewN s_dnewN⟩
theorem ps_nput {k : Nat} (hr : Room k X.A) {ta tb tc : AE} (ho : GE X o ta) (hi : GE X i tb) (hv : GE X value tc) (hs : swapsWith value (some (.Subscript o i pos')) pos.line X.env = pure false) : GS X (.Assign [.Subscript o i pos'] value pos) (aNPut X.w ta tb tc) :=
 ⟨mS (L2.ps_nput (by have := hr.units; omega) ho.p hi.p hv.p hs) s_nput⟩
theorem o_sortN {k : Nat} (hr : Room k X.A) : OpC X (.builtin "sorted") (aSortN X.w) := ⟨mC (call_sortN hr) fun xs H Q h => by
 obtain ⟨w, ds, S, Qa, ok, rep, ⟨n, ks, rfl, z, g1, g2, hl, q⟩, bk⟩ := h
 obtain ⟨v, rfl, r1⟩ := reps1 rep
 simp only [Rep] at r1
 obtain ⟨a, h0, rfl⟩ := r1
 obtain ⟨a1, u, k1, k2, k3, a', bs, rfl, k5⟩ := ok.live n _ z
 rw [h0] at k1; cases k1
 have hlen : ks.length = bs.length := by have := k5.length; rw [List.length_map] at this; exact this.symm
 have mem1 : ∀ x ∈ (ks.map py).zip bs, ∃ k ∈ ks, x.1 = py k := fun x hx => by
  have := (List.of_mem_zip hx).1
  obtain ⟨k, hk, e⟩ := List.mem_map.mp this
  exact ⟨k, hk, e.symm⟩
 refine ⟨a, a', _, rfl, k3, keys_dat ok k5 (fun k hk => (g1 k hk).1), fun x hx => ?_, fun x hx y hy => ?_, by rw [List.length_zip, List.length_map]; omega, fun p out hp hperm => ?_⟩
 ·obtain ⟨k, hk, e⟩ := mem1 x hx
  rw [e]; exact (g1 k hk).2
 ·obtain ⟨k, hk, e⟩ := mem1 x hx
  obtain ⟨k', hk', e'⟩ := mem1 y hy
  rw [e, e']; exact g2 k hk k' hk'
 ·have ez : (ks.map py).zip bs = (ks.zip bs).map fun x => (py x.1, x.2) := by rw [List.zip_map_left]; rfl
  rw [ez] at hperm
  obtain ⟨o', p1, rfl⟩ := perm_inv hperm
  have e2 : (List.map (fun k : PyData × Addr => V.ref k.2) (o'.map fun x => (py x.1, x.2))) = o'.map fun x => V.ref x.2 := by rw [List.map_map]; rfl
  rw [e2]
  refine bk (.new (.lst (o'.map (·.1)))) S _ w _ .refl (ok.alloc hp) (ok.fresh hp ⟨_, rfl, reps_of_pairs fun x hx => zip_rep k5 x (p1.mem_iff.mp hx)⟩) (q _ ?_)
  have := p1.map (·.1)
  rw [List.map_fst_zip (by omega)] at this
  exact this⟩
end
end M
namespace M
open PySem PySem.Spec PyProof.Rows L2 M6
section
variable {K : PySem.W.Frag}
end
section
variable {X : Cx} {e : Expr}
end
end M
namespace M7
open PySem PySem.Spec PyProof.Rows M5
noncomputable def Rise (xs : Array Nat) : Prop := ∀ i j, i < j → (hj : j < xs.size) → (hi : i < xs.size) → xs[i] < xs[j]
theorem below_go {xs : Array Nat} (hx : Rise xs) (j : Nat) : ∀ (f lo hi : Nat), hi - lo ≤ f → lo ≤ hi → hi ≤ xs.size → (∀ i (h : i < xs.size), i < lo → xs[i] < j) → (∀ i (h : i < xs.size), hi ≤ i → j ≤ xs[i]) →
  SetTable.below.go xs j f lo hi ≤ xs.size ∧ (∀ i (h : i < xs.size), i < SetTable.below.go xs j f lo hi → xs[i] < j) ∧ ∀ i (h : i < xs.size), SetTable.below.go xs j f lo hi ≤ i → j ≤ xs[i]
 | 0, lo, hi, h1, h2, h3, h4, h5 => by
  rw [SetTable.below.go.eq_1]
  have : hi = lo := by omega
  subst this
  exact ⟨h3, h4, h5⟩
 | f + 1, lo, hi, h1, h2, h3, h4, h5 => by
  rw [SetTable.below.go.eq_2]
  by_cases hl : lo < hi
  ·rw [if_pos hl]
   dsimp only
   have hm : (lo + hi) / 2 < xs.size := by omega
   have eg : xs.getD ((lo + hi) / 2) j = xs[(lo + hi) / 2] := by simp [Array.getD, hm]
   rw [eg]
   by_cases hc : xs[(lo + hi) / 2] < j
   ·rw [if_pos hc]
    refine below_go hx j f _ hi (by omega) (by omega) h3 (fun i h hi' => ?_) h5
    rcases Nat.lt_or_ge i ((lo + hi) / 2) with z | z
    ·have := hx i _ z hm h; omega
    ·obtain rfl : i = (lo + hi) / 2 := by omega
     exact hc
   ·rw [if_neg hc]
    refine below_go hx j f lo _ (by omega) (by omega) (by omega) h4 (fun i h hi' => ?_)
    rcases Nat.lt_or_ge ((lo + hi) / 2) i with z | z
    ·have := hx _ i z h hm; omega
    ·obtain rfl : i = (lo + hi) / 2 := by omega
     omega
  ·rw [if_neg hl]
   have : hi = lo := by omega
   subst this
   exact ⟨h3, h4, h5⟩
theorem below_ok {xs : Array Nat} (hx : Rise xs) (j : Nat) : SetTable.below xs j ≤ xs.size ∧ (∀ i (h : i < xs.size), i < SetTable.below xs j → xs[i] < j) ∧ ∀ i (h : i < xs.size), SetTable.below xs j ≤ i → j ≤ xs[i] :=
 below_go hx j xs.size 0 xs.size (by omega) (Nat.zero_le _) (Nat.le_refl _) (fun i h z => absurd z (Nat.not_lt_zero _)) (fun i h z => by omega)
theorem below_next {xs : Array Nat} (hx : Rise xs) {i : Nat} (hi : i < xs.size) : SetTable.below xs (xs[i] + 1) = i + 1 := by
 obtain ⟨h1, h2, h3⟩ := below_ok hx (xs[i] + 1)
 have a1 : i < SetTable.below xs (xs[i] + 1) := by
  rcases Nat.lt_or_ge i (SetTable.below xs (xs[i] + 1)) with z | z
  ·exact z
  ·have := h3 i hi z; omega
 rcases Nat.lt_or_ge (i + 1) (SetTable.below xs (xs[i] + 1)) with z | z
 ·have hs : i + 1 < xs.size := by omega
  have := h2 (i + 1) hs z
  have := hx i (i + 1) (by omega) hs hi
  omega
 ·omega
theorem below_zero {xs : Array Nat} (hx : Rise xs) : SetTable.below xs 0 = 0 := by
 obtain ⟨h1, h2, h3⟩ := below_ok hx 0
 rcases Nat.eq_zero_or_pos (SetTable.below xs 0) with z | z
 ·exact z
 ·have := h2 0 (by omega) z; omega
theorem rise_list {xs : Array Nat} : Rise xs ↔ xs.toList.Pairwise (· < ·) := by
 rw [List.pairwise_iff_getElem]
 constructor
 ·intro h i j hi hj hij
  have := h i j hij (by simpa using hj) (by simpa using hi)
  simpa using this
 ·intro h i j hij hj hi
  have := h i j (by simpa using hi) (by simpa using hj) hij
  simpa using this
theorem rise_put {xs : Array Nat} {j : Nat} (hx : Rise xs) (hj : (xs[SetTable.below xs j]? == some j) = false) : Rise (SetTable.insertAt xs (SetTable.below xs j) j) := by
 obtain ⟨h1, h2, h3⟩ := below_ok hx j
 rw [rise_list] at hx ⊢
 have e : (SetTable.insertAt xs (SetTable.below xs j) j).toList = xs.toList.take (SetTable.below xs j) ++ [j] ++ xs.toList.drop (SetTable.below xs j) := by
  unfold SetTable.insertAt
  simp [Array.toList_extract]
  exact List.take_of_length_le (by simp)
 rw [e]
 generalize SetTable.below xs j = p at *
 have ht : ∀ x ∈ xs.toList.take p, x < j := fun x hx' => by
  obtain ⟨i, hi, rfl⟩ := List.getElem_of_mem hx'
  rw [List.length_take] at hi
  have := h2 i (by simp at hi; omega) (by omega)
  simpa using this
 have hd : ∀ x ∈ xs.toList.drop p, j < x := fun x hx' => by
  obtain ⟨i, hi, rfl⟩ := List.getElem_of_mem hx'
  rw [List.length_drop] at hi
  have hi' : p + i < xs.size := by simp at hi; omega
  have a1 := h3 (p + i) hi' (by omega)
  have e1 : (xs.toList.drop p)[i] = xs[p + i] := by simp
  rw [e1]
  have hps : p < xs.size := by omega
  have a2 : xs[p] ≠ j := fun z => by
   rw [Array.getElem?_eq_getElem hps, z] at hj
   simp at hj
  rcases Nat.eq_zero_or_pos i with rfl | z
  ·have : xs[p + 0] = xs[p] := rfl
   omega
  ·have a3 := h3 p hps (Nat.le_refl _)
   have a4 := rise_list.mpr hx p (p + i) (by omega) hi' hps
   omega
 rw [List.pairwise_append, List.pairwise_append]
 refine ⟨⟨hx.sublist (List.take_sublist ..), by simp, fun a ha b hb => ?_⟩, hx.sublist (List.drop_sublist ..), fun a ha b hb => ?_⟩
 ·rw [List.mem_singleton.mp hb]; exact ht a ha
 ·rcases List.mem_append.mp ha with ha | ha
  ·exact Nat.lt_trans (ht a ha) (hd b hb)
  ·rw [List.mem_singleton.mp ha]; exact hd b hb
theorem fst_sub {α : Type} (f : Nat → Option α) : ∀ l : List Nat, (List.map (fun x => x.1) (List.filterMap (fun j => Option.map (fun x => (j, x)) (f j)) l)).Sublist l
 | [] => .slnil
 | a :: l => by
  rw [List.filterMap_cons]
  cases f a with
  | none => exact .cons a (fst_sub f l)
  | some x => exact .cons₂ a (fst_sub f l)
noncomputable def Neat (t : SetTable) : Prop := t.dummies = #[] ∧ (t.plain = true → Rise t.place)
theorem neat_stand (t : SetTable) (n : Nat) : Neat (t.standIn n) := ⟨rfl, fun z => by cases z⟩
theorem neat_or {t : SetTable} {n : Nat} (h : Neat t) : Neat (t.orStandIn n) := by
 unfold SetTable.orStandIn
 split
 ·exact h
 ·exact neat_stand t n
theorem neat_laid {mask finger moves : Nat} {led plain : Bool} {hs : Array Int} {t : SetTable} {o : Array Nat} (h : SetTable.laid mask finger moves led plain hs = some (t, o)) : Neat t := by
 unfold SetTable.laid at h
 cases hl : SetTable.layClean mask hs with
 | none => rw [hl] at h; cases h
 | some ow =>
  rw [hl] at h
  have h : some _ = some _ := h
  injection h with h
  injection h with h1 h2
  subst h1
  refine ⟨rfl, fun _ => ?_⟩
  rw [rise_list]
  exact List.Pairwise.sublist (fst_sub _ _) List.pairwise_lt_range
theorem neat_relay {t : SetTable} {es : Array (Int × Value)} {n : Nat} : Neat (relayAll t es n).2.1 := by
 unfold relayAll
 split
 ·rename_i t' order he
  dsimp only
  split
  ·exact neat_laid he
  ·exact neat_stand _ _
 ·exact neat_stand _ _
theorem probe_free {t : SetTable} (hd : t.dummies = #[]) {hashAt : Nat → Int} {h : Int} : ∀ (f : Nat) (p : SetTable.Probe) {j : Nat} {dm : Option Nat}, p.dummy = none → SetTable.probe.go t hashAt h f p = some (.empty j dm) → dm = none ∧ (t.place[SetTable.below t.place j]? == some j) = false
 | 0, p, j, dm, _, e => by rw [SetTable.probe.go.eq_1] at e; cases e
 | f + 1, p, j, dm, hp, e => by
  rw [SetTable.probe.go.eq_2] at e
  have hs : ∀ q, t.slot q = if (t.place[SetTable.below t.place q]? == some q) = true then .live (SetTable.below t.place q) else .empty := fun q => by
   unfold SetTable.slot
   dsimp only
   rw [hd]
   have : SetTable.has #[] q = false := by unfold SetTable.has; rfl
   rw [this]; rfl
  have adv : (t.advance p).dummy = none := by
   unfold SetTable.advance
   split
   ·exact hp
   ·exact hp
  rw [hs] at e
  by_cases hc : (t.place[SetTable.below t.place p.j]? == some p.j) = true
  ·rw [if_pos hc] at e
   dsimp only at e
   split at e
   ·cases e
   ·exact probe_free hd f _ adv e
  ·rw [if_neg hc] at e
   dsimp only at e
   injection e with e
   injection e with e1 e2
   subst e1
   exact ⟨by rw [← e2]; exact hp, by simpa using hc⟩
theorem neat_new {t : SetTable} {es : Array (Int × Value)} {h : Int} {x : Value} (hn : Neat t) : Neat (layNew t es h x).2.1 := by
 unfold layNew
 split
 ·rename_i slot wd he
  dsimp only
  refine neat_or ?_
  unfold SetTable.freeSlot at he
  split at he
  ·rename_i j dm hp
   injection he with he
   injection he with e1 e2
   obtain ⟨rfl, h2⟩ := probe_free hn.1 _ _ rfl hp
   have e1 : j = slot := e1
   subst e1
   have hh : SetTable.has t.dummies j = false := by rw [hn.1]; unfold SetTable.has; rfl
   refine ⟨?_, fun z => ?_⟩
   ·show (if SetTable.has t.dummies j = true then _ else t.dummies) = #[]
    rw [if_neg (by rw [hh]; decide)]; exact hn.1
   ·exact rise_put (hn.2 z) h2
  ·cases he
 ·exact neat_stand _ _
noncomputable def intOf : Value → Int
 | .int i _ => i
 | _ => 0
noncomputable def IObj (prog : Program) (w : World) (o : Obj) (S : List Int) : Prop :=
 ∃ es ep t, o.ExactSet ∧ o.data = .set es ep t ∧ ElemsOf (PySem.intKind prog w) es.toList ∧ (es.toList.map fun e => intOf e.2).Perm S ∧ t.fits es.size = true ∧ t.led = (!w.params.followText "set-order") ∧ Neat t
noncomputable def IAt (prog : Program) (w : World) (h : Heap) (a : Addr) (S : List Int) : Prop := ∃ o, h.get? a = some o ∧ IObj prog w o S
noncomputable def addI (S : List Int) (x : Int) : List Int := if x ∈ S then S else S ++ [x]
section
variable {prog : Program} {w : World} {A : Around} {E : Value → Shared → Prop} {s : Shared}
theorem isKI (x : Int) (t : Tok) : (PySem.intKind prog w).is x (.int x t) = true := by
 show Value.isInt x (.int x t) = true
 simp [Value.isInt]
theorem intOfK {x : Int} {v : Value} (h : (PySem.intKind prog w).is x v = true) : intOf v = x := by
 obtain ⟨t, rfl⟩ := Value.isInt_shape h
 rfl
theorem add_int {a : Addr} {S : List Int} {x : Int} {tk : Tok} {Q : Bool → Shared → Prop} (hS : IAt prog w s.heap a S) (hn : S.length + 1 < 4096)
  (h : ∀ b h', Heap.SameBut a s.heap h' → IAt prog w h' a (addI S x) → Q b { s with heap := h' }) :
  wpAny (model prog w) A (setAddHashed a (.int x tk) ((PySem.intKind prog w).hash x)) Q E s := by
 obtain ⟨o, ho, es, ep, t, hex, hd, hel, hp, hf, hled, hpl⟩ := hS
 have hlen : es.size = S.length := by rw [← hp.length_eq, List.length_map, Array.length_toList]
 have hb : es.size < scanBound := by show es.size < 4096; omega
 unfold setAddHashed
 unfold setAddHashedIn
 refine wpAny_holding (wpAny_bind (wpAny_setState_of ho hd hf ?_))
 dsimp only
 rw [byScan_of (x := .int x tk) rfl hb hel, if_pos rfl]
 unfold setAddByScan
 refine wpAny_bind (wpAny_bind (wpAny_rule (wpAny_bind (wpAny_setScan_of (k := x) (isKI x tk) ho hd hf hel ?_))))
 cases hr : List.findIdx? (fun e => (PySem.intKind prog w).is x e.2) es.toList with
 | some j =>
  obtain ⟨hj, hpj, _⟩ := List.findIdx?_eq_some_iff_getElem.mp hr
  have hx : x ∈ S := hp.mem_iff.mp (List.mem_map.mpr ⟨_, List.getElem_mem hj, intOfK hpj⟩)
  dsimp only
  refine wpAny_pure (wpAny_pure ?_)
  have q := h false s.heap (Heap.SameBut.refl a s.heap) (by
   unfold addI
   rw [if_pos hx]
   exact ⟨o, ho, es, ep, t, hex, hd, hel, hp, hf, hled, hpl⟩)
  exact q
 | none =>
  have hx : x ∉ S := fun hx => by
   obtain ⟨e, he, z⟩ := List.mem_map.mp (hp.mem_iff.mpr hx)
   obtain ⟨⟨k, hk, _⟩, _⟩ := hel e he
   rw [intOfK hk] at z
   subst z
   have := List.findIdx?_eq_none_iff.mp hr e he
   rw [hk] at this; cases this
  dsimp only
  have hlp := layNew_perm t es ((PySem.intKind prog w).hash x) (.int x tk)
  have hlf := layNew_fits t es ((PySem.intKind prog w).hash x) (.int x tk)
  have hln := neat_new (es := es) (h := (PySem.intKind prog w).hash x) (x := .int x tk) hpl
  have hlk := layNew_kept t es ((PySem.intKind prog w).hash x) (.int x tk)
  generalize layNew t es ((PySem.intKind prog w).hash x) (.int x tk) = L at hlp hlf hlk hln ⊢
  obtain ⟨es1, t1, wd, gv⟩ := L
  dsimp only at hlp hlf hlk hln ⊢
  rw [Array.toList_push] at hlp
  have hel1 : ElemsOf (PySem.intKind prog w) es1.toList := (hel.push (isKI x tk) rfl).perm hlp
  have hp1 : (es1.toList.map fun e => intOf e.2).Perm (S ++ [x]) := by
   refine (hlp.map _).trans ?_
   rw [List.map_append]
   exact hp.append_right [x]
  have hsz1 : es1.size = S.length + 1 := by rw [← Array.length_toList, ← List.length_map (f := fun e : Int × Value => intOf e.2), hp1.length_eq, List.length_append]; rfl
  have gw : ∀ (b : Bool) {s₁ : Shared} {Q' : Unit → Shared → Prop}, Q' () s₁ → wpAny (model prog w) A (match b with | true => rule "set.scan.the-table-gave-way" | false => pure ()) Q' E s₁ := by
   intro b s₁ Q' q
   cases b
   ·exact wpAny_pure q
   ·exact wpAny_rule q
  refine wpAny_bind (gw _ ?_)
  have fin : ∀ (t2 : SetTable), t2.fits es1.size = true → t2.led = t.led → Neat t2 → wpAny (model prog w) A (do
    storeSet a es1 t2
    if (!wd && t2.tooFull) = true then do
      (match (relayAll t2 es1 (SetTable.grown es1.size)).2.2 with | true => rule "set.scan.the-table-gave-way" | false => pure ())
      storeSet a (relayAll t2 es1 (SetTable.grown es1.size)).1 (relayAll t2 es1 (SetTable.grown es1.size)).2.1
      pure (some true)
     else pure (some true)) (fun r s' => r = some true ∧ Q true s') E s := by
   intro t2 f2 l2 p2
   refine wpAny_bind (wpAny_storeSet_of ho hd ?_ (by rw [hsz1, sizeLine_eq]; omega))
   have ho1 := upd_set es1 t2 ho hd
   have sb1 := Heap.SameBut.update s.heap a (Obj.putSet es1 t2)
   split
   ·have rp := relayAll_perm t2 es1 (SetTable.grown es1.size)
    have rf := relayAll_fits t2 es1 (SetTable.grown es1.size)
    have rk := relayAll_kept t2 es1 (SetTable.grown es1.size)
    have rn : Neat (relayAll t2 es1 (SetTable.grown es1.size)).2.1 := neat_relay
    generalize relayAll t2 es1 (SetTable.grown es1.size) = Rl at rp rf rk rn ⊢
    obtain ⟨es2, t3, g2⟩ := Rl
    dsimp only at rp rf rk rn ⊢
    have hsz2 : es2.size = es1.size := by rw [← Array.length_toList, rp.length_eq, Array.length_toList]
    refine wpAny_bind (gw _ ?_)
    refine wpAny_bind (wpAny_storeSet_of ho1 rfl ?_ (by rw [hsz2, hsz1, sizeLine_eq]; omega))
    refine wpAny_pure ⟨rfl, h true _ (sb1.trans (Heap.SameBut.update _ a _)) ⟨_, upd_set es2 t3 ho1 rfl, es2, _, t3, hex, rfl, hel1.perm rp, ?_, rf, rk.1.trans (l2.trans hled), rn⟩⟩
    ·unfold addI; rw [if_neg hx]; exact (rp.map _).trans hp1
   ·refine wpAny_pure ⟨rfl, h true _ sb1 ⟨_, ho1, es1, _, t2, hex, rfl, hel1, ?_, f2, l2.trans hled, p2⟩⟩
    unfold addI; rw [if_neg hx]; exact hp1
  cases hpt : t1.plain with
  | true =>
   rw [if_pos rfl]
   refine wpAny_bind ?_
   rw [hashByValue_scannable 8 (x := .int x tk) rfl]
   refine wpAny_pure ?_
   refine wpAny_mono (fin _ ?_ ?_ ?_) ?_ (fun _ _ z => z)
   ·rw [if_pos (by simp [plainKind])]; exact hlf
   ·rw [if_pos (by simp [plainKind])]; exact hlk.1
   ·rw [if_pos (by simp [plainKind])]; exact hln
   ·rintro r s' ⟨rfl, q⟩
    exact wpAny_pure q
  | false =>
   rw [if_neg (by decide)]
   refine wpAny_bind (wpAny_pure ?_)
   refine wpAny_mono (fin _ ?_ ?_ ?_) ?_ (fun _ _ z => z)
   ·rw [if_pos rfl]; exact hlf
   ·rw [if_pos rfl]; exact hlk.1
   ·rw [if_pos rfl]; exact hln
   ·rintro r s' ⟨rfl, q⟩
    exact wpAny_pure q
end
noncomputable def allI (val : Nat → Int) : Nat → List Int
 | 0 => []
 | i + 1 => addI (allI val i) (val i)
theorem addI_len (S : List Int) (x : Int) : (addI S x).length ≤ S.length + 1 := by
 unfold addI
 split
 ·omega
 ·rw [List.length_append]; exact Nat.le_refl _
theorem allI_len (val : Nat → Int) : ∀ i, (allI val i).length ≤ i
 | 0 => Nat.le_refl _
 | i + 1 => Nat.le_trans (addI_len ..) (Nat.succ_le_succ (allI_len val i))
theorem IAt.keep {prog : Program} {w : World} {h h' : Heap} {a : Addr} {S : List Int} (x : IAt prog w h a S) (e : ∀ o, h.get? a = some o → h'.get? a = some o) : IAt prog w h' a S :=
 let ⟨o, ho, r⟩ := x; ⟨o, e o ho, r⟩
section
variable {prog : Program} {w : World} {A : Around} {R : Result → Shared → Prop} {I : Addr} {fp wr : List Addr} {G : Array GenState → Array GenState → Prop} {n : Nat} {P : Nat → Value → Prop} {St : Nat → Shared → Prop}
theorem loop_int (W : WalksS prog w A.in1 I fp wr G n P St) (a : Addr) (ha : a ∉ fp) (val : Nat → Int) (hval : ∀ i v, P i v → ∃ t, v = .int (val i) t) (hn : n < 4000) :
  ∀ (k i : Nat) (s : Shared), n - i = k → i ≤ n → St i s → IAt prog w s.heap a (allI val i) →
   (∀ s', Moved (a :: wr) G s s' → IAt prog w s'.heap a (allI val n) → R (.ok (.ret .none)) s') →
   codeAny (model prog w) A (.builtin "set.update.loop" ⟨[.ref a, .ref I], []⟩) R s := by
 have haw : a ∉ wr := fun z => ha (W.sub _ z)
 have sub : ∀ b ∈ wr, b ∈ a :: wr := fun b z => List.mem_cons_of_mem _ z
 intro k
 induction k with
 | zero =>
  intro i s hk hi hst hS hR
  obtain rfl : i = n := by omega
  refine codeAny_builtin PyProof.Rows.F.entry_set_update_loop ?_
  rw [Around.under_plainId PyProof.Rows.F.plain_set_update_loop _]
  show wpAny _ A.in1 (pyNext (.ref I) >>= _) _ _ s
  refine wpAny_bind (W.done s _ _ hst fun s' hm => ?_)
  exact wpAny_pure (hR s' (hm.mono sub) (hS.keep fun o e => hm.heap a o haw e))
 | succ k ih =>
  intro i s hk hi hst hS hR
  have hlt : i < n := by omega
  refine codeAny_builtin PyProof.Rows.F.entry_set_update_loop ?_
  rw [Around.under_plainId PyProof.Rows.F.plain_set_update_loop _]
  show wpAny _ A.in1 (pyNext (.ref I) >>= _) _ _ s
  refine wpAny_bind (W.item i s _ _ hlt hst fun v s' hP hst' hm => ?_)
  obtain ⟨t, rfl⟩ := hval i v hP
  have hS' : IAt prog w s'.heap a (allI val i) := hS.keep fun o e => hm.heap a o haw e
  show wpAny _ A.in1 (holding [Value.int (val i) t] (setAdd a (.int (val i) t)) >>= _) _ _ s'
  refine wpAny_bind (wpAny_holding ?_)
  unfold setAdd
  refine wpAny_holding (wpAny_bind ((PySem.intKind prog w).pyHash (k := val i) (isKI _ _) ?_))
  have := allI_len val i
  refine add_int (s := { s' with toks := s'.toks + 1 }) hS' (by omega) fun b h' hsb hS2 => ?_
  refine wpAny_pure ⟨plainId_quiet PyProof.Rows.F.plain_set_update_loop _, ih (i + 1) _ (by omega) hlt (W.frame _ s' _ _ hst' (Nat.le_succ _) fun b hb o e => ?_) hS2 fun s'' hm'' hS'' => ?_⟩
  ·rw [hsb.2 b fun z : b = a => ha (z ▸ hb)]; exact e
  ·refine hR s'' (Moved.trans W.gtrans ((hm.mono sub).then_heap (Nat.le_succ _) fun b o hb e => ?_) hm'') hS''
   rw [hsb.2 b fun z : b = a => hb (z ▸ List.mem_cons_self)]; exact e
end
section
variable {prog : Program} {w : World} {A : Around} {E : Value → Shared → Prop} {s : Shared}
theorem IAt_fresh {h : Heap} {a : Addr} (e : h.get? a = some (freshSet (!w.params.followText "set-order"))) : IAt prog w h a [] :=
 ⟨_, e, #[], 0, _, ⟨rfl, rfl, rfl⟩, rfl, fun e he => by simp at he, .nil, rfl, rfl, rfl, fun _ => fun i j _ hj _ => absurd hj (by simp [SetTable.fresh])⟩
theorem call_setG {l : Addr} {T : String} {ob : Obj} {Z : Heap → Prop} {Q : Value → Shared → Prop}
  (hT : s.TypeIs (.ref l) T) (h1 : isSubtype (.type T) (.type "set") = pure false) (h2 : isSubtype (.type T) (.type "frozenset") = pure false) (h3 : (Value.type T == Value.type "dict") = false)
  (it : ∀ {A' : Around} {s' : Shared} {Q' : Value → Shared → Prop} {E' : Value → Shared → Prop}, (∀ b o, s.heap.get? b = some o → s'.heap.get? b = some o) → Q' (.ref s'.heap.objs.size) { s' with heap := s'.heap.push ob } → wpAny (model prog w) A' (pyIter (.ref l)) Q' E' s')
  (hob : ob.isFreed = false)
  (lp : ∀ (I : Addr) (h0 : Heap) {R : Result → Shared → Prop}, (∀ b o, s.heap.get? b = some o → h0.get? b = some o) → h0.get? s.heap.objs.size = some (freshSet (!w.params.followText "set-order")) → h0.get? I = some ob → l ≠ I → s.heap.objs.size ∉ [I, l] →
   (∀ (h' : Heap) (tk : Nat), Z h' → (∀ b o, b ∉ [s.heap.objs.size, I] → h0.get? b = some o → h'.get? b = some o) → R (.ok (.ret .none)) { s with heap := h', toks := tk }) → codeAny (model prog w) A.in1.in1 (.builtin "set.update.loop" ⟨[.ref s.heap.objs.size, .ref I], []⟩) R { s with heap := h0 })
  (h : ∀ (h' : Heap) (tk : Nat), Z h' → (∀ b o, b < s.heap.objs.size → s.heap.get? b = some o → h'.get? b = some o) → Q (.ref s.heap.objs.size) { s with heap := h', toks := tk }) :
  wpAny (model prog w) A (call (.type "set") [.ref l]) Q E s := by
 obtain ⟨c, tl, hmro⟩ := PySem.F.called_set.mro
 have hmade := PySem.F.called_set.made
 have hsub := PySem.F.called_set.sub
 have g1 := PySem.F.called_set.notType
 have g2 := PySem.F.called_set.canCreate
 have hct := PySem.F.typeCall_set_1 (.ref l)
 refine wpAny_call (codeAny_of_tree ?_)
 show wpAny _ _ (callAny (.type "set") _) _ _ _
 refine wpAny_pure ⟨Code.quiet_builtin _ (by decide +kernel), codeAny_builtin PySem.F.entry_type_call ?_⟩
 rw [Around.under_plain (weight_type_call_type "set" [.ref l] []) rfl]
 repeat (any_goals (first | assumption | wp_step))
 generalize hled : (!w.params.followText "set-order") = led
 refine codeAny_mono (set_new (.ref l) (E := E) (Q₁ := fun u s₁ => u = .ref s.heap.objs.size ∧ s₁ = { s with heap := s.heap.push (freshSet led) }) ⟨rfl, by rw [hled]⟩) fun r s₁ hr => ?_
 cases r with
 | error e => exact hr
 | ok fl =>
  cases fl with
  | ret u =>
   obtain ⟨rfl, rfl⟩ := hr
   have gS : (s.heap.push (freshSet led)).get? s.heap.objs.size = some (freshSet led) := Heap.get?_push_size _ rfl
   have tS : Shared.TypeIs { s with heap := s.heap.push (freshSet led) } (.ref s.heap.objs.size) "set" := ⟨_, gS, rfl⟩
   have hli := PySem.F.called_set.init.lookup
   have hbi := PySem.F.called_set.init.bind (.ref s.heap.objs.size)
   repeat (any_goals (first | assumption | wp_step))
   refine codeAny_mono (codeAny_call_builtin (R := wants (fun r s₂ => r = .none ∧ ∃ h' tk, s₂ = { s with heap := h', toks := tk } ∧ Z h' ∧ (∀ b o, b < s.heap.objs.size → s.heap.get? b = some o → h'.get? b = some o)) E) PySem.F.called_set.init.plain PySem.F.entry_set_init (check_set_init_1 tS ?_)) fun r₂ s₂ hr₂ => ?_
   ·have hlS : l < s.heap.objs.size := by obtain ⟨o, ho, _⟩ := hT; exact Heap.lt_size ho
    have kp : ∀ b o, s.heap.get? b = some o → (s.heap.push (freshSet led)).get? b = some o := fun b o e => Heap.get?_push_of_some _ e
    have tl1 : Shared.TypeIs { s with heap := s.heap.push (freshSet led) } (.ref l) T := by obtain ⟨o, ho, z⟩ := hT; exact ⟨o, kp _ _ ho, z⟩
    unfold Builtin.«set.__init__» noKeywords Builtin.Frozenset.updateFrom
    generalize hPI : pyIter = PI
    wp_walk
    subst hPI
    refine it kp ?_
    have sz : (s.heap.push (freshSet led)).objs.size = s.heap.objs.size + 1 := Heap.size_push ..
    have kp2 : ∀ b o, s.heap.get? b = some o → ((s.heap.push (freshSet led)).push ob).get? b = some o := fun b o e => Heap.get?_push_of_some _ (kp b o e)
    have hne : l ≠ (s.heap.push (freshSet led)).objs.size := by rw [sz]; exact Nat.ne_of_lt (Nat.lt_succ_of_lt hlS)
    have hSf : s.heap.objs.size ∉ [(s.heap.push (freshSet led)).objs.size, l] := by
     rw [sz]
     simp only [List.mem_cons, List.not_mem_nil, or_false]
     rintro (z | z)
     ·exact absurd z (by omega)
     ·rw [z] at hlS; exact Nat.lt_irrefl _ hlS
    refine wpAny_bind (wpAny_runValue ?_)
    refine lp _ _ kp2 (by rw [hled]; exact Heap.get?_push_of_some _ gS) (Heap.get?_push_size _ hob) hne hSf fun h' tk' hS' hm => ?_
    ·refine wpAny_pure (wpAny_pure ⟨rfl, h', tk', rfl, hS', fun b o hb e => hm b o ?_ (kp2 b o e)⟩)
     rw [sz]
     simp only [List.mem_cons, List.not_mem_nil, or_false]
     rintro (z | z)
     ·exact Nat.ne_of_lt hb z
     ·exact Nat.ne_of_lt (Nat.lt_succ_of_lt hb) z
   ·cases r₂ with
    | error e => exact hr₂
    | ok fl₂ =>
     cases fl₂ with
     | ret r =>
      obtain ⟨rfl, h', tk, rfl, hS', hk'⟩ := hr₂
      repeat (any_goals (first | assumption | wp_step))
      exact h _ _ hS' hk'
     | _ => exact hr₂.elim
  | _ => exact hr.elim
theorem call_setI {l : Addr} {T : String} {ob : Obj} {n : Nat} {P : Nat → Value → Prop} {St : Addr → Nat → Heap → Prop} {val : Nat → Int} {Q : Value → Shared → Prop}
  (hh : A.handled = none) (hT : s.TypeIs (.ref l) T) (h1 : isSubtype (.type T) (.type "set") = pure false) (h2 : isSubtype (.type T) (.type "frozenset") = pure false) (h3 : (Value.type T == Value.type "dict") = false)
  (it : ∀ {A' : Around} {s' : Shared} {Q' : Value → Shared → Prop} {E' : Value → Shared → Prop}, (∀ b o, s.heap.get? b = some o → s'.heap.get? b = some o) → Q' (.ref s'.heap.objs.size) { s' with heap := s'.heap.push ob } → wpAny (model prog w) A' (pyIter (.ref l)) Q' E' s')
  (hob : ob.isFreed = false) (W : ∀ {A' : Around} (I : Addr), A'.handled = none → l ≠ I → Walks prog w A' I [I, l] [I] n P (St I)) (st0 : ∀ I h', (∀ b o, s.heap.get? b = some o → h'.get? b = some o) → h'.get? I = some ob → St I 0 h')
  (hval : ∀ i v, P i v → ∃ t, v = .int (val i) t) (hn : n < 4000)
  (h : ∀ (h' : Heap) (tk : Nat), IAt prog w h' s.heap.objs.size (allI val n) → (∀ b o, b < s.heap.objs.size → s.heap.get? b = some o → h'.get? b = some o) → Q (.ref s.heap.objs.size) { s with heap := h', toks := tk }) :
  wpAny (model prog w) A (call (.type "set") [.ref l]) Q E s := by
 refine call_setG (Z := fun h' => IAt prog w h' s.heap.objs.size (allI val n)) hT h1 h2 h3 it hob (fun I h0 R kp gS gI hne hSf hR => ?_) h
 refine loop_int (W (A' := A.in1.in1.in1) I hh hne).toS s.heap.objs.size hSf val hval hn (n - 0) 0 _ rfl (Nat.zero_le _) (st0 I h0 kp gI) (IAt_fresh gS) fun s' hm hS' => ?_
 obtain ⟨h', g', d', tk', os'⟩ := s'
 obtain rfl : g' = s.gens := hm.gens
 obtain rfl : d' = s.drawn := hm.drawn
 obtain rfl : os' = s.os := hm.os
 exact hR h' tk' hS' fun b o hb e => hm.heap b o hb e
theorem set_tupleI {l : Addr} {its : Array Value} {ss : List Int} {Q : Value → Shared → Prop} (hh : A.handled = none) (hl : s.heap.IsTuple l its) (hS : IntsAre its.toList ss) (hn : ss.length < 4000)
  (h : ∀ (h' : Heap) (tk : Nat), IAt prog w h' s.heap.objs.size (allI (fun i => ss.getD i 0) ss.length) → (∀ b o, b < s.heap.objs.size → s.heap.get? b = some o → h'.get? b = some o) → Q (.ref s.heap.objs.size) { s with heap := h', toks := tk }) :
  wpAny (model prog w) A (call (.type "set") [.ref l]) Q E s := by
 have el : its.size = ss.length := by rw [← Array.length_toList, hS.length]
 rw [← el] at h
 refine call_setI (T := "tuple") (St := fun I i h => h.IsTupleIter I l i ∧ h.IsTuple l its) (ob := { cls := .type "tuple_iterator", data := .fields #[.ref l, .int 0 0] }) (P := fun i v => its[i]? = some v) hh hl.typeIs M5.F.sub_tuple_set M5.F.sub_tuple_frozenset (by decide) (fun kp q => wpAny_pyIter_tuple (hl.at (kp l)) q) rfl (fun I h1 h2 => Walks.tuple h1 I l h2 its)
  (fun I h' kp e => ⟨⟨_, e, rfl, rfl⟩, hl.at (kp l)⟩) ?_ (by omega) h
 intro i v hv
 rw [← Array.getElem?_toList] at hv
 clear h
 revert i
 generalize its.toList = vs at hS
 clear el hn
 induction hS with
 | nil => intro i hv; simp at hv
 | cons x t r ih =>
  intro i hv
  cases i with
  | zero => simp at hv; exact ⟨t, by rw [← hv]; rfl⟩
  | succ i =>
   rw [List.getElem?_cons_succ] at hv
   obtain ⟨t', e⟩ := ih i hv
   exact ⟨t', e⟩
theorem set_listI {l : Addr} {its : Array Value} {ss : List Int} {Q : Value → Shared → Prop} (hh : A.handled = none) (hl : s.heap.IsList l its) (hS : IntsAre its.toList ss) (hn : ss.length < 4000)
  (h : ∀ (h' : Heap) (tk : Nat), IAt prog w h' s.heap.objs.size (allI (fun i => ss.getD i 0) ss.length) → (∀ b o, b < s.heap.objs.size → s.heap.get? b = some o → h'.get? b = some o) → Q (.ref s.heap.objs.size) { s with heap := h', toks := tk }) :
  wpAny (model prog w) A (call (.type "set") [.ref l]) Q E s := by
 have el : its.size = ss.length := by rw [← Array.length_toList, hS.length]
 rw [← el] at h
 refine call_setI (T := "list") (St := fun I i h => h.IsListIter I l i ∧ h.IsList l its) (ob := { cls := .type "list_iterator", data := .fields #[.ref l, .int 0 0] }) (P := fun i v => its[i]? = some v) hh hl.typeIs PySem.F.sub_list_set PySem.F.sub_list_frozenset (by decide) (fun kp q => wpAny_pyIter_list (hl.at (kp l)) q) rfl (fun I h1 h2 => Walks.list h1 I l h2 its)
  (fun I h' kp e => ⟨⟨_, e, rfl, rfl⟩, hl.at (kp l)⟩) ?_ (by omega) h
 intro i v hv
 rw [← Array.getElem?_toList] at hv
 clear h
 revert i
 generalize its.toList = vs at hS
 clear el hn
 induction hS with
 | nil => intro i hv; simp at hv
 | cons x t r ih =>
  intro i hv
  cases i with
  | zero => simp at hv; exact ⟨t, by rw [← hv]; rfl⟩
  | succ i =>
   rw [List.getElem?_cons_succ] at hv
   obtain ⟨t', e⟩ := ih i hv
   exact ⟨t', e⟩
end
theorem mem_addI {S : List Int} {x y : Int} : y ∈ addI S x ↔ y ∈ S ∨ y = x := by
 unfold addI
 split
 ·exact ⟨.inl, fun z => z.elim id fun e => e ▸ ‹_›⟩
 ·simp
theorem nodup_addI {S : List Int} {x : Int} (h : S.Nodup) : (addI S x).Nodup := by
 unfold addI
 split
 ·exact h
 ·rw [List.nodup_append]
  refine ⟨h, by simp, fun a ha b hb => ?_⟩
  simp only [List.mem_singleton] at hb
  subst hb
  intro e
  subst e
  exact absurd ha ‹_›
theorem nodup_allI (val : Nat → Int) : ∀ n, (allI val n).Nodup
 | 0 => List.nodup_nil
 | n + 1 => nodup_addI (nodup_allI val n)
theorem mem_allI (val : Nat → Int) (y : Int) : ∀ n, y ∈ allI val n ↔ ∃ i, i < n ∧ val i = y
 | 0 => by simp [allI]
 | n + 1 => by
  show y ∈ addI _ _ ↔ _
  rw [mem_addI, mem_allI val y n]
  constructor
  ·rintro (⟨i, h, e⟩ | e)
   ·exact ⟨i, by omega, e⟩
   ·exact ⟨n, by omega, e.symm⟩
  ·rintro ⟨i, h, e⟩
   rcases Nat.lt_or_ge i n with z | z
   ·exact .inl ⟨i, z, e⟩
   ·obtain rfl : i = n := by omega
    exact .inr e.symm
theorem mem_allI' (ss : List Int) (y : Int) : y ∈ allI (fun i => ss.getD i 0) ss.length ↔ y ∈ ss := by
 rw [mem_allI]
 constructor
 ·rintro ⟨i, h, e⟩
  have : ss.getD i 0 = ss[i] := by simp [h]
  rw [this] at e
  exact e ▸ List.getElem_mem h
 ·intro h
  obtain ⟨i, h1, e⟩ := List.getElem_of_mem h
  exact ⟨i, h1, by simp [h1, e]⟩
end M7
namespace M7
open PySem PySem.Spec PyProof.Rows M5
section
variable {prog : Program} {w : World} {A : Around} {E : Value → Shared → Prop} {s : Shared}
theorem nextP {a : Addr} {ep i sl : Nat} {es : Array (Int × Value)} {t : SetTable} {Q : Option (Value × Nat) → Shared → Prop} (hb : w.params.followText "set-order" = false) (hS : SAt s.heap a es ep t) (hf : t.fits es.size = true) (h1 : (!t.plain && decide (es.size > 1)) = false) (hl : t.led = true)
  (h : Q (match es[SetTable.below t.place sl]?, t.place[SetTable.below t.place sl]? with | some (_, x), some j => some (x, j + 1) | _, _ => none) s) : wpAny (model prog w) A (setNext a sl i ep) Q E s := by
 obtain ⟨o, ho, hc, hd⟩ := hS
 unfold setNext
 refine wpAny_bind (wpAny_setState_of ho hd hf ?_)
 dsimp only
 refine wpAny_bind (by_text ?_)
 rw [if_neg (by rw [hb]; decide)]
 rw [if_neg (by
  show ¬ ((!t.plain && decide (es.size > 1)) = true)
  rw [h1]; decide)]
 refine wpAny_bind ?_
 show wpAny _ _ (if (!t.led && !es.isEmpty) = true then unsupported "set:maker-not-led" else pure ()) _ _ _
 rw [if_neg (by rw [hl]; simp)]
 refine wpAny_pure (wpAny_pure ?_)
 exact h
noncomputable def Ints (vs : List Value) (S : List Int) : Prop := (∀ v ∈ vs, ∃ x t, v = .int x t) ∧ (vs.map intOf).Perm S
theorem ints_of {es : Array (Int × Value)} {l : List (Int × Value)} {S : List Int} (hel : ElemsOf (PySem.intKind prog w) es.toList) (hp : (es.toList.map fun e => intOf e.2).Perm S) (h : l.Perm es.toList) : Ints (l.map (·.2)) S := by
 refine ⟨fun v hv => ?_, ?_⟩
 ·obtain ⟨e, he, rfl⟩ := List.mem_map.mp hv
  obtain ⟨⟨k, hk, _⟩, _⟩ := hel e (h.mem_iff.mp he)
  obtain ⟨t, z⟩ := Value.isInt_shape hk
  exact ⟨k, t, z⟩
 ·rw [List.map_map]
  exact (h.map _).trans hp
noncomputable def RawS (w : World) (h : Heap) (a : Addr) (es : Array (Int × Value)) (ep : Nat) (t : SetTable) : Prop :=
 ∃ o, h.get? a = some o ∧ o.ExactSet ∧ o.data = .set es ep t ∧ t.fits es.size = true ∧ t.led = (!w.params.followText "set-order") ∧ (t.plain = true → Rise t.place)
theorem RawS.keep {w : World} {h h' : Heap} {a : Addr} {es : Array (Int × Value)} {ep : Nat} {t : SetTable} (x : RawS w h a es ep t) (e : ∀ o, h.get? a = some o → h'.get? a = some o) : RawS w h' a es ep t :=
 let ⟨o, ho, r⟩ := x; ⟨o, e o ho, r⟩
theorem iter_raw {a : Addr} {es : Array (Int × Value)} {ep : Nat} {t : SetTable} {Q : Value → Shared → Prop} (hS : RawS w s.heap a es ep t) (hn : es.size < 4000)
  (h : ∀ (I : Addr) (ord : List Value) (fp : List Addr) (St : Nat → Heap → Prop) (h' : Heap) d, (∀ b o, s.heap.get? b = some o → h'.get? b = some o) → s.heap.objs.size ≤ I → (∀ b ∈ fp, b = a ∨ s.heap.objs.size ≤ b) →
   (∀ {A' : Around}, A'.handled = none → Walks prog w A' I fp [I] ord.length (fun i v => ord[i]? = some v) St) → St 0 h' → ord.Perm (es.toList.map (·.2)) → Q (.ref I) { s with heap := h', drawn := d }) :
  wpAny (model prog w) A (pyIter (.ref a)) Q E s := by
 obtain ⟨o, ho, hex, hd, hf, hled, hpl⟩ := hS
 have sa : SAt s.heap a es ep t := ⟨o, ho, hex.1, hd⟩
 have la : a < s.heap.objs.size := Heap.lt_size ho
 refine wpAny_pyIter_slot sa.typeIs M5.F.slot_siter (wpAny_call_entry M5.F.slot_siter sa.typeIs M5.F.entry_siter ?_ (M5.F.args_siter _))
 unfold Builtin.«frozenset.__iter__»
 refine wpAny_bind (wpAny_of_eq (a := a) rfl ?_)
 refine wpAny_bind (wpAny_bind (wpAny_setEntries_of ho hd hf (wpAny_pure ?_)))
 refine wpAny_bind ?_
 unfold setDrawn
 refine wpAny_bind (wpAny_setState_of ho hd hf ?_)
 dsimp only
 refine wpAny_bind (by_text ?_)
 refine wpAny_pure ?_
 cases hb : w.params.followText "set-order" with
 | true =>
  rw [if_neg (by simp)]
  refine wpAny_bind (wpAny_pure ?_)
  refine wpAny_bind (wpAny_setEpoch_of ho hd hf ?_)
  refine wpAny_bind (wpAny_newObj_type ?_)
  have ho2 := Heap.get?_push_of_some (itO (rawInt 0) 0 a es.size ep) ho
  have hit : IsIt (s.heap.push (itO (rawInt 0) 0 a es.size ep)) s.heap.objs.size (rawInt 0) 0 a es.size ep := ⟨_, Heap.get?_push_size _ rfl, rfl, rfl⟩
  refine wpAny_pure ⟨_, rfl, "set_iterator", _, ⟨_, Heap.get?_push_size _ rfl, rfl⟩, M5.F.slot_next.lookup, ?_⟩
  have hpk := pick_perm (w.params.setOrder a ep) es
  refine h s.heap.objs.size ((pickOrder (w.params.setOrder a ep) es).toList.map (·.2)) [s.heap.objs.size, a] _ _ s.drawn (fun b o e => Heap.get?_push_of_some _ e) (Nat.le_refl _) (fun b z => ?_)
   (fun {A'} hh => walksN (sl := fun _ => 0) (ep := ep) (es := es) (t := t) hh (Nat.ne_of_lt la) hf (by rw [List.length_map, hpk.length_eq, Array.length_toList]) ?_ ?_) ⟨hit, _, ho2, hex.1, hd⟩ (hpk.map _)
  ·simp only [List.mem_cons, List.not_mem_nil, or_false] at z
   rcases z with rfl | rfl
   ·exact .inr (Nat.le_refl _)
   ·exact .inl rfl
  ·intro i x hx A' s' Q' E' sa' q
   refine nextA hb sa' hf ?_
   rw [List.getElem?_map, Array.getElem?_toList] at hx
   cases hy : (pickOrder (w.params.setOrder a ep) es)[i]? with
   | none => rw [hy] at hx; cases hx
   | some e => rw [hy] at hx; injection hx with hx; subst hx; exact q
  ·intro A' s' Q' E' sa' q
   refine nextA hb sa' hf ?_
   rw [Array.getElem?_eq_none (by rw [List.length_map, Array.length_toList]; exact Nat.le_refl _)]
   exact q
 | false =>
  rw [hb] at hled
  have hps : t.place.size = es.size := by
   simp only [SetTable.fits, Bool.and_eq_true, beq_iff_eq] at hf
   exact hf.1
  by_cases hz : (!t.plain && decide (es.size > 1)) = false
  ·have hR : Rise t.place := by
    cases hp1 : t.plain with
    | true => exact hpl hp1
    | false =>
     rw [hp1] at hz
     have hz : decide (es.size > 1) = false := hz
     have hz := of_decide_eq_false hz
     intro i j hij hj _
     omega
   rw [if_neg (by
    show ¬ ((!false && (!t.plain && decide (es.size > 1))) = true)
    rw [hz]; decide)]
   refine wpAny_bind (wpAny_pure ?_)
   refine wpAny_bind (wpAny_setEpoch_of ho hd hf ?_)
   refine wpAny_bind (wpAny_newObj_type ?_)
   have ho2 := Heap.get?_push_of_some (itO (rawInt 0) 0 a es.size ep) ho
   have hit : IsIt (s.heap.push (itO (rawInt 0) 0 a es.size ep)) s.heap.objs.size (rawInt 0) 0 a es.size ep := ⟨_, Heap.get?_push_size _ rfl, rfl, rfl⟩
   refine wpAny_pure ⟨_, rfl, "set_iterator", _, ⟨_, Heap.get?_push_size _ rfl, rfl⟩, M5.F.slot_next.lookup, ?_⟩
   have at_sl : ∀ i, i ≤ es.size → SetTable.below t.place (if i = 0 then 0 else t.place.getD (i - 1) 0 + 1) = i := fun i hi => by
    by_cases h0 : i = 0
    ·subst h0; rw [if_pos rfl]; exact below_zero hR
    ·rw [if_neg h0]
     have h1 : i - 1 < t.place.size := by omega
     have e1 : t.place.getD (i - 1) 0 = t.place[i - 1] := by simp [Array.getD, h1]
     rw [e1, below_next hR h1]; omega
   refine h s.heap.objs.size (es.toList.map (·.2)) [s.heap.objs.size, a] _ _ s.drawn (fun b o e => Heap.get?_push_of_some _ e) (Nat.le_refl _) (fun b z => ?_)
    (fun {A'} hh => walksN (sl := fun i => if i = 0 then 0 else t.place.getD (i - 1) 0 + 1) (ep := ep) (es := es) (t := t) hh (Nat.ne_of_lt la) hf (by rw [List.length_map, Array.length_toList]) ?_ ?_) ⟨hit, _, ho2, hex.1, hd⟩ (.refl _)
   ·simp only [List.mem_cons, List.not_mem_nil, or_false] at z
    rcases z with rfl | rfl
    ·exact .inr (Nat.le_refl _)
    ·exact .inl rfl
   ·intro i x hx A' s' Q' E' sa' q
    have hi : i < es.size := by
     have := (List.getElem?_eq_some_iff.mp hx).1
     simpa using this
    refine nextP hb sa' hf hz hled ?_
    rw [List.getElem?_map, Array.getElem?_toList, Array.getElem?_eq_getElem hi] at hx
    injection hx with hx
    subst hx
    rw [at_sl i (by omega), Array.getElem?_eq_getElem hi, Array.getElem?_eq_getElem (by omega : i < t.place.size)]
    have e1 : (if i + 1 = 0 then 0 else t.place.getD (i + 1 - 1) 0 + 1) = t.place[i]'(by omega) + 1 := by
     rw [if_neg (by omega), Nat.add_sub_cancel]
     simp [Array.getD, (by omega : i < t.place.size)]
    rw [e1] at q
    exact q
   ·intro A' s' Q' E' sa' q
    refine nextP hb sa' hf hz hled ?_
    rw [List.length_map, Array.length_toList]
    have en : es[SetTable.below t.place (if es.size = 0 then 0 else t.place.getD (es.size - 1) 0 + 1)]? = none := by
     rw [at_sl es.size (Nat.le_refl _)]
     exact Array.getElem?_eq_none (Nat.le_refl _)
    rw [en]
    exact q
  ·have hz : (!t.plain && decide (es.size > 1)) = true := by simpa using hz
   rw [if_pos (by
    show (!false && (!t.plain && decide (es.size > 1))) = true
    rw [hz]; rfl)]
   refine wpAny_bind (any_draw _ _ (by simp) fun ps d hps => ?_)
   obtain ⟨l, e1, e2, e3⟩ := pull es ps hps
   refine wpAny_bind ?_
   unfold newTuple
   refine wpAny_newObj_type (s := { s with drawn := d }) ?_ (by
    have : ps.length = es.size := by rw [hps.length_eq, List.length_range]
    show (ps.map fun (i : Nat) => rawInt i).toArray.size ≤ sizeLine
    rw [List.size_toArray, List.length_map, sizeLine_eq]; omega)
   refine wpAny_bind (wpAny_setEpoch_of (s := { s with heap := s.heap.push _, drawn := d }) (Heap.get?_push_of_some _ ho) hd hf ?_)
   refine wpAny_bind (wpAny_newObj_type ?_)
   generalize hto : ({ cls := .type "tuple", data := .seq (ps.map fun (i : Nat) => rawInt i).toArray } : Obj) = to
   have hT1 : (s.heap.push to).get? s.heap.objs.size = some to := Heap.get?_push_size _ (by rw [← hto]; rfl)
   have z1 : (s.heap.push to).objs.size = s.heap.objs.size + 1 := Heap.size_push ..
   have gI : ((s.heap.push to).push (itO (.ref s.heap.objs.size) 0 a es.size ep)).get? (s.heap.push to).objs.size = some (itO (.ref s.heap.objs.size) 0 a es.size ep) := Heap.get?_push_size _ rfl
   refine wpAny_pure ⟨_, rfl, "set_iterator", _, ⟨_, gI, rfl⟩, M5.F.slot_next.lookup, ?_⟩
   refine h (s.heap.push to).objs.size (l.map (·.2)) [(s.heap.push to).objs.size, a, s.heap.objs.size] _ _ d (fun b o e => Heap.get?_push_of_some _ (Heap.get?_push_of_some _ e)) (by rw [z1]; exact Nat.le_succ _) (fun b z => ?_)
    (fun {A'} hh => walksD (T := s.heap.objs.size) (ep := ep) (es := es) (t := t) (ps := ps) hh (by rw [z1]; exact Nat.ne_of_lt (Nat.lt_succ_of_lt la)) (by rw [z1]; exact Nat.ne_of_lt (Nat.lt_succ_self _)) hf (by rw [List.length_map]; exact e1) (fun i h1 h2 => ?_)) ⟨⟨_, gI, rfl, rfl⟩, ⟨_, Heap.get?_push_of_some _ (Heap.get?_push_of_some _ ho), hex.1, hd⟩, ⟨_, Heap.get?_push_of_some _ hT1, by rw [← hto], 0, by rw [← hto]⟩⟩ (e2.map _)
   ·rw [z1] at z
    simp only [List.mem_cons, List.not_mem_nil, or_false] at z
    rcases z with rfl | rfl | rfl
    ·exact .inr (Nat.le_succ _)
    ·exact .inl rfl
    ·exact .inr (Nat.le_refl _)
   ·have h3 : i < l.length := by rw [List.length_map] at h2; exact h2
    refine ⟨l[i].1, ?_⟩
    rw [e3 i h1 h3, List.getElem_map]
theorem intsAre_map : ∀ (vs : List Value), (∀ v ∈ vs, ∃ x t, v = .int x t) → IntsAre vs (vs.map intOf)
 | [], _ => .nil
 | v :: vs, h => by
  obtain ⟨x, t, rfl⟩ := h v (by simp)
  exact .cons x t (intsAre_map vs fun u hu => h u (List.mem_cons_of_mem _ hu))
theorem hint_setI {a : Addr} {Q : Bool → Shared → Prop} (hT : s.TypeIs (.ref a) "set") (h : Q false s) : wpAny (model prog w) A (Builtin.List.listLengthHint (.ref a)) Q E s := by
 unfold Builtin.List.listLengthHint
 refine wpAny_bind (wpAny_specialOf hT PySem.F.slot_set_len.lookup ?_)
 dsimp only
 rw [show splitId "set.__len__" = some ("set", "__len__") by decide +kernel]
 dsimp only
 refine wpAny_bind (wpAny_isInstance (b := true) hT sub_set_self ?_)
 rw [if_neg (by decide)]
 rw [if_pos (by decide +kernel)]
 refine wpAny_bind (wpAny_typeOf hT ?_)
 exact wpAny_pure h
theorem extend_raw {a L : Addr} {es : Array (Int × Value)} {ep : Nat} {t : SetTable} {R : Result → Shared → Prop} (hh : A.handled = none) (hS : RawS w s.heap a es ep t) (hn : es.size < 4000) (hL : s.heap.get? L = some { cls := .type "list", data := .seq #[] }) (hLa : L ≠ a)
  (hR : ∀ s' (ord : List Value) c', (∀ b o, b ≠ L → s.heap.get? b = some o → s'.heap.get? b = some o) → s'.gens = s.gens → s'.os = s.os → s'.heap.get? L = some { cls := .type "list", dict := none, data := .seq ord.toArray c', slots := #[] } → ord.Perm (es.toList.map (·.2)) → R (.ok (.ret (.ref L))) s') :
  wpAny (model prog w) A.in1 (Builtin.List.listExtendWith (.ref L) (.ref a) (.ref L))
   (fun fin s' => match fin with | .done f => R (.ok f) s' | .again c' => c'.quiet = true ∧ codeAny (model prog w) A c' R s') (fun e s' => R (.error e) s') s := by
 have tS : s.TypeIs (.ref a) "set" := let ⟨o, ho, hex, _⟩ := hS; ⟨o, ho, hex.1⟩
 unfold Builtin.List.listExtendWith
 refine wpAny_bind (wpAny_typeOf tS ?_)
 have h1 : Builtin.List.listSameRef (.ref L) (.ref a) = false := by simp [Builtin.List.listSameRef, hLa]
 have h2 : (Value.type "set" == Value.type "list") = false := by decide
 have h3 : (Value.type "set" == Value.type "tuple") = false := by decide
 simp only [h1, h2, h3, Bool.or_false, Bool.false_eq_true, if_false]
 refine wpAny_bind (iter_raw hS hn fun I ord fp St h' d kp hI hfp W st0 tx => ?_)
 have ll : L < s.heap.objs.size := Heap.lt_size hL
 have hLf : L ∉ fp := fun z => (hfp L z).elim hLa fun z => absurd ll (Nat.not_lt.mpr z)
 have tS' : Shared.TypeIs { s with heap := h', drawn := d } (.ref a) "set" := let ⟨o, ho, hc⟩ := tS; ⟨o, kp _ _ ho, hc⟩
 refine wpAny_bind (wpAny_holding (hint_setI tS' ?_))
 rw [if_pos (by rfl)]
 refine wpAny_bind (wpAny_rule ?_)
 refine wpAny_bind ?_
 show wpAny _ A.in1 (updateSeq L (·.push .none) >>= fun _ => updateSeq L (·.pop)) _ _ _
 refine wpAny_bind (wpAny_updateSeq (s := { s with heap := h', drawn := d }) (kp _ _ hL) rfl ?_)
 have g2 := Heap.get?_update_self (Obj.mapSeq (·.push Value.none)) (kp _ _ hL) rfl
 refine wpAny_updateSeq (hz := by seq_fits) g2 rfl ?_
 have g3 := Heap.get?_update_self (Obj.mapSeq (·.pop)) g2 rfl
 have oth : ∀ b o, b ≠ L → h'.get? b = some o → ((h'.update L (Obj.mapSeq (·.push Value.none))).update L (Obj.mapSeq (·.pop))).get? b = some o :=
  fun b o hb e => (Heap.get?_update_other _ _ (Ne.symm hb)).trans ((Heap.get?_update_other _ _ (Ne.symm hb)).trans e)
 have hlen : ord.length = es.size := by rw [tx.length_eq, List.length_map, Array.length_toList]
 have WS := (W (A' := A.in1) hh).toS
 refine wpAny_pure ⟨plainId_quiet PySem.F.plain_extend_loop _, codeAny_extend_loopS WS (by rw [sizeLine_eq]; omega) _ hLf _ ord.length 0 _ _ _ rfl (Nat.zero_le _)
   (WS.frame 0 { s with heap := h', drawn := d } _ s.toks st0 (Nat.le_refl _) fun b hb o e => oth b o (fun z => hLf (z ▸ hb)) e) g3 (ItemsOf.nil _) fun s' acc' c' hm hS' hacc => ?_⟩
 have ea : acc' = ord.toArray := by
  refine Array.ext (by rw [hacc.1, List.size_toArray]) fun i h1 h2 => ?_
  have z : ord[i]? = some acc'[i] := hacc.2 i acc'[i] (Array.getElem?_eq_getElem h1)
  have h2 : i < ord.length := by simpa using h2
  rw [List.getElem?_eq_getElem h2] at z
  simpa using (Option.some.inj z).symm
 rw [ea] at hS'
 refine hR s' ord c' (fun b o hb e => ?_) hm.gens hm.os hS' tx
 refine hm.heap b o ?_ (oth b o hb (kp b o e))
 simp only [List.mem_cons, List.not_mem_nil, or_false]
 rintro (z | z)
 ·exact hb z
 ·have := Heap.lt_size e
  rw [z] at this
  exact absurd this (Nat.not_lt.mpr hI)
theorem code_collectR {a : Addr} {es : Array (Int × Value)} {ep : Nat} {t : SetTable} {R : Result → Shared → Prop} (hh : A.handled = none) (hS : RawS w s.heap a es ep t) (hn : es.size < 4000)
  (hR : ∀ s' (ord : List Value) c', (∀ b o, s.heap.get? b = some o → s'.heap.get? b = some o) → s'.gens = s.gens → s'.os = s.os → s'.heap.get? s.heap.objs.size = some { cls := .type "list", dict := none, data := .seq ord.toArray c', slots := #[] } → ord.Perm (es.toList.map (·.2)) → R (.ok (.ret (.ref s.heap.objs.size))) s') :
  codeAny (model prog w) A (.builtin "proto.collect" ⟨[.ref a], []⟩) R s := by
 have la : a < s.heap.objs.size := let ⟨o, ho, _⟩ := hS; Heap.lt_size ho
 refine codeAny_builtin entry_proto_collect' ?_
 show wpAny _ _ (do again (.builtin "list.__iadd__" ⟨[← newList [], .ref a], []⟩)) _ _ s
 refine wpAny_bind (wpAny_newList (wpAny_pure ⟨Code.quiet_builtin _ (by decide +kernel), codeAny_builtin entry_list_iadd' ?_⟩))
 rw [Around.under_plainId (show plainId "list.__iadd__" = true by decide +kernel) _]
 show wpAny _ _ (Builtin.List.listExtendWith (.ref s.heap.objs.size) (.ref a) (.ref s.heap.objs.size)) _ _ { s with heap := s.heap.push (seqObj "list" #[] 0) }
 refine extend_raw (s := { s with heap := s.heap.push (seqObj "list" #[] 0) }) ?_ (hS.keep fun o e => Heap.get?_push_of_some _ e) hn (Heap.get?_push_size _ rfl) (Nat.ne_of_gt la) fun s' ord c' kp e1 e2 g tx => ?_
 ·exact hh
 ·exact hR s' ord c' (fun b o e => kp b o (Nat.ne_of_lt (Heap.lt_size e)) (Heap.get?_push_of_some _ e)) e1 e2 g tx
theorem collect_raw {a : Addr} {es : Array (Int × Value)} {ep : Nat} {t : SetTable} {Q : List Value → Shared → Prop} (hh : A.handled = none) (hS : RawS w s.heap a es ep t) (hn : es.size < 4000)
  (h : ∀ s' (ord : List Value), (∀ b o, s.heap.get? b = some o → s'.heap.get? b = some o) → s'.gens = s.gens → s'.os = s.os → s.heap.objs.size ≤ s'.heap.objs.size → ord.Perm (es.toList.map (·.2)) → Q ord s') : wpAny (model prog w) A (collect (.ref a)) Q E s := by
 unfold collect
 refine wpAny_bind (wpAny_runValue (code_collectR hh hS hn fun s' ord c' kp e1 e2 g tx => ?_))
 dsimp only
 refine wpAny_bind (wpAny_load g ?_)
 exact wpAny_pure (h s' ord kp e1 e2 (Nat.le_of_lt (Heap.lt_size g)) tx)
theorem sorted_setI {a : Addr} {S : List Int} {Q : Value → Shared → Prop} (hh : A.handled = none) (hS : IAt prog w s.heap a S) (hn : S.length < 64)
  (h : ∀ (p : Addr) s' (out : List Value) (ss : List Int) c, (∀ b o, s.heap.get? b = some o → s'.heap.get? b = some o) → s'.gens = s.gens → s'.os = s.os → s.heap.objs.size ≤ p → s'.heap.get? p = some (seqObj "list" out.toArray c) → IntsAre out ss → ss.Perm S → ss.Pairwise (· ≤ ·) → Q (.ref p) s') :
  wpAny (model prog w) A (call (.builtin "sorted") [.ref a]) Q E s := by
 refine Calls.call_function_entry kind_sorted plain_sorted entry_sorted (args_sorted1 _) ?_
 unfold Builtin.«sorted»
 refine wpAny_bind (m := checkCount "sorted" 1 1 _) (wpAny_pure ?_)
 obtain ⟨o, ho, es, ep, t, hex, hd, hel, hp, hf, hled, hpl⟩ := hS
 have hsz : es.size = S.length := by rw [← hp.length_eq, List.length_map, Array.length_toList]
 refine wpAny_bind (collect_raw (es := es) (ep := ep) (t := t) ?_ ⟨o, ho, hex, hd, hf, hled, hpl.2⟩ (by omega) fun s1 ord kp e1 e2 le tx => ?_)
 ·exact hh
 obtain ⟨l0, tx1, rfl⟩ := M6.perm_inv tx
 have tx := ints_of hel hp tx1
 clear tx1
 generalize l0.map (·.2) = ord at *
 have hl : ord.length = S.length := by rw [← tx.2.length_eq, List.length_map]
 refine wpAny_bind (wpAny_newList ?_ (by first | (rw [sizeLine_eq]; omega) | (rw [List.size_toArray, sizeLine_eq]; omega)))
 have hSA : IntsAre ord (ord.map intOf) := intsAre_map ord tx.1
 have gL : (s1.heap.push (seqObj "list" ord.toArray 0)).get? s1.heap.objs.size = some (seqObj "list" ord.toArray 0) := Heap.get?_push_size _ rfl
 refine wpAny_bind (wpAny_holding (wpAny_call_entry slot_list_sort ⟨_, gL, rfl⟩ entry_list_sort (list_sort_tree gL hSA (by omega) fun out ns' a1 a2 a3 => ⟨_, rfl, ?_⟩) (args_list_sort _)))
 obtain ⟨c, hc⟩ := sortedHeap_at (out := out) gL
 refine wpAny_pure ⟨_, rfl, h s1.heap.objs.size _ out.toList ns' c (fun b o e => ?_) e1 e2 le ?_ a1 (a2.trans tx.2) a3⟩
 ·have lb := Heap.lt_size (kp b o e)
  show (sortedHeap _ _ _ _).get? b = some o
  rw [sortedHeap_old (Nat.ne_of_lt lb) (by rw [size_push']; exact Nat.lt_succ_of_lt lb)]
  exact Heap.get?_push_of_some _ (kp b o e)
 ·rw [Array.toArray_toList]; exact hc
end
end M7
namespace L2
open PySem PySem.Spec PyProof.Rows
noncomputable def tSortSetI (K : PySem.W.Frag) (ta : TE) : TE := fun σ H Q => ta σ H fun x H1 => ∃ (p : Addr) (ss : List Int), x = .ref p ∧ (SqT K H1 p (ss.map V.int) ∨ SqL K H1 p (ss.map V.int)) ∧ ss.length < 64 ∧
 ∀ (l : Addr) (ss' : List Int), H1 l = none → ss'.Nodup → (∀ y, y ∈ ss' ↔ y ∈ ss) → ss'.Pairwise (· ≤ ·) → Q (.ref l) (upd H1 l (.lst (ss'.map V.int)))
section
variable {X : Cx} {e : Expr} {ta : TE} {p p2 pos pos2 : Pos}
theorem pe_sortSetI (hc : X.calm = true) (hg : Gl X "sorted") (hm : X.mg "sorted" = none) (hg2 : Gl X "set") (hm2 : X.mg "set" = none) (he : PE X e ta) (hs : notStar e = true := by rfl) :
  PE X (.Call (.Name "sorted" p) [.Call (.Name "set" p2) [e] [] pos2] [] pos) (tSortSetI X.K ta) := by
 intro pins s σ H Q I h
 have hk := I.ok.hd hc
 refine wpAny_Call_Name_kw (ld_blt I hg hm (u := .builtin "sorted") (by decide +kernel) ?_ (by decide +kernel) (by decide +kernel))
 refine PyProof.Rows.callWith_builtin1 (E := X.xe) ?_ (star_cons [] X.env rfl) rfl
 rw [star_cons [] X.env rfl]
 refine Calls.spliced_cons ?_
 refine wpAny_Call_Name_kw (ld_blt I hg2 hm2 (u := .type "set") (by decide +kernel) ?_ (by decide +kernel) (by decide +kernel))
 refine PyProof.Rows.callWith_type1 (E := X.xe) ?_ (star_cons [] X.env hs) rfl
 rw [star_cons [] X.env hs]
 refine Calls.spliced_cons (thn (he pins s σ H _ I h) fun u s1 ⟨x, H1, I1, rx, a, ss, ex, hq, hl, q⟩ => ?_)
 subst ex
 obtain rfl : u = Value.ref a := rx
 refine Calls.spliced_nil ?_
 have fin : ∀ (h' : Heap) (tk : Nat), M7.IAt X.prog X.w h' s1.heap.objs.size (M7.allI (fun i => ss.getD i 0) ss.length) → (∀ b o, b < s1.heap.objs.size → s1.heap.get? b = some o → h'.get? b = some o) →
   wpAny (model X.prog X.w) X.A (call (.builtin "sorted") [.ref s1.heap.objs.size]) (EP X pins σ Q) X.xe { s1 with heap := h', toks := tk } := by
  intro h' tk tS kp
  have hlen := M7.allI_len (fun i => ss.getD i 0) ss.length
  refine M7.sorted_setI (s := { s1 with heap := h', toks := tk }) hk tS (by omega) fun l s2 out ss' c kp2 e1 e2 le g hS hp hs => ?_
  obtain ⟨h2, g2, d2, t2, o2⟩ := s2
  obtain rfl : g2 = s1.gens := e1
  obtain rfl : o2 = s1.os := e2
  have kpA : ∀ b o, s1.heap.get? b = some o → h2.get? b = some o := fun b o z => kp2 b o (kp b o (Heap.lt_size z) z)
  have le1 : s1.heap.objs.size ≤ l := by
   obtain ⟨o, ho, _⟩ := tS
   exact Nat.le_trans (Nat.le_of_lt (Heap.lt_size ho)) le
  have hlen2 : ss'.length < 64 := by rw [hp.length_eq]; omega
  refine ⟨.ref l, _, (I1.laid (a := l) (t' := t2) (o := .lst (ss'.map V.int)) kpA le1 ⟨by rw [List.length_map, sizeLine_eq]; omega, out, c, vals_ints hS, g⟩).drw d2, rfl, q l ss' (I1.hok.fresh le1) (hp.nodup_iff.mpr (M7.nodup_allI _ _)) (fun y => (hp.mem_iff).trans (M7.mem_allI' ss y)) hs⟩
 rcases hq with hq | hq
 ·obtain ⟨its, r', pl, hz⟩ := I1.tuple hq
  refine M7.set_tupleI (its := its.toArray) (ss := ss) hk pl (by simpa using intsAre_of r') (by omega) fun h' tk tS kp => ?_
  exact Calls.spliced_nil (fin h' tk tS kp)
 ·obtain ⟨its, r', pl, hz⟩ := I1.list hq
  refine M7.set_listI (its := its.toArray) (ss := ss) hk pl.isList (by simpa using intsAre_of r') (by omega) fun h' tk tS kp => ?_
  exact Calls.spliced_nil (fin h' tk tS kp)
end
end L2
namespace M
open PySem PySem.Spec PyProof.Rows L2
section
variable {K : PySem.W.Frag}
noncomputable def aSortSetI (a : AE) : AE := fun δ S Q => a δ S fun r S1 => ∃ ss : List Int, (see S1 r.d = .tup (ss.map D.int) ∨ see S1 r.d = .lst (ss.map D.int)) ∧ ss.length < 64 ∧
 ∀ ss' : List Int, ss'.Nodup → (∀ y, y ∈ ss' ↔ y ∈ ss) → ss'.Pairwise (· ≤ ·) → Q (.new (.lst (ss'.map D.int))) S1
theorem s_sortSetI {a : AE} : ∀ σ H Q, conE K (aSortSetI a) σ H Q → tSortSetI K (conE K a) σ H Q := by
 rintro σ H Q ⟨w, δ, S, Qa, ok, env, q, bk⟩
 refine ⟨w, δ, S, _, ok, env, q, .go fun r1 S1 v1 w1 H1 le1 ok1 rep1 ⟨ss, z, hl, q1⟩ => ?_⟩
 rcases z with z | z
 ·obtain ⟨a, xs, rfl, h1, h2⟩ := see_tup ok1 rep1 z
  rw [reps_ints' h2] at h1
  exact ⟨a, ss, rfl, .inl (SqT.of h1), hl, fun l ss' hp n1 n2 n3 => bk (.new (.lst _)) S1 _ w1 _ le1 (ok1.alloc hp) (ok1.fresh hp ⟨_, rfl, reps_ints ss'⟩) (q1 ss' n1 n2 n3)⟩
 ·obtain ⟨a, xs, rfl, h1, h2⟩ := see_lst ok1 rep1 z
  rw [reps_ints' h2] at h1
  exact ⟨a, ss, rfl, .inr (SqL.of h1), hl, fun l ss' hp n1 n2 n3 => bk (.new (.lst _)) S1 _ w1 _ le1 (ok1.alloc hp) (ok1.fresh hp ⟨_, rfl, reps_ints ss'⟩) (q1 ss' n1 n2 n3)⟩
end
section
variable {X : Cx} {e : Expr} {p p2 pos pos2 : Pos}
theorem pe_sortSetI {ta : AE} (hc : X.calm = true) (hg : Gl X "sorted") (hm : X.mg "sorted" = none) (hg2 : Gl X "set") (hm2 : X.mg "set" = none) (he : GE X e ta) (hs : notStar e = true := by rfl) :
  GE X (.Call (.Name "sorted" p) [.Call (.Name "set" p2) [e] [] pos2] [] pos) (aSortSetI ta) := ⟨mE (L2.pe_sortSetI hc hg hm hg2 hm2 he.p hs) s_sortSetI⟩
end
end M
namespace M6
open PySem PySem.Spec PyProof.Rows
section
variable {prog : Program} {w : World} {A : Around} {E : Value → Shared → Prop} {s : Shared}
theorem draw_list {I l : Addr} {items : Array Value} {St : Nat → Heap → Prop} (W : Walks prog w A I [I, l] [I] items.size (fun i v => items[i]? = some v) St) : ∀ (k i : Nat) {s : Shared} {E : Value → Shared → Prop} {Q : List Value → Shared → Prop}, i + k = items.size → St i s.heap →
  (∀ (h' : Heap) (tk : Nat), St items.size h' → (∀ b o, b ≠ I → s.heap.get? b = some o → h'.get? b = some o) → Q (items.toList.drop i) { s with heap := h', toks := tk }) → wpAny (model prog w) A (draw (.ref I) k) Q E s
 | 0, i, s, E, Q, hk, hst, h => by
  rw [draw.eq_def]
  obtain rfl : i = items.size := by omega
  have := h s.heap s.toks hst fun b o _ e => e
  rw [List.drop_of_length_le (by simp)] at this
  exact wpAny_pure this
 | k + 1, i, s, E, Q, hk, hst, h => by
  rw [draw.eq_def]
  have hi : i < items.size := by omega
  refine wpAny_bind (W.item i s _ _ hi hst fun v h' tk hP hst' hm => ?_)
  dsimp only
  refine wpAny_bind (wpAny_holding (draw_list W k (i + 1) (s := { s with heap := h', toks := tk }) (by omega) hst' fun h'' tk' hst'' hm' => ?_))
  refine wpAny_pure ?_
  have e : items.toList.drop i = v :: items.toList.drop (i + 1) := by
   rw [← List.getElem_cons_drop (by simpa using hi)]
   congr 1
   rw [Array.getElem?_eq_getElem hi] at hP
   simpa using hP
  have := h h'' tk' hst'' fun b o hb e => hm' b o hb (hm b o (by simpa using hb) e)
  rw [e] at this
  exact this
theorem unpack_list {l : Addr} {items : Array Value} {Q : List Value → Shared → Prop} (hh : A.handled = none) (hl : s.heap.IsList l items)
  (h : ∀ (h' : Heap) (tk : Nat), (∀ b o, s.heap.get? b = some o → h'.get? b = some o) → Q items.toList { s with heap := h', toks := tk }) : wpAny (model prog w) A (unpackItems (.ref l) items.size none) Q E s := by
 have ll : l < s.heap.objs.size := by obtain ⟨o, ho, _⟩ := hl; exact Heap.lt_size ho
 unfold unpackItems
 refine wpAny_bind (wpAny_bind (wpAny_specialOf hl.typeIs slot_list_iter.lookup (wpAny_pure ?_)))
 rw [if_neg (by decide)]
 refine wpAny_bind (wpAny_holding (wpAny_pyIter_list hl ?_))
 have W := Walks.list (prog := prog) (w := w) (A := A) hh s.heap.objs.size l (Nat.ne_of_lt ll) items
 refine wpAny_bind (wpAny_holding (draw_list W items.size 0 (by omega) ⟨⟨_, Heap.get?_push_size _ rfl, rfl, rfl⟩, hl.at fun o e => Heap.get?_push_of_some _ e⟩ fun h1 tk1 hst1 kp1 => ?_))
 rw [List.drop_zero, if_neg (by simp)]
 refine wpAny_bind (wpAny_holding (W.done _ _ _ hst1 fun h2 tk2 kp2 => ?_))
 rw [if_neg (by decide)]
 refine wpAny_pure (h h2 tk2 fun b o e => ?_)
 have lb := Nat.ne_of_lt (Heap.lt_size e)
 exact kp2 b o (by simpa using lb) (kp1 b o lb (Heap.get?_push_of_some _ e))
end
end M6
namespace L2
open PySem PySem.Spec PyProof.Rows M6
noncomputable def gTupL (K : PySem.W.Frag) (n : Nat) (t : TGs) : TG := fun v σ H Q => ∃ a xs, v = .ref a ∧ SqL K H a xs ∧ xs.length = n ∧ t xs σ H Q
section
variable {X : Cx} {pos : Pos}
theorem pg_tupL {es : List Expr} {k : Nat} {t : TGs} {n : Nat} (hc : X.calm = true) (h : PGs X es t)
  (hn : (assignEach es X.env).length = n := by rfl) (hst : (assignEach es X.env).findIdx? (·.1) = none := by rfl) : PG X (.Tuple es k pos) (gTupL X.K n t) := by
 intro pins s σ H v u Q I r hw
 obtain ⟨a, xs, e1, hq, hl, hw⟩ := hw
 subst e1
 cases r
 obtain ⟨its, rv, ht, hz⟩ := I.list hq
 rw [assign_Tuple]
 refine wpAny_bind (wpAny_standAt ?_)
 unfold unpack
 rw [hst]
 have e2 : (assignEach es X.env).length = its.toArray.size := by simp [hn, ← hl, rv.length]
 rw [e2]
 refine wpAny_bind (wpAny_holding (unpack_list (I.ok.hd hc) ht.isList fun h' tk kp => ?_))
 have I1 : Inv X pins σ H { s with heap := h', toks := tk } := I.kept (t' := tk) kp
 exact h pins _ σ H xs _ Q I1 (by simpa using rv) hw
end
end L2
namespace M
open PySem PySem.Spec PyProof.Rows L2
noncomputable def agTupL (n : Nat) (a : AGs) : AG := fun d δ S Q => ∃ ds, see S d = .lst ds ∧ ds.length = n ∧ a ds δ S Q
section
variable {K : PySem.W.Frag}
theorem s_gTupL {n : Nat} {a : AGs} : ∀ v σ H Q, conG K (agTupL n a) v σ H Q → gTupL K n (conGs K a) v σ H Q := by
 rintro v σ H Q ⟨w, d, δ, S, Qa, ok, env, rep, ⟨ds, z, hl, q⟩, bk⟩
 obtain ⟨b, xs, rfl, h1, h2⟩ := see_lst ok rep z
 exact ⟨b, xs, rfl, SqL.of h1, by rw [h2.length]; exact hl, w, ds, δ, S, Qa, ok, env, h2, q, bk⟩
end
section
variable {X : Cx} {es : List Expr} {pos : Pos}
theorem pg_tupL {k : Nat} {t : AGs} {n : Nat} (hc : X.calm = true) (h : GGs X es t) (hn : (assignEach es X.env).length = n := by rfl) (hst : (assignEach es X.env).findIdx? (·.1) = none := by rfl) : GG X (.Tuple es k pos) (agTupL n t) := ⟨mG (L2.pg_tupL hc h.p hn hst) s_gTupL⟩
end
section
variable {X : Cx} {pos : Pos}
theorem pe_own0 {k : Nat} {ps : List Str} {sp : AN} {x : Str} {p : Pos} (D : Def X.prog X.w X.K X.mg X.base k x ps (conSp X.K sp)) (hr : Room k X.A) (hg : Gl X x) (hdb : (x == ("__debug__" : Str)) = false := by decide +kernel) :
  GE X (.Call (.Name x p) [] [] pos) (aCall sp aNil) := ⟨by
 obtain ⟨f, fd, F, hm, hk, hb⟩ := D.ex
 refine mE (L2.pe_call0 F hr hg hm hk hb .nil pass0 hdb) fun σ H Q h => ?_
 obtain ⟨w, δ, S, Qa, ok, env, q, bk⟩ := h
 exact ⟨w, [], S, Qa, ok, .nil, q, bk⟩⟩
end
end M
namespace M
open PySem L2
section
noncomputable def occStep (s sub : Str) (hi : Nat) (p : Array Nat × Nat) (i : Nat) : Array Nat × Nat :=
 if (decide (p.1.size < 1) && decide (p.2 ≤ i) && decide (i + sub.length ≤ hi) && Builtin.Str.subAt s sub i) = true then (p.1.push i, i + sub.length) else p
theorem occ_fold (s sub : Str) (hi : Nat) : Builtin.Str.occurrences s sub 0 hi 1 = ((List.range (hi + 1)).foldl (occStep s sub hi) (#[], 0)).1.toList := by
 unfold Builtin.Str.occurrences
 simp only [Std.Legacy.Range.forIn_eq_forIn_range', Std.Legacy.Range.size, Nat.sub_zero, Nat.add_sub_cancel, Nat.div_one, List.range_eq_range']
 have e : ∀ (l : List Nat) (p : Array Nat × Nat), (forIn (m := Id) l p fun i __s => if (decide (__s.fst.size < 1) && decide (__s.snd ≤ i) && decide (i + sub.length ≤ hi) && Builtin.Str.subAt s sub i) = true then pure (ForInStep.yield (__s.fst.push i, i + sub.length)) else pure (ForInStep.yield (__s.fst, __s.snd))) = pure (l.foldl (occStep s sub hi) p) := by
  intro l
  induction l with
  | nil => intro p; rfl
  | cons i l ih =>
   intro p
   rw [List.forIn_cons, List.foldl_cons]
   unfold occStep
   split
   ·exact ih _
   ·exact ih _
 rw [e]
 rfl
theorem occ_stay {s sub : Str} {hi : Nat} : ∀ (l : List Nat) (p : Array Nat × Nat), 1 ≤ p.1.size → l.foldl (occStep s sub hi) p = p
 | [], _, _ => rfl
 | i :: l, p, h => by
  rw [List.foldl_cons]
  have e : occStep s sub hi p i = p := by
   unfold occStep
   rw [if_neg]
   rw [decide_eq_false (by omega)]
   simp
  rw [e]; exact occ_stay l p h
theorem occ_any {s sub : Str} {hi : Nat} : ∀ l : List Nat, (l.foldl (occStep s sub hi) (#[], 0)).1.isEmpty = !(l.any fun i => decide (i + sub.length ≤ hi) && Builtin.Str.subAt s sub i)
 | [] => rfl
 | i :: l => by
  rw [List.foldl_cons, List.any_cons]
  by_cases h : (decide (i + sub.length ≤ hi) && Builtin.Str.subAt s sub i) = true
  ·have e : occStep s sub hi (#[], 0) i = (#[i], i + sub.length) := by
    unfold occStep
    rw [if_pos]
    ·rfl
    ·rw [Bool.and_assoc, h]; simp
   rw [e, occ_stay l _ (by simp), h]; rfl
  ·have e : occStep s sub hi (#[], 0) i = (#[], 0) := by
    unfold occStep
    rw [if_neg]
    rw [Bool.and_assoc]
    intro h'
    simp only [Bool.and_eq_true] at h'
    exact h (by simp only [Bool.and_eq_true]; exact h'.2)
   rw [e, occ_any l, Bool.eq_false_iff.mpr h, Bool.false_or]
theorem sign_in (s : Str) (c : Nat) : (!(Builtin.Str.occurrences s ⟨#[c]⟩ 0 s.length 1).isEmpty) = decide (c ∈ s.cps.toList) := by
 rw [occ_fold]
 have := occ_any (s := s) (sub := ⟨#[c]⟩) (hi := s.length) (List.range (s.length + 1))
 rw [show ∀ a : Array Nat, a.toList.isEmpty = a.isEmpty from fun a => by simp, this, Bool.not_not]
 rw [Bool.eq_iff_iff, decide_eq_true_iff, List.any_eq_true]
 constructor
 ·rintro ⟨i, _, h⟩
  simp only [Bool.and_eq_true, decide_eq_true_eq] at h
  obtain ⟨h1, h2⟩ := h
  have h1 : i + 1 ≤ s.cps.size := h1
  have h2 : s.cps.extract i (i + 1) = #[c] := eq_of_beq h2
  have h3 := congrArg (fun a : Array Nat => a[0]?) h2
  simp [Array.getElem?_extract] at h3
  exact Array.mem_toList_iff.mpr (Array.mem_of_getElem? h3.2)
 ·intro h
  obtain ⟨i, hi, e⟩ := List.getElem_of_mem h
  have hi' : i < s.cps.size := by simpa using hi
  refine ⟨i, by rw [List.mem_range]; show i < s.cps.size + 1; omega, ?_⟩
  simp only [Bool.and_eq_true, decide_eq_true_eq]
  refine ⟨by show i + 1 ≤ s.cps.size; omega, ?_⟩
  show (s.cps.extract i (i + 1) == #[c]) = true
  rw [beq_iff_eq]
  refine Array.ext (by simp; omega) fun j h1 h2 => ?_
  have : j = 0 := by simp at h2; omega
  subst this
  simpa using e
noncomputable def aInT (neg : Bool) : A2 := fun x y S Q => ∃ i j, see S x = .str i ∧ see S y = .str j ∧ Q (.dat (.bl (neg != !(Builtin.Str.occurrences j i 0 j.length 1).isEmpty))) S
variable {X : Cx}
theorem o_notInT : Op2 X (compareOp .NotIn) (aInT true) := ⟨m2 op_notin_str fun x y H Q h => by
 obtain ⟨w, d, e, S, Qa, ok, r1, r2, ⟨i, j, z1, z2, q⟩, bk⟩ := h
 exact ⟨i, j, see_str r1 z1, see_str r2 z2, bk.dat .refl ok .bl (by simpa using q)⟩⟩
end
end M
namespace M8
open PySem PySem.Spec PyProof.Rows HT
section
variable {prog : Program} {w : World} {A : Around} {E : Value → Shared → Prop} {s : Shared}
theorem places_rev (n : Nat) : Builtin.Slice.slicePlaces ((n : Int) - 1) (-1) (-1) = n := by
 unfold Builtin.Slice.slicePlaces
 rw [if_neg (by decide)]
 split
 ·have : ((n : Int) - 1 - -1 - 1) / - -1 = (n : Int) - 1 := by
   rw [show (- -1 : Int) = 1 by decide, Int.ediv_one]; omega
  rw [this]; omega
 ·omega
theorem fm_map {α β : Type} {f : α → Option β} {g : α → β} : ∀ (l : List α), (∀ m ∈ l, f m = some (g m)) → l.filterMap f = l.map g
 | [], _ => rfl
 | a :: l, h => by
  rw [List.filterMap_cons_some (h a (by simp)), fm_map l fun m hm => h m (List.mem_cons_of_mem _ hm)]; rfl
theorem pick_rev (xs : Array Value) : ((List.range xs.size).filterMap fun (m : Nat) => xs[(((xs.size : Int) - 1) + (m : Int) * (-1)).toNat]?).toArray = xs.toList.reverse.toArray := by
 congr 1
 refine List.ext_getElem? fun i => ?_
 have e : ((List.range xs.size).filterMap fun (m : Nat) => xs[(((xs.size : Int) - 1) + (m : Int) * (-1)).toNat]?) = (List.range xs.size).map fun m => xs.toList.reverse.getD m .none := by
  refine fm_map _ fun m hm => ?_
  have hm : m < xs.size := by simpa using hm
  have e1 : (((xs.size : Int) - 1) + (m : Int) * (-1)).toNat = xs.size - 1 - m := by omega
  rw [e1]
  have : xs.size - 1 - m < xs.size := by omega
  simp [hm, this]
 rw [e]
 by_cases h : i < xs.size
 ·simp [h]
 ·simp [h]
theorem sliceApplied_rev {sl : Addr} {t : Tok} {n : Nat} {Q : Int × Int × Nat → Shared → Prop} (hs : s.heap.IsSliceOf sl .none .none (.int (-1) t))
  (h : Q ((n : Int) - 1, -1, n) s) : wpAny (model prog w) A (Builtin.Slice.sliceApplied (.ref sl) (pure (n : Int))) Q E s := by
 obtain ⟨os, hos, hcs, hds⟩ := id hs
 unfold Builtin.Slice.sliceApplied Builtin.Slice.sliceFields
 refine wpAny_bind (wpAny_bind (wpAny_field hos hds (x := .none) rfl (wpAny_bind (wpAny_field hos hds (x := .none) rfl (wpAny_bind (wpAny_field hos hds (x := .int (-1) t) rfl (wpAny_pure ?_)))))))
 refine wpAny_bind (slicePart_int ?_)
 show wpAny _ _ (if ((-1 : Int) == 0) = true then _ else _) _ _ s
 rw [if_neg (by decide)]
 refine wpAny_bind (slicePart_none (wpAny_bind (slicePart_none (wpAny_bind (wpAny_pure ?_)))))
 show wpAny _ _ (pure ((n : Int) - 1, (-1 : Int), Builtin.Slice.slicePlaces ((n : Int) - 1) (-1) (-1))) _ _ s
 rw [places_rev]
 exact wpAny_pure h
theorem getItem_tuple_rev {t sl : Addr} {items : Array Value} {tk : Tok} {Q : Value → Shared → Prop} (ht : IsTup s.heap t items) (hs : s.heap.IsSliceOf sl .none .none (.int (-1) tk))
  (h : Q (.ref s.heap.objs.size) { s with heap := s.heap.push { cls := .type "tuple", data := .seq items.toList.reverse.toArray } })
  (hsz : items.size ≤ sizeLine) : wpAny (model prog w) A (getItem (.ref t) (.ref sl)) Q E s := by
 have htake : sizeOk (.seq items.toList.reverse.toArray) := by
  show items.toList.reverse.toArray.size ≤ sizeLine
  rw [List.size_toArray, List.length_reverse, Array.length_toList]
  omega
 obtain ⟨os, hos, hcs, hds⟩ := id hs
 have hTs : s.TypeIs (.ref sl) "slice" := ⟨os, hos, hcs⟩
 unfold getItem
 try with_reducible refine wpAny_holding ?_
 first | refine wpAny_bind (wpAny_pure ?_) | skip
 refine wpAny_bind (wpAny_sequenceKey ht.typeIs (by decide) ?_)
 refine wpAny_bind (wpAny_callSpecial?_slot (name := Str.ofString "__getitem__") ht.typeIs PyProof.Rows.slot_tuple_getitem
  (wpAny_call_entry PyProof.Rows.slot_tuple_getitem ht.typeIs entry_tuple_getitem ?_ (args_tuple_getitem _ _)))
 show wpAny _ _ (Builtin.Tuple.tupleItemsOf (.ref t) >>= _) _ _ s
 refine wpAny_bind (tupleItemsOf_ ht ?_)
 refine wpAny_bind (wpAny_typeOf hTs ?_)
 rw [if_pos (by decide)]
 refine wpAny_bind (sliceApplied_rev (n := items.size) hs ?_)
 show wpAny _ _ (if (((items.size : Int) - 1 == 0) && (-1 : Int) == 1 && items.size == items.size) = true then _ else _) _ _ s
 rw [if_neg (by simp), pick_rev]
 first
  | exact wpAny_bind (m := Builtin.Tuple.tupleExact _) (wpAny_newObj_type (wpAny_pure ⟨_, rfl, wpAny_pure h⟩) htake)
  | exact wpAny_bind (m := Builtin.Tuple.tupleExact _) (wpAny_newObj_type (wpAny_bind (wpAny_pure (wpAny_pure ⟨_, rfl, wpAny_pure h⟩))) htake)
  | exact wpAny_bind (wpAny_bind (m := Builtin.Tuple.tupleExact _) (wpAny_newObj_type (wpAny_pure (wpAny_pure ⟨_, rfl, wpAny_pure h⟩)) htake))
  | exact wpAny_bind (wpAny_bind (m := Builtin.Tuple.tupleExact _) (wpAny_newObj_type (wpAny_pure ⟨_, rfl, wpAny_pure h⟩) htake))
end
end M8
namespace L2
open PySem PySem.Spec PyProof.Rows
section
variable {X : Cx} {e : Expr} {ta : TE} {p2 pos : Pos}
noncomputable def tRevT (K : PySem.W.Frag) (ta : TE) : TE := fun σ H Q => ta σ H fun x H1 => ∃ p ys, x = .ref p ∧ SqT K H1 p ys ∧ ∀ l : Addr, H1 l = none → Q (.ref l) (upd H1 l (.tup ys.reverse))
theorem pe_revT {j : Nat} {pc pu : Pos} (he : PE X e ta) : PE X (.Subscript e (.Slice none none (some (.UnaryOp .USub (.Constant (.int 1) j pc) pu)) p2) pos) (tRevT X.K ta) := by
 intro pins s σ H Q I h
 refine Subscript_ (thn (he pins s σ H _ I h) fun v s1 ⟨x, H1, I1, r1, a, ys, ex, hq, q⟩ => ?_)
 subst ex
 obtain rfl : v = Value.ref a := r1
 refine wpAny_Slice ?_
 rw [evalPart_none]
 refine wpAny_pure (wpAny_pure ?_)
 rw [evalPart_some]
 have hneg : PE X (.UnaryOp .USub (.Constant (.int 1) j pc) pu) (tUn (rU fun i => .int (-i)) (tC (.int 1))) := pe_un un_neg pe_int
 refine thn (hneg pins s1 σ H1 (fun y H2 => y = .int (-1) ∧ H2 = H1) I1 ⟨1, rfl, rfl, rfl⟩) fun vk s2 ⟨y, H2, I2, ry, ey, eH⟩ => ?_
 subst ey
 subst eH
 obtain ⟨t, rfl⟩ := ry
 have I3 : Inv X pins σ H2 { s2 with heap := s2.heap.push { cls := .type "slice", data := .fields #[.none, .none, .int (-1) t] } } := I2.kept (t' := s2.toks) fun b ob q => Heap.get?_push_of_some _ q
 obtain ⟨its, r, ht, hz⟩ := I3.tuple hq
 have hlen := r.length
 show wpAny (model X.prog X.w) X.A (subscriptTail e (.Slice none none (some (.UnaryOp .USub (.Constant (.int 1) j pc) pu)) p2) (.ref a) (.ref s2.heap.objs.size)) (EP X pins σ Q) X.xe { s2 with heap := s2.heap.push { cls := .type "slice", data := .fields #[.none, .none, .int (-1) t] } }
 refine tail_any (ops := [.ref a, .ref s2.heap.objs.size]) ht.typeIs slot_tuple_getitem.lookup ?_ (by with_unfolding_all rfl)
 refine M8.getItem_tuple_rev ht (Heap.IsSliceOf.new ..) ?_ (by rw [List.size_toArray]; omega)
 exact ⟨.ref _, _, I3.laid (t' := s2.toks) (o := .tup ys.reverse) (fun b ob q => Heap.get?_push_of_some _ q) (Nat.le_refl _) ⟨by rw [List.length_reverse]; exact hz, its.reverse, vals_rev r, ⟨_, Heap.get?_push_size _ rfl, rfl, 0, by simp⟩⟩, rfl, q _ (I3.hok.fresh (Nat.le_refl _))⟩
end
end L2
namespace M
open PySem L2
section
variable {K : PySem.W.Frag}
noncomputable def aRevT (a : AE) : AE := fun δ S Q => a δ S fun r S1 => ∃ ds, see S1 r.d = .tup ds ∧ Q (.dat (.tup ds.reverse)) S1
theorem s_revT {a : AE} : ∀ σ H Q, conE K (aRevT a) σ H Q → tRevT K (conE K a) σ H Q := by
 rintro σ H Q ⟨w, δ, S, Qa, ok, env, q, bk⟩
 refine ⟨w, δ, S, _, ok, env, q, .go fun r1 S1 v1 w1 H1 le1 ok1 rep1 ⟨ds, z, q1⟩ => ?_⟩
 obtain ⟨a, xs, rfl, h1, h2⟩ := see_tup ok1 rep1 z
 refine ⟨a, xs, rfl, SqT.of h1, fun p hp => ?_⟩
 obtain ⟨w2, le2, ok2, rep2⟩ := ok1.newTup hp (reps_rev h2)
 exact bk.dat (le1.trans le2) ok2 rep2 q1
end
section
variable {X : Cx} {e : Expr} {p2 pos pc pu : Pos}
theorem pe_revT {ta : AE} {j : Nat} (he : GE X e ta) : GE X (.Subscript e (.Slice none none (some (.UnaryOp .USub (.Constant (.int 1) j pc) pu)) p2) pos) (aRevT ta) := ⟨mE (L2.pe_revT he.p) s_revT⟩
end
end M
namespace M
open PySem PySem.Spec PyProof.Rows L2 M6
section
variable {X : Cx}
noncomputable def rLtD (K : PySem.W.Frag) : R2 := fun x y H Q => ∃ a b, DatV K H a x ∧ DatV K H b y ∧ okK a = true ∧ okK b = true ∧ cmpK a b = true ∧ a.depth ≤ 6 ∧ b.depth ≤ 6 ∧ Q (.bl (ltK a b)) H
theorem op_ltD {k : Nat} (hr : Room k X.A) : OpR X (compareOp .Lt) (rLtD X.K) := by
 intro pins s σ H x y v u Q I rx ry h
 obtain ⟨a, b, h1, h2, h3, h4, h5, h6, h7, q⟩ := h
 obtain ⟨as, ra⟩ := I.reads a x v h1 rx
 obtain ⟨bs, rb⟩ := I.reads b y u h2 ry
 have hu := hr.un
 exact lt_data 6 a b h6 h7 h3 h4 h5 ra rb (by omega) ⟨.bl _, H, I, rfl, q⟩
noncomputable def aLtD : A2 := fun x y S Q => pur (see S x) = true ∧ pur (see S y) = true ∧ okK (py (see S x)) = true ∧ okK (py (see S y)) = true ∧ cmpK (py (see S x)) (py (see S y)) = true ∧ (py (see S x)).depth ≤ 6 ∧ (py (see S y)).depth ≤ 6 ∧ Q (.dat (.bl (ltK (py (see S x)) (py (see S y))))) S
theorem o_ltD {k : Nat} (hr : Room k X.A) : Op2 X (compareOp .Lt) aLtD := ⟨m2 (op_ltD hr) fun x y H Q h => by
 obtain ⟨w, d, e, S, Qa, ok, r1, r2, ⟨p1, p2, k1, k2, kc, d1, d2, q⟩, bk⟩ := h
 exact ⟨_, _, see_dat ok r1 p1, see_dat ok r2 p2, k1, k2, kc, d1, d2, bk.dat .refl ok .bl q⟩⟩
end
end M
namespace M8
open PySem PySem.Spec PyProof.Rows
open PySem.SetTable (Probe bits runEnd leap turns)
theorem php {α : Type} [DecidableEq α] : ∀ {l m : List α}, l.Nodup → (∀ x ∈ l, x ∈ m) → l.length ≤ m.length
 | [], m, _, _ => Nat.zero_le _
 | a :: l, m, hn, hs => by
  rw [List.nodup_cons] at hn
  have h1 : l.length ≤ (m.erase a).length := php hn.2 fun x hx => by
   have : x ≠ a := fun e => hn.1 (e ▸ hx)
   exact (List.mem_erase_of_ne this).mpr (hs x (List.mem_cons_of_mem _ hx))
  have h2 : a ∈ m := hs a (by simp)
  have h3 := List.length_erase_of_mem h2
  have h4 : 0 < m.length := List.length_pos_of_mem h2
  rw [List.length_cons]; omega
noncomputable def adv (m : Nat) (p : Probe) : Probe :=
 if p.more > 0 then { p with j := p.j + 1, more := p.more - 1 } else
 { p with j := (leap m p.i p.perturb).1, more := runEnd m (leap m p.i p.perturb).1 - (leap m p.i p.perturb).1, i := (leap m p.i p.perturb).1, perturb := (leap m p.i p.perturb).2 }
theorem adv_of (t : SetTable) (p : Probe) : t.advance p = adv t.mask p := rfl
noncomputable def at0 (m : Nat) (q : Nat × Nat) : Probe := { j := q.1, more := runEnd m q.1 - q.1, i := q.1, perturb := q.2, dummy := none }
noncomputable def ru (m : Nat) (h : Int) : Nat → Nat × Nat
 | 0 => (bits h % (m + 1), bits h)
 | k + 1 => leap m (ru m h k).1 (ru m h k).2
noncomputable def road (m : Nat) (h : Int) : Nat → Probe
 | 0 => at0 m (ru m h 0)
 | n + 1 => adv m (road m h n)
theorem start_of (t : SetTable) (h : Int) : t.probeStart h = road t.mask h 0 := rfl
noncomputable def nk (m : Nat) (h : Int) : Nat → Nat
 | 0 => 0
 | k + 1 => nk m h k + (runEnd m (ru m h k).1 - (ru m h k).1) + 1
theorem run_le {m i : Nat} : runEnd m i - i ≤ 9 := by unfold runEnd; split <;> omega
theorem run_ge {m i : Nat} : i ≤ runEnd m i := by unfold runEnd; split <;> omega
theorem run_m {m i : Nat} (h : i ≤ m) : runEnd m i ≤ m := by unfold runEnd; split <;> omega
theorem ru_le (m : Nat) (h : Int) : ∀ k, (ru m h k).1 ≤ m
 | 0 => Nat.le_of_lt_succ (Nat.mod_lt _ (Nat.succ_pos m))
 | k + 1 => Nat.le_of_lt_succ (Nat.mod_lt _ (Nat.succ_pos m))
theorem nk_le (m : Nat) (h : Int) : ∀ k, nk m h k ≤ 10 * k
 | 0 => Nat.le_refl _
 | k + 1 => by have := nk_le m h k; have := run_le (m := m) (i := (ru m h k).1); show nk m h k + _ + 1 ≤ _; omega
theorem road_nk (m : Nat) (h : Int) : ∀ k, road m h (nk m h k) = at0 m (ru m h k) ∧ ∀ c, c ≤ runEnd m (ru m h k).1 - (ru m h k).1 → road m h (nk m h k + c) = { at0 m (ru m h k) with j := (ru m h k).1 + c, more := runEnd m (ru m h k).1 - (ru m h k).1 - c } := by
 have step : ∀ k, road m h (nk m h k) = at0 m (ru m h k) → ∀ c, c ≤ runEnd m (ru m h k).1 - (ru m h k).1 → road m h (nk m h k + c) = { at0 m (ru m h k) with j := (ru m h k).1 + c, more := runEnd m (ru m h k).1 - (ru m h k).1 - c } := by
  intro k hk c
  induction c with
  | zero => intro _; rw [Nat.add_zero, hk]; rfl
  | succ c ih =>
   intro hc
   show adv m (road m h (nk m h k + c)) = _
   rw [ih (by omega)]
   unfold adv
   rw [if_pos (by show runEnd m (ru m h k).1 - (ru m h k).1 - c > 0; omega)]
   dsimp only
   rw [Nat.add_assoc, Nat.sub_sub]
 intro k
 induction k with
 | zero => exact ⟨rfl, step 0 rfl⟩
 | succ k ih =>
  have : road m h (nk m h (k + 1)) = at0 m (ru m h (k + 1)) := by
   show adv m (road m h (nk m h k + (runEnd m (ru m h k).1 - (ru m h k).1))) = _
   rw [ih.2 _ (Nat.le_refl _)]
   unfold adv
   rw [if_neg (by show ¬ runEnd m (ru m h k).1 - (ru m h k).1 - (runEnd m (ru m h k).1 - (ru m h k).1) > 0; omega)]
   rfl
  exact ⟨this, step _ this⟩
theorem road_inv (m : Nat) (h : Int) : ∀ n, (road m h n).j + (road m h n).more ≤ m ∧ (road m h n).dummy = none
 | 0 => by
  have h1 := ru_le m h 0
  have h2 := run_m h1
  have h3 := run_ge (m := m) (i := (ru m h 0).1)
  refine ⟨?_, rfl⟩
  show (ru m h 0).1 + (runEnd m (ru m h 0).1 - (ru m h 0).1) ≤ m
  omega
 | n + 1 => by
  have ih := road_inv m h n
  show (adv m (road m h n)).j + (adv m (road m h n)).more ≤ m ∧ (adv m (road m h n)).dummy = none
  unfold adv
  split
  ·refine ⟨?_, ih.2⟩
   show (road m h n).j + 1 + ((road m h n).more - 1) ≤ m
   omega
  ·refine ⟨?_, ih.2⟩
   dsimp only
   have h1 : (leap m (road m h n).i (road m h n).perturb).1 ≤ m := Nat.le_of_lt_succ (Nat.mod_lt _ (Nat.succ_pos m))
   have h2 := run_m h1
   have h3 := run_ge (m := m) (i := (leap m (road m h n).i (road m h n).perturb).1)
   omega
noncomputable def lcg (m i : Nat) : Nat := (i * 5 + 1) % (m + 1)
noncomputable def it (m : Nat) : Nat → Nat → Nat
 | 0, i => i
 | k + 1, i => it m k (lcg m i)
theorem it_add (m : Nat) : ∀ a b i, it m (a + b) i = it m b (it m a i)
 | 0, b, i => by rw [Nat.zero_add]; rfl
 | a + 1, b, i => by rw [Nat.add_right_comm]; exact it_add m a b (lcg m i)
noncomputable def orb (m : Nat) : Nat → Nat → List Nat
 | 0, _ => []
 | k + 1, i => i :: orb m k (lcg m i)
theorem orb_mem (m : Nat) : ∀ k i j, j ∈ orb m k i → ∃ a, a < k ∧ it m a i = j
 | 0, i, j, h => by simp [orb] at h
 | k + 1, i, j, h => by
  simp only [orb, List.mem_cons] at h
  rcases h with rfl | h
  ·exact ⟨0, by omega, rfl⟩
  ·obtain ⟨a, h1, h2⟩ := orb_mem m k _ j h
   exact ⟨a + 1, by omega, h2⟩
noncomputable def full (m : Nat) : Bool := (List.range (m + 1)).all (fun j => (orb m (m + 1) 0).contains j) && it m (m + 1) 0 == 0
theorem full7 : full 7 = true := by decide +kernel
theorem full31 : full 31 = true := by decide +kernel
theorem full127 : full 127 = true := by decide +kernel
theorem it_all {m : Nat} (hf : full m = true) {i j : Nat} (hi : i ≤ m) (hj : j ≤ m) : ∃ k, k ≤ m ∧ it m k i = j := by
 unfold full at hf
 rw [Bool.and_eq_true, List.all_eq_true] at hf
 have g : ∀ x, x ≤ m → ∃ a, a < m + 1 ∧ it m a 0 = x := fun x hx => orb_mem m _ _ _ (by
  have := hf.1 x (List.mem_range.mpr (by omega))
  simpa using this)
 have per : it m (m + 1) 0 = 0 := by simpa using hf.2
 obtain ⟨a, a1, a2⟩ := g i hi
 obtain ⟨b, b1, b2⟩ := g j hj
 by_cases hab : a ≤ b
 ·refine ⟨b - a, by omega, ?_⟩
  rw [← a2, ← it_add, ← b2]
  congr 1; omega
 ·refine ⟨m + 1 - a + b, by omega, ?_⟩
  rw [← a2, ← it_add, ← b2]
  have : a + (m + 1 - a + b) = m + 1 + b := by omega
  rw [this, it_add, per]
theorem bits_lt (h : Int) : bits h < 2 ^ 64 := by
 unfold bits
 have h1 := Int.emod_lt_of_pos h (show (0 : Int) < 2 ^ 64 by decide)
 have h2 := Int.emod_nonneg h (show (2 ^ 64 : Int) ≠ 0 by decide)
 have h3 : (2 ^ 64 : Int) = ((2 ^ 64 : Nat) : Int) := by decide
 omega
theorem ru_per (m : Nat) (h : Int) : ∀ k, (ru m h k).2 = bits h / 32 ^ k
 | 0 => by simp [ru]
 | k + 1 => by
  show (ru m h k).2 / 32 = _
  rw [ru_per m h k, Nat.div_div_eq_div_mul, Nat.pow_succ]
theorem ru_zero (m : Nat) (h : Int) {k : Nat} (hk : 13 ≤ k) : (ru m h k).2 = 0 := by
 rw [ru_per]
 refine Nat.div_eq_of_lt (Nat.lt_of_lt_of_le (bits_lt h) ?_)
 exact Nat.le_trans (show 2 ^ 64 ≤ 32 ^ 13 by decide) (Nat.pow_le_pow_right (by decide) hk)
theorem ru_it (m : Nat) (h : Int) : ∀ k, (ru m h (13 + k)).1 = it m k (ru m h 13).1
 | 0 => rfl
 | k + 1 => by
  have e : (ru m h (13 + (k + 1))).1 = lcg m (ru m h (13 + k)).1 := by
   show ((ru m h (13 + k)).1 * 5 + 1 + (ru m h (13 + k)).2 / 32) % (m + 1) = _
   rw [ru_zero m h (by omega)]; rfl
  rw [e, ru_it m h k, it_add m k 1]; rfl
theorem ru_all {m : Nat} (hf : full m = true) (h : Int) {j : Nat} (hj : j ≤ m) : ∃ k, k ≤ m + 13 ∧ (ru m h k).1 = j := by
 obtain ⟨k, h1, h2⟩ := it_all hf (ru_le m h 13) hj
 exact ⟨13 + k, by omega, by rw [ru_it, h2]⟩
theorem road_all {m : Nat} (hf : full m = true) (h : Int) {j : Nat} (hj : j ≤ m) : ∃ n, n < 10 * turns m ∧ (road m h n).j = j := by
 obtain ⟨k, h1, h2⟩ := ru_all hf h hj
 refine ⟨nk m h k, ?_, ?_⟩
 ·have := nk_le m h k; unfold turns; omega
 ·rw [(road_nk m h k).1]; exact h2
noncomputable def Way (m : Nat) (occ : Nat → Prop) (h : Int) (j : Nat) : Prop := ∃ n, (road m h n).j = j ∧ ∀ n' < n, occ (road m h n').j
theorem Way.mono {m : Nat} {occ occ' : Nat → Prop} {h : Int} {j : Nat} (w : Way m occ h j) (g : ∀ x, occ x → occ' x) : Way m occ' h j := by
 obtain ⟨n, h1, h2⟩ := w
 exact ⟨n, h1, fun n' hn => g _ (h2 n' hn)⟩
theorem least {P : Nat → Prop} : ∀ (n : Nat), P n → ∃ k, k ≤ n ∧ P k ∧ ∀ i < k, ¬ P i
 | 0, h => ⟨0, Nat.le_refl _, h, fun i hi => absurd hi (Nat.not_lt_zero _)⟩
 | n + 1, h => by
  by_cases g : ∃ i, i ≤ n ∧ P i
  ·obtain ⟨i, h1, h2⟩ := g
   obtain ⟨k, a, b, c⟩ := least i h2
   exact ⟨k, by omega, b, c⟩
  ·exact ⟨n + 1, Nat.le_refl _, h, fun i hi hp => g ⟨i, by omega, hp⟩⟩
theorem first_free {m : Nat} (hf : full m = true) (h : Int) {occ : List Nat} (hc : occ.length ≤ m) : ∃ N, N < 10 * turns m ∧ (road m h N).j ∉ occ ∧ ∀ n < N, (road m h n).j ∈ occ := by
 have : ∃ j, j ≤ m ∧ j ∉ occ := by
  apply Classical.byContradiction
  intro hne
  have h1 := php (l := List.range (m + 1)) (m := occ) List.nodup_range fun x hx => by
   have hx := List.mem_range.mp hx
   apply Classical.byContradiction
   intro hno
   exact hne ⟨x, by omega, hno⟩
  rw [List.length_range] at h1
  omega
 obtain ⟨j, h1, h2⟩ := this
 obtain ⟨n, h3, h4⟩ := road_all hf h h1
 obtain ⟨N, a, b, c⟩ := least (P := fun n => (road m h n).j ∉ occ) n (by rw [h4]; exact h2)
 exact ⟨N, by omega, b, fun n' hn => Classical.byContradiction fun hno => c n' hn hno⟩
end M8
namespace M8
open PySem PySem.Spec PyProof.Rows M7
open PySem.SetTable (Probe bits runEnd leap turns)
noncomputable abbrev Ent := Nat × (Int × Value)
noncomputable def fs (l : List Ent) : List Nat := l.map (·.1)
structure Tab (t : SetTable) (es : Array (Int × Value)) (l : List Ent) : Prop where
 dm : t.dummies = #[]
 pl : t.place.toList = fs l
 el : es.toList = l.map (·.2)
 up : (fs l).Pairwise (· < ·)
 mm : t.mask = 7 ∨ t.mask = 31 ∨ t.mask = 127
 nf : l.length * 5 < t.mask * 3
 le : ∀ e ∈ l, e.1 ≤ t.mask
 way : ∀ e ∈ l, Way t.mask (· ∈ fs l) e.2.1 e.1
theorem full_of {m : Nat} (h : m = 7 ∨ m = 31 ∨ m = 127) : full m = true := by
 rcases h with rfl | rfl | rfl
 ·exact full7
 ·exact full31
 ·exact full127
section
variable {t : SetTable} {es : Array (Int × Value)} {l : List Ent}
theorem Tab.rise (T : Tab t es l) : Rise t.place := rise_list.mpr (by rw [T.pl]; exact T.up)
theorem Tab.sz (T : Tab t es l) : t.place.size = l.length := by rw [← Array.length_toList, T.pl]; exact List.length_map ..
theorem Tab.esz (T : Tab t es l) : es.size = l.length := by rw [← Array.length_toList, T.el, List.length_map]
theorem Tab.fits (T : Tab t es l) : t.fits es.size = true := by
 have h1 := T.sz
 have h2 := T.esz
 have h3 := T.nf
 unfold SetTable.fits SetTable.fill
 rw [T.dm, h1, h2]
 simp
 omega
theorem below_at {xs : Array Nat} (hx : Rise xs) {i : Nat} (hi : i < xs.size) : SetTable.below xs xs[i] = i := by
 obtain ⟨h1, h2, h3⟩ := below_ok hx xs[i]
 rcases Nat.lt_trichotomy i (SetTable.below xs xs[i]) with z | z | z
 ·have := h2 i hi z; omega
 ·exact z.symm
 ·have := h3 _ (by omega : SetTable.below xs xs[i] < xs.size) (Nat.le_refl _)
  have := hx _ _ z hi (by omega)
  omega
theorem Tab.live (T : Tab t es l) {j : Nat} {e : Int × Value} (h : (j, e) ∈ l) : ∃ i, t.slot j = .live i ∧ es[i]? = some e ∧ i < es.size := by
 obtain ⟨i, hi, he⟩ := List.getElem_of_mem h
 have hp : i < t.place.size := by rw [T.sz]; exact hi
 have e1 : t.place[i] = j := by
  have : t.place.toList[i]'(by simpa using hp) = (fs l)[i]'(by unfold fs; simpa using hi) := by simp only [T.pl]
  rw [Array.getElem_toList] at this
  rw [this]
  unfold fs
  rw [List.getElem_map, he]
 have e2 : es[i]? = some e := by
  rw [← Array.getElem?_toList, T.el, List.getElem?_map, List.getElem?_eq_getElem hi, he]; rfl
 have e3 := below_at T.rise hp
 rw [e1] at e3
 refine ⟨i, ?_, e2, by rw [T.esz]; exact hi⟩
 unfold SetTable.slot
 dsimp only
 rw [e3, Array.getElem?_eq_getElem hp, e1, if_pos (by simp)]
theorem Tab.empty (T : Tab t es l) {j : Nat} (h : j ∉ fs l) : t.slot j = .empty := by
 unfold SetTable.slot
 dsimp only
 rw [if_neg (fun z => h (by
  have z : t.place[SetTable.below t.place j]? = some j := by simpa using z
  rw [← Array.getElem?_toList, T.pl] at z
  exact List.mem_of_getElem? z)), T.dm]
 have : SetTable.has #[] j = false := by unfold SetTable.has; rfl
 rw [this]; rfl
theorem mem_fs {j : Nat} (h : j ∈ fs l) : ∃ e, (j, e) ∈ l := by
 obtain ⟨⟨a, b⟩, h1, h2⟩ := List.mem_map.mp h
 have h2 : a = j := h2
 subst h2
 exact ⟨b, h1⟩
theorem Tab.probe (T : Tab t es l) {hashAt : Nat → Int} {h : Int} (hAt : ∀ i e, es[i]? = some e → hashAt i = e.1) {N : Nat} (hN : (road t.mask h N).j ∉ fs l) (hb : ∀ n < N, (road t.mask h n).j ∈ fs l) : ∀ (f n : Nat), n ≤ N → N - n < f →
  (SetTable.probe.go t hashAt h f (road t.mask h n) = some (.empty (road t.mask h N).j none) ∧ ∀ n', n ≤ n' → n' < N → ∀ e, ((road t.mask h n').j, e) ∈ l → e.1 ≠ h) ∨
  ∃ n1 e i, n ≤ n1 ∧ n1 < N ∧ ((road t.mask h n1).j, e) ∈ l ∧ e.1 = h ∧ t.slot (road t.mask h n1).j = .live i ∧ es[i]? = some e ∧ SetTable.probe.go t hashAt h f (road t.mask h n) = some (.candidate (road t.mask h n1).j i (road t.mask h (n1 + 1))) ∧ ∀ n', n ≤ n' → n' < n1 → ∀ e, ((road t.mask h n').j, e) ∈ l → e.1 ≠ h
 | 0, n, h1, h2 => by omega
 | f + 1, n, h1, h2 => by
  rw [SetTable.probe.go.eq_2]
  rcases Nat.lt_or_ge n N with z | z
  ·obtain ⟨e, he⟩ := mem_fs (hb n z)
   obtain ⟨i, i1, i2, i3⟩ := T.live he
   rw [i1]
   dsimp only
   rw [hAt i e i2]
   have uniq : ∀ e', ((road t.mask h n).j, e') ∈ l → e' = e := fun e' he' => by
    obtain ⟨i', j1, j2, _⟩ := T.live he'
    rw [i1] at j1
    injection j1 with j1
    subst j1
    rw [i2] at j2
    exact (Option.some.inj j2).symm
   by_cases hc : e.1 = h
   ·refine .inr ⟨n, e, i, Nat.le_refl _, z, he, hc, i1, i2, ?_, fun n' a b => by omega⟩
    rw [if_pos (by simp [hc]), adv_of]; rfl
   ·rw [if_neg (by simp [hc]), adv_of]
    rcases T.probe hAt hN hb f (n + 1) (by omega) (by omega) with ⟨a, b⟩ | ⟨n1, e1, i1', a1, a2, a3, a4, a5, a6, a7, a8⟩
    ·refine .inl ⟨a, fun n' c d e' he' => ?_⟩
     rcases Nat.eq_or_lt_of_le c with rfl | c
     ·rw [uniq e' he']; exact hc
     ·exact b n' c d e' he'
    ·refine .inr ⟨n1, e1, i1', by omega, a2, a3, a4, a5, a6, a7, fun n' c d e' he' => ?_⟩
     rcases Nat.eq_or_lt_of_le c with rfl | c
     ·rw [uniq e' he']; exact hc
     ·exact a8 n' c d e' he'
  ·obtain rfl : n = N := by omega
   rw [T.empty hN]
   dsimp only
   rw [(road_inv t.mask h n).2]
   exact .inl ⟨rfl, fun n' a b => by omega⟩
noncomputable def more (l : List Ent) (p : Nat) (e : Ent) : List Ent := l.take p ++ e :: l.drop p
theorem more_perm (l : List Ent) (p : Nat) (e : Ent) : (more l p e).Perm (e :: l) := by
 unfold more
 refine List.perm_middle.trans ?_
 rw [List.take_append_drop]
theorem ins_list {α : Type} (xs : Array α) (p : Nat) (x : α) : (SetTable.insertAt xs p x).toList = xs.toList.take p ++ x :: xs.toList.drop p := by
 unfold SetTable.insertAt
 simp [Array.toList_extract]
 exact List.take_of_length_le (by simp)
theorem put_es (T : Tab t es l) {j : Nat} {h : Int} {x : Value} : (SetTable.insertAt es (t.put j).2 (h, x)).toList = (more l (t.put j).2 (j, (h, x))).map (·.2) := by
 rw [ins_list, T.el]
 unfold more
 rw [List.map_append, List.map_cons, List.map_take, List.map_drop]
theorem Tab.put (T : Tab t es l) {h : Int} {x : Value} {N : Nat} (hN : (road t.mask h N).j ∉ fs l) (hb : ∀ n < N, (road t.mask h n).j ∈ fs l) (hn : (l.length + 1) * 5 < t.mask * 3) :
  Tab (t.put (road t.mask h N).j).1 (SetTable.insertAt es (t.put (road t.mask h N).j).2 (h, x)) (more l (t.put (road t.mask h N).j).2 ((road t.mask h N).j, (h, x))) := by
 have hj := road_inv t.mask h N
 generalize hJ : (road t.mask h N).j = j at *
 have hh : SetTable.has t.dummies j = false := by rw [T.dm]; unfold SetTable.has; rfl
 have epl : (SetTable.insertAt t.place (SetTable.below t.place j) j).toList = fs (more l (SetTable.below t.place j) (j, (h, x))) := by
  rw [ins_list, T.pl]
  unfold more fs
  rw [List.map_append, List.map_cons, List.map_take, List.map_drop]
 have sub : ∀ y, y ∈ fs l → y ∈ fs (more l (SetTable.below t.place j) (j, (h, x))) := fun y hy => by
  have := ((more_perm l (SetTable.below t.place j) (j, (h, x))).map (·.1)).mem_iff (a := y)
  exact this.mpr (List.mem_cons_of_mem _ hy)
 refine ⟨?_, epl, put_es T, ?_, T.mm, ?_, ?_, ?_⟩
 ·show (if SetTable.has t.dummies j = true then _ else t.dummies) = #[]
  rw [if_neg (by rw [hh]; decide)]; exact T.dm
 ·have := rise_list.mp (rise_put (j := j) T.rise (by
   cases z : t.place[SetTable.below t.place j]? == some j with
   | false => rfl
   | true =>
    have z : t.place[SetTable.below t.place j]? = some j := by simpa using z
    rw [← Array.getElem?_toList, T.pl] at z
    exact absurd (List.mem_of_getElem? z) hN))
  rw [epl] at this
  exact this
 ·rw [(more_perm ..).length_eq]; exact hn
 ·intro e he
  rcases List.mem_cons.mp ((more_perm ..).mem_iff.mp he) with rfl | he
  ·show j ≤ t.mask
   omega
  ·exact T.le e he
 ·intro e he
  rcases List.mem_cons.mp ((more_perm ..).mem_iff.mp he) with rfl | he
  ·exact ⟨N, hJ, fun n hn => sub _ (hb n hn)⟩
  ·exact (T.way e he).mono sub
end
noncomputable def occO (ow : Array (Option Nat)) (j : Nat) : Prop := ∃ i, ow[j]? = some (some i)
structure Own (m : Nat) (hs : List Int) (ow : Array (Option Nat)) : Prop where
 sz : ow.size = m + 1
 wy : ∀ (j i : Nat), ow[j]? = some (some i) → i < hs.length ∧ Way m (occO ow) (hs.getD i 0) j
 al : ∀ (i : Nat), i < hs.length → ∃ j : Nat, ow[j]? = some (some i)
 un : ∀ (j j' i : Nat), ow[j]? = some (some i) → ow[j']? = some (some i) → j = j'
theorem isN {m : Nat} {ow : Array (Option Nat)} (sz : ow.size = m + 1) {j : Nat} (hj : j ≤ m) : ((ow.getD j (some 0)).isNone = true → ow[j]? = some none) ∧ ((ow.getD j (some 0)).isNone = false → occO ow j) := by
 have hlt : j < ow.size := by omega
 have e1 : ow.getD j (some 0) = ow[j] := by simp [Array.getD, hlt]
 unfold occO
 rw [e1, Array.getElem?_eq_getElem hlt]
 cases ow[j] with
 | none => exact ⟨fun _ => rfl, (fun z => by cases z)⟩
 | some i => exact ⟨(fun z => by cases z), fun _ => ⟨i, rfl⟩⟩
theorem free_ok {m : Nat} {ow : Array (Option Nat)} {h : Int} (sz : ow.size = m + 1) : ∀ (f k : Nat), (∃ k', k ≤ k' ∧ k' < k + f ∧ ow[(ru m h k').1]? = some none) → (∀ n < nk m h k, occO ow (road m h n).j) → ∃ j, SetTable.layClean.free m ow f (ru m h k).1 (ru m h k).2 = some j ∧ j ≤ m ∧ ow[j]? = some none ∧ Way m (occO ow) h j
 | 0, k, hx, _ => by obtain ⟨k', h1, h2, _⟩ := hx; omega
 | f + 1, k, hx, hb => by
  obtain ⟨k', h1, h2, h3⟩ := hx
  rw [SetTable.layClean.free.eq_2]
  have hle := ru_le m h k
  have hrm := run_m hle
  have hge := run_ge (m := m) (i := (ru m h k).1)
  have hrn := road_nk m h k
  cases hf : (List.range (runEnd m (ru m h k).1 + 1 - (ru m h k).1)).find? (fun c => (ow.getD ((ru m h k).1 + c) (some 0)).isNone) with
  | some c =>
   rw [List.find?_range_eq_some] at hf
   obtain ⟨g1, g2, g3⟩ := hf
   have g2 := List.mem_range.mp g2
   have hc : (ru m h k).1 + c ≤ m := by omega
   refine ⟨_, rfl, hc, (isN sz hc).1 g1, nk m h k + c, ?_, fun n hn => ?_⟩
   ·rw [hrn.2 c (by omega)]
   ·rcases Nat.lt_or_ge n (nk m h k) with z | z
    ·exact hb n z
    ·obtain ⟨d, rfl⟩ : ∃ d, n = nk m h k + d := ⟨n - nk m h k, by omega⟩
     rw [hrn.2 d (by omega)]
     exact (isN sz (j := (ru m h k).1 + d) (by omega)).2 (by have := g3 d (by omega); simpa using this)
  | none =>
   rw [List.find?_range_eq_none] at hf
   have all : ∀ d, d ≤ runEnd m (ru m h k).1 - (ru m h k).1 → occO ow ((ru m h k).1 + d) := fun d hd => (isN sz (by omega)).2 (by have := hf d (by omega); simpa using this)
   have hne : k ≠ k' := fun e => by
    subst e
    obtain ⟨i, hi⟩ := all 0 (by omega)
    rw [Nat.add_zero, h3] at hi
    cases hi
   exact free_ok sz f (k + 1) ⟨k', by omega, by omega, h3⟩ fun n hn => by
    have hn : n < nk m h k + (runEnd m (ru m h k).1 - (ru m h k).1) + 1 := hn
    rcases Nat.lt_or_ge n (nk m h k) with z | z
    ·exact hb n z
    ·obtain ⟨d, rfl⟩ : ∃ d, n = nk m h k + d := ⟨n - nk m h k, by omega⟩
     rw [hrn.2 d (by omega)]
     exact all d (by omega)
theorem Own.step {m : Nat} {hs : List Int} {ow : Array (Option Nat)} (O : Own m hs ow) (hf : full m = true) (hl : hs.length ≤ m) (h : Int) :
  ∃ j, SetTable.layClean.free m ow (turns m) (bits h % (m + 1)) (bits h) = some j ∧ Own m (hs ++ [h]) (ow.setIfInBounds j (some hs.length)) := by
 have ⟨j0, z1, z2⟩ : ∃ j, j ≤ m ∧ ow[j]? = some none := by
  apply Classical.byContradiction
  intro hne
  have hall : ∀ j, j ≤ m → occO ow j := fun j hj => by
   cases e : ow[j]? with
   | none => rw [Array.getElem?_eq_none_iff] at e; have := O.sz; omega
   | some x =>
    cases x with
    | none => exact absurd ⟨j, hj, e⟩ hne
    | some i => exact ⟨i, e⟩
  let g : Nat → Nat := fun i => if h : i < hs.length then Classical.choose (O.al i h) else 0
  have hg : ∀ i (h : i < hs.length), ow[g i]? = some (some i) := fun i h => by
   show ow[if h : i < hs.length then Classical.choose (O.al i h) else 0]? = _
   rw [dif_pos h]
   exact Classical.choose_spec (O.al i h)
  have := php (l := List.range (m + 1)) (m := (List.range hs.length).map g) List.nodup_range fun x hx => by
   have hx := List.mem_range.mp hx
   obtain ⟨i, hi⟩ := hall x (by omega)
   have hlt := (O.wy x i hi).1
   rw [O.un x (g i) i hi (hg i hlt)]
   exact List.mem_map.mpr ⟨i, List.mem_range.mpr hlt, rfl⟩
  rw [List.length_range, List.length_map, List.length_range] at this
  omega
 obtain ⟨k, k1, k2⟩ := ru_all hf h z1
 obtain ⟨j, f1, f2, f3, f4⟩ := free_ok (h := h) O.sz (turns m) 0 ⟨k, Nat.zero_le _, by unfold turns; omega, by rw [k2]; exact z2⟩ (fun n hn => absurd hn (Nat.not_lt_zero _))
 refine ⟨j, f1, ?_⟩
 have hjs : j < ow.size := by rw [O.sz]; omega
 have at1 : ∀ x, (ow.setIfInBounds j (some hs.length))[x]? = if j = x then some (some hs.length) else ow[x]? := fun x => by
  rw [Array.getElem?_setIfInBounds]
  by_cases e : j = x
  ·rw [if_pos e, if_pos e, if_pos (by omega)]
  ·rw [if_neg e, if_neg e]
 have occ : ∀ x, occO ow x → occO (ow.setIfInBounds j (some hs.length)) x := fun x ⟨i, hi⟩ => by
  unfold occO
  rw [at1]
  by_cases e : j = x
  ·exact ⟨_, if_pos e⟩
  ·exact ⟨i, by rw [if_neg e]; exact hi⟩
 refine ⟨by simp [O.sz], fun x i hi => ?_, fun i hi => ?_, fun x y i hx hy => ?_⟩
 ·rw [at1] at hi
  by_cases e : j = x
  ·rw [if_pos e] at hi
   have hi : hs.length = i := by injection hi with hi; injection hi
   subst hi
   subst e
   refine ⟨by simp, ?_⟩
   have : (hs ++ [h]).getD hs.length 0 = h := by simp
   rw [this]
   exact f4.mono occ
  ·rw [if_neg e] at hi
   obtain ⟨a, b⟩ := O.wy x i hi
   refine ⟨by rw [List.length_append]; omega, ?_⟩
   have : (hs ++ [h]).getD i 0 = hs.getD i 0 := by simp [List.getElem?_append_left a]
   rw [this]
   exact b.mono occ
 ·rw [List.length_append] at hi
  by_cases e : i = hs.length
  ·exact ⟨j, by rw [at1, if_pos rfl, e]⟩
  ·obtain ⟨x, hx⟩ := O.al i (by have : [h].length = 1 := rfl; omega)
   refine ⟨x, ?_⟩
   rw [at1, if_neg (fun e => by rw [← e, f3] at hx; cases hx)]
   exact hx
 ·rw [at1] at hx hy
  by_cases e1 : j = x <;> by_cases e2 : j = y
  ·rw [← e1, e2]
  ·rw [if_pos e1] at hx
   rw [if_neg e2] at hy
   have hx : hs.length = i := by injection hx with hx; injection hx
   have := (O.wy y i hy).1
   omega
  ·rw [if_neg e1] at hx
   rw [if_pos e2] at hy
   have hy : hs.length = i := by injection hy with hy; injection hy
   have := (O.wy x i hx).1
   omega
  ·rw [if_neg e1] at hx
   rw [if_neg e2] at hy
   exact O.un x y i hx hy
theorem lay_go {m : Nat} (hf : full m = true) {F : Option (Array (Option Nat) × Nat) → Int → Option (Array (Option Nat) × Nat)} (hF : ∀ ow k h j, SetTable.layClean.free m ow (turns m) (bits h % (m + 1)) (bits h) = some j → F (some (ow, k)) h = some (ow.setIfInBounds j (some k), k + 1)) :
  ∀ (rest done : List Int) (ow : Array (Option Nat)), Own m done ow → done.length + rest.length ≤ m → ∃ ow', rest.foldl F (some (ow, done.length)) = some (ow', done.length + rest.length) ∧ Own m (done ++ rest) ow'
 | [], done, ow, O, _ => ⟨ow, rfl, by rw [List.append_nil]; exact O⟩
 | h :: rest, done, ow, O, hl => by
  rw [List.length_cons] at hl
  obtain ⟨j, j1, j2⟩ := O.step hf (by omega) h
  have hlen : (done ++ [h]).length = done.length + 1 := by simp
  obtain ⟨ow', a, b⟩ := lay_go hf hF rest (done ++ [h]) _ j2 (by omega)
  refine ⟨ow', ?_, ?_⟩
  ·rw [List.foldl_cons, hF _ _ _ _ j1]
   rw [hlen] at a
   rw [a, List.length_cons]
   congr 2; omega
  ·rw [List.append_assoc] at b; exact b
theorem lay_ok {m : Nat} (hf : full m = true) (hs : Array Int) (hl : hs.size ≤ m) : ∃ ow, SetTable.layClean m hs = some ow ∧ Own m hs.toList ow := by
 have O0 : Own m [] (Array.replicate (m + 1) none) := by
  have no : ∀ j i, ¬ (Array.replicate (m + 1) (none : Option Nat))[j]? = some (some i) := fun j i z => by
   rw [Array.getElem?_replicate] at z
   split at z <;> simp at z
  exact ⟨by simp, fun j i hi => absurd hi (no j i), fun i hi => by simp at hi, fun j j' i hi => absurd hi (no j i)⟩
 unfold SetTable.layClean
 rw [← Array.foldl_toList]
 generalize hFF : (fun (acc : Option (Array (Option Nat) × Nat)) (h : Int) => (do
  let (owner, k) ← acc
  let j ← SetTable.layClean.free m owner (turns m) (bits h % (m + 1)) (bits h)
  pure (owner.setIfInBounds j (some k), k + 1))) = F
 have hF' : ∀ ow k h j, SetTable.layClean.free m ow (turns m) (bits h % (m + 1)) (bits h) = some j → F (some (ow, k)) h = some (ow.setIfInBounds j (some k), k + 1) := fun ow k h j hj => by
  rw [← hFF]
  show (SetTable.layClean.free m ow (turns m) (bits h % (m + 1)) (bits h)).bind _ = _
  rw [hj]; rfl
 obtain ⟨ow, a, b⟩ := lay_go hf (fun ow k h j hj => by
  exact hF' ow k h j hj) hs.toList [] _ O0 (by simpa using hl)
 refine ⟨ow, ?_, b⟩
 have a := congrArg (Option.map (·.1)) a
 exact a
theorem relay_ok {t : SetTable} {es : Array (Int × Value)} {n m : Nat} (hm : SetTable.sizeAbove n - 1 = m) (hk : m = 7 ∨ m = 31 ∨ m = 127) (hl : es.size * 5 < m * 3) :
  ∃ t' o l', t.relaid (es.map (·.1)) n = some (t', o) ∧ Tab t' (o.filterMap (es[·]?)) l' ∧ (l'.map (·.2)).Perm es.toList ∧ t'.led = t.led ∧ t'.plain = t.plain := by
 obtain ⟨ow, a, O⟩ := lay_ok (full_of hk) (es.map (·.1)) (by rw [Array.size_map]; omega)
 have hlen : (es.map (·.1)).toList.length = es.size := by simp
 generalize hlv : ((List.range (m + 1)).filterMap fun j => (ow.getD j none).map (j, ·)) = live
 have mem : ∀ j i, (j, i) ∈ live ↔ ow[j]? = some (some i) := fun j i => by
  rw [← hlv, List.mem_filterMap]
  constructor
  ·rintro ⟨x, h1, h2⟩
   have h1 := List.mem_range.mp h1
   have hx : x < ow.size := by rw [O.sz]; exact h1
   have e1 : ow.getD x none = ow[x] := by simp [Array.getD, hx]
   rw [e1] at h2
   cases e2 : ow[x] with
   | none => rw [e2] at h2; cases h2
   | some y =>
    rw [e2] at h2
    have h2 : some (x, y) = some (j, i) := h2
    injection h2 with h2
    injection h2 with h3 h4
    subst h3; subst h4
    rw [Array.getElem?_eq_getElem hx, e2]
  ·intro h
   obtain ⟨hx, e⟩ := Array.getElem?_eq_some_iff.mp h
   refine ⟨j, List.mem_range.mpr (by rw [← O.sz]; exact hx), ?_⟩
   have e1 : ow.getD j none = ow[j] := by simp [Array.getD, hx]
   rw [e1, e]; rfl
 have bnd : ∀ e ∈ live, e.2 < es.size ∧ Way m (occO ow) ((es.getD e.2 (0, .none)).1) e.1 := fun e he => by
  obtain ⟨h1, h2⟩ := O.wy e.1 e.2 ((mem e.1 e.2).mp he)
  rw [hlen] at h1
  refine ⟨h1, ?_⟩
  have : (es.map (·.1)).toList.getD e.2 0 = (es.getD e.2 (0, .none)).1 := by simp [Array.getD, h1]
  rw [this] at h2
  exact h2
 have up : (live.map (·.1)).Pairwise (· < ·) := by
  rw [← hlv]
  exact List.Pairwise.sublist (fst_sub _ _) List.pairwise_lt_range
 have nd : (live.map (·.2)).Nodup := by
  rw [List.pairwise_map] at up
  show (live.map (·.2)).Pairwise (· ≠ ·)
  rw [List.pairwise_map]
  refine up.imp_of_mem fun {x y} hx hy hlt e => ?_
  have h1 := (mem x.1 x.2).mp hx
  have h2 := (mem y.1 y.2).mp hy
  rw [← e] at h2
  have := O.un _ _ _ h1 h2
  omega
 have pr : (live.map (·.2)).Perm (List.range es.size) := by
  rw [List.perm_ext_iff_of_nodup nd List.nodup_range]
  intro i
  rw [List.mem_range, List.mem_map]
  constructor
  ·rintro ⟨e, he, rfl⟩; exact (bnd e he).1
  ·intro hi
   obtain ⟨j, hj⟩ := O.al i (by rw [hlen]; exact hi)
   exact ⟨(j, i), (mem j i).mpr hj, rfl⟩
 generalize hl' : (live.map fun e => ((e.1, es.getD e.2 (0, .none)) : Ent)) = l'
 have f1 : fs l' = live.map (·.1) := by rw [← hl']; unfold fs; rw [List.map_map]; rfl
 have f2 : l'.map (·.2) = (live.map (·.2)).map fun i => es.getD i (0, .none) := by rw [← hl', List.map_map, List.map_map]; rfl
 have pe : (l'.map (·.2)).Perm es.toList := by
  rw [f2]
  refine (pr.map _).trans ?_
  have : (List.range es.size).map (fun i => es.getD i (0, .none)) = es.toList := by
   refine List.ext_getElem (by simp) fun i h1 h2 => ?_
   have h3 : i < es.size := by simpa using h2
   simp [Array.getD, h3]
  rw [this]
 have fm : ∀ q : List (Nat × Nat), (∀ e ∈ q, e.2 < es.size) → (q.map (·.2)).filterMap (es[·]?) = (q.map (·.2)).map fun i => es.getD i (0, .none) := by
  intro q
  induction q with
  | nil => intro _; rfl
  | cons e q ih =>
   intro hq
   have h1 := hq e (by simp)
   simp only [List.map_cons]
   rw [List.filterMap_cons, Array.getElem?_eq_getElem h1]
   dsimp only
   rw [ih fun x hx => hq x (List.mem_cons_of_mem _ hx)]
   simp [Array.getD, h1]
 refine ⟨{ mask := m, place := (live.map (·.1)).toArray, dummies := #[], finger := t.finger, led := t.led, moves := t.movedTo m, plain := t.plain }, (live.map (·.2)).toArray, l', ?_, ⟨rfl, ?_, ?_, ?_, hk, ?_, ?_, ?_⟩, pe, rfl, rfl⟩
 ·unfold SetTable.relaid SetTable.laid
  rw [hm, a]
  show some _ = some _
  rw [hlv]
 ·exact f1.symm
 ·rw [Array.toList_filterMap, f2]
  exact fm live fun e he => (bnd e he).1
 ·rw [f1]; exact up
 ·have := pe.length_eq
  rw [List.length_map] at this
  show l'.length * 5 < m * 3
  have e : l'.length = es.size := this
  rw [e]; exact hl
 ·intro e he
  rw [← hl'] at he
  obtain ⟨x, hx, rfl⟩ := List.mem_map.mp he
  obtain ⟨h1, _⟩ := Array.getElem?_eq_some_iff.mp ((mem x.1 x.2).mp hx)
  have := O.sz
  show x.1 ≤ m
  omega
 ·intro e he
  rw [← hl'] at he
  obtain ⟨x, hx, rfl⟩ := List.mem_map.mp he
  refine (bnd x hx).2.mono fun y hy => ?_
  rw [f1]
  obtain ⟨i, hi⟩ := hy
  exact List.mem_map.mpr ⟨(y, i), (mem y i).mpr hi, rfl⟩
end M8
namespace M8
open PySem PySem.Spec PyProof.Rows M5 M6 M7
open PySem.SetTable (Probe bits runEnd leap turns)
section
variable {prog : Program} {w : World} {A : Around} {E : Value → Shared → Prop} {s : Shared}
theorem class_data : ∀ (n : Nat) (d : PyData) {v : Value} {as : List Addr} {A : Around} {E : Value → Shared → Prop} {s : Shared} {Q : Bool → Shared → Prop}, d.depth ≤ n → okK d = true → Reads s.heap v d as → Q false s → wpAny (model prog w) A (ofAClassStatement n v) Q E s := by
 intro n
 induction n with
 | zero =>
  intro d v as A E s Q hd hk hr h
  cases hr with
  | int i t => rw [ofAClassStatement.eq_def]; exact wpAny_pure h
  | str x t => rw [ofAClassStatement.eq_def]; exact wpAny_pure h
  | tuple ho hc hd' hall => rw [depth_tuple] at hd; omega
  | none => simp [okK] at hk
  | bool b => simp [okK] at hk
  | list _ _ _ _ => simp [okK] at hk
  | dict _ _ _ _ _ => simp [okK] at hk
 | succ n ih =>
  intro d v as A E s Q hd hk hr h
  cases hr with
  | int i t => rw [ofAClassStatement.eq_def]; exact wpAny_pure h
  | str x t => rw [ofAClassStatement.eq_def]; exact wpAny_pure h
  | none => simp [okK] at hk
  | bool b => simp [okK] at hk
  | list _ _ _ _ => simp [okK] at hk
  | dict _ _ _ _ _ => simp [okK] at hk
  | @tuple a o vs m xs as ho hc hdat hall =>
   have hT := typeIs_of ho hc
   have hk : okKs xs = true := hk
   rw [depth_tuple] at hd
   rw [ofAClassStatement.eq_def]
   dsimp only
   refine wpAny_bind (wpAny_typeOf hT ?_)
   dsimp only
   refine wpAny_bind (wpAny_pure ?_)
   rw [if_neg (by decide)]
   refine wpAny_bind (wpAny_seqItems ho hdat (wpAny_bind ?_))
   show wpAny (model prog w) A (forIn vs _ _) _ E s
   rw [← Array.forIn_toList]
   refine wpAny_forIn_list _ (fun rest r s' => r.1 = none ∧ s' = s ∧ ∃ left as', ReadsAll s.heap rest left as' ∧ ∀ x ∈ left, x ∈ xs) _ ?_ ?_ vs.toList (none, ()) ⟨rfl, rfl, xs, _, hall, fun _ hx => hx⟩
   ·rintro y rest ⟨r1, r2⟩ s' ⟨hr, rfl, left, as', hl, hsub⟩
    cases hl with
    | @cons _ _ d' ds as1 bs hx hrest =>
     have hm : d' ∈ xs := hsub d' (by simp)
     refine wpAny_bind (ih d' (as := as1) (by have := depth_mem hm; omega) (okKs_mem hk d' hm) hx ?_)
     exact wpAny_pure ⟨rfl, rfl, ds, bs, hrest, fun x hx => hsub x (List.mem_cons_of_mem _ hx)⟩
   ·rintro ⟨r1, r2⟩ s' ⟨hr, rfl, _⟩
    have hr : r1 = none := hr
    subst hr
    exact wpAny_pure h
theorem value_data : ∀ (n : Nat) (d : PyData) {v : Value} {as : List Addr} {A : Around} {E : Value → Shared → Prop} {s : Shared} {Q : Bool → Shared → Prop}, d.depth ≤ n → okK d = true → Reads s.heap v d as → (∀ b, Q b s) → wpAny (model prog w) A (hashByValue n v) Q E s := by
 intro n
 induction n with
 | zero =>
  intro d v as A E s Q hd hk hr h
  cases hr with
  | int i t => rw [hashByValue.eq_def]; exact wpAny_pure (h _)
  | str x t => rw [hashByValue.eq_def]; exact wpAny_pure (h _)
  | tuple ho hc hd' hall => rw [depth_tuple] at hd; omega
  | none => simp [okK] at hk
  | bool b => simp [okK] at hk
  | list _ _ _ _ => simp [okK] at hk
  | dict _ _ _ _ _ => simp [okK] at hk
 | succ n ih =>
  intro d v as A E s Q hd hk hr h
  cases hr with
  | int i t => rw [hashByValue.eq_def]; exact wpAny_pure (h _)
  | str x t => rw [hashByValue.eq_def]; exact wpAny_pure (h _)
  | none => simp [okK] at hk
  | bool b => simp [okK] at hk
  | list _ _ _ _ => simp [okK] at hk
  | dict _ _ _ _ _ => simp [okK] at hk
  | @tuple a o vs m xs as ho hc hdat hall =>
   have hT := typeIs_of ho hc
   have hk : okKs xs = true := hk
   rw [depth_tuple] at hd
   rw [hashByValue.eq_def]
   dsimp only
   refine wpAny_bind (wpAny_specialOf hT F.slot_tuple_hash.lookup ?_)
   refine wpAny_bind (wpAny_seqItems ho hdat (wpAny_bind ?_))
   show wpAny (model prog w) A (forIn vs _ _) _ E s
   rw [← Array.forIn_toList]
   refine wpAny_forIn_list _ (fun rest r s' => s' = s ∧ ∃ left as', ReadsAll s.heap rest left as' ∧ ∀ x ∈ left, x ∈ xs) _ ?_ ?_ vs.toList (none, ()) ⟨rfl, xs, _, hall, fun _ hx => hx⟩
   ·rintro y rest ⟨r1, r2⟩ s' ⟨rfl, left, as', hl, hsub⟩
    cases hl with
    | @cons _ _ d' ds as1 bs hx hrest =>
     have hm : d' ∈ xs := hsub d' (by simp)
     refine wpAny_bind (ih d' (as := as1) (by have := depth_mem hm; omega) (okKs_mem hk d' hm) hx fun b => ?_)
     cases b
     ·refine wpAny_pure ?_
      exact wpAny_pure (h _)
     ·exact wpAny_pure ⟨rfl, ds, bs, hrest, fun x hx => hsub x (List.mem_cons_of_mem _ hx)⟩
   ·rintro ⟨r1, r2⟩ s' ⟨rfl, _⟩
    cases r1 with
    | none => exact wpAny_pure (h _)
    | some b => exact wpAny_pure (h _)
theorem could_see {d : PyData} {b : Addr} {stored : List Value} {Q : Bool → Shared → Prop} (hb : isKey s.heap d b) (hs : ∀ v ∈ stored, ∃ k a, v = .ref a ∧ isKey s.heap k a) (h : Q false s) : wpAny (model prog w) A (searchCouldBeSeen (.ref b) stored) Q E s := by
 unfold searchCouldBeSeen
 refine wpAny_bind ?_
 refine wpAny_forIn_list _ (fun rest r s' => r = (none, ()) ∧ s' = s ∧ ∀ v ∈ rest, ∃ k a, v = .ref a ∧ isKey s.heap k a) _ ?_ ?_ stored (none, ()) ⟨rfl, rfl, hs⟩
 ·rintro y rest r s' ⟨rfl, rfl, hr⟩
  obtain ⟨k, a, rfl, ha⟩ := hr y (by simp)
  have hr' := fun v hv => hr v (List.mem_cons_of_mem _ hv)
  obtain ⟨b1, b2, bs, b3⟩ := hb
  obtain ⟨a1, a2, as, a3⟩ := ha
  dsimp only
  split
  ·exact wpAny_pure ⟨rfl, rfl, hr'⟩
  ·refine wpAny_bind (quiet_data 8 d (by omega) b1 b3 ?_)
   rw [if_neg (by decide)]
   refine wpAny_bind (quiet_data 8 k (by omega) a1 a3 ?_)
   rw [if_neg (by decide)]
   refine wpAny_bind (class_data 8 d (by omega) b1 b3 ?_)
   rw [if_neg (by decide)]
   refine wpAny_bind (class_data 8 k (by omega) a1 a3 ?_)
   rw [if_neg (by decide)]
   exact wpAny_pure ⟨rfl, rfl, hr'⟩
 ·rintro r s' ⟨rfl, rfl, _⟩
  exact wpAny_pure h
noncomputable def entK (w : World) (k : PyData × Addr) : Int × Value := (hashK w k.1, .ref k.2)
theorem search {a b : Addr} {o : Obj} {es : Array (Int × Value)} {ep : Nat} {t : SetTable} {l : List Ent} {ks : List (PyData × Addr)} {d : PyData} {Q : SetFound → Shared → Prop} (ho : s.heap.get? a = some o) (hd : o.data = .set es ep t) (T : Tab t es l) (hks : es.toList = ks.map (entK w)) (hk : ∀ k ∈ ks, isKey s.heap k.1 k.2)
  (hb : isKey s.heap d b) (hu : A.units + 10 < cLine) {N : Nat} (hNf : N < 10 * turns t.mask) (hN : (road t.mask (hashK w d) N).j ∉ fs l) (hbN : ∀ n < N, (road t.mask (hashK w d) n).j ∈ fs l)
  (q1 : (∃ k ∈ ks, k.1 = d) → Q (.there none) s) (q2 : (∀ k ∈ ks, k.1 ≠ d) → Q (.free (road t.mask (hashK w d) N).j false) s) :
  ∀ (f n : Nat) (st : Option Probe), st.getD (t.probeStart (hashK w d)) = road t.mask (hashK w d) n → n ≤ N → N - n < f → (∀ n' < n, ∀ k ∈ ks, ((road t.mask (hashK w d) n').j, entK w k) ∈ l → k.1 ≠ d) →
   wpAny (model prog w) A (setSearchFrom a (.ref b) (hashK w d) true f st) Q E s
 | 0, n, st, _, _, h, _ => by omega
 | f + 1, n, st, hst, hn, hf, hne => by
  have ent : ∀ e, e ∈ l.map (·.2) → ∃ k ∈ ks, e = entK w k := fun e he => by
   rw [← T.el, hks] at he
   obtain ⟨k, h1, h2⟩ := List.mem_map.mp he
   exact ⟨k, h1, h2.symm⟩
  unfold setSearchFrom
  refine wpAny_bind (wpAny_setState_of ho hd T.fits ?_)
  dsimp only
  rw [if_neg (by unfold SetTable.gaveWay; rcases T.mm with e | e | e <;> rw [e] <;> decide)]
  rw [hst]
  unfold SetTable.probe
  generalize hG : SetTable.probe.go t _ (hashK w d) (10 * turns t.mask) (road t.mask (hashK w d) n) = G
  rcases T.probe (hashAt := fun i => (es[i]?.map (·.1)).getD 0) (h := hashK w d) (fun i e he => by show (es[i]?.map (·.1)).getD 0 = e.1; rw [he]; rfl) hN hbN (10 * turns t.mask) n hn (by omega) with ⟨p1, p2⟩ | ⟨n1, e, i, c1, c2, c3, c4, c5, c6, c7, c8⟩
  ·obtain rfl : some _ = G := p1.symm.trans hG
   dsimp only
   refine wpAny_pure (q2 fun k hk1 e => ?_)
   have hm : entK w k ∈ l.map (·.2) := by rw [← T.el, hks]; exact List.mem_map.mpr ⟨k, hk1, rfl⟩
   obtain ⟨⟨j, e'⟩, he', e2⟩ := List.mem_map.mp hm
   have e2 : e' = entK w k := e2
   subst e2
   obtain ⟨n0, r1, r2⟩ := T.way _ he'
   have hh : (entK w k).1 = hashK w d := by rw [← e]; rfl
   have r1 : (road t.mask (hashK w d) n0).j = j := by have r1 : (road t.mask (entK w k).1 n0).j = j := r1; rw [hh] at r1; exact r1
   have r2 : ∀ n' < n0, (road t.mask (hashK w d) n').j ∈ fs l := fun n' hn' => by have r2 : (road t.mask (entK w k).1 n').j ∈ fs l := r2 n' hn'; rw [hh] at r2; exact r2
   rw [← r1] at he'
   have hjm : (road t.mask (hashK w d) n0).j ∈ fs l := List.mem_map.mpr ⟨_, he', rfl⟩
   have hlt : n0 < N := by
    rcases Nat.lt_trichotomy n0 N with z | z | z
    ·exact z
    ·rw [z] at hjm; exact absurd hjm hN
    ·exact absurd (r2 N z) hN
   rcases Nat.lt_or_ge n0 n with z | z
   ·exact hne n0 z k hk1 he' e
   ·exact p2 n0 z hlt _ he' hh
  ·obtain rfl : some _ = G := c7.symm.trans hG
   dsimp only
   obtain ⟨k, k1, rfl⟩ := ent e (List.mem_map.mpr ⟨_, c3, rfl⟩)
   have hsee : ∀ v ∈ List.map (fun x : Int × Value => x.2) (Array.filter (fun x => x.1 == hashK w d) es).toList, ∃ k a, v = .ref a ∧ isKey s.heap k a := fun v hv => by
    obtain ⟨e, he, rfl⟩ := List.mem_map.mp hv
    rw [Array.toList_filter] at he
    have he := (List.mem_filter.mp he).1
    rw [hks] at he
    obtain ⟨k', h1, rfl⟩ := List.mem_map.mp he
    exact ⟨k'.1, k'.2, rfl, hk k' h1⟩
   by_cases hl : (!t.led) = true
   case' pos => (rw [if_pos hl]; refine wpAny_bind (could_see hb hsee ?_); rw [if_neg (by decide)])
   case' neg => rw [if_neg hl]
   all_goals
    rw [c6]
    show wpAny _ _ (holding [Value.ref k.2] (eqBool (.ref k.2) (.ref b)) >>= _) _ _ _
    refine wpAny_bind (wpAny_holding ((dataKind prog w).eqBool hu (hk k k1) hb ?_))
    refine wpAny_bind (wpAny_setState_of ho hd T.fits ?_)
    by_cases he : k.1 = d
    ·rw [decide_eq_true he]
     exact wpAny_pure (q1 ⟨k, k1, he⟩)
    ·rw [decide_eq_false he, if_neg (by decide)]
     have hsm : t.sameMemory t.moves t.mask = some true := by unfold SetTable.sameMemory; rw [if_pos (by simp)]
     dsimp only
     rw [hsm]
     dsimp only
     rw [if_pos rfl, c5]
     dsimp only
     rw [c6]
     show wpAny _ _ (isSame (.ref k.2) (.ref k.2) >>= _) _ _ _
     refine wpAny_bind (wpAny_isSame_ref_self ?_)
     refine wpAny_bind (wpAny_pure ?_)
     rw [if_pos rfl]
     dsimp only
     rw [if_neg (by decide)]
     refine search ho hd T hks hk hb hu hNf hN hbN q1 q2 f (n1 + 1) _ rfl (by omega) (by omega) fun n' hn' k' hk' hm' => ?_
     rcases Nat.lt_or_ge n' n with z | z
     ·exact hne n' z k' hk' hm'
     ·rcases Nat.eq_or_lt_of_le (Nat.le_of_lt_succ hn') with z2 | z2
      ·subst z2
       obtain ⟨i', j1, j2, _⟩ := T.live hm'
       rw [c5] at j1
       injection j1 with j1
       subst j1
       rw [c6] at j2
       have j2 := Option.some.inj j2
       injection j2 with _ j3
       injection j3 with j3
       have a1 := hk k k1
       have a2 := hk k' hk'
       rw [← j3] at a2
       rw [← (dataKind prog w).inj a1 a2]
       exact he
      ·intro e
       refine c8 n' z z2 _ hm' ?_
       rw [← e]; rfl
end
end M8
namespace M8
open PySem PySem.Spec PyProof.Rows M5 M6 M7
open PySem.SetTable (Probe bits runEnd leap turns)
noncomputable def KeepT (h h' : Heap) : Prop := ∀ c o, o.cls = .type "tuple" → h.get? c = some o → h'.get? c = some o
theorem KeepT.trans {h h1 h2 : Heap} (x : KeepT h h1) (y : KeepT h1 h2) : KeepT h h2 := fun c o e z => y c o e (x c o e z)
theorem KeepT.but {h h' : Heap} {b : Addr} {ob : Obj} (hb : h.get? b = some ob) (hc : ob.cls ≠ .type "tuple") (k : ∀ c o, c ≠ b → h.get? c = some o → h'.get? c = some o) : KeepT h h' := fun c o e z =>
 k c o (fun e2 => by subst e2; rw [hb] at z; cases z; exact hc e) z
mutual
theorem reads_T {h h' : Heap} (kp : KeepT h h') : ∀ (d : PyData) {v : Value} {as : List Addr}, okK d = true → Reads h v d as → Reads h' v d as
 | .int i, v, as, hk, hr => by cases hr; exact .int ..
 | .str i, v, as, hk, hr => by cases hr; exact .str ..
 | .tuple xs, v, as, hk, hr => by
  cases hr with
  | @tuple a o vs m _ _ ho hc hdat hall => exact .tuple (kp a o hc ho) hc hdat (readss_T kp xs hk hall)
 | .none, _, _, h, _ => by simp [okK] at h
 | .bool _, _, _, h, _ => by simp [okK] at h
 | .list _, _, _, h, _ => by simp [okK] at h
 | .dict _, _, _, h, _ => by simp [okK] at h
theorem readss_T {h h' : Heap} (kp : KeepT h h') : ∀ (ds : List PyData) {vs : List Value} {as : List Addr}, okKs ds = true → ReadsAll h vs ds as → ReadsAll h' vs ds as
 | [], vs, as, hk, hr => by cases hr; exact .nil
 | d :: ds, vs, as, hk, hr => by
  simp only [okKs, Bool.and_eq_true] at hk
  cases hr with
  | cons hx hr => exact .cons (reads_T kp d hk.1 hx) (readss_T kp ds hk.2 hr)
end
theorem key_T {h h' : Heap} (kp : KeepT h h') {d : PyData} {a : Addr} (x : isKey h d a) : isKey h' d a := let ⟨k1, k2, as, hr⟩ := x; ⟨k1, k2, as, reads_T kp d k1 hr⟩
noncomputable def KAt (w : World) (B : List (PyData × Addr)) (h : Heap) (a : Addr) (S : List PyData) : Prop :=
 ∃ o es ep t l, ∃ ks : List (PyData × Addr), h.get? a = some o ∧ o.ExactSet ∧ o.data = .set es ep t ∧ Tab t es l ∧ t.led = (!w.params.followText "set-order") ∧ es.toList = ks.map (entK w) ∧ (∀ k ∈ ks, k ∈ B ∧ isKey h k.1 k.2) ∧ (ks.map (·.1)).Perm S
theorem KAt.keep {w : World} {B : List (PyData × Addr)} {h h' : Heap} {a : Addr} {S : List PyData} (x : KAt w B h a S) (e : ∀ o, h.get? a = some o → h'.get? a = some o) (kp : KeepT h h') : KAt w B h' a S :=
 let ⟨o, es, ep, t, l, ks, ho, r1, r2, r3, r4, r5, r6, r7⟩ := x; ⟨o, es, ep, t, l, ks, e o ho, r1, r2, r3, r4, r5, fun k hk => ⟨(r6 k hk).1, key_T kp (r6 k hk).2⟩, r7⟩
noncomputable def addK (S : List PyData) (x : PyData) : List PyData := if x ∈ S then S else S ++ [x]
theorem set_nt {o : Obj} (h : o.ExactSet) : o.cls ≠ .type "tuple" := by
 rw [h.1]; intro z; injection z with z; exact absurd z (by decide)
theorem sb_T {h h' : Heap} {a : Addr} {o : Obj} (ho : h.get? a = some o) (hex : o.ExactSet) (sb : Heap.SameBut a h h') : KeepT h h' :=
 KeepT.but ho (set_nt hex) fun c o hc e => by rw [sb.2 c hc]; exact e
theorem perm_ents {w : World} {ks : List (PyData × Addr)} {es : List (Int × Value)} (h : es.Perm (ks.map (entK w))) : ∃ ks' : List (PyData × Addr), ks'.Perm ks ∧ es = ks'.map (entK w) := perm_inv h
section
variable {prog : Program} {w : World} {A : Around} {E : Value → Shared → Prop} {s : Shared}
theorem add_key {a b : Addr} {S : List PyData} {d : PyData} {Q : Bool → Shared → Prop} {B : List (PyData × Addr)} (hS : KAt w B s.heap a S) (hbB : (d, b) ∈ B) (hb : isKey s.heap d b) (hu : A.units + 10 < cLine) (hn : S.length + 1 < 64)
  (h : ∀ r h', Heap.SameBut a s.heap h' → KeepT s.heap h' → KAt w B h' a (addK S d) → Q r { s with heap := h' }) :
  wpAny (model prog w) A (setAddHashed a (.ref b) (hashK w d)) Q E s := by
 obtain ⟨o, es, ep, t, l, ks, ho, hex, hd, T, hled, hks, hkB, hp⟩ := hS
 have hk : ∀ k ∈ ks, isKey s.heap k.1 k.2 := fun k hk1 => (hkB k hk1).2
 have hlen : l.length = S.length := by
  rw [← hp.length_eq, List.length_map, ← T.esz, ← Array.length_toList, hks, List.length_map]
 have hmm := T.mm
 have hnf := T.nf
 obtain ⟨N, n1, n2, n3⟩ := first_free (full_of hmm) (hashK w d) (occ := fs l) (by unfold fs; rw [List.length_map]; omega)
 unfold setAddHashed
 unfold setAddHashedIn
 refine wpAny_holding (wpAny_bind (wpAny_setState_of ho hd T.fits ?_))
 dsimp only
 rw [if_neg (by unfold byScan; simp [Value.scannable])]
 refine wpAny_bind ?_
 unfold setSearch
 refine search ho hd T hks hk hb hu n1 n2 n3 (fun hx => ?_) (fun hx => ?_) 100000 0 none rfl (Nat.zero_le _) (by
  have : turns t.mask ≤ 142 := by unfold turns; rcases hmm with e | e | e <;> omega
  omega) (fun n' hn' => absurd hn' (Nat.not_lt_zero _))
 ·dsimp only
  obtain ⟨k, k1, k2⟩ := hx
  have hm : d ∈ S := hp.mem_iff.mp (List.mem_map.mpr ⟨k, k1, k2⟩)
  refine wpAny_pure ?_
  have q := h false s.heap (Heap.SameBut.refl a s.heap) (fun c o _ z => z) (by
   unfold addK
   rw [if_pos hm]
   exact ⟨o, es, ep, t, l, ks, ho, hex, hd, T, hled, hks, hkB, hp⟩)
  exact q
 ·dsimp only
  have hm : d ∉ S := fun z => by
   obtain ⟨k, k1, k2⟩ := List.mem_map.mp (hp.mem_iff.mpr z)
   exact hx k k1 k2
  have hadd : addK S d = S ++ [d] := by unfold addK; rw [if_neg hm]
  rw [hadd] at h
  refine wpAny_bind (wpAny_setState_of ho hd T.fits ?_)
  dsimp only
  have hes := put_es T (j := (road t.mask (hashK w d) N).j) (h := hashK w d) (x := .ref b)
  have hput := T.put (x := .ref b) n2 n3
  have hesz : (SetTable.insertAt es (t.put (road t.mask (hashK w d) N).j).2 (hashK w d, Value.ref b)).size = l.length + 1 := by
   rw [← Array.length_toList, hes, List.length_map, (more_perm ..).length_eq]; rfl
  have hpe : (SetTable.insertAt es (t.put (road t.mask (hashK w d) N).j).2 (hashK w d, Value.ref b)).toList.Perm (((d, b) :: ks).map (entK w)) := by
   rw [hes]
   refine ((more_perm ..).map _).trans ?_
   rw [List.map_cons, ← T.el, hks]
   exact .refl _
  have hpsz : (t.put (road t.mask (hashK w d) N).j).1.place.size = l.length + 1 := by
   show (SetTable.insertAt t.place _ _).size = _
   rw [← Array.length_toList, ins_list, List.length_append, List.length_cons, List.length_take, List.length_drop, Array.length_toList, T.sz]
   have := (below_ok T.rise (road t.mask (hashK w d) N).j).1
   rw [T.sz] at this
   omega
  have hdm : (t.put (road t.mask (hashK w d) N).j).1.dummies = #[] := by
   have hh : SetTable.has t.dummies (road t.mask (hashK w d) N).j = false := by rw [T.dm]; unfold SetTable.has; rfl
   show (if SetTable.has t.dummies _ = true then _ else t.dummies) = #[]
   rw [if_neg (by rw [hh]; decide)]; exact T.dm
  have hled2 : (t.put (road t.mask (hashK w d) N).j).1.led = t.led := rfl
  have hmk2 : (t.put (road t.mask (hashK w d) N).j).1.mask = t.mask := rfl
  generalize (t.put (road t.mask (hashK w d) N).j) = tp at *
  obtain ⟨t1, p⟩ := tp
  dsimp only at *
  generalize hE1 : SetTable.insertAt es p (hashK w d, Value.ref b) = es1 at *
  have fin : ∀ t2 : SetTable, t2.place = t1.place → t2.dummies = t1.dummies → t2.mask = t1.mask → t2.led = t1.led → wpAny (model prog w) A (do
    storeSet a es1 t2
    if (!false && t2.tooFull) = true then do
      setRelay a (SetTable.grown (es.size + 1))
      pure true
     else pure true) Q E s := by
   intro t2 e1 e2 e3 e4
   have ho1 := upd_set es1 t2 ho hd
   have sb1 := Heap.SameBut.update s.heap a (Obj.putSet es1 t2)
   have kt1 := sb_T ho hex sb1
   refine wpAny_bind (wpAny_storeSet_of ho hd ?_ (by rw [hesz, sizeLine_eq]; omega))
   have htf : t2.tooFull = decide ((l.length + 1) * 5 ≥ t.mask * 3) := by
    unfold SetTable.tooFull SetTable.fill
    rw [e1, e2, e3, hpsz, hdm, hmk2]
    simp
   rw [htf]
   by_cases hfull : (l.length + 1) * 5 ≥ t.mask * 3
   ·rw [decide_eq_true hfull, if_pos (by decide)]
    have hfit : t2.fits es1.size = true := by
     unfold SetTable.fits SetTable.fill
     rw [e1, e2, e3, hpsz, hdm, hmk2, hesz]
     simp
     rcases hmm with e | e | e <;> omega
    have hg : SetTable.grown (es.size + 1) = (l.length + 1) * 4 := by
     unfold SetTable.grown
     rw [T.esz, if_neg (by omega)]
    obtain ⟨m, m1, m2, m3, m4⟩ : ∃ m, SetTable.sizeAbove ((l.length + 1) * 4) - 1 = m ∧ (m = 7 ∨ m = 31 ∨ m = 127) ∧ es1.size * 5 < m * 3 ∧ SetTable.sizeAbove ((l.length + 1) * 4) ≤ 128 := by
     rcases hmm with e | e | e
     ·have : l.length = 4 := by omega
      rw [this]
      exact ⟨31, by decide +kernel, .inr (.inl rfl), by rw [hesz, this]; decide, by decide +kernel⟩
     ·have : l.length = 18 := by omega
      rw [this]
      exact ⟨127, by decide +kernel, .inr (.inr rfl), by rw [hesz, this]; decide, by decide +kernel⟩
     ·omega
    obtain ⟨t3, od, l3, r1, r2, r3, r4, r5⟩ := relay_ok (t := t2) (es := es1) m1 m2 m3
    refine wpAny_bind ?_
    unfold setRelay
    refine wpAny_bind (wpAny_setState_of ho1 rfl hfit ?_)
    dsimp only
    rw [hg, if_neg (by rw [sizeLine_eq]; omega), r1]
    have hsz3 : (od.filterMap (es1[·]?)).size = es1.size := by
     rw [← Array.length_toList, r2.el, r3.length_eq, Array.length_toList]
    refine wpAny_bind ?_
    show wpAny _ _ (if ((od.filterMap (es1[·]?)).size != es1.size) = true then _ else _) _ _ _
    rw [if_neg (by rw [hsz3]; simp)]
    refine wpAny_pure ?_
    dsimp only
    refine wpAny_storeSet_of ho1 rfl ?_ (by rw [hsz3, hesz, sizeLine_eq]; omega)
    refine wpAny_pure ?_
    have sb2 := sb1.trans (Heap.SameBut.update _ a (Obj.putSet (od.filterMap (es1[·]?)) t3))
    have kt2 := sb_T ho hex sb2
    obtain ⟨ks', p1, p2⟩ := perm_ents (w := w) (ks := (d, b) :: ks) (es := (od.filterMap (es1[·]?)).toList) (by rw [r2.el]; exact r3.trans hpe)
    refine h true _ sb2 kt2 ⟨_, _, _, t3, l3, ks', upd_set _ t3 ho1 rfl, hex, rfl, r2, by rw [r4, e4, hled2, hled], p2, fun k hk1 => ?_, ?_⟩
    ·rcases List.mem_cons.mp (p1.mem_iff.mp hk1) with rfl | hk1
     ·exact ⟨hbB, key_T kt2 hb⟩
     ·exact ⟨(hkB k hk1).1, key_T kt2 (hk k hk1)⟩
    ·refine (p1.map _).trans ?_
     rw [List.map_cons]
     refine (hp.cons d).trans ?_
     exact List.perm_append_singleton d S |>.symm
   ·rw [decide_eq_false hfull, if_neg (by decide)]
    refine wpAny_pure ?_
    have T1 := hput (by omega)
    obtain ⟨ks', p1, p2⟩ := perm_ents hpe
    refine h true _ sb1 kt1 ⟨_, _, _, t2, _, ks', ho1, hex, rfl, ⟨by rw [e2]; exact T1.dm, by rw [e1]; exact T1.pl, T1.el, T1.up, by rw [e3]; exact T1.mm, by rw [e3]; exact T1.nf, by rw [e3]; exact T1.le, by rw [e3]; exact T1.way⟩, by rw [e4, hled2, hled], p2, fun k hk1 => ?_, ?_⟩
    ·rcases List.mem_cons.mp (p1.mem_iff.mp hk1) with rfl | hk1
     ·exact ⟨hbB, key_T kt1 hb⟩
     ·exact ⟨(hkB k hk1).1, key_T kt1 (hk k hk1)⟩
    ·refine (p1.map _).trans ?_
     rw [List.map_cons]
     refine (hp.cons d).trans ?_
     exact List.perm_append_singleton d S |>.symm
  obtain ⟨b1, b2, bs, b3⟩ := hb
  cases hpt : t1.plain with
  | true =>
   rw [if_pos rfl]
   refine wpAny_bind (value_data 8 d (by omega) b1 b3 fun r => ?_)
   cases r
   ·exact fin _ rfl rfl rfl rfl
   ·exact fin _ rfl rfl rfl rfl
  | false =>
   rw [if_neg (by decide)]
   refine wpAny_bind (wpAny_pure ?_)
   exact fin _ rfl rfl rfl rfl
end
end M8
namespace M8
open PySem PySem.Spec PyProof.Rows M5 M6 M7
noncomputable def allK (val : Nat → PyData) : Nat → List PyData
 | 0 => []
 | i + 1 => addK (allK val i) (val i)
theorem allK_len (val : Nat → PyData) : ∀ i, (allK val i).length ≤ i
 | 0 => Nat.le_refl _
 | i + 1 => by
  have := allK_len val i
  show (addK _ _).length ≤ _
  unfold addK
  split
  ·omega
  ·rw [List.length_append]; show _ + 1 ≤ _; omega
theorem mem_allK (val : Nat → PyData) (y : PyData) : ∀ n, y ∈ allK val n ↔ ∃ i, i < n ∧ val i = y
 | 0 => by simp [allK]
 | n + 1 => by
  have ih := mem_allK val y n
  have e0 : y ∈ allK val (n + 1) ↔ y ∈ allK val n ∨ y = val n := by
   show y ∈ addK _ _ ↔ _
   unfold addK
   split
   ·exact ⟨.inl, fun z => z.elim id fun e => e ▸ ‹_›⟩
   ·simp
  rw [e0, ih]
  constructor
  ·rintro (⟨i, h, e⟩ | e)
   ·exact ⟨i, by omega, e⟩
   ·exact ⟨n, by omega, e.symm⟩
  ·rintro ⟨i, h, e⟩
   rcases Nat.lt_or_ge i n with z | z
   ·exact .inl ⟨i, z, e⟩
   ·obtain rfl : i = n := by omega
    exact .inr e.symm
theorem nodup_allK (val : Nat → PyData) : ∀ n, (allK val n).Nodup
 | 0 => List.nodup_nil
 | n + 1 => by
  have ih := nodup_allK val n
  show (addK _ _).Nodup
  unfold addK
  split
  ·exact ih
  ·rename_i hx
   rw [List.nodup_append]
   refine ⟨ih, by simp, fun a ha b hb e => ?_⟩
   rw [List.mem_singleton.mp hb] at e
   exact hx (e ▸ ha)
section
variable {prog : Program} {w : World} {A : Around} {R : Result → Shared → Prop} {I : Addr} {fp wr : List Addr} {G : Array GenState → Array GenState → Prop} {n : Nat} {P : Nat → Value → Prop} {St : Nat → Shared → Prop}
theorem loop_key {h0 : Heap} {B : List (PyData × Addr)} (W : WalksS prog w A.in1 I fp wr G n P St) (a : Addr) (ha : a ∉ fp) (val : Nat → PyData × Addr) (hval : ∀ i v, P i v → v = .ref (val i).2) (hB : ∀ i, i < n → val i ∈ B) (hk0 : ∀ i, i < n → isKey h0 (val i).1 (val i).2)
  (hI : ∀ i s, St i s → ∃ o, s.heap.get? I = some o ∧ o.cls ≠ .type "tuple") (hw : ∀ b ∈ wr, b = I) (hu : A.units + 11 < cLine) (hn : n < 63) :
  ∀ (k i : Nat) (s : Shared), n - i = k → i ≤ n → St i s → KAt w B s.heap a (allK (fun i => (val i).1) i) → KeepT h0 s.heap →
   (∀ s', Moved (a :: wr) G s s' → KeepT h0 s'.heap → KAt w B s'.heap a (allK (fun i => (val i).1) n) → R (.ok (.ret .none)) s') →
   codeAny (model prog w) A (.builtin "set.update.loop" ⟨[.ref a, .ref I], []⟩) R s := by
 have haw : a ∉ wr := fun z => ha (W.sub _ z)
 have sub : ∀ b ∈ wr, b ∈ a :: wr := fun b z => List.mem_cons_of_mem _ z
 have kt : ∀ {i : Nat} {s s' : Shared}, St i s → Moved wr G s s' → KeepT s.heap s'.heap := fun {i s s'} hst hm => by
  obtain ⟨o, ho, hc⟩ := hI _ _ hst
  exact KeepT.but ho hc fun c o hc1 e => hm.heap c o (fun z => hc1 (hw c z)) e
 intro k
 induction k with
 | zero =>
  intro i s hk hi hst hS hT hR
  obtain rfl : i = n := by omega
  refine codeAny_builtin PyProof.Rows.F.entry_set_update_loop ?_
  rw [Around.under_plainId PyProof.Rows.F.plain_set_update_loop _]
  show wpAny _ A.in1 (pyNext (.ref I) >>= _) _ _ s
  refine wpAny_bind (W.done s _ _ hst fun s' hm => ?_)
  have k1 := kt hst hm
  exact wpAny_pure (hR s' (hm.mono sub) (hT.trans k1) (hS.keep (fun o e => hm.heap a o haw e) k1))
 | succ k ih =>
  intro i s hk hi hst hS hT hR
  have hlt : i < n := by omega
  refine codeAny_builtin PyProof.Rows.F.entry_set_update_loop ?_
  rw [Around.under_plainId PyProof.Rows.F.plain_set_update_loop _]
  show wpAny _ A.in1 (pyNext (.ref I) >>= _) _ _ s
  refine wpAny_bind (W.item i s _ _ hlt hst fun v s' hP hst' hm => ?_)
  have k1 := kt hst hm
  obtain rfl := hval i v hP
  have hS' := hS.keep (fun o e => hm.heap a o haw e) k1
  have hT' := hT.trans k1
  have hkey : isKey s'.heap (val i).1 (val i).2 := key_T hT' (hk0 i hlt)
  show wpAny _ A.in1 (holding [Value.ref (val i).2] (setAdd a (.ref (val i).2)) >>= _) _ _ s'
  refine wpAny_bind (wpAny_holding ?_)
  unfold setAdd
  refine wpAny_holding (wpAny_bind ((dataKind prog w).pyHash (by show A.units + 1 + 10 < cLine; omega) hkey ?_))
  have := allK_len (fun i => (val i).1) i
  refine add_key (s := { s' with toks := s'.toks + drK (val i).1 }) hS' (hB i hlt) hkey (by show A.units + 1 + 10 < cLine; omega) (by omega) fun b h' hsb hkt hS2 => ?_
  refine wpAny_pure ⟨plainId_quiet PyProof.Rows.F.plain_set_update_loop _, ih (i + 1) _ (by omega) hlt (W.frame _ s' _ _ hst' (Nat.le_add_right _ _) fun b hb o e => ?_) hS2 (hT'.trans hkt) fun s'' hm'' hT'' hS'' => ?_⟩
  ·rw [hsb.2 b fun z : b = a => ha (z ▸ hb)]; exact e
  ·refine hR s'' (Moved.trans W.gtrans ((hm.mono sub).then_heap (Nat.le_add_right _ _) fun b o hb e => ?_) hm'') hT'' hS''
   rw [hsb.2 b fun z : b = a => hb (z ▸ List.mem_cons_self)]; exact e
end
section
variable {prog : Program} {w : World} {A : Around} {E : Value → Shared → Prop} {s : Shared}
theorem KAt_fresh {B : List (PyData × Addr)} {h : Heap} {a : Addr} (e : h.get? a = some (freshSet (!w.params.followText "set-order"))) : KAt w B h a [] :=
 ⟨_, #[], 0, _, [], [], e, ⟨rfl, rfl, rfl⟩, rfl, ⟨rfl, rfl, rfl, .nil, .inl rfl, (by show 0 * 5 < 7 * 3; decide), fun e he => by simp at he, fun e he => by simp at he⟩, rfl, rfl, fun k hk => by simp at hk, .nil⟩
theorem set_tupleK {l : Addr} {its : Array Value} {ks : List (PyData × Addr)} {Q : Value → Shared → Prop} (hh : A.handled = none) (hl : s.heap.IsTuple l its) (hv : its.toList = ks.map fun k => .ref k.2) (hk : ∀ k ∈ ks, isKey s.heap k.1 k.2) (hu : A.units + 13 < cLine) (hn : ks.length < 63)
  (h : ∀ (h' : Heap) (tk : Nat) (S : List PyData), S.Nodup → (∀ y, y ∈ S ↔ y ∈ ks.map (·.1)) → S.length < 63 → KAt w ks h' s.heap.objs.size S → (∀ b o, b < s.heap.objs.size → s.heap.get? b = some o → h'.get? b = some o) → Q (.ref s.heap.objs.size) { s with heap := h', toks := tk }) :
  wpAny (model prog w) A (call (.type "set") [.ref l]) Q E s := by
 have el : its.size = ks.length := by rw [← Array.length_toList, hv, List.length_map]
 have hget : ∀ i (hi : i < ks.length), ks.getD i (.none, 0) = ks[i] := fun i hi => by simp [List.getD, hi]
 have hlen := allK_len (fun i => (ks.getD i (.none, 0)).1) its.size
 refine call_setG (T := "tuple") (ob := { cls := .type "tuple_iterator", data := .fields #[.ref l, .int 0 0] }) (Z := fun h' => KAt w ks h' s.heap.objs.size (allK (fun i => (ks.getD i (.none, 0)).1) its.size)) hl.typeIs M5.F.sub_tuple_set M5.F.sub_tuple_frozenset (by decide) (fun kp q => wpAny_pyIter_tuple (hl.at (kp l)) q) rfl (fun I h0 R kp gS gI hne hSf hR => ?_)
  fun h' tk hZ kp => h h' tk _ (nodup_allK _ _) (fun y => ?_) (by omega) hZ kp
 ·refine loop_key (h0 := h0) (B := ks) (St := fun i s => s.heap.IsTupleIter I l i ∧ s.heap.IsTuple l its) (P := fun i v => its[i]? = some v) (Walks.tuple (A := A.in1.in1.in1) hh I l hne its).toS s.heap.objs.size hSf (fun i => ks.getD i (.none, 0)) (fun i v hv' => ?_) (fun i hi => ?_) (fun i hi => ?_) (fun i s' hst => ?_) (fun b hb => by simpa using hb) (by show A.units + 1 + 1 + 11 < cLine; omega) (by omega) (its.size - 0) 0 _ rfl (Nat.zero_le _) ?_ (KAt_fresh gS) (fun c o _ z => z) fun s' hm hT hS' => ?_
  ·rw [← Array.getElem?_toList, hv, List.getElem?_map] at hv'
   cases e : ks[i]? with
   | none => rw [e] at hv'; cases hv'
   | some k =>
    rw [e] at hv'
    have : ks.getD i (.none, 0) = k := by rw [List.getD, e]; rfl
    rw [this]
    exact (Option.some.inj hv').symm
  ·rw [hget i (by omega)]; exact List.getElem_mem _
  ·rw [hget i (by omega)]
   obtain ⟨k1, k2, as, k3⟩ := hk _ (List.getElem_mem (by omega : i < ks.length))
   exact ⟨k1, k2, as, Reads.keeps kp k3⟩
  ·obtain ⟨⟨o, ho, hc, _⟩, _⟩ := hst
   exact ⟨o, ho, by rw [hc]; intro z; injection z with z; exact absurd z (by decide)⟩
  ·exact ⟨⟨_, gI, rfl, rfl⟩, hl.at (kp l)⟩
  ·obtain ⟨h', g', d', tk', os'⟩ := s'
   obtain rfl : g' = s.gens := hm.gens
   obtain rfl : d' = s.drawn := hm.drawn
   obtain rfl : os' = s.os := hm.os
   exact hR h' tk' hS' fun b o hb e => hm.heap b o hb e
 ·rw [mem_allK, List.mem_map]
  constructor
  ·rintro ⟨i, hi, e⟩
   rw [hget i (by omega)] at e
   exact ⟨_, List.getElem_mem (by omega), e⟩
  ·rintro ⟨k, hk1, e⟩
   obtain ⟨i, hi, rfl⟩ := List.getElem_of_mem hk1
   exact ⟨i, by omega, by rw [hget i hi]; exact e⟩
theorem sorted_setK {a : Addr} {B : List (PyData × Addr)} {S : List PyData} {Q : Value → Shared → Prop} (hh : A.handled = none) (hS : KAt w B s.heap a S) (h0 : ∀ d ∈ S, ∃ p r, d = .tuple (.int p :: r)) (hc : ∀ x ∈ S, ∀ y ∈ S, cmpK x y = true) (hn : S.length < 64) (hu : A.units + 20 < cLine)
  (h : ∀ (s1 : Shared) (h2 : Heap) (out : List (PyData × Addr)) (c : Nat), s1.gens = s.gens → s1.os = s.os → (∀ b o, s.heap.get? b = some o → s1.heap.get? b = some o) → (∀ b o, s1.heap.get? b = some o → h2.get? b = some o) → h2.get? s1.heap.objs.size = some (seqObj "list" (out.map fun k => Value.ref k.2).toArray c) → (∀ k ∈ out, k ∈ B) → (out.map (·.1)).Perm S → out.Pairwise (fun x y => ltK y.1 x.1 = false) → Q (.ref s1.heap.objs.size) { s1 with heap := h2 }) :
  wpAny (model prog w) A (call (.builtin "sorted") [.ref a]) Q E s := by
 obtain ⟨o, es, ep, t, l, ks, ho, hex, hd, T, hled, hks, hkB, hp⟩ := hS
 have hm : ∀ k ∈ ks, k.1 ∈ S := fun k hk => hp.mem_iff.mp (List.mem_map.mpr ⟨k, hk, rfl⟩)
 have hlen : ks.length = S.length := by rw [← hp.length_eq, List.length_map]
 have hsz : es.size = ks.length := by rw [← Array.length_toList, hks, List.length_map]
 refine sorted_gen (ks := ks) (R := fun s1 => s1.gens = s.gens ∧ s1.os = s.os) hh (fun k hk => ⟨(hkB k hk).2, h0 _ (hm k hk)⟩) (fun k hk l hl => hc _ (hm k hk) _ (hm l hl)) (by omega) hu (fun hh' hQ => collect_raw (es := es) (ep := ep) (t := t) hh' ⟨o, ho, hex, hd, T.fits, hled, fun _ => T.rise⟩ (by omega) fun s1 ord kp e1 e2 le tx => ?_) fun s1 h2 out c hR k1 k2 g hp1 hp2 => ?_
 ·have e : es.toList.map (·.2) = ks.map fun k => Value.ref k.2 := by rw [hks, List.map_map]; rfl
  rw [e] at tx
  obtain ⟨o', p1, rfl⟩ := perm_inv tx
  exact hQ s1 o' kp ⟨e1, e2⟩ p1
 ·exact h s1 h2 out c hR.1 hR.2 k1 k2 g (fun k hk => (hkB k (hp1.mem_iff.mp hk)).1) ((hp1.map _).trans hp) hp2
end
end M8
namespace L2
open PySem PySem.Spec PyProof.Rows M6 M8
noncomputable def tSortSetK (K : PySem.W.Frag) (ta : TE) : TE := fun σ H Q => ta σ H fun x H1 => ∃ (p : Addr) (ks : List (PyData × Addr)), x = .ref p ∧ SqT K H1 p (ks.map fun k => V.ref k.2) ∧ KeysD K H1 ks ∧ (∀ k ∈ ks, ∃ q r, k.1 = .tuple (.int q :: r)) ∧ (∀ k ∈ ks, ∀ l ∈ ks, cmpK k.1 l.1 = true) ∧ ks.length < 63 ∧
 ∀ (l : Addr) (out : List (PyData × Addr)), H1 l = none → (∀ k ∈ out, k ∈ ks) → (∀ y, y ∈ out.map (·.1) ↔ y ∈ ks.map (·.1)) → (out.map (·.1)).Nodup → out.Pairwise (fun x y => ltK y.1 x.1 = false) → Q (.ref l) (upd H1 l (.lst (out.map fun k => V.ref k.2)))
section
variable {X : Cx} {e : Expr} {ta : TE} {p p2 pos pos2 : Pos}
theorem vals_refs_inv {α : Type} (f : α → Addr) : ∀ {l : List α} {us : List Value}, Vals (l.map fun x => V.ref (f x)) us → us = l.map fun x => Value.ref (f x)
 | [], us, h => by cases h; rfl
 | x :: l, us, h => by
  cases h with
  | cons h1 h2 => cases h1; rw [vals_refs_inv f h2]; rfl
theorem pe_sortSetK {k : Nat} (hr : Room k X.A) (hc : X.calm = true) (hg : Gl X "sorted") (hm : X.mg "sorted" = none) (hg2 : Gl X "set") (hm2 : X.mg "set" = none) (he : PE X e ta) (hs : notStar e = true := by rfl) :
  PE X (.Call (.Name "sorted" p) [.Call (.Name "set" p2) [e] [] pos2] [] pos) (tSortSetK X.K ta) := by
 intro pins s σ H Q I h
 have hk := I.ok.hd hc
 refine wpAny_Call_Name_kw (ld_blt I hg hm (u := .builtin "sorted") (by decide +kernel) ?_ (by decide +kernel) (by decide +kernel))
 refine PyProof.Rows.callWith_builtin1 (E := X.xe) ?_ (star_cons [] X.env rfl) rfl
 rw [star_cons [] X.env rfl]
 refine Calls.spliced_cons ?_
 refine wpAny_Call_Name_kw (ld_blt I hg2 hm2 (u := .type "set") (by decide +kernel) ?_ (by decide +kernel) (by decide +kernel))
 refine PyProof.Rows.callWith_type1 (E := X.xe) ?_ (star_cons [] X.env hs) rfl
 rw [star_cons [] X.env hs]
 refine Calls.spliced_cons (thn (he pins s σ H _ I h) fun u s1 ⟨x, H1, I1, rx, a, ks, ex, hq, hkd, h0, hcm, hl, q⟩ => ?_)
 subst ex
 obtain rfl : u = Value.ref a := rx
 refine Calls.spliced_nil ?_
 obtain ⟨its, r', pl, hz⟩ := I1.tuple hq
 have hun := hr.units
 refine set_tupleK (its := its.toArray) (ks := ks) hk pl (by simpa using vals_refs_inv (fun k : PyData × Addr => k.2) r') (fun k hk1 => ?_) (by omega) hl fun h' tk S n1 n2 n3 tS kp => ?_
 ·obtain ⟨k1, k2, k3⟩ := hkd k hk1
  exact I1.key k1 k2 k3
 ·refine Calls.spliced_nil ?_
  have mS : ∀ d ∈ S, ∃ k ∈ ks, k.1 = d := fun d hd => List.mem_map.mp ((n2 d).mp hd)
  refine sorted_setK (s := { s1 with heap := h', toks := tk }) hk tS (fun d hd => ?_) (fun x hx y hy => ?_) (by omega) (by omega) fun s2 h2 out c e1 e2 kp1 kp2 g hB hp hsrt => ?_
  ·obtain ⟨k, k1, rfl⟩ := mS d hd
   exact h0 k k1
  ·obtain ⟨k, k1, rfl⟩ := mS x hx
   obtain ⟨k', k2, rfl⟩ := mS y hy
   exact hcm k k1 k' k2
  ·obtain ⟨hh2, g2, d2, t2, o2⟩ := s2
   obtain rfl : g2 = s1.gens := e1
   obtain rfl : o2 = s1.os := e2
   have kpA : ∀ b o, s1.heap.get? b = some o → h2.get? b = some o := fun b o z => kp2 b o (kp1 b o (kp b o (Heap.lt_size z) z))
   have le1 : s1.heap.objs.size ≤ hh2.objs.size := by
    obtain ⟨o, es, ep, t, l, ks', ho, _⟩ := tS
    exact Nat.le_of_lt (Heap.lt_size (kp1 _ _ ho))
   have hlen2 : out.length < 64 := by have := hp.length_eq; rw [List.length_map] at this; omega
   refine ⟨.ref hh2.objs.size, _, (I1.laid (a := hh2.objs.size) (t' := t2) (o := .lst (out.map fun k => V.ref k.2)) kpA le1 ⟨by rw [List.length_map, sizeLine_eq]; omega, _, c, vals_refs (fun k => k.2) out, g⟩).drw d2, rfl, q _ out (I1.hok.fresh le1) hB (fun y => (hp.mem_iff).trans (n2 y)) (hp.nodup_iff.mpr n1) hsrt⟩
end
end L2
namespace M
open PySem PySem.Spec PyProof.Rows L2 M6
section
variable {K : PySem.W.Frag}
theorem pre_list {α β : Type} {f : α → β} {l : List α} : ∀ {out : List β}, (∀ y ∈ out, y ∈ l.map f) → ∃ o' : List α, (∀ x ∈ o', x ∈ l) ∧ out = o'.map f
 | [], _ => ⟨[], fun _ h => by simp at h, rfl⟩
 | y :: out, h => by
  obtain ⟨x, x1, x2⟩ := List.mem_map.mp (h y (by simp))
  obtain ⟨o', o1, o2⟩ := pre_list (l := l) (f := f) fun z hz => h z (List.mem_cons_of_mem _ hz)
  refine ⟨x :: o', fun z hz => ?_, by rw [List.map_cons, x2, ← o2]⟩
  rcases List.mem_cons.mp hz with rfl | hz
  ·exact x1
  ·exact o1 z hz
theorem reps_refs {w : Wd} : ∀ {ks : List D} {xs : List V}, Reps K w ks xs → (∀ k ∈ ks, ∃ es, k = .tup es) → ∃ bs : List Addr, xs = bs.map V.ref
 | [], xs, h, _ => by simp only [Reps] at h; exact ⟨[], h⟩
 | k :: ks, xs, h, g => by
  simp only [Reps] at h
  obtain ⟨x, r, rfl, h1, h2⟩ := h
  obtain ⟨es, rfl⟩ := g k (by simp)
  simp only [Rep] at h1
  obtain ⟨b, ys, rfl, _⟩ := h1
  obtain ⟨bs, rfl⟩ := reps_refs h2 fun k hk => g k (List.mem_cons_of_mem _ hk)
  exact ⟨b :: bs, rfl⟩
noncomputable def aSortSetK (a : AE) : AE := fun δ S Q => a δ S fun r S1 => ∃ ks : List D, see S1 r.d = .tup ks ∧ (∀ k ∈ ks, GoodK k ∧ ∃ q r, py k = PyData.tuple (.int q :: r)) ∧ (∀ k ∈ ks, ∀ l ∈ ks, cmpK (py k) (py l) = true) ∧ ks.length < 63 ∧
 ∀ ks' : List D, (∀ k ∈ ks', k ∈ ks) → (∀ y, y ∈ ks'.map py ↔ y ∈ ks.map py) → (ks'.map py).Nodup → ks'.Pairwise (fun x y => ltK (py y) (py x) = false) → Q (.new (.lst ks')) S1
theorem s_sortSetK {a : AE} : ∀ σ H Q, conE K (aSortSetK a) σ H Q → tSortSetK K (conE K a) σ H Q := by
 rintro σ H Q ⟨w, δ, S, Qa, ok, env, q, bk⟩
 refine ⟨w, δ, S, _, ok, env, q, .go fun r1 S1 v1 w1 H1 le1 ok1 rep1 ⟨ks, z, g1, g2, hl, q1⟩ => ?_⟩
 obtain ⟨a, xs, rfl, h1, h2⟩ := see_tup ok1 rep1 z
 obtain ⟨bs, rfl⟩ := reps_refs h2 fun k hk => (g1 k hk).1.2.2.2
 have hlen : ks.length = bs.length := by have := h2.length; rw [List.length_map] at this; exact this.symm
 have mem1 : ∀ x ∈ (ks.map py).zip bs, ∃ k ∈ ks, x.1 = py k := fun x hx => by
  obtain ⟨k, hk, e⟩ := List.mem_map.mp (List.of_mem_zip hx).1
  exact ⟨k, hk, e.symm⟩
 have ez : (ks.map py).zip bs = (ks.zip bs).map fun x => (py x.1, x.2) := by rw [List.zip_map_left]; rfl
 have e1 : ((ks.map py).zip bs).map (fun k => V.ref k.2) = bs.map V.ref := by
  have : ((ks.map py).zip bs).map (·.2) = bs := List.map_snd_zip (by rw [List.length_map]; omega)
  rw [← this, List.map_map, this]; rfl
 have e2 : ((ks.map py).zip bs).map (·.1) = ks.map py := List.map_fst_zip (by rw [List.length_map]; omega)
 refine ⟨a, (ks.map py).zip bs, rfl, by rw [e1]; exact SqT.of h1, keys_dat ok1 h2 (fun k hk => (g1 k hk).1), fun x hx => ?_, fun x hx y hy => ?_, by rw [List.length_zip, List.length_map]; omega, fun l out hp hin hmem hnd hso => ?_⟩
 ·obtain ⟨k, hk, e⟩ := mem1 x hx
  rw [e]; exact (g1 k hk).2
 ·obtain ⟨k, hk, e⟩ := mem1 x hx
  obtain ⟨k', hk', e'⟩ := mem1 y hy
  rw [e, e']; exact g2 k hk k' hk'
 ·rw [ez] at hin
  obtain ⟨o', p1, rfl⟩ := pre_list hin
  have e3 : (List.map (fun k : PyData × Addr => V.ref k.2) (o'.map fun x => (py x.1, x.2))) = o'.map fun x => V.ref x.2 := by rw [List.map_map]; rfl
  have e4 : List.map (fun x : PyData × Addr => x.1) (o'.map fun x => (py x.1, x.2)) = (o'.map (·.1)).map py := by rw [List.map_map, List.map_map]; rfl
  rw [e3]
  rw [e4] at hnd
  rw [e2, e4] at hmem
  refine bk (.new (.lst (o'.map (·.1)))) S1 _ w1 _ le1 (ok1.alloc hp) (ok1.fresh hp ⟨_, rfl, reps_of_pairs fun x hx => zip_rep h2 x (p1 x hx)⟩) (q1 _ (fun k hk => ?_) hmem hnd ?_)
  ·obtain ⟨x, x1, rfl⟩ := List.mem_map.mp hk
   exact (List.of_mem_zip (p1 x x1)).1
  ·rw [List.pairwise_map] at hso ⊢
   exact hso
end
section
variable {X : Cx} {e : Expr} {p p2 pos pos2 : Pos}
theorem pe_sortSetK {ta : AE} {k : Nat} (hr : Room k X.A) (hc : X.calm = true) (hg : Gl X "sorted") (hm : X.mg "sorted" = none) (hg2 : Gl X "set") (hm2 : X.mg "set" = none) (he : GE X e ta) (hs : notStar e = true := by rfl) :
  GE X (.Call (.Name "sorted" p) [.Call (.Name "set" p2) [e] [] pos2] [] pos) (aSortSetK ta) := ⟨mE (L2.pe_sortSetK hr hc hg hm hg2 hm2 he.p hs) s_sortSetK⟩
end
end M
namespace M9
open PySem PySem.Spec PyProof.Rows
section
variable {prog : Program} {w : World} {A : Around} {E : Value → Shared → Prop} {s : Shared}
theorem nx_item {I t : Addr} {i : Nat} {its : Array Value} {x : Value} {Q : Value → Shared → Prop} (hI : s.heap.IsTupleIter I t i) (ht : s.heap.IsTuple t its) (hx : its[i]? = some x)
  (h : ∀ h', h'.IsTupleIter I t (i + 1) → Heap.SameBut I s.heap h' → Q x { s with heap := h' }) : wpAny (model prog w) A (Builtin.SmallTypes.nextOf (.ref I)) Q E s := by
 obtain ⟨o, ho, hc, hd⟩ := id hI
 obtain ⟨ol, hol, _, nl, hdl⟩ := ht
 unfold Builtin.SmallTypes.nextOf
 refine wpAny_bind (wpAny_callSpecial?_slot (name := Str.ofString "__next__") hI.typeIs F.slot_tuple_iterator_next (wpAny_call_entry F.slot_tuple_iterator_next hI.typeIs F.entry_tuple_iterator_next ?_ (F.args_tuple_iterator_next_1 _)))
 show wpAny _ _ (field (.ref I) 0 >>= _) _ _ s
 refine wpAny_bind (wpAny_field ho hd (x := .ref t) rfl ?_)
 rw [if_neg (by simp : ¬ ((Value.ref t == Value.none) = true))]
 show wpAny _ _ (field (.ref I) 1 >>= _) _ _ s
 refine wpAny_bind (wpAny_field ho hd (x := .int i 0) rfl (wpAny_bind (wpAny_seqItems hol hdl ?_)))
 simp only [Int.toNat_natCast, hx]
 refine wpAny_bind (wpAny_setField ho hd (by simp) (wpAny_pure ⟨x, rfl, wpAny_pure (h _ ⟨_, Heap.get?_update_self _ ho (Obj.isFreed_of_fields (Obj.data_mapFields hd _)), (Obj.cls_mapFields ..).trans hc, by rw [Obj.data_mapFields hd]; simp [rawInt]⟩ (Heap.SameBut.update ..))⟩))
theorem nx_end {I t : Addr} {i : Nat} {its : Array Value} {Q : Value → Shared → Prop} (hh : A.handled = none) (hI : s.heap.IsTupleIter I t i) (ht : s.heap.IsTuple t its) (hx : its[i]? = none)
  (h : ∀ h' e, Heap.ExtBut I s.heap h' → (∃ o, h'.get? e = some o ∧ o.cls = .type "StopIteration") → E (.ref e) { s with heap := h' }) : wpAny (model prog w) A (Builtin.SmallTypes.nextOf (.ref I)) Q E s := by
 obtain ⟨o, ho, hc, hd⟩ := id hI
 obtain ⟨ol, hol, _, nl, hdl⟩ := ht
 unfold Builtin.SmallTypes.nextOf
 refine wpAny_bind (wpAny_callSpecial?_slot (name := Str.ofString "__next__") hI.typeIs F.slot_tuple_iterator_next (wpAny_call_entry F.slot_tuple_iterator_next hI.typeIs F.entry_tuple_iterator_next ?_ (F.args_tuple_iterator_next_1 _)))
 show wpAny _ _ (field (.ref I) 0 >>= _) _ _ s
 refine wpAny_bind (wpAny_field ho hd (x := .ref t) rfl ?_)
 rw [if_neg (by simp : ¬ ((Value.ref t == Value.none) = true))]
 show wpAny _ _ (field (.ref I) 1 >>= _) _ _ s
 refine wpAny_bind (wpAny_field ho hd (x := .int i 0) rfl (wpAny_bind (wpAny_seqItems hol hdl ?_)))
 simp only [Int.toNat_natCast, hx]
 refine wpAny_bind (wpAny_rule (wpAny_bind (wpAny_setField ho hd (by simp) ?_)))
 show wpAny _ _ (newExc (.type "StopIteration") [] >>= _) _ _ _
 refine wpAny_bind ?_
 simp only [newExc, newTuple]
 refine wpAny_bind (wpAny_newObj_type (wpAny_bind (m := firstArgMember _ _) (wpAny_of_eq (a := Value.none) (by first | rfl | (simp only [firstArgMember]; rfl)) (wpAny_newObj_type ?_ (by size_fits)))) (by size_fits))
 simp only [raiseNew]
 refine wpAny_bind (wpAny_handled ?_)
 first | rw [show A.in1.handled = none from hh] | rw [hh]
 exact wpAny_bind (wpAny_pure (wpAny_throw (h _ _ (((Heap.SameBut.update ..).extBut.push _).push _) ⟨_, Heap.get?_push_size _ rfl, rfl⟩)))
structure ZAt (h : Heap) (z TI TO i1 i2 l1 l2 : Addr) (f : Value) (k : Nat) : Prop where
 hz : IsZip h z TI TO f
 hTI : IsPair h TI (.ref i1) (.ref i2)
 hTO : ∃ a b, IsPair h TO a b
 h1 : h.IsTupleIter i1 l1 k
 h2 : h.IsTupleIter i2 l2 k
theorem ZAt.at {h h' : Heap} {z TI TO i1 i2 l1 l2 : Addr} {f : Value} {k : Nat} (Z : ZAt h z TI TO i1 i2 l1 l2 f k) (kp : ∀ b ∈ [z, TI, TO, i1, i2], ∀ o, h.get? b = some o → h'.get? b = some o) : ZAt h' z TI TO i1 i2 l1 l2 f k :=
 ⟨kp z (by simp) _ Z.hz, kp TI (by simp) _ Z.hTI, let ⟨a, b, e⟩ := Z.hTO; ⟨a, b, kp TO (by simp) _ e⟩, Z.h1.at fun o e => kp i1 (by simp) o e, Z.h2.at fun o e => kp i2 (by simp) o e⟩
theorem z_item {z TI TO i1 i2 l1 l2 : Addr} {k : Nat} {xs ys : Array Value} {x y : Value} {Q : Option Value → Shared → Prop} (D : ZipApart z TI TO i1 i2 l1 l2) (Z : ZAt s.heap z TI TO i1 i2 l1 l2 .none k)
  (hl1 : s.heap.IsTuple l1 xs) (hl2 : s.heap.IsTuple l2 ys) (hx : xs[k]? = some x) (hy : ys[k]? = some y)
  (hQ : ∀ h', ZAt h' z TI TO i1 i2 l1 l2 (rawInt s.heap.objs.size) (k + 1) → IsPair h' s.heap.objs.size x y → (∀ c o, c ∉ [z, TO, i1, i2] → s.heap.get? c = some o → h'.get? c = some o) → Q (some (.ref s.heap.objs.size)) { s with heap := h' }) :
  wpAny (model prog w) A (pyNext (.ref z)) Q E s := by
 obtain ⟨hz, hTI, ⟨a, b, hTO⟩, h1, h2⟩ := Z
 have hT : s.TypeIs (.ref z) "zip" := ⟨_, hz, rfl⟩
 unfold pyNext
 refine wpAny_bind (wpAny_attempt (wpAny_callSpecial?_slot (name := Str.ofString "__next__") hT F.slot_zip_next (wpAny_call_entry F.slot_zip_next hT F.entry_zip_next ?_ (F.args_zip_next_1 _))))
 show wpAny _ _ (field (.ref z) 2 >>= _) _ _ _
 refine wpAny_bind (wpAny_field hz rfl (x := .bool false) rfl ?_)
 show wpAny _ _ (field (.ref z) 3 >>= _) _ _ _
 refine wpAny_bind (wpAny_field hz rfl (x := .ref TI) rfl (wpAny_bind (wpAny_seqItems hTI rfl ?_)))
 show wpAny _ _ (Builtin.SmallTypes.ownedTupleIsFree (.ref z) >>= _) _ _ _
 refine wpAny_bind ?_
 unfold Builtin.SmallTypes.ownedTupleIsFree
 refine wpAny_bind (wpAny_field hz rfl (x := .none) rfl (wpAny_pure ?_))
 simp only [if_true]
 refine wpAny_bind (wpAny_rule (wpAny_bind (wpAny_field hz rfl (x := .ref TO) rfl (wpAny_bind (wpAny_setField_rec hz (by simp) fun g1 z1 s1 => ?_)))))
 replace z1 : IsZip g1 z TI TO .ellipsis := z1
 refine wpAny_bind ?_
 simp only [List.zipIdx_cons, List.zipIdx_nil, List.forIn_cons, List.forIn_nil]
 refine wpAny_bind (wpAny_bind (wpAny_onRaise ?_))
 show wpAny _ _ (Builtin.SmallTypes.nextOf (.ref i1) >>= _) _ _ _
 refine wpAny_bind (nx_item (h1.at fun o e => s1.extBut _ _ D.i1z e) (hl1.at fun o e => s1.extBut _ _ D.l1z e) hx fun g2 h12 s2 => wpAny_pure ?_)
 have t2 : IsPair g2 TO a b := s2.extBut _ _ D.TOi1 (s1.extBut _ _ D.TOz hTO)
 refine wpAny_bind (wpAny_seqItems t2 rfl (wpAny_bind (wpAny_updateSeq_pair t2 fun g3 t3 s3 => ?_)))
 replace t3 : IsPair g3 TO x b := t3
 refine wpAny_bind (wpAny_letGo (wpAny_pure (wpAny_bind (wpAny_bind (wpAny_onRaise ?_)))))
 show wpAny _ _ (Builtin.SmallTypes.nextOf (.ref i2) >>= _) _ _ _
 have up3 : ∀ c o, c ≠ z → c ≠ i1 → c ≠ TO → s.heap.get? c = some o → g3.get? c = some o := fun c o c1 c2 c3 e => s3.extBut _ _ c3 (s2.extBut _ _ c2 (s1.extBut _ _ c1 e))
 refine wpAny_bind (nx_item (h2.at fun o e => up3 _ o D.i2z D.i12.symm D.TOi2.symm e) (hl2.at fun o e => up3 _ o D.l2z D.l2i1 D.l2TO e) hy fun g4 h24 s4 => wpAny_pure ?_)
 have t4 : IsPair g4 TO x b := s4.extBut _ _ D.TOi2 t3
 refine wpAny_bind (wpAny_seqItems t4 rfl (wpAny_bind (wpAny_updateSeq_pair t4 fun g5 t5 s5 => ?_)))
 replace t5 : IsPair g5 TO x y := t5
 refine wpAny_bind (wpAny_letGo (wpAny_pure (wpAny_pure (wpAny_bind (wpAny_seqItems t5 rfl (wpAny_bind (wpAny_newTuple ?_)))))))
 have hsz : g5.objs.size = s.heap.objs.size := by rw [s5.1, s4.1, s3.1, s2.1, s1.1]
 have z5 : IsZip g5 z TI TO .ellipsis := s5.extBut _ _ D.TOz.symm (s4.extBut _ _ D.i2z.symm (s3.extBut _ _ D.TOz.symm (s2.extBut _ _ D.i1z.symm z1)))
 have up5 : ∀ c o, c ≠ z → c ≠ TO → c ≠ i1 → c ≠ i2 → s.heap.get? c = some o → g5.get? c = some o := fun c o c1 c2 c3 c4 e => s5.extBut _ _ c2 (s4.extBut _ _ c4 (up3 c o c1 c3 c2 e))
 have zlt : z < g5.objs.size := Heap.lt_size z5
 show wpAny _ _ (Builtin.SmallTypes.ownedTupleHandOut (.ref z) (.ref g5.objs.size) >>= _) _ _ _
 refine wpAny_bind ?_
 unfold Builtin.SmallTypes.ownedTupleHandOut
 have z6 : IsZip (g5.push { cls := .type "tuple", data := .seq #[x, y] }) z TI TO .ellipsis := Heap.get?_push_of_some _ z5
 refine wpAny_bind (wpAny_setField_rec z6 (by simp) fun g7 z7 s7 => ?_)
 replace z7 : IsZip g7 z TI TO (rawInt g5.objs.size) := z7
 refine wpAny_setField_rec z7 (by simp) fun g8 z8 s8 => ?_
 replace z8 : IsZip g8 z TI TO (rawInt g5.objs.size) := z8
 have up : ∀ c o, c ≠ z → g5.get? c = some o → g8.get? c = some o := fun c o c1 e => s8.extBut _ _ c1 (s7.extBut _ _ c1 (Heap.get?_push_of_some _ e))
 have T8 : IsPair g8 g5.objs.size x y := s8.extBut _ _ (Nat.ne_of_gt zlt) (s7.extBut _ _ (Nat.ne_of_gt zlt) (Heap.get?_push_size _ rfl))
 rw [hsz] at z8 T8
 refine wpAny_pure ⟨_, rfl, wpAny_pure ?_⟩
 show Q (some (.ref g5.objs.size)) _
 rw [hsz]
 refine hQ g8 ⟨z8, up _ _ D.TIz (up5 _ _ D.TIz D.TITO D.TIi1 D.TIi2 hTI), ⟨x, y, up _ _ D.TOz t5⟩, h12.at fun o e => up _ o D.i1z (s5.extBut _ _ D.TOi1.symm (s4.extBut _ _ D.i12 (s3.extBut _ _ D.TOi1.symm e))), h24.at fun o e => up _ o D.i2z (s5.extBut _ _ D.TOi2.symm e)⟩ T8 fun c o hc e => ?_
 simp only [List.mem_cons, List.not_mem_nil, or_false, not_or] at hc
 exact up c o hc.1 (up5 c o hc.1 hc.2.1 hc.2.2.1 hc.2.2.2 e)
theorem z_end {z TI TO i1 i2 l1 l2 : Addr} {k : Nat} {xs ys : Array Value} {Q : Option Value → Shared → Prop} (hh : A.handled = none) (D : ZipApart z TI TO i1 i2 l1 l2) (Z : ZAt s.heap z TI TO i1 i2 l1 l2 .none k)
  (hl1 : s.heap.IsTuple l1 xs) (hl2 : s.heap.IsTuple l2 ys) (hend : xs[k]? = none ∨ ys[k]? = none)
  (hQ : ∀ h', (∀ c o, c ∉ [z, TO, i1, i2] → s.heap.get? c = some o → h'.get? c = some o) → Q none { s with heap := h' }) :
  wpAny (model prog w) A (pyNext (.ref z)) Q E s := by
 obtain ⟨hz, hTI, ⟨a, b, hTO⟩, h1, h2⟩ := Z
 have hT : s.TypeIs (.ref z) "zip" := ⟨_, hz, rfl⟩
 have fin : ∀ (h' : Heap) (e : Addr), (∀ c o, c ≠ z → c ≠ TO → c ≠ i1 → c ≠ i2 → s.heap.get? c = some o → h'.get? c = some o) → (∃ o, h'.get? e = some o ∧ o.cls = .type "StopIteration") →
   wpAny (model prog w) A (do if (← isInstance (.ref e) (.type "StopIteration")) = true then pure none else throw (.ref e)) Q E { s with heap := h' } := fun h' e hk ⟨o, ho, hc⟩ =>
  wpAny_bind (wpAny_isInstance (T := "StopIteration") (b := true) ⟨o, ho, hc⟩ isSubtype_stop (wpAny_pure (hQ h' fun c o hc e => by
   simp only [List.mem_cons, List.not_mem_nil, or_false, not_or] at hc
   exact hk c o hc.1 hc.2.1 hc.2.2.1 hc.2.2.2 e)))
 unfold pyNext
 refine wpAny_bind (wpAny_attempt (wpAny_callSpecial?_slot (name := Str.ofString "__next__") hT F.slot_zip_next (wpAny_call_entry F.slot_zip_next hT F.entry_zip_next ?_ (F.args_zip_next_1 _))))
 show wpAny _ _ (field (.ref z) 2 >>= _) _ _ _
 refine wpAny_bind (wpAny_field hz rfl (x := .bool false) rfl ?_)
 show wpAny _ _ (field (.ref z) 3 >>= _) _ _ _
 refine wpAny_bind (wpAny_field hz rfl (x := .ref TI) rfl (wpAny_bind (wpAny_seqItems hTI rfl ?_)))
 show wpAny _ _ (Builtin.SmallTypes.ownedTupleIsFree (.ref z) >>= _) _ _ _
 refine wpAny_bind ?_
 unfold Builtin.SmallTypes.ownedTupleIsFree
 refine wpAny_bind (wpAny_field hz rfl (x := .none) rfl (wpAny_pure ?_))
 simp only [if_true]
 refine wpAny_bind (wpAny_rule (wpAny_bind (wpAny_field hz rfl (x := .ref TO) rfl (wpAny_bind (wpAny_setField_rec hz (by simp) fun g1 z1 s1 => ?_)))))
 replace z1 : IsZip g1 z TI TO .ellipsis := z1
 refine wpAny_bind ?_
 simp only [List.zipIdx_cons, List.zipIdx_nil, List.forIn_cons, List.forIn_nil]
 refine wpAny_bind (wpAny_bind (wpAny_onRaise ?_))
 show wpAny _ _ (Builtin.SmallTypes.nextOf (.ref i1) >>= _) _ _ _
 have j1 := h1.at fun o e => s1.extBut _ _ D.i1z e
 have m1 := hl1.at fun o e => s1.extBut _ _ D.l1z e
 cases hx : xs[k]? with
 | none =>
  refine wpAny_bind (nx_end hh j1 m1 hx fun g2 e s2 he => ?_)
  obtain ⟨oe, hoe, hce⟩ := he
  have z2 : IsZip g2 z TI TO .ellipsis := s2 _ _ D.i1z.symm z1
  have hez : e ≠ z := fun q => by subst q; rw [z2] at hoe; cases hoe; simp at hce
  exact wpAny_setField_rec z2 (by simp) fun g3 _ s3 => fin g3 e (fun c o c1 _ c3 _ q => s3.extBut _ _ c1 (s2 _ _ c3 (s1.extBut _ _ c1 q))) ⟨oe, s3.extBut _ _ hez hoe, hce⟩
 | some x =>
  have hy : ys[k]? = none := by rcases hend with q | q; rw [hx] at q; cases q; exact q
  refine wpAny_bind (nx_item j1 m1 hx fun g2 h12 s2 => wpAny_pure ?_)
  have t2 : IsPair g2 TO a b := s2.extBut _ _ D.TOi1 (s1.extBut _ _ D.TOz hTO)
  refine wpAny_bind (wpAny_seqItems t2 rfl (wpAny_bind (wpAny_updateSeq_pair t2 fun g3 t3 s3 => ?_)))
  refine wpAny_bind (wpAny_letGo (wpAny_pure (wpAny_bind (wpAny_bind (wpAny_onRaise ?_)))))
  show wpAny _ _ (Builtin.SmallTypes.nextOf (.ref i2) >>= _) _ _ _
  have up3 : ∀ c o, c ≠ z → c ≠ i1 → c ≠ TO → s.heap.get? c = some o → g3.get? c = some o := fun c o c1 c2 c3 e => s3.extBut _ _ c3 (s2.extBut _ _ c2 (s1.extBut _ _ c1 e))
  refine wpAny_bind (nx_end hh (h2.at fun o e => up3 _ o D.i2z D.i12.symm D.TOi2.symm e) (hl2.at fun o e => up3 _ o D.l2z D.l2i1 D.l2TO e) hy fun g4 e s4 he => ?_)
  obtain ⟨oe, hoe, hce⟩ := he
  have z4 : IsZip g4 z TI TO .ellipsis := s4 _ _ D.i2z.symm (s3.extBut _ _ D.TOz.symm (s2.extBut _ _ D.i1z.symm z1))
  have hez : e ≠ z := fun q => by subst q; rw [z4] at hoe; cases hoe; simp at hce
  exact wpAny_setField_rec z4 (by simp) fun g5 _ s5 => fin g5 e (fun c o c1 c2 c3 c4 q => s5.extBut _ _ c1 (s4 _ _ c4 (up3 c o c1 c3 c2 q))) ⟨oe, s5.extBut _ _ hez hoe, hce⟩
noncomputable abbrev tio (l : Addr) : Obj := { cls := .type "tuple_iterator", data := .fields #[.ref l, .int 0 0] }
noncomputable abbrev prO (a b : Value) : Obj := { cls := .type "tuple", data := .seq #[a, b] }
noncomputable abbrev zO (a b : Addr) : Obj := { cls := .type "zip", data := .fields #[.none, .bool false, .bool false, .ref a, .ref b] }
noncomputable abbrev q2 (h : Heap) (l1 l2 : Addr) : Heap := (h.push (tio l1)).push (tio l2)
noncomputable abbrev q3 (h : Heap) (l1 l2 : Addr) : Heap := (q2 h l1 l2).push (prO (.ref h.objs.size) (.ref (h.push (tio l1)).objs.size))
noncomputable abbrev q4 (h : Heap) (l1 l2 : Addr) : Heap := (q3 h l1 l2).push (prO .none .none)
noncomputable abbrev q5 (h : Heap) (l1 l2 : Addr) : Heap := (q4 h l1 l2).push (zO (q2 h l1 l2).objs.size (q3 h l1 l2).objs.size)
theorem z_new (l1 l2 : Addr) (xs ys : Array Value) :
  Meets (Builtin.«zip.__new__» ⟨[.type "zip", .ref l1, .ref l2], []⟩) (fun _ R s => s.heap.IsTuple l1 xs ∧ s.heap.IsTuple l2 ys ∧ R (.ok (.ret (.ref (q4 s.heap l1 l2).objs.size))) { s with heap := q5 s.heap l1 l2 }) :=
 .of_wp fun prog w A R s h => by
  obtain ⟨hp, g, d, tk, os⟩ := s; obtain ⟨hl1, hl2, h⟩ := h
  have hsub := sub_zip
  have m1 : Heap.IsTuple (Shared.heap ⟨hp, g, d, tk, os⟩) l1 xs := hl1
  have m2 : Heap.IsTuple (Shared.heap ⟨hp.push (tio l1), g, d, tk, os⟩) l2 ys := hl2.at fun o e => Heap.get?_push_of_some _ e
  wp_walk using wpAny_pyIter_tuple m1, wpAny_pyIter_tuple m2
  exact ⟨_, rfl, h⟩
theorem z_call {l1 l2 : Addr} {xs ys : Array Value} {Q : Value → Shared → Prop} (hl1 : s.heap.IsTuple l1 xs) (hl2 : s.heap.IsTuple l2 ys)
  (h : ∀ h', ZAt h' (s.heap.objs.size + 4) (s.heap.objs.size + 2) (s.heap.objs.size + 3) s.heap.objs.size (s.heap.objs.size + 1) l1 l2 .none 0 → (∀ c o, s.heap.get? c = some o → h'.get? c = some o) → Q (.ref (s.heap.objs.size + 4)) { s with heap := h' }) :
  wpAny (model prog w) A (call (.type "zip") [.ref l1, .ref l2]) Q E s := by
 refine callType_new F.called_zip (by decide) (F.typeCall_zip_2 _ _) (F.newCall_zip_2 _ _) (fun obj => F.args_object_init_3 obj _ _) F.entry_zip_new (z_new l1 l2 xs ys) ⟨hl1, hl2, ?_⟩
 have z1 : (s.heap.push (tio l1)).objs.size = s.heap.objs.size + 1 := Heap.size_push ..
 have z2 : (q2 s.heap l1 l2).objs.size = s.heap.objs.size + 2 := by rw [Heap.size_push, z1]
 have z3 : (q3 s.heap l1 l2).objs.size = s.heap.objs.size + 3 := by rw [Heap.size_push, z2]
 have z4 : (q4 s.heap l1 l2).objs.size = s.heap.objs.size + 4 := by rw [Heap.size_push, z3]
 have k5 : ∀ c o, (q4 s.heap l1 l2).get? c = some o → (q5 s.heap l1 l2).get? c = some o := fun c o q => Heap.get?_push_of_some _ q
 have k4 : ∀ c o, (q3 s.heap l1 l2).get? c = some o → (q5 s.heap l1 l2).get? c = some o := fun c o q => k5 c o (Heap.get?_push_of_some _ q)
 have k3 : ∀ c o, (q2 s.heap l1 l2).get? c = some o → (q5 s.heap l1 l2).get? c = some o := fun c o q => k4 c o (Heap.get?_push_of_some _ q)
 have k2 : ∀ c o, (s.heap.push (tio l1)).get? c = some o → (q5 s.heap l1 l2).get? c = some o := fun c o q => k3 c o (Heap.get?_push_of_some _ q)
 have g5 : (q5 s.heap l1 l2).get? (q4 s.heap l1 l2).objs.size = some (zO (q2 s.heap l1 l2).objs.size (q3 s.heap l1 l2).objs.size) := Heap.get?_push_size _ rfl
 have g4 : (q5 s.heap l1 l2).get? (q3 s.heap l1 l2).objs.size = some (prO .none .none) := k5 _ _ (Heap.get?_push_size _ rfl)
 have g3 : (q5 s.heap l1 l2).get? (q2 s.heap l1 l2).objs.size = some (prO (.ref s.heap.objs.size) (.ref (s.heap.push (tio l1)).objs.size)) := k4 _ _ (Heap.get?_push_size _ rfl)
 have g2 : (q5 s.heap l1 l2).get? (s.heap.push (tio l1)).objs.size = some (tio l2) := k3 _ _ (Heap.get?_push_size _ rfl)
 have g1 : (q5 s.heap l1 l2).get? s.heap.objs.size = some (tio l1) := k2 _ _ (Heap.get?_push_size _ rfl)
 have kk : ∀ c o, s.heap.get? c = some o → (q5 s.heap l1 l2).get? c = some o := fun c o q => k2 c o (Heap.get?_push_of_some _ q)
 generalize q5 s.heap l1 l2 = p5 at *
 rw [z2, z3, z4] at g5
 rw [z1, z2] at g3
 rw [z3] at g4
 rw [z1] at g2
 show _ ∧ _
 rw [z4]
 exact ⟨⟨_, g5, rfl⟩, h _ ⟨g5, g3, ⟨_, _, g4⟩, ⟨_, g1, rfl, rfl⟩, ⟨_, g2, rfl, rfl⟩⟩ kk⟩
end
end M9
namespace L2
open PySem PySem.Spec PyProof.Rows M9
section
variable {X : Cx} {pins : List (Addr × Obj)} {σ : List (Option V)} {H : Hp} {s : Shared} {h' : Heap}
theorem Inv.turnedL {t' : Nat} {ch : List Addr} (I : Inv X pins σ H s) (k : ∀ b o, b ∉ ch → s.heap.get? b = some o → h'.get? b = some o) (hf : ∀ b ∈ ch, FpOk X pins H b) : Inv X pins σ H { s with heap := h', toks := t' } := by
 have nit : ∀ b u, H b = some u → b ∉ ch := fun b u e z => by rw [(hf b z).1] at e; cases e
 refine I.step (g' := s.gens) (d' := s.drawn) (ch := ch) (fun b hb => ?_) (fun b o _ _ hc e _ => k b o hc e) (fun b o _ _ hc e _ => ⟨o.slots, k b o hc e⟩) (fun _ _ _ _ n => n)
  (fun b o hc e => ⟨o, k b o hc e⟩) (fun _ _ e => e) (fun _ _ _ e => e) (fun b ps e => ⟨#[], by rw [e]; simp⟩) (fun m hm => ?_) (fun b u e => ?_) I.bare
 ·exact ⟨(hf b hb).2.2.2.1, (hf b hb).2.1, (hf b hb).2.2.2.2.1, (hf b hb).2.2.2.2.2⟩
 ·obtain ⟨o, es, ep, ho, r⟩ := hm
  exact ⟨o, es, ep, k _ o (fun z => (hf _ z).2.1 rfl) ho, r⟩
 ·refine (I.hok b u e).stay (fun c v hc q => k c v ?_ q) (fun _ q => q) fun _ _ q => q
  rcases hc with z | z
  ·rw [z]; exact nit b u e
  ·exact nit c _ z
end
noncomputable def Itz (K : PySem.W.Frag) (l1 l2 : Addr) : It :=
 ⟨fun i H => ∃ xs ys x y, SqT K H l1 xs ∧ SqT K H l2 ys ∧ xs[i]? = some x ∧ ys[i]? = some y, fun i H v H' => ∃ T x y, H T = none ∧ v = .ref T ∧ H' = upd H T (.tup [x, y]) ∧ (∀ xs, SqT K H l1 xs → xs[i]? = some x) ∧ ∀ ys, SqT K H l2 ys → ys[i]? = some y, fun i H => ∃ xs ys, SqT K H l1 xs ∧ SqT K H l2 ys ∧ (xs.length ≤ i ∨ ys.length ≤ i)⟩
theorem turn_zip {P : Program} {w : World} {K : PySem.W.Frag} {elts : List Expr} {kk : Nat} {ps : Pos} {z TI TO i1 i2 l1 l2 : Addr} (D : ZipApart z TI TO i1 i2 l1 l2) :
  Turn P w K (.Tuple elts kk ps) (Itz K l1 l2) [z, TI, TO, i1, i2] z (fun i h => ZAt h z TI TO i1 i2 l1 l2 .none i) where
 mem := by simp
 obj := fun i h st b hb => by
  obtain ⟨hz, hTI, ⟨a, c, hTO⟩, ⟨o1, e1, c1, d1⟩, ⟨o2, e2, c2, d2⟩⟩ := st
  simp only [List.mem_cons, List.not_mem_nil, or_false] at hb
  rcases hb with rfl | rfl | rfl | rfl | rfl
  ·exact ⟨_, hz, (fun v q => by cases q)⟩
  ·exact ⟨_, hTI, (fun v q => by cases q)⟩
  ·exact ⟨_, hTO, (fun v q => by cases q)⟩
  ·exact ⟨o1, e1, fun v q => by rw [d1] at q; cases q⟩
  ·exact ⟨o2, e2, fun v q => by rw [d2] at q; cases q⟩
 keep := fun i h h' st k => st.at fun b hb o e => k b hb o e
 item := by
  intro X hP hw hK hc i pins s σ H E I hf st hg
  subst hP hw hK
  obtain ⟨xs, ys, x, y, q1, q2, hx, hy⟩ := hg
  obtain ⟨its1, v1, p1, _⟩ := I.tuple q1
  obtain ⟨its2, v2, p2, _⟩ := I.tuple q2
  obtain ⟨u1, hu1, r1⟩ := v1.get hx
  obtain ⟨u2, hu2, r2⟩ := v2.get hy
  refine z_item D st (show s.heap.IsTuple l1 its1.toArray from p1) (show s.heap.IsTuple l2 its2.toArray from p2) (x := u1) (y := u2) (by simpa using hu1) (by simpa using hu2) fun h' Z' T' kp => ?_
  have hlt : ∀ b ∈ [z, TI, TO, i1, i2], b < s.heap.objs.size := fun b hb => by
   obtain ⟨hz, hTI, ⟨a, c, hTO⟩, ⟨o1, e1, c1, d1⟩, ⟨o2, e2, c2, d2⟩⟩ := st
   simp only [List.mem_cons, List.not_mem_nil, or_false] at hb
   rcases hb with rfl | rfl | rfl | rfl | rfl
   ·exact Heap.lt_size hz
   ·exact Heap.lt_size hTI
   ·exact Heap.lt_size hTO
   ·exact Heap.lt_size e1
   ·exact Heap.lt_size e2
  refine ⟨_, rfl, wpAny_letOwnedTupleGo_zip Z'.hz fun h2 hz2 sb => ?_⟩
  have hT := I.fpOk (H' := H) (Nat.le_refl s.heap.objs.size) (I.hok.fresh (Nat.le_refl _))
  have I1 : Inv X pins σ H { s with heap := h2 } := I.turnedL (t' := s.toks) (ch := [z, TO, i1, i2]) (fun b o hb e => sb.extBut _ _ (fun q => hb (by simp [q])) (kp b o hb e)) (fun b hb => hf b (by
   simp only [List.mem_cons, List.not_mem_nil, or_false] at hb ⊢
   rcases hb with rfl | rfl | rfl | rfl <;> simp))
  have hTz : s.heap.objs.size ≠ z := Nat.ne_of_gt (hlt z (by simp))
  have I2 := I1.track (o := .tup [x, y]) hT.1 I.sz hT.2.1 hT.2.2.2.2.1 hT.2.2.2.2.2 ⟨by rw [sizeLine_eq]; show 2 ≤ _; omega, [u1, u2], .cons r1 (.cons r2 .nil), ⟨_, sb.extBut _ _ hTz T', rfl, _, rfl⟩⟩
  refine ⟨.ref s.heap.objs.size, _, I2, rfl, ⟨_, x, y, hT.1, rfl, rfl, fun xs' h => by rw [I.tuple_inj h q1]; exact hx, fun ys' h => by rw [I.tuple_inj h q2]; exact hy⟩, ?_, fun b hb => ?_⟩
  ·obtain ⟨_, hTI, ⟨a, c, hTO⟩, g1, g2⟩ := Z'
   exact ⟨hz2, sb.extBut _ _ D.TIz hTI, ⟨a, c, sb.extBut _ _ D.TOz hTO⟩, g1.at fun o e => sb.extBut _ _ D.i1z e, g2.at fun o e => sb.extBut _ _ D.i2z e⟩
  ·rw [upd_ne (Nat.ne_of_lt (hlt b hb))]; exact (hf b hb).1
 done := by
  intro X hP hw hK hc i pins s σ H E I hf st hg
  subst hP hw hK
  obtain ⟨xs, ys, q1, q2, hx⟩ := hg
  obtain ⟨its1, v1, p1, _⟩ := I.tuple q1
  obtain ⟨its2, v2, p2, _⟩ := I.tuple q2
  have n1 := v1.length
  have n2 := v2.length
  refine z_end (I.ok.hd hc) D st (show s.heap.IsTuple l1 its1.toArray from p1) (show s.heap.IsTuple l2 its2.toArray from p2) ?_ fun h' kp => ⟨rfl, ?_⟩
  ·rcases hx with hx | hx
   ·exact .inl (by simp; omega)
   ·exact .inr (by simp; omega)
  ·exact I.turnedL (t' := s.toks) (ch := [z, TO, i1, i2]) kp fun b hb => hf b (by
    simp only [List.mem_cons, List.not_mem_nil, or_false] at hb ⊢
    rcases hb with rfl | rfl | rfl | rfl <;> simp)
 self := fun _ _ _ _ _ st h => wpAny_pyIter_zip st.hz h
theorem apart_of {n a b : Nat} (h1 : a < n) (h2 : b < n) : ZipApart (n + 4) (n + 2) (n + 3) n (n + 1) a b := by
 have ne : ∀ {x y : Nat}, x < y ∨ y < x → @Ne Addr x y := fun h e => by have e : (_ : Nat) = _ := e; omega
 constructor <;> exact ne (by omega)
noncomputable def iZip2 (K : PySem.W.Frag) (ta : TA) : TI := fun σ H R => ta σ H fun vs H1 => ∃ l1 l2 xs ys, vs = [.ref l1, .ref l2] ∧ SqT K H1 l1 xs ∧ SqT K H1 l2 ys ∧ R (Itz K l1 l2) H1
theorem pi_zip {X : Cx} {elts : List Expr} {kk : Nat} {ps : Pos} {a b : Expr} {ta : TA} {p pos : Pos} (hg : Gl X "zip") (hm : X.mg "zip" = none) (ha : PA X [a, b] ta) (hs : starEach [a, b] X.env = [(false, eval a X.env), (false, eval b X.env)] := by rfl) (hs2 : starEach [b] X.env = [(false, eval b X.env)] := by rfl) :
  PI X (.Tuple elts kk ps) (.Call (.Name "zip" p) [a, b] [] pos) (iZip2 X.K ta) := by
 intro pins s σ H R I h
 refine Call_ (ld_blt I hg hm (u := .type "zip") (by decide +kernel) (PyProof.Rows.callWith_type1 (thn (ha pos pins s σ H _ I h) fun us s1 ⟨vs, H1, I1, r1, q1⟩ => ?_) (by rw [hs, hs2]) (by rw [hs2]; rfl)) (by decide +kernel) (by decide +kernel))
 obtain ⟨l1, l2, xs, ys, e, h1, h2, q⟩ := q1
 subst e
 cases r1 with
 | cons r rr =>
  cases rr with
  | cons r' rr' =>
   cases rr'
   cases r
   cases r'
   obtain ⟨its1, v1, p1, _⟩ := I1.tuple h1
   obtain ⟨its2, v2, p2, _⟩ := I1.tuple h2
   have b1 : l1 < s1.heap.objs.size := let ⟨o, e, _⟩ := p1; Heap.lt_size e
   have b2 : l2 < s1.heap.objs.size := let ⟨o, e, _⟩ := p2; Heap.lt_size e
   refine z_call (show s1.heap.IsTuple l1 its1.toArray from p1) (show s1.heap.IsTuple l2 its2.toArray from p2) fun h' Z kp => wpAny_pyIter_zip Z.hz ?_
   refine ⟨_, _, _, _, H1, rfl, I1.kept (t' := s1.toks) kp, turn_zip (z := s1.heap.objs.size + 4) (TI := s1.heap.objs.size + 2) (TO := s1.heap.objs.size + 3) (i1 := s1.heap.objs.size) (i2 := s1.heap.objs.size + 1) ?_, Z, fun b hb => ?_, q⟩
   ·exact apart_of b1 b2
   ·simp only [List.mem_cons, List.not_mem_nil, or_false] at hb
    have : s1.heap.objs.size ≤ b := by rcases hb with rfl | rfl | rfl | rfl | rfl <;> omega
    exact I1.fpOk this (I1.hok.fresh this)
end L2
namespace M
open PySem PySem.Spec PyProof.Rows L2
noncomputable def zipD (es fs : List D) : List D := (es.zip fs).map fun p => .tup [p.1, p.2]
noncomputable def iZip (a : AA) : AI := fun δ S Q => a δ S fun ds S1 => ∃ es fs, ds = [.tup es, .tup fs] ∧ Q (zipD es fs) (fun _ => True) S1
theorem zip_at {es fs : List D} {i : Nat} {d : D} (e : (zipD es fs)[i]? = some d) : ∃ x y, es[i]? = some x ∧ fs[i]? = some y ∧ d = .tup [x, y] := by
 unfold zipD at e
 rw [List.getElem?_map] at e
 cases h : (es.zip fs)[i]? with
 | none => rw [h] at e; cases e
 | some p =>
  rw [h] at e
  obtain ⟨h1, h2⟩ := List.getElem?_zip_eq_some.mp h
  exact ⟨p.1, p.2, h1, h2, (Option.some.inj e).symm⟩
theorem s_iZip {K : PySem.W.Frag} {a : AA} : ∀ σ H R, conI K (iZip a) σ H R → iZip2 K (conA K a) σ H R := by
 rintro σ H R ⟨w, δ, S, Qa, ok, env, q, bk⟩
 refine ⟨w, δ, S, _, ok, env, q, fun ds S1 vs w1 H1 le1 ok1 rep1 ⟨es, fs, hd, q1⟩ => ?_⟩
 subst hd
 simp only [Reps, Rep] at rep1
 obtain ⟨x, r, rfl, ⟨a, xs, rfl, a1, a2⟩, x', r', rfl, ⟨b, ys, rfl, b1, b2⟩, rfl⟩ := rep1
 refine ⟨a, b, xs, ys, rfl, SqT.of (ok1.base _ _ a1), SqT.of (ok1.base _ _ b1), bk _ _ S1 _ w1 H1 le1 ok1 ⟨fun i H S w' d le ok hP e => ?_, fun i H S w' d v H' le ok hP e y => ?_, fun i H S w' le ok hP e => ?_⟩ q1⟩
 ·obtain ⟨p, q, h1, h2, _⟩ := zip_at e
  obtain ⟨u, u1, _⟩ := a2.get h1
  obtain ⟨v, v1, _⟩ := b2.get h2
  exact ⟨xs, ys, u, v, SqT.of ((le.b.trans ok.base) _ _ a1), SqT.of ((le.b.trans ok.base) _ _ b1), u1, v1⟩
 ·obtain ⟨p, q, h1, h2, rfl⟩ := zip_at e
  obtain ⟨u, u1, u2⟩ := a2.get h1
  obtain ⟨t, t1, t2⟩ := b2.get h2
  obtain ⟨T, c, f, hT, rfl, rfl, g1, g2⟩ := y
  have g1 := g1 xs (SqT.of ((le.b.trans ok.base) _ _ a1))
  have g2 := g2 ys (SqT.of ((le.b.trans ok.base) _ _ b1))
  rw [u1] at g1; cases g1
  rw [t1] at g2; cases g2
  exact ok.newTup hT (.cons (u2.le le) (.cons (t2.le le) .nil))
 ·refine ⟨xs, ys, SqT.of ((le.b.trans ok.base) _ _ a1), SqT.of ((le.b.trans ok.base) _ _ b1), ?_⟩
  have n1 := a2.length
  have n2 := b2.length
  rw [e]
  unfold zipD
  rw [List.length_map, List.length_zip]
  omega
theorem pi_zip {X : Cx} {elts : List Expr} {kk : Nat} {ps : Pos} {a b : Expr} {ta : AA} {p pos : Pos} (hg : Gl X "zip") (hm : X.mg "zip" = none) (ha : GA X [a, b] ta) (hs : starEach [a, b] X.env = [(false, eval a X.env), (false, eval b X.env)] := by rfl) (hs2 : starEach [b] X.env = [(false, eval b X.env)] := by rfl) :
  GI X (.Tuple elts kk ps) (.Call (.Name "zip" p) [a, b] [] pos) (iZip ta) := ⟨mI (L2.pi_zip hg hm ha.p hs hs2) s_iZip⟩
end M
namespace K30
open PySem L2
noncomputable def top (i : Nat) : Stmt := PySem.Challenge.pw_pathask_k30_what_is_a_machine.main.body.getD i (.Pass ⟨0, 0, 0, 0⟩)
noncomputable abbrev sRow : Stmt := top 2
noncomputable abbrev NscRow : List Str := ["thing", "many"]
noncomputable abbrev PscRow : List Str := ["thing", "many"]
theorem scRow : FnScope NscRow PscRow (defScope sRow) := ⟨rfl, rfl, rfl, by decide +kernel, rfl, by decide +kernel, by decide +kernel⟩
noncomputable abbrev sName : Stmt := top 5
noncomputable abbrev NscName : List Str := ["thing"]
noncomputable abbrev PscName : List Str := ["thing"]
theorem scName : FnScope NscName PscName (defScope sName) := ⟨rfl, rfl, rfl, by decide +kernel, rfl, by decide +kernel, by decide +kernel⟩
noncomputable abbrev sLeaf : Stmt := top 9
noncomputable abbrev NscLeaf : List Str := ["thing"]
noncomputable abbrev PscLeaf : List Str := ["thing"]
theorem scLeaf : FnScope NscLeaf PscLeaf (defScope sLeaf) := ⟨rfl, rfl, rfl, by decide +kernel, rfl, by decide +kernel, by decide +kernel⟩
noncomputable abbrev sWord : Stmt := top 10
noncomputable abbrev NscWord : List Str := ["thing"]
noncomputable abbrev PscWord : List Str := ["thing"]
theorem scWord : FnScope NscWord PscWord (defScope sWord) := ⟨rfl, rfl, rfl, by decide +kernel, rfl, by decide +kernel, by decide +kernel⟩
structure Txt (K : PySem.W.Frag) (mg : Str → Option Value) : Prop where
 len : mg "len" = none
 isinstance : mg "isinstance" = none
 str : mg "str" = none
 int : mg "int" = none
 tuple : mg "tuple" = none
 list : mg "list" = none
 all : mg "all" = none
 range : mg "range" = none
 sorted : mg "sorted" = none
 set : mg "set" = none
 dict : mg "dict" = none
 bool : mg "bool" = none
 zip : mg "zip" = none
 longest : ∃ t, mg "LONGEST" = some (.int 8 t)
 any : ∃ t, mg "ANY" = some (.str "*" t)
 sides : ∃ a, mg "SIDES" = some (.ref a) ∧ ∀ H : Hp, SqT K H a ((["on", "back"] : List Str).map V.str)
section
variable {X : Cx} {pos : Pos} {mg : Str → Option Value} {K : PySem.W.Frag}
theorem g_int {x : Str} {i : Int} (e : ∃ t, mg x = some (.int i t)) (hg : Gl X x) (hm : X.mg = mg) (hd : (x == ("__debug__" : Str)) = false) : M.GE X (.Name x pos) (M.aC (.int i)) := by
 obtain ⟨t, e⟩ := e
 exact M.pe_glob (v := .int i) hg (by rw [hm]; exact e) ⟨t, rfl⟩ (fun _ => .int) hd
theorem g_str {x y : Str} (e : ∃ t, mg x = some (.str y t)) (hg : Gl X x) (hm : X.mg = mg) (hd : (x == ("__debug__" : Str)) = false) : M.GE X (.Name x pos) (M.aC (.str y)) := by
 obtain ⟨t, e⟩ := e
 exact M.pe_glob (v := .str y) hg (by rw [hm]; exact e) ⟨t, rfl⟩ (fun _ => .str) hd
theorem g_stc {x : Str} {ss : List Str} (e : ∃ a, mg x = some (.ref a) ∧ ∀ H : Hp, SqT K H a (ss.map V.str)) (hg : Gl X x) (hm : X.mg = mg) (hK : X.K = K) (hd : (x == ("__debug__" : Str)) = false) : M.GE X (.Name x pos) (M.aC (.stc ss)) := by
 obtain ⟨a, e, h⟩ := e
 subst hK
 exact M.pe_glob (v := .ref a) hg (by rw [hm]; exact e) rfl (fun w => by simp only [M.Rep]; exact ⟨a, rfl, h _⟩) hd
theorem Txt.pe_LONGEST (T : Txt K mg) (hg : Gl X "LONGEST" := by rfl) (hm : X.mg = mg := by rfl) : M.GE X (.Name "LONGEST" pos) (M.aC (.int 8)) := g_int T.longest hg hm (by decide +kernel)
theorem Txt.pe_ANY (T : Txt K mg) (hg : Gl X "ANY" := by rfl) (hm : X.mg = mg := by rfl) : M.GE X (.Name "ANY" pos) (M.aC (.str "*")) := g_str T.any hg hm (by decide +kernel)
theorem Txt.pe_SIDES (T : Txt K mg) (hg : Gl X "SIDES" := by rfl) (hm : X.mg = mg := by rfl) (hK : X.K = K := by rfl) : M.GE X (.Name "SIDES" pos) (M.aC (.stc ["on", "back"])) := g_stc T.sides hg hm hK (by decide +kernel)
end
open M
noncomputable def isRow (x : D) (n : Int) : Bool := match x with
 | .tup es => decide ((es.length : Int) = n)
 | _ => false
local macro_rules
 | `(tactic| push_cast [$xs,*]) => `(tactic| simp only [$xs,*, aRet, aRetN, aAndV, aOrV, aNotV, aCall, aCons, aNil, aVar, aC, aOp, aUn, aB, aTru, aIf, aSeq, aIfS, aNot, aAnd, aOr, aAsg, agName, aNext, aChain, aSl, aPart, aNoPart, aDrop, aTup, aLst, rd_dat, rd_new, mod_lst, le_int', lt_int', aI_int, add_int', add_lst', eq_int', eq_str', tru_bl, tru_lst, tru_tup, true_and, aIsi, aLen, see_int', see_str', see_bl', see_non', see_tup', see_lst', see_stc', see_scr', List.getElem?_cons_zero, List.getElem?_cons_succ, List.set_cons_zero, List.set_cons_succ, Option.some.injEq, exists_eq_left', List.cons.injEq, and_true, D.ty.injEq, D.bl.injEq, D.int.injEq, D.str.injEq, and_assoc, exists_and_left, exists_eq_left, exists_and_right, ret_bl, ret_int, Bool.false_eq_true, if_true, if_false, Bool.not_true, Bool.not_false])
section
variable {P : Program} {w : World} {K : PySem.W.Frag} {mg : Str → Option Value} {base : Heap}
theorem row_yes {es : List D} {n : Int} (h : (es.length : Int) = n) : isRow (.tup es) n = true := decide_eq_true h
theorem row_no {es : List D} {n : Int} (h : ¬ (es.length : Int) = n) : isRow (.tup es) n = false := decide_eq_false h
noncomputable def spRow : AN := fun ds S Q => ∃ x n, ds = [x, .int n] ∧ pur x = true ∧ Q (.dat (.bl (isRow x n))) S
theorem isi_of {S : Sto} {x : D} (h : pur x = true) : isiD (see S x) "tuple" = some (match x with | .tup _ => true | _ => false) ∧ isiD (see S x) "str" = some (match x with | .str _ => true | _ => false) := by
 rw [see_pur h]
 cases x <;> first | (simp [pur] at h; done) | exact ⟨rfl, rfl⟩
theorem d_Row (T : Txt K mg) (F : Src K mg "is_row" PscRow sRow) : Def P w K mg base 1 "is_row" PscRow (conSp K spRow) := by
 refine defA F scRow (fun ds S Q h => ?_) (fun f cdv A outer s H E hr => ?_)
 ·obtain ⟨x, n, rfl, _⟩ := h; rfl
 ·refine ⟨_, (M.pss_one (M.ps_ret (M.pe_and (M.pcb M.o_isi (by rfl) T.isinstance (by decide +kernel) (M.pac (M.pv 0) (M.pac (M.pe_ty "tuple" (by rfl) T.tuple (by decide +kernel)) M.pa_nil))) (M.pe_one (M.pe_cmpR (M.o_eq hr) (M.pcb M.o_len (by rfl) T.len (by decide +kernel) (M.pac (M.pv 0) M.pa_nil)) (M.pv 1) (nomark _)))))), fun ds S Q h => ?_⟩
  obtain ⟨x, n, rfl, hp, q⟩ := h
  have e0 : startA NscRow [x, .int n] = [some x, some (.int n)] := rfl
  rw [e0]
  push_cast [aEq, (isi_of (S := S) hp).1]
  cases x <;> first | (simp [pur] at hp; done) | skip
  case tup es => exact ⟨es.length, rfl, q⟩
  all_goals exact q
noncomputable def isLow (c : Nat) : Bool := decide (97 ≤ c) && decide (c ≤ 122)
noncomputable def isName (x : D) : Bool := match x with
 | .str s => decide (1 ≤ s.length) && decide (s.length ≤ 8) && s.cps.toList.all isLow
 | _ => false
noncomputable def lowD : D → D
 | .str s => .bl (s.cps.toList.all isLow)
 | d => d
theorem lt1 (a b : Nat) : decide ([a] < [b]) = decide (a < b) := by
 by_cases h : a < b
 ·rw [decide_eq_true h]; exact decide_eq_true (by simpa [List.cons_lt_cons_iff] using h)
 ·rw [decide_eq_false h]; exact decide_eq_false (by simpa [List.cons_lt_cons_iff] using h)
theorem low_sign {c : Nat} {δ : AEnv} {S : Sto} {Q : AK} (q : Q (.dat (lowD (.str ⟨#[c]⟩))) S) : aChain aLe aLe (aC (.str "a")) (aVar 0) (aC (.str "z")) ((captA [none] δ).set 0 (some (.str ⟨#[c]⟩))) S Q := by
 have e1 : (("a" : Str)).cps.toList = [97] := by decide +kernel
 have e2 : (("z" : Str)).cps.toList = [122] := by decide +kernel
 have e3 : (⟨#[c]⟩ : Str).cps.toList = [c] := rfl
 simp only [captA, List.map_cons, List.map_nil, Option.bind_none, List.set_cons_zero, aChain, aC, aVar, List.getElem?_cons_zero, Option.some.injEq, exists_eq_left', rd_dat, le_str', D.bl.injEq, e1, e2, e3, lt1]
 have q : Q (.dat (.bl ((decide (97 ≤ c) && decide (c ≤ 122)) && true))) S := q
 rw [Bool.and_true] at q
 refine ite2 (fun h => ?_) (fun h => ?_)
 ·have h : 97 ≤ c := by simpa using h
  rw [decide_eq_true h, Bool.true_and] at q
  have : (!decide (122 < c)) = decide (c ≤ 122) := by
   by_cases z : c ≤ 122
   ·simp [z]
   ·simp [z]; omega
  rw [this]; exact q
 ·have h : ¬ 97 ≤ c := by intro z; exact h (by simp; omega)
  rw [decide_eq_false h, Bool.false_and] at q
  exact q
noncomputable def spName : AN := fun ds S Q => ∃ x, ds = [x] ∧ pur x = true ∧ (∀ s, x = .str s → s.length ≤ 1000) ∧ Q (.dat (.bl (isName x))) S
theorem d_Name (T : Txt K mg) (F : Src K mg "is_name" PscName sName) : Def P w K mg base 1 "is_name" PscName (conSp K spName) := by
 refine defA F scName (fun ds S Q h => ?_) (fun f cdv A outer s H E hr => ?_)
 ·obtain ⟨x, rfl, _⟩ := h; rfl
 ·refine ⟨_, (M.pss_cons (M.ps_if (M.pt_not (M.pt_val (M.pcb M.o_isi (by rfl) T.isinstance (by decide +kernel) (M.pac (M.pv 0) (M.pac (M.pe_ty "str" (by rfl) T.str (by decide +kernel)) M.pa_nil)))))
    (M.pss_one (M.ps_ret M.pe_bl))
    M.pss_nil)
   (M.pss_one (M.ps_ret (M.pe_and (M.pe_chain M.o_le M.o_le M.pe_int (M.pcb M.o_len (by rfl) T.len (by decide +kernel) (M.pac (M.pv 0) M.pa_nil)) T.pe_LONGEST) (M.pe_one (M.pcb (M.o_all rfl) (by rfl) T.all (by decide +kernel) (M.pac (M.pe_comp (N := ["sign"]) (caps := [none]) (bs_mk (by decide +kernel)) (by rfl) (by rfl) rfl (M.pi_any (M.pv 0)) (fun _ _ _ _ => (M.pg_name (i := 0) (by decide +kernel : List.Nodup (["sign"] : List Str)) rfl (Or.inl rfl))) (fun _ _ _ _ => M.pts_nil) (fun _ _ _ _ => (M.pe_chain M.o_le M.o_le M.pe_str (M.pv 0) M.pe_str))) M.pa_nil))))))), fun ds S Q h => ?_⟩
  obtain ⟨x, rfl, hp, hl, q⟩ := h
  have e0 : startA NscName [x] = [some x] := rfl
  rw [e0]
  push_cast [(isi_of (S := S) hp).2]
  cases x <;> first | (simp [pur] at hp; done) | skip
  case str y =>
   push_cast [true_and]
   have hy := hl y rfl
   refine ⟨y.length, by simp only [lenD]; rw [if_pos (by rw [sizeLine_eq]; omega)], ?_⟩
   have hn : isName (.str y) = (decide (1 ≤ y.length) && decide (y.length ≤ 8) && y.cps.toList.all isLow) := rfl
   rw [hn] at q
   refine ite2 (fun h1 => ?_) (fun h1 => ?_)
   ·have h1 : 1 ≤ y.length := by have := of_decide_eq_true h1; omega
    refine ite2 (fun h2 => ?_) (fun h2 => ?_)
    ·have h2 : y.length ≤ 8 := by have := of_decide_eq_true h2; omega
     rw [decide_eq_true h1, decide_eq_true h2] at q
     simp only [aComp, iAny, iAnyD, aVar, List.getElem?_cons_zero, Option.some.injEq, exists_eq_left', rd_dat]
     have hlen : (signs y).length = y.length := by simp [signs, Str.length]
     refine comp_map (δ := captA [none] [some (.str y)]) lowD trivial (signs y) [] _ rfl (fun x hx Q' q' => ?_) (by rw [hlen, sizeLine_eq]; simp; omega) ?_
     ·obtain ⟨c, hc, rfl⟩ := List.mem_map.mp hx
      exact low_sign q'
     ·rw [List.nil_append]
      refine ⟨_, y.cps.toList.map isLow, rfl, ?_, ?_⟩
      ·simp only [rd_new, mod_lst, see_lst', signs, List.map_map]
       refine congrArg D.lst (List.map_congr_left fun c _ => ?_)
       show D.bl (isLow c && true) = D.bl (isLow c)
       rw [Bool.and_true]
      ·show M.ret S S _ Q
       rw [ret_bl]
       simpa [List.all_map] using q
    ·have h2 : ¬ y.length ≤ 8 := by intro z; exact h2 (decide_eq_true (by omega))
     rw [decide_eq_false h2, Bool.and_false, Bool.false_and] at q
     exact q
   ·have h1 : ¬ 1 ≤ y.length := by intro z; exact h1 (decide_eq_true (by omega))
    rw [decide_eq_false h1, Bool.false_and, Bool.false_and] at q
    exact q
  all_goals (push_cast [true_and]; exact q)
noncomputable def isWord (x : D) : Bool := isS x "*" || isName x
theorem th_len {n : Nat} {x : D} (h : thB n x = true) : ∀ s, x = .str s → s.length ≤ 1000 := fun s e => by
 subst e
 have h : okS s = true := by cases n <;> exact h
 unfold okS at h
 rw [Bool.and_eq_true] at h
 have := of_decide_eq_true h.2
 omega
noncomputable def spWord : AN := fun ds S Q => ∃ x, ds = [x] ∧ thB 60 x = true ∧ Q (.dat (.bl (isWord x))) S
theorem d_Word (T : Txt K mg) (F : Src K mg "is_word" PscWord sWord) (D_is_name : Def P w K mg base 1 "is_name" PscName (conSp K spName)) : Def P w K mg base 2 "is_word" PscWord (conSp K spWord) := by
 refine defA F scWord (fun ds S Q h => ?_) (fun f cdv A outer s H E hr => ?_)
 ·obtain ⟨x, rfl, _⟩ := h; rfl
 ·refine ⟨_, (M.pss_one (M.ps_ret (M.pe_or (M.pe_cmpR (M.o_eq hr) (M.pv 0) T.pe_ANY (nomark _)) (M.pe_one (M.pe_own D_is_name (hr.mono (by decide)) (by rfl) (M.pac (M.pv 0) M.pa_nil)))))), fun ds S Q h => ?_⟩
  obtain ⟨x, rfl, ht, q⟩ := h
  have e0 : startA NscWord [x] = [some x] := rfl
  rw [e0]
  push_cast [true_and]
  refine eq_text ht (by decide) (by decide +kernel) ⟨_, rfl, ?_⟩
  unfold isWord at q
  refine ite2 (fun h => ?_) (fun h => ?_)
  ·rw [h, Bool.true_or] at q
   rw [ret_bl]; exact q
  ·have h : isS x "*" = false := by simpa using h
   rw [h, Bool.false_or] at q
   refine ⟨x, rfl, th_pur ht, th_len ht, ?_⟩
   show M.ret S S _ Q
   rw [ret_bl]; exact q
noncomputable def isLeaf (x : D) : Bool := match x with
 | .tup [a] => isS a "stay"
 | .tup [a, b] => inS a ["at", "off"] && isName b
 | .tup [a, b, c] => isS a "step" && (inS b ["on", "back"] && isWord c)
 | _ => false
noncomputable def spLeaf : AN := fun ds S Q => ∃ x, ds = [x] ∧ thB 61 x = true ∧ Q (.dat (.bl (isLeaf x))) S
theorem d_Leaf (T : Txt K mg) (F : Src K mg "is_leaf" PscLeaf sLeaf) (D_is_name : Def P w K mg base 1 "is_name" PscName (conSp K spName)) (D_is_row : Def P w K mg base 1 "is_row" PscRow (conSp K spRow)) (D_is_word : Def P w K mg base 2 "is_word" PscWord (conSp K spWord)) :
  Def P w K mg base 3 "is_leaf" PscLeaf (conSp K spLeaf) := by
 refine defA F scLeaf (fun ds S Q h => ?_) (fun f cdv A outer s H E hr => ?_)
 ·obtain ⟨x, rfl, _⟩ := h; rfl
 ·refine ⟨_, (M.pss_cons (M.ps_if (M.pt_val (M.pe_own D_is_row (hr.mono (by decide)) (by rfl) (M.pac (M.pv 0) (M.pac M.pe_int M.pa_nil))))
    (M.pss_one (M.ps_ret (M.pe_cmpR (M.o_eq hr) (M.pe_ix M.o_ix (M.pv 0) M.pe_int (fun _ _ => rfl)) M.pe_str (nomark _))))
    M.pss_nil)
   (M.pss_cons (M.ps_if (M.pt_val (M.pe_own D_is_row (hr.mono (by decide)) (by rfl) (M.pac (M.pv 0) (M.pac M.pe_int M.pa_nil))))
    (M.pss_one (M.ps_ret (M.pe_and (M.pe_cmpR (M.o_in hr) (M.pe_ix M.o_ix (M.pv 0) M.pe_int (fun _ _ => rfl)) (M.pe_tup (M.pac M.pe_str (M.pac M.pe_str M.pa_nil))) rfl) (M.pe_one (M.pe_own D_is_name (hr.mono (by decide)) (by rfl) (M.pac (M.pe_ix M.o_ix (M.pv 0) M.pe_int (fun _ _ => rfl)) M.pa_nil))))))
    M.pss_nil)
   (M.pss_one (M.ps_ret (M.pe_and (M.pe_own D_is_row (hr.mono (by decide)) (by rfl) (M.pac (M.pv 0) (M.pac M.pe_int M.pa_nil))) (M.pe_and (M.pe_cmpR (M.o_eq hr) (M.pe_ix M.o_ix (M.pv 0) M.pe_int (fun _ _ => rfl)) M.pe_str (nomark _)) (M.pe_and (M.pe_cmpR (M.o_in hr) (M.pe_ix M.o_ix (M.pv 0) M.pe_int (fun _ _ => rfl)) T.pe_SIDES rfl) (M.pe_one (M.pe_own D_is_word (hr.mono (by decide)) (by rfl) (M.pac (M.pe_ix M.o_ix (M.pv 0) M.pe_int (fun _ _ => rfl)) M.pa_nil)))))))))), fun ds S Q h => ?_⟩
  obtain ⟨x, rfl, ht, q⟩ := h
  have e0 : startA NscLeaf [x] = [some x] := rfl
  have hp := th_pur ht
  rw [e0]
  push_cast [spRow, hp]
  cases x <;> first | (simp [pur] at hp; done) | exact q | skip
  rename_i es
  match es, ht, q with
  | [], _, q => exact q
  | [a], ht, q =>
   have ha : thB 60 a = true := th_item ht (by simp)
   rw [row_yes (es := [a]) (n := 1) (by simp)]
   simp only [if_true]
   refine ⟨a, rfl, eq_text ha (by decide) (by decide +kernel) ?_⟩
   show M.ret S S _ Q
   rw [ret_bl]; exact q
  | [a, b], ht, q =>
   have ha : thB 60 a = true := th_item ht (by simp)
   have hb : thB 60 b = true := th_item ht (by simp)
   have q : Q (.dat (.bl (inS a ["at", "off"] && isName b))) S := q
   rw [row_no (es := [a, b]) (n := 1) (by simp), row_yes (es := [a, b]) (n := 2) (by simp)]
   simp only [if_true, if_false, Bool.false_eq_true]
   refine ⟨a, rfl, (by show 2 ≤ sizeLine; decide), in_texts (ss := ["at", "off"]) ha (by decide) (by decide +kernel) ⟨_, rfl, ?_⟩⟩
   rw [Bool.false_bne]
   refine ite2 (fun (h : inS a ["at", "off"] = true) => ?_) (fun (h : ¬ inS a ["at", "off"] = true) => ?_)
   ·rw [h, Bool.true_and] at q
    refine ⟨b, rfl, b, rfl, th_pur hb, th_len hb, ?_⟩
    show M.ret S S _ Q
    rw [ret_bl]; exact q
   ·have h : inS a ["at", "off"] = false := by simpa using h
    rw [h, Bool.false_and] at q
    rw [ret_bl]; exact q
  | [a, b, c], ht, q =>
   have ha : thB 60 a = true := th_item ht (by simp)
   have hb : thB 60 b = true := th_item ht (by simp)
   have hc : thB 60 c = true := th_item ht (by simp)
   have q : Q (.dat (.bl (isS a "step" && (inS b ["on", "back"] && isWord c)))) S := q
   rw [row_no (es := [a, b, c]) (n := 1) (by simp), row_no (es := [a, b, c]) (n := 2) (by simp), row_yes (es := [a, b, c]) (n := 3) (by simp)]
   simp only [if_true, if_false, Bool.false_eq_true]
   refine ⟨a, rfl, eq_text ha (by decide) (by decide +kernel) ⟨_, rfl, ?_⟩⟩
   refine ite2 (fun (h : isS a "step" = true) => ?_) (fun (h : ¬ isS a "step" = true) => ?_)
   ·rw [h, Bool.true_and] at q
    refine ⟨b, rfl, in_stc hb (by decide) (by decide +kernel) ⟨_, rfl, ?_⟩⟩
    rw [Bool.false_bne]
    refine ite2 (fun (h : inS b ["on", "back"] = true) => ?_) (fun (h : ¬ inS b ["on", "back"] = true) => ?_)
    ·rw [h, Bool.true_and] at q
     refine ⟨c, rfl, c, rfl, hc, ?_⟩
     show M.ret S S _ Q
     rw [ret_bl]; exact q
    ·have h : inS b ["on", "back"] = false := by simpa using h
     rw [h, Bool.false_and] at q
     rw [ret_bl]; exact q
   ·have h : isS a "step" = false := by simpa using h
    rw [h, Bool.false_and] at q
    rw [ret_bl]; exact q
  | a :: b :: c :: d :: r, ht, q =>
   have n1 : ∀ k : Int, k ≤ 3 → isRow (.tup (a :: b :: c :: d :: r)) k = false := fun k hk => row_no (by simp; omega)
   rw [n1 1 (by decide), n1 2 (by decide), n1 3 (by decide)]
   simp only [if_false, Bool.false_eq_true]
   exact q
end
open PySem L2
noncomputable abbrev sCell : Stmt := top 19
noncomputable abbrev NscCell : List Str := ["_law_script", "_law_k"]
noncomputable abbrev PscCell : List Str := ["_law_script", "_law_k"]
theorem scCell : FnScope NscCell PscCell (defScope sCell) := ⟨rfl, rfl, rfl, by decide +kernel, rfl, by decide +kernel, by decide +kernel⟩
noncomputable abbrev sWords : Stmt := top 21
noncomputable abbrev NscWords : List Str := []
noncomputable abbrev PscWords : List Str := []
theorem scWords : FnScope NscWords PscWords (defScope sWords) := ⟨rfl, rfl, rfl, by decide +kernel, rfl, by decide +kernel, by decide +kernel⟩
noncomputable abbrev sMarks : Stmt := top 22
noncomputable abbrev NscMarks : List Str := []
noncomputable abbrev PscMarks : List Str := []
theorem scMarks : FnScope NscMarks PscMarks (defScope sMarks) := ⟨rfl, rfl, rfl, by decide +kernel, rfl, by decide +kernel, by decide +kernel⟩
noncomputable abbrev sLLeaf : Stmt := top 23
noncomputable abbrev NscLLeaf : List Str := ["_law_way", "_law_number"]
noncomputable abbrev PscLLeaf : List Str := ["_law_way", "_law_number"]
theorem scLLeaf : FnScope NscLLeaf PscLLeaf (defScope sLLeaf) := ⟨rfl, rfl, rfl, by decide +kernel, rfl, by decide +kernel, by decide +kernel⟩
noncomputable abbrev sDraws : Stmt := top 20
noncomputable abbrev NscDraws : List Str := ["_law_cell", "_law_sizes", "_law_found", "_law_figures", "_law_k", "_law_mixed"]
noncomputable abbrev PscDraws : List Str := ["_law_cell", "_law_sizes"]
theorem scDraws : FnScope NscDraws PscDraws (defScope sDraws) := ⟨rfl, rfl, rfl, by decide +kernel, rfl, by decide +kernel, by decide +kernel⟩
open M
theorem sz {n : Nat} (h : decide (n ≤ 100) = true) : n ≤ sizeLine := by rw [sizeLine_eq]; have := of_decide_eq_true h; omega
theorem ix_tup {ds : List D} {i : Int} {S : Sto} {Q : AK} : aIx (.tup ds) (.int i) S Q = ∃ e, atI ds i = some e ∧ Q (.dat e) S := rfl
theorem ix_lst {ds : List D} {i : Int} {S : Sto} {Q : AK} : aIx (.lst ds) (.int i) S Q = ∃ e, atI ds i = some e ∧ Q (.dat e) S := rfl
theorem at0 {α : Type} {a : α} {r : List α} : atI (a :: r) (0 : Int) = some a := (atI_nat (j := 0) rfl : atI (a :: r) ((0 : Nat) : Int) = some a)
theorem at1 {α : Type} {a b : α} {r : List α} : atI (a :: b :: r) (1 : Int) = some b := (atI_nat (j := 1) rfl : atI (a :: b :: r) ((1 : Nat) : Int) = some b)
theorem at2 {α : Type} {a b c : α} {r : List α} : atI (a :: b :: c :: r) (2 : Int) = some c := (atI_nat (j := 2) rfl : atI (a :: b :: c :: r) ((2 : Nat) : Int) = some c)
theorem at3 {α : Type} {a b c d : α} {r : List α} : atI (a :: b :: c :: d :: r) (3 : Int) = some d := (atI_nat (j := 3) rfl : atI (a :: b :: c :: d :: r) ((3 : Nat) : Int) = some d)
theorem at_lt {ds : List D} {z : Nat} (h : z < ds.length) : ∃ e, atI ds (z : Int) = some e ∧ e ∈ ds := ⟨ds[z], atI_nat (List.getElem?_eq_getElem h), List.getElem_mem h⟩
theorem pick {ds : List D} {z : Nat} {S : Sto} {Q : AK} (h : z < ds.length) (k : ∀ e ∈ ds, Q (.dat e) S) : aIx (.lst ds) (.int z) S Q := by
 obtain ⟨e, h1, h2⟩ := at_lt h
 exact ⟨e, h1, k e h2⟩
inductive Lf where
 | stay | step (b : Bool) (x : Str) | mk (b : Bool) (m : Str)
noncomputable def side (b : Bool) : Str := if b then "on" else "back"
noncomputable def mkS (b : Bool) : Str := if b then "at" else "off"
noncomputable def lD : Lf → D
 | .stay => .tup [.str "stay"]
 | .step b x => .tup [.str "step", .str (side b), .str x]
 | .mk b m => .tup [.str (mkS b), .str m]
noncomputable def WD : List Str := ["a", "ab", "stay", "*"]
noncomputable def MK : List Str := ["a", "many"]
noncomputable def LOk : Lf → Prop
 | .stay => True
 | .step _ x => x ∈ WD
 | .mk _ m => m ∈ MK
theorem wd_ok {x : Str} (h : x ∈ WD) : okS x = true := by
 simp only [WD, List.mem_cons, List.not_mem_nil, or_false] at h
 rcases h with rfl | rfl | rfl | rfl <;> decide +kernel
theorem mk_ok {x : Str} (h : x ∈ MK) : okS x = true := by
 simp only [MK, List.mem_cons, List.not_mem_nil, or_false] at h
 rcases h with rfl | rfl <;> decide +kernel
noncomputable def texts (ss : List Str) : Prop := ss.length ≤ 50 ∧ ∀ x ∈ ss, okS x = true
section
variable {P : Program} {w : World} {K : PySem.W.Frag} {mg : Str → Option Value} {base : Heap}
noncomputable def spCell : AN := fun ds S Q => ∃ (ns : List Int) (k : Nat), ds = [.scr ns, .int k] ∧ ∀ z : Int, Q (.dat (.int z)) S
theorem d_Cell (T : Txt K mg) (F : Src K mg "_law_cell_at" PscCell sCell) : Def P w K mg base 1 "_law_cell_at" PscCell (conSp K spCell) := by
 refine defA F scCell (fun ds S Q h => ?_) (fun f cdv A outer s H E hr => ?_)
 ·obtain ⟨ns, k, rfl, _⟩ := h; rfl
 ·refine ⟨_, (M.pss_cons (M.ps_if (M.pt_cmpR M.o_lt (M.pv 1) (M.pcb M.o_len (by rfl) T.len (by decide +kernel) (M.pac (M.pv 0) M.pa_nil)) (nomark _))
    (M.pss_one (M.ps_ret (M.pe_ix M.o_ix (M.pv 0) (M.pv 1) (fun _ _ => rfl))))
    M.pss_nil)
   (M.pss_one (M.ps_ret M.pe_int))), fun ds S Q h => ?_⟩
  obtain ⟨ns, k, rfl, q⟩ := h
  have e0 : startA NscCell [.scr ns, .int k] = [some (.scr ns), some (.int k)] := rfl
  rw [e0]
  push_cast [true_and]
  refine ⟨ns.length, rfl, ite2 (fun h => ?_) (fun h => q _)⟩
  have h : k < ns.length := by have := of_decide_eq_true h; omega
  exact ⟨ns[k], atI_nat (List.getElem?_eq_getElem h), ret_pur rfl (q _)⟩
noncomputable def spWords : AN := fun ds S Q => ds = [] ∧ Q (.new (.lst [.str "a", .str "ab", .str "stay"])) S
theorem d_Words (T : Txt K mg) (F : Src K mg "_law_words" PscWords sWords) : Def P w K mg base 1 "_law_words" PscWords (conSp K spWords) := by
 refine defA F scWords (fun ds S Q h => ?_) (fun f cdv A outer s H E hr => ?_)
 ·obtain ⟨rfl, _⟩ := h; rfl
 ·refine ⟨_, (M.pss_one (M.ps_ret (M.pe_lst (M.pac M.pe_str (M.pac M.pe_str (M.pac M.pe_str M.pa_nil)))))), fun ds S Q h => ?_⟩
  obtain ⟨rfl, q⟩ := h
  have e0 : startA NscWords [] = [] := rfl
  rw [e0]
  push_cast [true_and]
  exact ⟨sz rfl, ret_new rfl q⟩
noncomputable def spMarks : AN := fun ds S Q => ds = [] ∧ Q (.new (.lst [.str "a", .str "many"])) S
theorem d_Marks (T : Txt K mg) (F : Src K mg "_law_marks" PscMarks sMarks) : Def P w K mg base 1 "_law_marks" PscMarks (conSp K spMarks) := by
 refine defA F scMarks (fun ds S Q h => ?_) (fun f cdv A outer s H E hr => ?_)
 ·obtain ⟨rfl, _⟩ := h; rfl
 ·refine ⟨_, (M.pss_one (M.ps_ret (M.pe_lst (M.pac M.pe_str (M.pac M.pe_str M.pa_nil))))), fun ds S Q h => ?_⟩
  obtain ⟨rfl, q⟩ := h
  have e0 : startA NscMarks [] = [] := rfl
  rw [e0]
  push_cast [true_and]
  exact ⟨sz rfl, ret_new rfl q⟩
noncomputable def spLLeaf : AN := fun ds S Q => ∃ (a b : Nat), ds = [.int a, .int b] ∧ a < 5 ∧ ∀ l : Lf, LOk l → Q (.dat (lD l)) S
theorem d_LLeaf (T : Txt K mg) (F : Src K mg "_law_leaf" PscLLeaf sLLeaf) (D_law_words : Def P w K mg base 1 "_law_words" PscWords (conSp K spWords)) (D_law_marks : Def P w K mg base 1 "_law_marks" PscMarks (conSp K spMarks)) : Def P w K mg base 2 "_law_leaf" PscLLeaf (conSp K spLLeaf) := by
 refine defA F scLLeaf (fun ds S Q h => ?_) (fun f cdv A outer s H E hr => ?_)
 ·obtain ⟨a, b, rfl, _⟩ := h; rfl
 ·refine ⟨_, (M.pss_cons (M.ps_if (M.pt_cmpR (M.o_eq hr) (M.pv 0) M.pe_int (nomark _))
    (M.pss_one (M.ps_ret (M.pe_tup (M.pac M.pe_str M.pa_nil))))
    M.pss_nil)
   (M.pss_cons (M.ps_if (M.pt_cmpR M.o_lt (M.pv 0) M.pe_int (nomark _))
    (M.pss_one (M.ps_ret (M.pe_tup (M.pac M.pe_str (M.pac (M.pe_ix M.o_ix (M.pe_lst (M.pac M.pe_str (M.pac M.pe_str M.pa_nil))) (M.pe_op M.o_mod (M.pv 1) M.pe_int) (fun _ _ => rfl)) (M.pac (M.pe_ix M.o_ix (M.pe_op M.o_add (M.pe_own0 D_law_words (hr.mono (by decide)) (by rfl)) (M.pe_lst (M.pac M.pe_str M.pa_nil))) (M.pe_op M.o_mod (M.pe_op M.o_fdiv (M.pv 1) M.pe_int) M.pe_int) (fun _ _ => rfl)) M.pa_nil))))))
    M.pss_nil)
   (M.pss_one (M.ps_ret (M.pe_tup (M.pac (M.pe_ix M.o_ix (M.pe_lst (M.pac M.pe_str (M.pac M.pe_str M.pa_nil))) (M.pe_op M.o_sub (M.pv 0) M.pe_int) (fun _ _ => rfl)) (M.pac (M.pe_ix M.o_ix (M.pe_own0 D_law_marks (hr.mono (by decide)) (by rfl)) (M.pe_op M.o_mod (M.pv 1) M.pe_int) (fun _ _ => rfl)) M.pa_nil))))))), fun ds S Q h => ?_⟩
  obtain ⟨a, b, rfl, ha, q⟩ := h
  have e0 : startA NscLLeaf [.int a, .int b] = [some (.int a), some (.int b)] := rfl
  rw [e0]
  push_cast [true_and]
  refine ite2 (fun h => ⟨sz rfl, ret_pur rfl (q .stay trivial)⟩) (fun h => ?_)
  have h0 : ¬ ((a : Int) = 0) := by simpa using h
  refine ite2 (fun h1 => ?_) (fun h1 => ?_)
  ·refine ⟨sz rfl, by decide, ?_⟩
   rw [show ((b : Int) % 2) = ((b % 2 : Nat) : Int) by omega, show ((b : Int) / 2 % 4) = ((b / 2 % 4 : Nat) : Int) by omega]
   refine pick (by show b % 2 < 2; omega) fun e he => ?_
   obtain ⟨c, rfl⟩ : ∃ c, e = .str (side c) := by
    simp only [List.mem_cons, List.not_mem_nil, or_false] at he
    rcases he with rfl | rfl
    ·exact ⟨true, rfl⟩
    ·exact ⟨false, rfl⟩
   refine ⟨rfl, sz rfl, sz rfl, ⟨by decide, by decide⟩, by decide, ?_⟩
   refine pick (by show b / 2 % 4 < 4; omega) fun e he => ?_
   obtain ⟨x, rfl, hx⟩ : ∃ x, e = .str x ∧ x ∈ WD := by
    simp only [List.cons_append, List.nil_append, List.mem_cons, List.not_mem_nil, or_false] at he
    rcases he with rfl | rfl | rfl | rfl <;> exact ⟨_, rfl, by simp [WD]⟩
   exact ⟨sz rfl, ret_pur rfl (q (.step c x) hx)⟩
  ·have h3 : ¬ ((a : Int) < 3) := by simpa using h1
   refine ⟨sz rfl, ?_⟩
   rw [show ((b : Int) % 2) = ((b % 2 : Nat) : Int) by omega, show ((a : Int) - 3) = ((a - 3 : Nat) : Int) by omega]
   refine pick (by show a - 3 < 2; omega) fun e he => ?_
   obtain ⟨c, rfl⟩ : ∃ c, e = .str (mkS c) := by
    simp only [List.mem_cons, List.not_mem_nil, or_false] at he
    rcases he with rfl | rfl
    ·exact ⟨true, rfl⟩
    ·exact ⟨false, rfl⟩
   refine ⟨rfl, by decide, ?_⟩
   refine pick (by show b % 2 < 2; omega) fun e he => ?_
   obtain ⟨x, rfl, hx⟩ : ∃ x, e = .str x ∧ x ∈ MK := by
    simp only [List.mem_cons, List.not_mem_nil, or_false] at he
    rcases he with rfl | rfl <;> exact ⟨_, rfl, by simp [MK]⟩
   exact ⟨sz rfl, ret_pur rfl (q (.mk c x) hx)⟩
noncomputable def nL (ns : List Nat) : List D := ns.map fun n : Nat => D.int n
theorem purs_nL : ∀ ns : List Nat, purs (nL ns) = true
 | [] => rfl
 | n :: ns => by
  have := purs_nL ns
  unfold nL at this ⊢
  simp only [List.map_cons, purs, pur, this, Bool.and_self]
theorem mul_int' {i j : Int} {S : Sto} {Q : AK} : aMul (.int i) (.int j) S Q = (CMul i j ∧ Q (.dat (.int (i * j))) S) := rfl
noncomputable def spDraws : AN := fun ds S Q => ∃ (z : Int) (ss : List Nat), ds = [.int z, .lst (nL ss)] ∧ (∀ n ∈ ss, 0 < n ∧ n < 1000) ∧ ss.length ≤ 100 ∧ ∀ ys : List Nat, ys.length = ss.length → (∀ (i : Nat) (a b : Nat), ys[i]? = some a → ss[i]? = some b → a < b) → Q (.new (.lst (nL ys))) S
theorem d_Draws (T : Txt K mg) (F : Src K mg "_law_draws" PscDraws sDraws) : Def P w K mg base 1 "_law_draws" PscDraws (conSp K spDraws) := by
 refine defA F scDraws (fun ds S Q h => ?_) (fun f cdv A outer s H E hr => ?_)
 ·obtain ⟨z, ss, rfl, _⟩ := h; rfl
 ·refine ⟨_, (M.pss_cons (M.ps_set (i := 2) scDraws.nd rfl (Or.inl rfl) (M.alo (M.pe_lst M.pa_nil)))
   (M.pss_cons (M.ps_set (i := 3) scDraws.nd rfl (Or.inl rfl) (M.pe_op M.o_sub (M.pv 0) (M.pe_op M.o_pow M.pe_int M.pe_int)))
   (M.pss_cons (M.ps_for PassesOwn.never rfl (M.pi_range1 (by rfl) T.range (M.pac (M.pcb M.o_len (by rfl) T.len (by decide +kernel) (M.pac (M.pv 1) M.pa_nil)) M.pa_nil)) (M.pg_name (i := 4) scDraws.nd rfl (Or.inl rfl))
    (M.pss_cons (M.ps_set (i := 5) scDraws.nd rfl (Or.inl rfl) (M.pe_op M.o_mod (M.pe_op M.o_mul (M.pe_op M.o_add (M.pe_op M.o_mod (M.pv 0) M.pe_int) M.pe_int) (M.pe_op M.o_add (M.pe_op M.o_mul (M.pv 4) (M.pv 4)) M.pe_int)) M.pe_int))
    (M.pss_cons (M.ps_set (i := 5) scDraws.nd rfl (Or.inl rfl) (M.pe_op M.o_mod (M.pe_op M.o_mul (M.pe_op M.o_add (M.pe_op M.o_add (M.pe_op M.o_mul (M.pv 5) (M.pv 5)) (M.pe_op M.o_mul M.pe_int (M.pv 4))) M.pe_int) M.pe_int) M.pe_int))
    (M.pss_cons (M.ps_if (M.pt_cmpR M.o_ge (M.pv 0) (M.pe_op M.o_pow M.pe_int M.pe_int) (nomark _))
     (M.pss_one (M.ps_set (i := 5) scDraws.nd rfl (Or.inl rfl) (M.pv 3)))
     M.pss_nil)
    (M.pss_cons (M.ps_expr (M.pe_bm PySem.F.plainAttrs_list PySem.F.slot_list_append PySem.F.type_list_append M.m_append (M.pv 2) (M.pac (M.pe_op M.o_mod (M.pv 5) (M.pe_ix M.o_ix (M.pv 1) (M.pv 4) (fun _ _ => rfl))) M.pa_nil)))
    (M.pss_one (M.ps_set (i := 3) scDraws.nd rfl (Or.inl rfl) (M.pe_op M.o_fdiv (M.pv 3) (M.pe_ix M.o_ix (M.pv 1) (M.pv 4) (fun _ _ => rfl))))))))))
   (M.pss_one (M.ps_ret (M.pv 2)))))), fun ds S Q h => ?_⟩
  obtain ⟨z, ss, rfl, hs, hl, q⟩ := h
  have e0 : startA NscDraws [.int z, .lst (nL ss)] = [some (.int z), some (.lst (nL ss)), none, none, none, none] := rfl
  rw [e0]
  push_cast [aAlloc, aLst, aNil, aFor, iRng]
  refine ⟨Nat.zero_le _, ⟨by decide, by decide, by decide⟩, ss.length, by simp [lenD, nL], by omega, by omega, ?_⟩
  refine loop_by (fun rest δ S' => ∃ (ys : List Nat) (fg : Int) (v4 v5 : Option D), δ = [some (.int z), some (.lst (nL ss)), some (.loc S.length), some (.int fg), v4, v5] ∧ S' = S ++ [some (.lst (nL ys))] ∧
    rest = ((List.range ss.length).drop ys.length).map (fun a : Nat => D.int a) ∧ ys.length ≤ ss.length ∧ ∀ (i a b : Nat), ys[i]? = some a → ss[i]? = some b → a < b) ?_ ?_ _ _ _ ⟨[], _, none, none, rfl, rfl, by simp [iRngD], Nat.zero_le _, fun i a b h => by simp at h⟩
  ·rintro δ S' ⟨ys, fg, v4, v5, rfl, rfl, hr, hle, hlt⟩
   have hlen : ys.length = ss.length := by
    have := congrArg List.length hr
    simp at this; omega
   refine ⟨trivial, _, rfl, ?_⟩
   exact ret_loc (n := S.length) (Nat.le_refl _) (purs_nL ys) (by simp) (by simp) (q ys hlen hlt)
  ·rintro t rest δ S' N' ⟨ys, fg, v4, v5, rfl, rfl, hr, hle, hlt⟩ hN'
   have hi : ys.length < ss.length := by
    rcases Nat.lt_or_ge ys.length ss.length with h | h
    ·exact h
    ·rw [List.drop_of_length_le (by simpa using h)] at hr; simp at hr
   rw [List.drop_eq_getElem_cons (by simpa using hi), List.map_cons, List.getElem_range] at hr
   injection hr with e1 e2
   subst e1; subst e2
   have hb : ss[ys.length]? = some ss[ys.length] := List.getElem?_eq_getElem hi
   obtain ⟨b0, b1⟩ := hs _ (List.getElem_mem hi)
   generalize ss[ys.length] = b at hb b0 b1
   have hat : atI (nL ss) ((ys.length : Nat) : Int) = some (.int (b : Int)) := atI_nat (by rw [nL, List.getElem?_map, hb]; rfl)
   have es : see (S ++ [some (.lst (nL ys))]) (.loc S.length) = .lst (nL ys) := by simp [see, MO.d]
   have fin : ∀ (mx : Int) (v5' : Option D), isTy "list" (see (S ++ [some (.lst (nL ys))]) (.loc S.length)) ∧ aIx (.lst (nL ss)) (.int ((ys.length : Nat) : Int)) (S ++ [some (.lst (nL ys))]) (fun y S2 => aI (fun x j => 0 < j) (fun i j => D.int (i % j)) (.int mx) y.d S2 fun x S1 => aAppend (.loc S.length) [x.d] S1 fun x S1 =>
     aIx (.lst (nL ss)) (.int ((ys.length : Nat) : Int)) S1 fun y S2 => aI CDiv (fun i j => D.int (i / j)) (.int fg) y.d S2 fun r S1 => N' [some (.int z), some (.lst (nL ss)), some (.loc S.length), some r.d, some (.int ((ys.length : Nat) : Int)), v5'] S1) := fun mx v5' => by
    rw [es]
    refine ⟨rfl, ?_⟩
    push_cast [ix_lst, hat, Option.some.injEq, exists_eq_left']
    have h0 := Int.emod_nonneg mx (show (b : Int) ≠ 0 by omega)
    have h1 := Int.emod_lt_of_pos mx (show (0 : Int) < b by omega)
    obtain ⟨c, hc⟩ : ∃ c : Nat, mx % (b : Int) = c := ⟨(mx % b).toNat, by omega⟩
    rw [hc] at h1 ⊢
    refine ⟨by omega, S.length, nL ys, _, rfl, rfl, by simp, by rw [nL, List.length_map, sizeLine_eq]; omega, ?_⟩
    rw [List.set_append_right _ _ (Nat.le_refl _), Nat.sub_self]
    push_cast [ix_lst, hat, Option.some.injEq, exists_eq_left']
    refine ⟨⟨by omega, by omega⟩, hN' _ _ ⟨ys ++ [c], _, _, _, rfl, by simp [nL], by rw [List.length_append]; rfl, by rw [List.length_append]; exact hi, fun i x y h2 h3 => ?_⟩⟩
    rcases Nat.lt_or_ge i ys.length with h | h
    ·rw [List.getElem?_append_left h] at h2; exact hlt i x y h2 h3
    ·rw [List.getElem?_append_right h] at h2
     obtain rfl : i = ys.length := by
      have := (List.getElem?_eq_some_iff.mp h2).1
      simp at this; omega
     rw [hb] at h3; cases h3
     simp at h2; omega
   refine ⟨trivial, ?_⟩
   push_cast [mul_int']
   have b0 := Int.emod_nonneg z (show (1000003 : Int) ≠ 0 by decide)
   have b1 := Int.emod_lt_of_pos z (show (0 : Int) < 1000003 by decide)
   refine ⟨by decide, .inl ⟨by omega, by omega⟩, .inl ⟨by omega, by omega⟩, by decide, ?_⟩
   generalize (z % 1000003 + 1) * ((ys.length : Int) * (ys.length : Int) + 48271) = u
   have c0 := Int.emod_nonneg u (show (65537 : Int) ≠ 0 by decide)
   have c1 := Int.emod_lt_of_pos u (show (0 : Int) < 65537 by decide)
   generalize u % 65537 = v at c0 c1 ⊢
   refine ⟨.inl ⟨by omega, by omega⟩, .inl ⟨by decide, by decide⟩, .inr ⟨by decide, by decide⟩, by decide, ⟨by decide, by decide, by decide⟩, ite2 (fun _ => ?_) (fun _ => ?_)⟩
   ·push_cast [aBM]
    exact fin _ _
   ·push_cast [aBM]
    exact fin _ _
end
open PySem L2 M M6
noncomputable abbrev sMach : Stmt := top 24
noncomputable abbrev NscMach : List Str := ["_law_cell", "_law_most", "_law_ds", "_law_many", "_law_ends", "_law_moves", "_law_j", "_law_one", "_law_way", "_law_number", "_law_other"]
noncomputable abbrev PscMach : List Str := ["_law_cell", "_law_most"]
theorem scMach : FnScope NscMach PscMach (defScope sMach) := ⟨rfl, rfl, rfl, by decide +kernel, rfl, by decide +kernel, by decide +kernel⟩
noncomputable abbrev Mv := Nat × Lf × Nat
noncomputable def vD (m : Mv) : D := .tup [.int m.1, lD m.2.1, .int m.2.2]
noncomputable def MOk (n : Nat) (m : Mv) : Prop := m.1 < n ∧ LOk m.2.1 ∧ m.2.2 < n
noncomputable def mD (n b : Nat) (es : List Nat) (mv : List Mv) : D := .tup [.int n, .int b, .tup (nL es), .tup (mv.map vD)]
theorem str_ok {x : Str} (h : okS x = true) : (PyData.str x).canLay0 = true := by
 have := th_fit (n := 0) (d := .str x) h (by decide)
 unfold fit PySem.SeqAt.shaped at this
 simp only [Bool.and_eq_true] at this
 exact this.2.1
theorem lf_ok {l : Lf} (h : LOk l) : okK (py (lD l)) = true ∧ (py (lD l)).depth ≤ 1 ∧ pur (lD l) = true := by
 cases l with
 | stay => exact ⟨by simp only [lD, py, pys, okK, okKs, Bool.and_true]; exact str_ok (by decide +kernel), by decide, rfl⟩
 | step b x =>
  refine ⟨?_, by simp [lD, py, pys, PyData.depth, PyData.depthAll], rfl⟩
  simp only [lD, py, pys, okK, okKs, Bool.and_true, Bool.and_eq_true]
  exact ⟨str_ok (by decide +kernel), str_ok (by cases b <;> decide +kernel), str_ok (wd_ok h)⟩
 | mk b m =>
  refine ⟨?_, by simp [lD, py, pys, PyData.depth, PyData.depthAll], rfl⟩
  simp only [lD, py, pys, okK, okKs, Bool.and_true, Bool.and_eq_true]
  exact ⟨str_ok (by cases b <;> decide +kernel), str_ok (mk_ok h)⟩
theorem mv_good {n : Nat} {m : Mv} (h : MOk n m) : GoodK (vD m) := by
 obtain ⟨h1, h2, h3⟩ := lf_ok h.2.1
 refine ⟨by simp only [vD, pur, purs, h3, Bool.and_self], ?_, ?_, _, rfl⟩
 ·simp only [vD, py, pys, okK, okKs, h1, Bool.and_self]
 ·simp only [vD, py, pys, PyData.depth, PyData.depthAll]
  omega
theorem lf_cmp (l k : Lf) : cmpK (py (lD l)) (py (lD k)) = true := by cases l <;> cases k <;> simp [lD, py, pys, cmpK, cmpKs]
theorem mv_cmp (m k : Mv) : cmpK (py (vD m)) (py (vD k)) = true := by simp only [vD, py, pys, cmpK, cmpKs, lf_cmp, Bool.and_self]
theorem mv_int (m : Mv) : ∃ p r, py (vD m) = PyData.tuple (.int p :: r) := ⟨_, _, rfl⟩
theorem purs_vD {n : Nat} : ∀ {mv : List Mv}, (∀ m ∈ mv, MOk n m) → purs (mv.map vD) = true
 | [], _ => rfl
 | m :: mv, h => by
  simp only [List.map_cons, purs, (mv_good (h m (by simp))).1, purs_vD fun k hk => h k (List.mem_cons_of_mem _ hk), Bool.and_self]
theorem pur_mD {n b : Nat} {es : List Nat} {mv : List Mv} (h : ∀ m ∈ mv, MOk n m) : pur (mD n b es mv) = true := by
 simp only [mD, pur, purs, purs_nL, purs_vD h, Bool.and_self]
theorem put_vD (mv : List Mv) (m : Mv) : ∃ mv', putN (mv.map vD) (vD m) = mv'.map vD ∧ (mv' = mv ∨ mv' = mv ++ [m]) := by
 unfold putN
 split
 ·exact ⟨mv, rfl, .inl rfl⟩
 ·exact ⟨mv ++ [m], by rw [List.map_append]; rfl, .inr rfl⟩
theorem sIx_nat {n a k : Nat} (h : k ≤ n) : HT.sIx n a (some (k : Int)) = k := by
 rw [HT.sIx_nat]; omega
noncomputable def SS : List Nat := [6, 6, 8, 18] ++ (List.replicate 6 (List.replicate 3 [6, 5, 16, 6]).flatten).flatten
theorem SS4 : ∀ j, j < 18 → SS[4 + 4 * j]? = some 6 ∧ SS[4 + 4 * j + 1]? = some 5 ∧ SS[4 + 4 * j + 2]? = some 16 ∧ SS[4 + 4 * j + 3]? = some 6 := by decide
theorem at_nL {ys : List Nat} {i a : Nat} (h : ys[i]? = some a) : atI (nL ys) (i : Int) = some (.int (a : Int)) := atI_nat (by rw [nL, List.getElem?_map, h]; rfl)
theorem drop4 {ys : List Nat} {i a b c d : Nat} (h1 : ys[i]? = some a) (h2 : ys[i + 1]? = some b) (h3 : ys[i + 2]? = some c) (h4 : ys[i + 3]? = some d) : cutD (nL ys) (some (i : Int)) (some ((i + 4 : Nat) : Int)) = nL [a, b, c, d] := by
 have hl : i + 3 < ys.length := (List.getElem?_eq_some_iff.mp h4).1
 have g : ∀ {j x : Nat}, ys[j]? = some x → ∀ h : j < ys.length, ys[j] = x := fun {j x} e h => by rw [List.getElem?_eq_getElem h] at e; simpa using e
 have e : (ys.drop i).take 4 = [a, b, c, d] := by
  rw [List.drop_eq_getElem_cons (by omega), List.drop_eq_getElem_cons (by omega), List.drop_eq_getElem_cons (by omega), List.drop_eq_getElem_cons (by omega)]
  simp only [List.take_succ_cons, List.take_zero, g h1, g h2, g h3, g h4]
 unfold cutD
 rw [sIx_nat (by simp [nL]; omega), sIx_nat (by simp [nL]; omega), show i + 4 - i = 4 by omega]
 unfold nL
 rw [← List.map_drop, ← List.map_take, e]
section
variable {P : Program} {w : World} {K : PySem.W.Frag} {mg : Str → Option Value} {base : Heap}
noncomputable def spMach : AN := fun ds S Q => ∃ z : Int, ds = [.int z, .int 6] ∧ ∀ (n b : Nat) (es : List Nat) (mv : List Mv), 1 ≤ n → n ≤ 6 → b < n → (∀ e ∈ es, e < n) → es.length ≤ 6 → (∀ m ∈ mv, MOk n m) → mv.length ≤ 17 → Q (.dat (mD n b es mv)) S
theorem d_Mach (T : Txt K mg) (F : Src K mg "_law_machine" PscMach sMach) (D_law_draws : Def P w K mg base 1 "_law_draws" PscDraws (conSp K spDraws)) (D_law_leaf : Def P w K mg base 2 "_law_leaf" PscLLeaf (conSp K spLLeaf)) : Def P w K mg base 3 "_law_machine" PscMach (conSp K spMach) := by
 refine defA F scMach (fun ds S Q h => ?_) (fun f cdv A outer s H E hr => ?_)
 ·obtain ⟨z, rfl, _⟩ := h; rfl
 ·refine ⟨_, (M.pss_cons (M.ps_set (i := 2) scMach.nd rfl (Or.inr rfl) (M.pe_own D_law_draws (hr.mono (by decide)) (by rfl) (M.pac (M.pv 0) (M.pac (M.pe_op M.o_add (M.pe_lst (M.pac (M.pv 1) (M.pac (M.pv 1) (M.pac M.pe_int (M.pac (M.pe_op M.o_mul M.pe_int (M.pv 1)) M.pa_nil))))) (M.pe_op M.o_mul (M.pe_op M.o_mul (M.pe_lst (M.pac (M.pv 1) (M.pac M.pe_int (M.pac M.pe_int (M.pac (M.pv 1) M.pa_nil))))) M.pe_int) (M.pv 1))) M.pa_nil))))
   (M.pss_cons (M.ps_set (i := 3) scMach.nd rfl (Or.inl rfl) (M.pe_op M.o_add M.pe_int (M.pe_ix M.o_ix (M.pv 2) M.pe_int (fun _ _ => rfl))))
   (M.pss_cons (M.ps_setComp (i := 4) scMach.nd rfl rfl (N := ["_law_stand", "_law_ds"]) (caps := [none, some 2]) (bs_mk (by decide +kernel)) (by rfl) (by rfl) rfl (M.pi_range1 (by rfl) T.range (M.pac (M.pv 3) M.pa_nil)) (fun _ _ _ _ => (M.pg_name (i := 0) (by decide +kernel : List.Nodup (["_law_stand", "_law_ds"] : List Str)) rfl (Or.inl rfl))) (fun _ _ _ _ => (M.pts_one (M.pt_cmpR (M.o_eq hr) (M.pe_op M.o_mod (M.pe_op M.o_fdiv (M.pe_ix M.o_ix (M.pv 1) M.pe_int (fun _ _ => rfl)) (M.pe_ix M.o_ix (M.pe_lst (M.pac M.pe_int (M.pac M.pe_int (M.pac M.pe_int M.pa_nil)))) (M.pe_op M.o_mod (M.pv 0) M.pe_int) (fun _ _ => rfl))) M.pe_int) M.pe_int (nomark _)))) (fun _ _ _ _ => (M.pv 0)))
   (M.pss_cons (M.ps_set (i := 5) scMach.nd rfl (Or.inl rfl) (M.alo M.pe_dnewN))
   (M.pss_cons (M.ps_for PassesOwn.never rfl (M.pi_range1 (by rfl) T.range (M.pac (M.pe_ix M.o_ix (M.pv 2) M.pe_int (fun _ _ => rfl)) M.pa_nil)) (M.pg_name (i := 6) scMach.nd rfl (Or.inl rfl))
    (M.pss_cons (M.ps_asg (M.pe_slice M.o_slc (M.pv 2) (M.po_some (M.pe_op M.o_add M.pe_int (M.pe_op M.o_mul M.pe_int (M.pv 6)))) (M.po_some (M.pe_op M.o_add M.pe_int (M.pe_op M.o_mul M.pe_int (M.pv 6))))) (M.pg_tupL (n := 4) rfl (M.pgs_cons (M.pg_name (i := 7) scMach.nd rfl (Or.inl rfl)) (M.pgs_cons (M.pg_name (i := 8) scMach.nd rfl (Or.inl rfl)) (M.pgs_cons (M.pg_name (i := 9) scMach.nd rfl (Or.inl rfl)) (M.pgs_cons (M.pg_name (i := 10) scMach.nd rfl (Or.inl rfl)) M.pgs_nil))))))
    (M.pss_one (M.ps_nput hr (M.pv 5) (M.pe_tup (M.pac (M.pe_op M.o_mod (M.pv 7) (M.pv 3)) (M.pac (M.pe_own D_law_leaf (hr.mono (by decide)) (by rfl) (M.pac (M.pv 8) (M.pac (M.pv 9) M.pa_nil))) (M.pac (M.pe_op M.o_mod (M.pv 10) (M.pv 3)) M.pa_nil)))) M.pe_bl rfl))))
   (M.pss_one (M.ps_ret (M.pe_tup (M.pac (M.pv 3) (M.pac (M.pe_op M.o_mod (M.pe_ix M.o_ix (M.pv 2) M.pe_int (fun _ _ => rfl)) (M.pv 3)) (M.pac (M.pct M.o_tupleOf (by rfl) T.tuple (by decide +kernel) (M.pac (M.pv 4) M.pa_nil)) (M.pac (M.pct M.o_tupleOf (by rfl) T.tuple (by decide +kernel) (M.pac (M.pcb (M.o_sortN hr) (by rfl) T.sorted (by decide +kernel) (M.pac (M.pv 5) M.pa_nil)) M.pa_nil)) M.pa_nil)))))))))))), fun ds S Q h => ?_⟩
  obtain ⟨z, rfl, q⟩ := h
  have e0 : startA NscMach [.int z, .int 6] = [some (.int z), some (.int 6), none, none, none, none, none, none, none, none, none] := rfl
  rw [e0]
  push_cast [aLst, aNil]
  rw [mul_int']
  refine ⟨.inl ⟨by decide, by decide⟩, sz rfl, sz rfl, ?_⟩
  refine ⟨⟨by decide, by decide⟩, sz rfl, ⟨by decide, by decide⟩, sz rfl, sz rfl, z, SS, rfl, by decide, by decide, fun ys hl hlt => ?_⟩
  have get : ∀ (i b : Nat), SS[i]? = some b → ∃ a, ys[i]? = some a ∧ a < b := fun i b h => by
   have hi : i < ys.length := by rw [hl]; exact (List.getElem?_eq_some_iff.mp h).1
   exact ⟨ys[i], List.getElem?_eq_getElem hi, hlt i _ b (List.getElem?_eq_getElem hi) h⟩
  obtain ⟨y0, g0, l0⟩ := get 0 6 rfl
  obtain ⟨y1, g1, l1⟩ := get 1 6 rfl
  obtain ⟨y2, g2, l2⟩ := get 2 8 rfl
  obtain ⟨y3, g3, l3⟩ := get 3 18 rfl
  have a0 : atI (nL ys) (0 : Int) = some (.int (y0 : Int)) := at_nL g0
  have a1 : atI (nL ys) (1 : Int) = some (.int (y1 : Int)) := at_nL g1
  have a2 : atI (nL ys) (2 : Int) = some (.int (y2 : Int)) := at_nL g2
  have a3 : atI (nL ys) (3 : Int) = some (.int (y3 : Int)) := at_nL g3
  refine ⟨_, a0, ?_⟩
  push_cast [true_and]
  rw [show (1 : Int) + (y0 : Int) = ((1 + y0 : Nat) : Int) by omega]
  obtain ⟨n, hn⟩ : ∃ n, n = 1 + y0 := ⟨_, rfl⟩
  rw [← hn]
  have n1 : 1 ≤ n := by omega
  have n6 : n ≤ 6 := by omega
  generalize (cxOf CX0 P w K mg base NscMach "_law_machine" (defScope sMach) f cdv A outer s H E).w = W
  push_cast [aComp, iRng]
  refine ⟨by omega, by omega, ?_⟩
  refine comp_by (fun rest acc δ S' => ∃ (es : List Nat) (v : Option D), acc = nL es ∧ (∀ e ∈ es, e < n) ∧ (∀ x ∈ rest, ∃ k : Nat, k < n ∧ x = .int k) ∧ es.length + rest.length ≤ n ∧ S' = S ∧ δ = [v, some (.lst (nL ys))]) ?_ ?_ _ [] _ _ ⟨[], none, rfl, by simp, fun x hx => ?_, by simp [iRngD], rfl, rfl⟩
  ·rintro acc δ S' ⟨es, v, rfl, he, _, hel, rfl, rfl⟩
   refine ⟨trivial, ?_⟩
   push_cast [aAlloc, aDNewN, aFor, iRng]
   refine ⟨_, a3, ?_⟩
   push_cast [true_and]
   refine ⟨by omega, by omega, ?_⟩
   refine loop_by (fun rest δ S'' => ∃ (mv : List Mv) (v6 v7 v8 v9 v10 : Option D), S'' = S' ++ [some (nO W (mv.map vD))] ∧ (∀ m ∈ mv, MOk n m) ∧ (∀ x ∈ rest, ∃ k : Nat, k < 18 ∧ x = .int k) ∧ mv.length + rest.length ≤ 17 ∧
     δ = [some (.int z), some (.int 6), some (.lst (nL ys)), some (.int n), some (.lst (nL es)), some (.loc S'.length), v6, v7, v8, v9, v10]) ?_ ?_ _ _ _ ⟨[], none, none, none, none, none, rfl, by simp, fun x hx => ?_, by simp [iRngD]; omega, rfl⟩
   ·rintro δ S'' ⟨mv, v6, v7, v8, v9, v10, rfl, hmv, _, hml, rfl⟩
    refine ⟨trivial, ?_⟩
    push_cast [ix_lst, a1, Option.some.injEq, exists_eq_left', aTupleOf]
    rw [show ((y1 : Int) % (n : Int)) = ((y1 % n : Nat) : Int) by simp]
    refine ⟨by omega, S'.length, mv.map vD, rfl, by simp, fun k hk => ?_, fun k hk l hl => ?_, by rw [List.length_map]; omega, fun ks' hp => ?_⟩
    ·obtain ⟨m, hm, rfl⟩ := List.mem_map.mp hk
     exact ⟨mv_good (hmv m hm), mv_int m⟩
    ·obtain ⟨m, hm, rfl⟩ := List.mem_map.mp hk
     obtain ⟨m', hm', rfl⟩ := List.mem_map.mp hl
     exact mv_cmp m m'
    ·obtain ⟨mv', p1, rfl⟩ := perm_inv hp
     have hmv' : ∀ m ∈ mv', MOk n m := fun m hm => hmv m (p1.mem_iff.mp hm)
     push_cast [true_and]
     refine ⟨sz rfl, ⟨_, out_dat (pur_mD (es := es) (b := y1 % n) hmv'), fun k o hk e => .inl ?_, ?_⟩⟩
     ·rw [List.getElem?_append_left hk] at e; exact e
     ·rw [List.take_left]
      exact q n (y1 % n) es mv' n1 n6 (Nat.mod_lt _ (by omega)) he (by have : es.length + 0 ≤ n := hel; omega) hmv' (by have := p1.length_eq; omega)
   ·rintro x rest δ S'' N' ⟨mv, v6, v7, v8, v9, v10, rfl, hmv, hx, hml, rfl⟩ hN'
    obtain ⟨j, hj, rfl⟩ := hx x (by simp)
    obtain ⟨s1, s2, s3, s4⟩ := SS4 j hj
    obtain ⟨b1, f1, m1⟩ := get _ _ s1
    obtain ⟨b2, f2, m2⟩ := get _ _ s2
    obtain ⟨b3, f3, m3⟩ := get _ _ s3
    obtain ⟨b4, f4, m4⟩ := get _ _ s4
    refine ⟨trivial, ?_⟩
    push_cast [mul_int']
    refine ⟨.inl ⟨by decide, by decide⟩, .inl ⟨by decide, by decide⟩, ?_⟩
    rw [show (4 : Int) + 4 * (j : Int) = ((4 + 4 * j : Nat) : Int) by omega, show (8 : Int) + 4 * (j : Int) = ((4 + 4 * j + 4 : Nat) : Int) by omega]
    unfold aSlc
    rw [see_lst']
    dsimp only
    rw [drop4 f1 f2 f3 f4]
    refine ⟨nL [b1, b2, b3, b4], rfl, rfl, _, _, rfl, _, _, rfl, _, _, rfl, _, _, rfl, rfl, ?_⟩
    push_cast [aNPut]
    refine ⟨by omega, b2, b3, rfl, m2, fun l hlf => ?_⟩
    push_cast [true_and]
    rw [show ((b1 : Int) % (n : Int)) = ((b1 % n : Nat) : Int) by simp, show ((b4 : Int) % (n : Int)) = ((b4 % n : Nat) : Int) by simp]
    have ok : MOk n (b1 % n, l, b4 % n) := ⟨Nat.mod_lt _ (by omega), hlf, Nat.mod_lt _ (by omega)⟩
    refine ⟨by omega, sz rfl, S'.length, rfl, mv.map vD, by simp, mv_good ok, fun k hk => ?_, by rw [List.length_map]; omega, ?_⟩
    ·obtain ⟨m, hm, rfl⟩ := List.mem_map.mp hk
     exact mv_good (hmv m hm)
    ·obtain ⟨mv', e1, e2⟩ := put_vD mv (b1 % n, l, b4 % n)
     have e1 : putN (mv.map vD) (.tup [.int ((b1 % n : Nat) : Int), lD l, .int ((b4 % n : Nat) : Int)]) = mv'.map vD := e1
     rw [e1, List.set_append_right _ _ (Nat.le_refl _), Nat.sub_self]
     refine hN' _ _ ⟨mv', _, _, _, _, _, rfl, fun m hm => ?_, fun x hx' => hx x (List.mem_cons_of_mem _ hx'), ?_, rfl⟩
     ·rcases e2 with rfl | rfl
      ·exact hmv m hm
      ·rcases List.mem_append.mp hm with hm | hm
       ·exact hmv m hm
       ·rw [List.mem_singleton.mp hm]; exact ok
     ·simp only [List.length_cons] at hml
      rcases e2 with rfl | rfl
      ·omega
      ·rw [List.length_append]; show mv.length + 1 + _ ≤ _; omega
   ·simp only [iRngD, List.mem_map, List.mem_range] at hx
    obtain ⟨a, ha, rfl⟩ := hx
    exact ⟨a, by omega, by simp⟩
  ·rintro x rest acc δ S' N' ⟨es, v, rfl, he, hx, hel, rfl, rfl⟩ hN'
   obtain ⟨j, hj, rfl⟩ := hx x (by simp)
   refine ⟨trivial, ?_⟩
   push_cast [ix_lst, a2, Option.some.injEq, exists_eq_left', aLst]
   rw [show ((j : Int) % 3) = ((j % 3 : Nat) : Int) by omega]
   obtain ⟨e, ea, em⟩ := at_lt (ds := [D.int 1, D.int 2, D.int 4]) (z := j % 3) (by show j % 3 < 3; omega)
   refine ⟨sz rfl, by decide, e, ea, ?_⟩
   obtain ⟨c, rfl, c0, c1⟩ : ∃ c : Int, e = .int c ∧ 0 < c ∧ c < 10 := by
    simp only [List.mem_cons, List.not_mem_nil, or_false] at em
    rcases em with rfl | rfl | rfl <;> exact ⟨_, rfl, by decide, by decide⟩
   push_cast [true_and]
   simp only [List.length_cons] at hel
   refine ⟨⟨c0, by omega⟩, by decide, ite2 (fun _ => ⟨?_, hN' _ _ _ ⟨es ++ [j], _, by simp [nL], fun e he' => ?_, fun x hx' => hx x (List.mem_cons_of_mem _ hx'), by rw [List.length_append]; show es.length + 1 + _ ≤ _; omega, rfl, rfl⟩⟩) (fun _ => hN' _ _ _ ⟨es, _, rfl, he, fun x hx' => hx x (List.mem_cons_of_mem _ hx'), by omega, rfl, rfl⟩)⟩
   ·rw [nL, List.length_map, sizeLine_eq]; omega
   ·rcases List.mem_append.mp he' with he' | he'
    ·exact he e he'
    ·rw [List.mem_singleton.mp he']; exact hj
  ·simp only [iRngD, List.mem_map, List.mem_range] at hx
   obtain ⟨a, ha, rfl⟩ := hx
   exact ⟨a, by omega, by simp⟩
end
open PySem L2 M M6
noncomputable abbrev sWhole : Stmt := top 1
noncomputable abbrev NscWhole : List Str := ["thing"]
noncomputable abbrev PscWhole : List Str := ["thing"]
theorem scWhole : FnScope NscWhole PscWhole (defScope sWhole) := ⟨rfl, rfl, rfl, by decide +kernel, rfl, by decide +kernel, by decide +kernel⟩
noncomputable abbrev sStand : Stmt := top 13
noncomputable abbrev NscStand : List Str := ["many", "thing"]
noncomputable abbrev PscStand : List Str := ["many", "thing"]
theorem scStand : FnScope NscStand PscStand (defScope sStand) := ⟨rfl, rfl, rfl, by decide +kernel, rfl, by decide +kernel, by decide +kernel⟩
noncomputable abbrev sMove : Stmt := top 16
noncomputable abbrev NscMove : List Str := ["many", "thing"]
noncomputable abbrev PscMove : List Str := ["many", "thing"]
theorem scMove : FnScope NscMove PscMove (defScope sMove) := ⟨rfl, rfl, rfl, by decide +kernel, rfl, by decide +kernel, by decide +kernel⟩
noncomputable abbrev sLStand : Stmt := top 26
noncomputable abbrev NscLStand : List Str := ["_law_thing", "_law_many"]
noncomputable abbrev PscLStand : List Str := ["_law_thing", "_law_many"]
theorem scLStand : FnScope NscLStand PscLStand (defScope sLStand) := ⟨rfl, rfl, rfl, by decide +kernel, rfl, by decide +kernel, by decide +kernel⟩
noncomputable def isWh : D → Bool
 | .int _ => true
 | _ => false
noncomputable def isSt (n : Int) : D → Bool
 | .int i => decide (0 ≤ i) && decide (i < n)
 | _ => false
noncomputable def isMv (n : Int) : D → Bool
 | .tup [a, l, b] => isSt n a && (isLeaf l && isSt n b)
 | _ => false
theorem isi_int {S : Sto} {x : D} (h : pur x = true) : isiD (see S x) "int" = some (match x with | .int _ => true | .bl _ => true | _ => false) ∧ isiD (see S x) "bool" = some (match x with | .bl _ => true | _ => false) := by
 rw [see_pur h]
 cases x <;> first | (simp [pur] at h; done) | exact ⟨rfl, rfl⟩
theorem st_fin {n i : Int} {S : Sto} {Q : AK} (q : Q (.dat (.bl (isSt n (.int i)))) S) : if decide (0 ≤ i) = true then Q (.dat (.bl (decide (i < n)))) S else Q (.dat (.bl false)) S := by
 have q : Q (.dat (.bl (decide (0 ≤ i) && decide (i < n)))) S := q
 by_cases h : decide (0 ≤ i) = true
 ·rw [if_pos h]; rw [h, Bool.true_and] at q; exact q
 ·rw [if_neg h]; rw [Bool.eq_false_iff.mpr h] at q; exact q
section
variable {P : Program} {w : World} {K : PySem.W.Frag} {mg : Str → Option Value} {base : Heap}
noncomputable def spWhole : AN := fun ds S Q => ∃ x, ds = [x] ∧ pur x = true ∧ Q (.dat (.bl (isWh x))) S
theorem d_Whole (T : Txt K mg) (F : Src K mg "is_whole" PscWhole sWhole) : Def P w K mg base 1 "is_whole" PscWhole (conSp K spWhole) := by
 refine defA F scWhole (fun ds S Q h => ?_) (fun f cdv A outer s H E hr => ?_)
 ·obtain ⟨x, rfl, _⟩ := h; rfl
 ·refine ⟨_, (M.pss_one (M.ps_ret (M.pe_and (M.pcb M.o_isi (by rfl) T.isinstance (by decide +kernel) (M.pac (M.pv 0) (M.pac (M.pe_ty "int" (by rfl) T.int (by decide +kernel)) M.pa_nil))) (M.pe_one (M.pe_not (M.pcb M.o_isi (by rfl) T.isinstance (by decide +kernel) (M.pac (M.pv 0) (M.pac (M.pe_ty "bool" (by rfl) T.bool (by decide +kernel)) M.pa_nil)))))))), fun ds S Q h => ?_⟩
  obtain ⟨x, rfl, hp, q⟩ := h
  have e0 : startA NscWhole [x] = [some x] := rfl
  rw [e0]
  push_cast [true_and]
  rw [(isi_int hp).1, (isi_int hp).2]
  refine ⟨_, rfl, ?_⟩
  cases x <;> first | (simp [pur] at hp; done) | exact q | exact ⟨_, rfl, q⟩
noncomputable def spStand : AN := fun ds S Q => ∃ (n : Int) (x : D), ds = [.int n, x] ∧ pur x = true ∧ Q (.dat (.bl (isSt n x))) S
theorem d_Stand (T : Txt K mg) (F : Src K mg "is_stand" PscStand sStand) (D_is_whole : Def P w K mg base 1 "is_whole" PscWhole (conSp K spWhole)) : Def P w K mg base 2 "is_stand" PscStand (conSp K spStand) := by
 refine defA F scStand (fun ds S Q h => ?_) (fun f cdv A outer s H E hr => ?_)
 ·obtain ⟨n, x, rfl, _⟩ := h; rfl
 ·refine ⟨_, (M.pss_one (M.ps_ret (M.pe_and (M.pe_own D_is_whole (hr.mono (by decide)) (by rfl) (M.pac (M.pv 1) M.pa_nil)) (M.pe_one (M.pe_chain M.o_le M.o_lt M.pe_int (M.pv 1) (M.pv 0)))))), fun ds S Q h => ?_⟩
  obtain ⟨n, x, rfl, hp, q⟩ := h
  have e0 : startA NscStand [.int n, x] = [some (.int n), some x] := rfl
  rw [e0]
  push_cast [true_and]
  refine ⟨x, rfl, hp, _, rfl, ?_⟩
  by_cases hw : isWh x = true
  ·rw [if_pos hw]
   cases x <;> first | (cases hw; done) | skip
   rename_i i
   push_cast [true_and]
   exact st_fin q
  ·rw [if_neg hw]
   have e : isSt n x = false := by cases x <;> first | rfl | exact absurd rfl hw
   rw [e] at q
   exact ret_pur rfl q
noncomputable def spLStand : AN := fun ds S Q => ∃ (n : Int) (x : D), ds = [x, .int n] ∧ pur x = true ∧ Q (.dat (.bl (isSt n x))) S
theorem d_LStand (T : Txt K mg) (F : Src K mg "_law_is_stand" PscLStand sLStand) : Def P w K mg base 1 "_law_is_stand" PscLStand (conSp K spLStand) := by
 refine defA F scLStand (fun ds S Q h => ?_) (fun f cdv A outer s H E hr => ?_)
 ·obtain ⟨n, x, rfl, _⟩ := h; rfl
 ·refine ⟨_, (M.pss_one (M.ps_ret (M.pe_and (M.pcb M.o_isi (by rfl) T.isinstance (by decide +kernel) (M.pac (M.pv 0) (M.pac (M.pe_ty "int" (by rfl) T.int (by decide +kernel)) M.pa_nil))) (M.pe_and (M.pe_not (M.pcb M.o_isi (by rfl) T.isinstance (by decide +kernel) (M.pac (M.pv 0) (M.pac (M.pe_ty "bool" (by rfl) T.bool (by decide +kernel)) M.pa_nil)))) (M.pe_one (M.pe_chain M.o_le M.o_lt M.pe_int (M.pv 0) (M.pv 1))))))), fun ds S Q h => ?_⟩
  obtain ⟨n, x, rfl, hp, q⟩ := h
  have e0 : startA NscLStand [x, .int n] = [some x, some (.int n)] := rfl
  rw [e0]
  push_cast [true_and]
  rw [(isi_int hp).1, (isi_int hp).2]
  refine ⟨_, rfl, ?_⟩
  cases x <;> first | (simp [pur] at hp; done) | exact q | skip
  ·exact ⟨_, rfl, q⟩
  ·rename_i i
   refine ⟨_, rfl, ?_⟩
   push_cast [true_and]
   exact st_fin q
noncomputable def spMove : AN := fun ds S Q => ∃ (n : Int) (x : D), ds = [.int n, x] ∧ thB 62 x = true ∧ Q (.dat (.bl (isMv n x))) S
theorem d_Move (T : Txt K mg) (F : Src K mg "is_move" PscMove sMove) (D_is_row : Def P w K mg base 1 "is_row" PscRow (conSp K spRow)) (D_is_stand : Def P w K mg base 2 "is_stand" PscStand (conSp K spStand)) (D_is_leaf : Def P w K mg base 3 "is_leaf" PscLeaf (conSp K spLeaf)) : Def P w K mg base 4 "is_move" PscMove (conSp K spMove) := by
 refine defA F scMove (fun ds S Q h => ?_) (fun f cdv A outer s H E hr => ?_)
 ·obtain ⟨n, x, rfl, _⟩ := h; rfl
 ·refine ⟨_, (M.pss_one (M.ps_ret (M.pe_and (M.pe_own D_is_row (hr.mono (by decide)) (by rfl) (M.pac (M.pv 1) (M.pac M.pe_int M.pa_nil))) (M.pe_and (M.pe_own D_is_stand (hr.mono (by decide)) (by rfl) (M.pac (M.pv 0) (M.pac (M.pe_ix M.o_ix (M.pv 1) M.pe_int (fun _ _ => rfl)) M.pa_nil))) (M.pe_and (M.pe_own D_is_leaf (hr.mono (by decide)) (by rfl) (M.pac (M.pe_ix M.o_ix (M.pv 1) M.pe_int (fun _ _ => rfl)) M.pa_nil)) (M.pe_one (M.pe_own D_is_stand (hr.mono (by decide)) (by rfl) (M.pac (M.pv 0) (M.pac (M.pe_ix M.o_ix (M.pv 1) M.pe_int (fun _ _ => rfl)) M.pa_nil))))))))), fun ds S Q h => ?_⟩
  obtain ⟨n, x, rfl, hp, q⟩ := h
  have e0 : startA NscMove [.int n, x] = [some (.int n), some x] := rfl
  rw [e0]
  push_cast [true_and]
  refine ⟨x, 3, rfl, th_pur hp, _, rfl, ?_⟩
  by_cases hw : isRow x 3 = true
  ·rw [if_pos hw]
   obtain ⟨a, l, b, rfl⟩ : ∃ a l b, x = .tup [a, l, b] := by
    cases x <;> first | (cases hw; done) | skip
    rename_i es
    have h : (es.length : Int) = 3 := of_decide_eq_true hw
    match es, h with
    | [a, l, b], _ => exact ⟨a, l, b, rfl⟩
    | [], h => simp at h
    | [_], h => simp at h
    | [_, _], h => simp at h
    | _ :: _ :: _ :: _ :: _, h => simp at h; omega
   have ha : thB 61 a = true := th_item hp (by simp)
   have hl : thB 61 l = true := th_item hp (by simp)
   have hb : thB 61 b = true := th_item hp (by simp)
   push_cast [ix_tup, at0, at1, at2]
   refine ⟨n, a, rfl, th_pur ha, _, rfl, ?_⟩
   have q : Q (.dat (.bl (isSt n a && (isLeaf l && isSt n b)))) S := q
   by_cases h1 : isSt n a = true
   ·rw [if_pos h1]
    rw [h1, Bool.true_and] at q
    refine ⟨l, rfl, hl, _, rfl, ?_⟩
    by_cases h2 : isLeaf l = true
    ·rw [if_pos h2]
     rw [h2, Bool.true_and] at q
     exact ⟨n, b, rfl, th_pur hb, ret_pur rfl q⟩
    ·rw [if_neg h2]
     rw [Bool.eq_false_iff.mpr h2] at q
     exact ret_pur rfl q
   ·rw [if_neg h1]
    rw [Bool.eq_false_iff.mpr h1] at q
    exact ret_pur rfl q
  ·rw [if_neg hw]
   have e : isMv n x = false := by
    cases x <;> first | rfl | skip
    rename_i es
    match es with
    | [a, l, b] => exact absurd rfl hw
    | [] => rfl
    | [_] => rfl
    | [_, _] => rfl
    | _ :: _ :: _ :: _ :: _ => rfl
   rw [e] at q
   exact ret_pur rfl q
end
open PySem L2 M M6
noncomputable abbrev sOddL : Stmt := top 29
noncomputable abbrev NscOddL : List Str := ["_law_number", "_law_odd"]
noncomputable abbrev PscOddL : List Str := ["_law_number"]
theorem scOddL : FnScope NscOddL PscOddL (defScope sOddL) := ⟨rfl, rfl, rfl, by decide +kernel, rfl, by decide +kernel, by decide +kernel⟩
noncomputable abbrev sOddS : Stmt := top 30
noncomputable abbrev NscOddS : List Str := ["_law_number", "_law_many"]
noncomputable abbrev PscOddS : List Str := ["_law_number", "_law_many"]
theorem scOddS : FnScope NscOddS PscOddS (defScope sOddS) := ⟨rfl, rfl, rfl, by decide +kernel, rfl, by decide +kernel, by decide +kernel⟩
theorem pickS {y : D} {ds : List D} {z : Nat} {S : Sto} {Q : AK} (e : see S y = .lst ds) (h : z < ds.length) (k : ∀ e ∈ ds, Q (.dat e) S) : aIx y (.int (z : Int)) S Q := by
 obtain ⟨d, h1, h2⟩ := at_lt h
 unfold aIx
 rw [e]
 exact ⟨d, h1, k d h2⟩
section
variable {P : Program} {w : World} {K : PySem.W.Frag} {mg : Str → Option Value} {base : Heap}
noncomputable def spOddS : AN := fun ds S Q => ∃ (k : Nat) (n : Int), ds = [.int k, .int n] ∧ ∀ x, thB 1 x = true → Q (.dat x) S
theorem d_OddS (T : Txt K mg) (F : Src K mg "_law_odd_stand" PscOddS sOddS) : Def P w K mg base 1 "_law_odd_stand" PscOddS (conSp K spOddS) := by
 refine defA F scOddS (fun ds S Q h => ?_) (fun f cdv A outer s H E hr => ?_)
 ·obtain ⟨k, n, rfl, _⟩ := h; rfl
 ·refine ⟨_, (M.pss_one (M.ps_ret (M.pe_ix M.o_ix (M.pe_lst (M.pac (M.pv 1) (M.pac (M.pe_un M.o_neg M.pe_int) (M.pac M.pe_bl (M.pac M.pe_str (M.pac M.pe_non (M.pac (M.pe_op M.o_pow M.pe_int M.pe_int) (M.pac (M.pe_op M.o_sub M.pe_int (M.pe_op M.o_pow M.pe_int M.pe_int)) (M.pac (M.pe_tup (M.pac M.pe_int M.pa_nil)) (M.pac M.pe_bl M.pa_nil)))))))))) (M.pe_op M.o_mod (M.pv 0) M.pe_int) (fun _ _ => rfl)))), fun ds S Q h => ?_⟩
  obtain ⟨k, n, rfl, q⟩ := h
  have e0 : startA NscOddS [.int k, .int n] = [some (.int k), some (.int n)] := rfl
  rw [e0]
  push_cast [true_and]
  refine ⟨⟨by decide, by decide, by decide⟩, ⟨by decide, by decide, by decide⟩, sz rfl, sz rfl, by decide, ?_⟩
  rw [show ((k : Int) % 9) = ((k % 9 : Nat) : Int) by omega]
  refine pick (by show k % 9 < 9; omega) fun e he => ?_
  have ht : thB 1 e = true := by
   simp only [List.mem_cons, List.not_mem_nil, or_false] at he
   rcases he with rfl | rfl | rfl | rfl | rfl | rfl | rfl | rfl | rfl <;> first | rfl | decide +kernel
  exact ret_pur (th_pur ht) (q e ht)
noncomputable def spOddL : AN := fun ds S Q => ∃ (k : Nat), ds = [.int k] ∧ ∀ x, thB 2 x = true → Q (.dat x) S
theorem d_OddL (T : Txt K mg) (F : Src K mg "_law_odd_leaf" PscOddL sOddL) : Def P w K mg base 1 "_law_odd_leaf" PscOddL (conSp K spOddL) := by
 refine defA F scOddL (fun ds S Q h => ?_) (fun f cdv A outer s H E hr => ?_)
 ·obtain ⟨k, rfl, _⟩ := h; rfl
 ·refine ⟨_, (M.pss_cons (M.ps_set (i := 1) scOddL.nd rfl (Or.inl rfl) (M.alo (M.pe_lst (M.pac (M.pe_tup (M.pac M.pe_str (M.pac M.pe_str M.pa_nil))) (M.pac (M.pe_tup M.pa_nil) (M.pac M.pe_str (M.pac (M.pe_lst (M.pac M.pe_str M.pa_nil)) (M.pac (M.pe_tup (M.pac M.pe_str (M.pac M.pe_str (M.pac M.pe_str M.pa_nil)))) (M.pac (M.pe_tup (M.pac M.pe_str (M.pac M.pe_str M.pa_nil))) M.pa_nil)))))))))
   (M.pss_cons (M.ps_expr (M.pe_bm PySem.F.plainAttrs_list PySem.F.slot_list_extend PySem.F.type_list_extend M.m_extend (M.pv 1) (M.pac (M.pe_lst (M.pac (M.pe_tup (M.pac M.pe_str (M.pac M.pe_str (M.pac M.pe_str M.pa_nil)))) (M.pac (M.pe_tup (M.pac M.pe_str (M.pac M.pe_str M.pa_nil))) (M.pac M.pe_non M.pa_nil)))) M.pa_nil)))
   (M.pss_cons (M.ps_expr (M.pe_bm PySem.F.plainAttrs_list PySem.F.slot_list_extend PySem.F.type_list_extend M.m_extend (M.pv 1) (M.pac (M.pe_lst (M.pac (M.pe_tup (M.pac M.pe_str (M.pac M.pe_str (M.pac M.pe_str M.pa_nil)))) (M.pac (M.pe_tup (M.pac M.pe_str (M.pac M.pe_str M.pa_nil))) (M.pac (M.pe_tup (M.pac M.pe_str M.pa_nil)) (M.pac (M.pe_tup (M.pac M.pe_str (M.pac (M.pe_tup M.pa_nil) M.pa_nil))) (M.pac (M.pe_tup (M.pac M.pe_str (M.pac (M.pe_tup (M.pac M.pe_str M.pa_nil)) M.pa_nil))) M.pa_nil)))))) M.pa_nil)))
   (M.pss_cons (M.ps_expr (M.pe_bm PySem.F.plainAttrs_list PySem.F.slot_list_append PySem.F.type_list_append M.m_append (M.pv 1) (M.pac (M.pe_tup (M.pac M.pe_str (M.pac M.pe_str M.pa_nil))) M.pa_nil)))
   (M.pss_one (M.ps_ret (M.pe_ix M.o_ix (M.pv 1) (M.pe_op M.o_mod (M.pv 0) M.pe_int) (fun _ _ => rfl)))))))), fun ds S Q h => ?_⟩
  obtain ⟨k, rfl, q⟩ := h
  have e0 : startA NscOddL [.int k] = [some (.int k), none] := rfl
  rw [e0]
  push_cast [aAlloc, aBM]
  have at1' : ∀ a : MO, (S ++ [some a])[S.length]? = some (some a) := fun a => by simp
  have set1 : ∀ a c : MO, (S ++ [some a]).set S.length (some c) = S ++ [some c] := fun a c => by rw [List.set_append_right _ _ (Nat.le_refl _)]; simp
  have see1 : ∀ ds : List D, see (S ++ [some (.lst ds)]) (.loc S.length) = .lst ds := fun a => by simp only [see, at1']; rfl
  refine ⟨sz rfl, sz rfl, sz rfl, sz rfl, sz rfl, sz rfl, by rw [see1]; rfl, sz rfl, sz rfl, sz rfl, _, _, _, _, rfl, rfl, at1' _, .inl rfl, sz rfl, ?_⟩
  rw [set1]
  refine ⟨by rw [see1]; rfl, sz rfl, sz rfl, sz rfl, sz rfl, sz rfl, sz rfl, sz rfl, sz rfl, _, _, _, _, rfl, rfl, at1' _, .inl rfl, sz rfl, ?_⟩
  rw [set1]
  refine ⟨by rw [see1]; rfl, sz rfl, _, _, _, rfl, rfl, at1' _, by rw [sizeLine_eq]; decide, ?_⟩
  rw [set1]
  refine ⟨by decide, ?_⟩
  rw [show ((k : Int) % 15) = ((k % 15 : Nat) : Int) by omega]
  refine pickS (see1 _) (by show k % 15 < 15; omega) fun e he => ?_
  have ht : thB 2 e = true := by
   simp only [List.cons_append, List.nil_append, List.mem_cons, List.not_mem_nil, or_false] at he
   rcases he with rfl | rfl | rfl | rfl | rfl | rfl | rfl | rfl | rfl | rfl | rfl | rfl | rfl | rfl | rfl <;> first | rfl | decide +kernel
  refine ⟨_, out_dat (th_pur ht), fun k o hk e' => .inl ?_, by rw [List.take_left]; exact q e ht⟩
  rw [List.getElem?_append_left hk] at e'; exact e'
end
open PySem L2 M M6
noncomputable def riseP (as : List PyData) : Bool := ((as.zip (as.drop 1)).map fun p => ltK p.1 p.2).all id
noncomputable def rises (es : List D) : Bool := riseP (es.map py)
theorem rise_cons (a b : PyData) (r : List PyData) : riseP (a :: b :: r) = (ltK a b && riseP (b :: r)) := rfl
theorem rise_pw : ∀ {as : List PyData}, (∀ x ∈ as, ∀ y ∈ as, cmpK x y = true) → riseP as = true → as.Pairwise fun x y => ltK x y = true
 | [], _, _ => .nil
 | [a], _, _ => List.pairwise_singleton ..
 | a :: b :: r, hc, h => by
  rw [rise_cons, Bool.and_eq_true] at h
  have ih := rise_pw (as := b :: r) (fun x hx y hy => hc x (List.mem_cons_of_mem _ hx) y (List.mem_cons_of_mem _ hy)) h.2
  refine List.pairwise_cons.mpr ⟨fun y hy => ?_, ih⟩
  rcases List.mem_cons.mp hy with rfl | hy
  ·exact h.1
  ·exact lt_tr a b y (hc a (by simp) b (by simp)) (hc b (by simp) y (by simp [hy])) (hc a (by simp) y (by simp [hy])) h.1 ((List.pairwise_cons.mp ih).1 y hy)
theorem pw_rise : ∀ {as : List PyData}, as.Pairwise (fun x y => ltK x y = true) → riseP as = true
 | [], _ => rfl
 | [a], _ => rfl
 | a :: b :: r, h => by
  obtain ⟨h1, h2⟩ := List.pairwise_cons.mp h
  rw [rise_cons, h1 b (by simp), pw_rise h2]; rfl
theorem rise_iff {as bs : List PyData} (hc : ∀ x ∈ as, ∀ y ∈ as, cmpK x y = true) (hm : ∀ y, y ∈ bs ↔ y ∈ as) (hn : bs.Nodup) (hs : bs.Pairwise fun x y => ltK y x = false) : as = bs ↔ riseP as = true := by
 have strict : bs.Pairwise fun x y => ltK x y = true := by
  have h2 : bs.Pairwise fun x y => x ≠ y := hn
  refine (hs.and h2).imp_of_mem fun {x y} hx hy h => ?_
  rcases lt_tri x y (hc x ((hm x).mp hx) y ((hm y).mp hy)) h.2 with z | z
  ·exact z
  ·rw [h.1] at z; cases z
 constructor
 ·intro e; rw [e]; exact pw_rise strict
 ·intro h
  have p := rise_pw hc h
  have nd : as.Nodup := p.imp fun {x y} h e => by rw [e, lt_irr] at h; cases h
  have pm : as.Perm bs := (List.perm_ext_iff_of_nodup nd hn).mpr fun a => (hm a).symm
  refine pm.eq_of_pairwise (le := fun x y => ltK x y = true) (fun a b ha hb h1 h2 => ?_) p strict
  have hb := (hm b).mp hb
  have := lt_tr a b a (hc a ha b hb) (hc b hb a ha) (hc a ha a ha) h1 h2
  rw [lt_irr] at this; cases this
theorem eqvL {as bs : List PyData} (h1 : okKs as = true) (h2 : okKs bs = true) : PyData.eqv (.list as) (.list bs) = decide (as = bs) := by
 simp only [PyData.eqv]
 exact eqvs_dec as bs h1 h2
theorem okKs_of : ∀ {as : List PyData}, (∀ x ∈ as, okK x = true) → okKs as = true
 | [], _ => rfl
 | a :: as, h => by simp only [okKs, h a (by simp), okKs_of fun x hx => h x (List.mem_cons_of_mem _ hx), Bool.and_self]
open PySem L2 M M6
noncomputable abbrev sLName : Stmt := top 27
noncomputable abbrev NscLName : List Str := ["_law_thing"]
noncomputable abbrev PscLName : List Str := ["_law_thing"]
theorem scLName : FnScope NscLName PscLName (defScope sLName) := ⟨rfl, rfl, rfl, by decide +kernel, rfl, by decide +kernel, by decide +kernel⟩
noncomputable abbrev sLIsLf : Stmt := top 28
noncomputable abbrev NscLIsLf : List Str := ["_law_thing"]
noncomputable abbrev PscLIsLf : List Str := ["_law_thing"]
theorem scLIsLf : FnScope NscLIsLf PscLIsLf (defScope sLIsLf) := ⟨rfl, rfl, rfl, by decide +kernel, rfl, by decide +kernel, by decide +kernel⟩
noncomputable def sgn (c : Nat) : D := .str ⟨#[c]⟩
theorem in_low (c : Nat) : decide (c ∈ ("abcdefghijklmnopqrstuvwxyz" : Str).cps.toList) = isLow c := by
 have e : ("abcdefghijklmnopqrstuvwxyz" : Str).cps.toList = List.range' 97 26 := by decide +kernel
 rw [e]
 unfold isLow
 by_cases h : 97 ≤ c ∧ c ≤ 122
 ·rw [decide_eq_true h.1, decide_eq_true h.2]
  exact decide_eq_true (List.mem_range'_1.mpr (by omega))
 ·rw [decide_eq_false (fun z => h (by have := List.mem_range'_1.mp z; omega))]
  by_cases h1 : 97 ≤ c
  ·rw [decide_eq_true h1, decide_eq_false (fun z => h ⟨h1, z⟩)]; rfl
  ·rw [decide_eq_false h1]; rfl
theorem ok_sgn {n c : Nat} (h : c < 128) : thB n (sgn c) = true := by
 have : okS ⟨#[c]⟩ = true := by
  unfold okS
  simp [h, Str.length]
 cases n <;> exact this
section
variable {P : Program} {w : World} {K : PySem.W.Frag} {mg : Str → Option Value} {base : Heap}
noncomputable def spLName : AN := fun ds S Q => ∃ x, ds = [x] ∧ thB 60 x = true ∧ Q (.dat (.bl (isName x))) S
theorem d_LName (T : Txt K mg) (F : Src K mg "_law_is_name" PscLName sLName) : Def P w K mg base 1 "_law_is_name" PscLName (conSp K spLName) := by
 refine defA F scLName (fun ds S Q h => ?_) (fun f cdv A outer s H E hr => ?_)
 ·obtain ⟨x, rfl, _⟩ := h; rfl
 ·refine ⟨_, (M.pss_cons (M.ps_if (M.pw_pt (M.pw_or (M.pt_not (M.pt_val (M.pcb M.o_isi (by rfl) T.isinstance (by decide +kernel) (M.pac (M.pv 0) (M.pac (M.pe_ty "str" (by rfl) T.str (by decide +kernel)) M.pa_nil))))) (M.pw_or1 (M.pt_not (M.pt_chain M.o_le M.o_le M.pe_int (M.pcb M.o_len (by rfl) T.len (by decide +kernel) (M.pac (M.pv 0) M.pa_nil)) M.pe_int)))))
    (M.pss_one (M.ps_ret M.pe_bl))
    M.pss_nil)
   (M.pss_one (M.ps_ret (M.pe_cmpR (M.o_eq hr) (M.pe_comp (N := ["_law_sign"]) (caps := [none]) (bs_mk (by decide +kernel)) (by rfl) (by rfl) rfl (M.pi_any (M.pv 0)) (fun _ _ _ _ => (M.pg_name (i := 0) (by decide +kernel : List.Nodup (["_law_sign"] : List Str)) rfl (Or.inl rfl))) (fun _ _ _ _ => (M.pts_one (M.pt_cmpR M.o_notInT (M.pv 0) M.pe_str rfl))) (fun _ _ _ _ => (M.pv 0))) (M.pe_lst M.pa_nil) (nomark _))))), fun ds S Q h => ?_⟩
  obtain ⟨x, rfl, hp, q⟩ := h
  have e0 : startA NscLName [x] = [some x] := rfl
  rw [e0]
  push_cast [(isi_of (S := S) (th_pur hp)).2]
  cases x <;> first | (simp [thB] at hp; done) | skip
  case str y =>
   have hl := th_len hp y rfl
   have hn : isName (.str y) = (decide (1 ≤ y.length) && decide (y.length ≤ 8) && y.cps.toList.all isLow) := rfl
   rw [hn] at q
   refine iteF ⟨y.length, by simp only [see_str', lenD]; rw [if_pos (by rw [sizeLine_eq]; omega)], ?_⟩
   refine ite2 (fun h1 => ?_) (fun h1 => ?_)
   ·have h1 : 1 ≤ y.length := by have := of_decide_eq_true h1; omega
    refine ite2 (fun h2 => ?_) (fun h2 => ?_)
    ·have h2 : ¬ y.length ≤ 8 := by simp at h2; omega
     rw [decide_eq_false h2, Bool.and_false, Bool.false_and] at q
     exact q
    ·have h2 : y.length ≤ 8 := by simp at h2; omega
     rw [decide_eq_true h1, decide_eq_true h2] at q
     simp only [aComp, iAny, iAnyD, aVar, List.getElem?_cons_zero, Option.some.injEq, exists_eq_left', rd_dat]
     have hyl : y.cps.toList.length = y.length := by simp [Str.length]
     have hq : ∀ c ∈ y.cps.toList, c < 128 := fun c hc => by
      have h : okS y = true := hp
      unfold okS at h
      rw [Bool.and_eq_true] at h
      exact of_decide_eq_true (List.all_eq_true.mp h.1 c hc)
     refine comp_by (fun xs acc δ' S' => S' = S ∧ δ'.length = 1 ∧ ∃ ps qs, y.cps.toList = ps ++ qs ∧ xs = qs.map sgn ∧ acc = (ps.filter fun c => !isLow c).map sgn) (fun acc δ' S' h => ?_) (fun x xs acc δ' S' N h hN => ?_) (signs y) [] _ S ⟨rfl, rfl, [], y.cps.toList, rfl, rfl, rfl⟩
     ·obtain ⟨rfl, _, ps, qs, e1, e2, rfl⟩ := h
      obtain rfl : qs = [] := by simpa using e2.symm
      rw [List.append_nil] at e1
      refine ⟨trivial, Nat.zero_le _, ?_⟩
      subst e1
      generalize hf : (y.cps.toList.filter fun c => !isLow c) = fl
      have hlen : fl.length ≤ 8 := by rw [← hf]; exact Nat.le_trans (List.length_filter_le ..) (by omega)
      have th : thB 1 (.lst (fl.map sgn)) = true := by
       simp only [thB, List.length_map, Bool.and_eq_true, List.all_eq_true]
       refine ⟨decide_eq_true (by omega), fun d hd => ?_⟩
       obtain ⟨c, hc, rfl⟩ := List.mem_map.mp hd
       rw [← hf] at hc
       exact ok_sgn (hq c (List.mem_filter.mp hc).1)
      show aEq (.lst (fl.map sgn)) (.lst []) S' _
      unfold aEq
      simp only [see_lst']
      refine ⟨th_fit th (by decide), th_fit (n := 1) (d := .lst []) rfl (by decide), ?_⟩
      show M.ret S' S' _ Q
      rw [ret_bl]
      have e : PyData.eqv (py (.lst (fl.map sgn))) (py (.lst [])) = (decide (fl = [])) := by
       cases fl with
       | nil => rfl
       | cons a r => simp only [List.map_cons, py, pys, PyData.eqv, PyData.eqvAll]; simp
      rw [e]
      have e2 : y.cps.toList.all isLow = decide (fl = []) := by
       rw [← hf]
       by_cases h : y.cps.toList.all isLow = true
       ·rw [h]
        refine (decide_eq_true (List.filter_eq_nil_iff.mpr fun c hc => ?_)).symm
        rw [List.all_eq_true.mp h c hc]; decide
       ·rw [Bool.eq_false_iff.mpr h]
        refine (decide_eq_false fun z => h (List.all_eq_true.mpr fun c hc => ?_)).symm
        have := List.filter_eq_nil_iff.mp z c hc
        simpa using this
      rw [← e2]
      simpa using q
     ·obtain ⟨rfl, hd, ps, qs, e1, e2, rfl⟩ := h
      cases qs with
      | nil => cases e2
      | cons c qs =>
       rw [List.map_cons] at e2
       injection e2 with e2 e3
       subst e2; subst e3
       have hql : ps.length < 8 := by have e := congrArg List.length e1; rw [List.length_append, List.length_cons, hyl] at e; omega
       have e4 : y.cps.toList = (ps ++ [c]) ++ qs := by rw [e1, List.append_assoc]; rfl
       match δ', hd with
       | [d0], _ =>
       refine ⟨trivial, ?_⟩
       simp only [agName, aB, aOp, aVar, aC, List.set_cons_zero, List.getElem?_cons_zero, Option.some.injEq, exists_eq_left', rd_dat]
       refine ⟨_, _, rfl, rfl, ?_⟩
       simp only [sign_in, in_low, D.bl.injEq, exists_eq_left']
       cases hc : isLow c with
       | true =>
        refine ⟨false, rfl, iteF (hN _ [some (sgn c)] _ ⟨rfl, rfl, ps ++ [c], qs, e4, rfl, ?_⟩)⟩
        rw [List.filter_append]
        simp [hc]
       | false =>
        refine ⟨true, rfl, iteT ⟨?_, hN _ [some (sgn c)] _ ⟨rfl, rfl, ps ++ [c], qs, e4, rfl, ?_⟩⟩⟩
        ·rw [List.length_map, sizeLine_eq]
         have := List.length_filter_le (fun c => !isLow c) ps
         omega
        ·rw [List.filter_append]
         simp [hc]
   ·have h1 : ¬ 1 ≤ y.length := by intro z; exact h1 (decide_eq_true (by omega))
    rw [decide_eq_false h1, Bool.false_and, Bool.false_and] at q
    exact q
  all_goals exact q
noncomputable def spLIsLf : AN := fun ds S Q => ∃ x, ds = [x] ∧ thB 61 x = true ∧ Q (.dat (.bl (isLeaf x))) S
theorem d_LIsLf (T : Txt K mg) (F : Src K mg "_law_is_leaf" PscLIsLf sLIsLf) (D_law_is_name : Def P w K mg base 1 "_law_is_name" PscLName (conSp K spLName)) : Def P w K mg base 2 "_law_is_leaf" PscLIsLf (conSp K spLIsLf) := by
 refine defA F scLIsLf (fun ds S Q h => ?_) (fun f cdv A outer s H E hr => ?_)
 ·obtain ⟨x, rfl, _⟩ := h; rfl
 ·refine ⟨_, (M.pss_cons (M.ps_if (M.pw_pt (M.pw_or (M.pt_not (M.pt_val (M.pcb M.o_isi (by rfl) T.isinstance (by decide +kernel) (M.pac (M.pv 0) (M.pac (M.pe_ty "tuple" (by rfl) T.tuple (by decide +kernel)) M.pa_nil))))) (M.pw_or (M.pt_cmpR M.o_lt (M.pcb M.o_len (by rfl) T.len (by decide +kernel) (M.pac (M.pv 0) M.pa_nil)) M.pe_int (nomark _)) (M.pw_or1 (M.pt_not (M.pt_val (M.pcb M.o_isi (by rfl) T.isinstance (by decide +kernel) (M.pac (M.pe_ix M.o_ix (M.pv 0) M.pe_int (fun _ _ => rfl)) (M.pac (M.pe_ty "str" (by rfl) T.str (by decide +kernel)) M.pa_nil)))))))))
    (M.pss_one (M.ps_ret M.pe_bl))
    M.pss_nil)
   (M.pss_cons (M.ps_if (M.pt_cmpR (M.o_eq hr) (M.pe_ix M.o_ix (M.pv 0) M.pe_int (fun _ _ => rfl)) M.pe_str (nomark _))
    (M.pss_one (M.ps_ret (M.pe_cmpR (M.o_eq hr) (M.pcb M.o_len (by rfl) T.len (by decide +kernel) (M.pac (M.pv 0) M.pa_nil)) M.pe_int (nomark _))))
    M.pss_nil)
   (M.pss_cons (M.ps_if (M.pt_cmpR (M.o_eq hr) (M.pe_ix M.o_ix (M.pv 0) M.pe_int (fun _ _ => rfl)) M.pe_str (nomark _))
    (M.pss_cons (M.ps_if (M.pw_pt (M.pw_or (M.pt_cmpR (M.o_ne hr) (M.pcb M.o_len (by rfl) T.len (by decide +kernel) (M.pac (M.pv 0) M.pa_nil)) M.pe_int (nomark _)) (M.pw_or1 (M.pt_cmpR (M.o_notIn hr) (M.pe_ix M.o_ix (M.pv 0) M.pe_int (fun _ _ => rfl)) (M.pe_tup (M.pac M.pe_str (M.pac M.pe_str M.pa_nil))) rfl))))
     (M.pss_one (M.ps_ret M.pe_bl))
     M.pss_nil)
    (M.pss_one (M.ps_ret (M.pe_or (M.pe_cmpR (M.o_eq hr) (M.pe_ix M.o_ix (M.pv 0) M.pe_int (fun _ _ => rfl)) M.pe_str (nomark _)) (M.pe_one (M.pe_own D_law_is_name (hr.mono (by decide)) (by rfl) (M.pac (M.pe_ix M.o_ix (M.pv 0) M.pe_int (fun _ _ => rfl)) M.pa_nil)))))))
    M.pss_nil)
   (M.pss_one (M.ps_ret (M.pe_and (M.pe_cmpR (M.o_in hr) (M.pe_ix M.o_ix (M.pv 0) M.pe_int (fun _ _ => rfl)) (M.pe_tup (M.pac M.pe_str (M.pac M.pe_str M.pa_nil))) rfl) (M.pe_and (M.pe_cmpR (M.o_eq hr) (M.pcb M.o_len (by rfl) T.len (by decide +kernel) (M.pac (M.pv 0) M.pa_nil)) M.pe_int (nomark _)) (M.pe_one (M.pe_own D_law_is_name (hr.mono (by decide)) (by rfl) (M.pac (M.pe_ix M.o_ix (M.pv 0) M.pe_int (fun _ _ => rfl)) M.pa_nil)))))))))), fun ds S Q h => ?_⟩
  obtain ⟨x, rfl, hp, q⟩ := h
  have e0 : startA NscLIsLf [x] = [some x] := rfl
  rw [e0]
  push_cast [(isi_of (S := S) (th_pur hp)).1]
  cases x <;> first | (simp [thB] at hp; done) | skip
  case tup es =>
   push_cast [ix_tup]
   have hl := th_short hp
   refine ⟨es.length, rfl, ?_⟩
   cases es with
   | nil => exact q
   | cons a r =>
    rw [if_neg (by simp; omega)]
    have ha : thB 60 a = true := th_item hp (by simp)
    simp only [at0, Option.some.injEq, exists_eq_left']
    rw [(isi_of (S := S) (th_pur ha)).2]
    refine ⟨_, rfl, ?_⟩
    cases a with
    | str y =>
     simp only [Bool.not_true, if_false, Bool.false_eq_true]
     show aEq (.str y) _ S _
     refine eq_text ha (by decide) (by decide +kernel) ⟨_, rfl, ?_⟩
     by_cases y1 : y = "stay"
     ·subst y1
      refine iteT ⟨_, rfl, ?_⟩
      rw [ret_bl]
      match r, q with
      | [], q => exact q
      | [b], q => exact q
      | [b, c], q => exact q
      | b :: c :: d :: r, q =>
       rw [decide_eq_false (by simp; omega)]; exact q
     ·have e1 : isS (.str y) "stay" = false := decide_eq_false y1
      rw [e1]
      refine iteF ?_
      show aEq (.str y) _ S _
      refine eq_text ha (by decide) (by decide +kernel) ⟨_, rfl, ?_⟩
      by_cases y2 : y = "step"
      ·subst y2
       refine iteT ⟨_, rfl, ?_⟩
       match r, q, hp with
       | [], q, _ => exact ⟨true, rfl, iteT (by rw [ret_bl]; exact q)⟩
       | [b], q, _ => exact ⟨true, rfl, iteT (by rw [ret_bl]; exact q)⟩
       | [b, c], q, hp =>
        have hb : thB 60 b = true := th_item hp (by simp)
        have hc : thB 60 c = true := th_item hp (by simp)
        have q : Q (.dat (.bl (true && (inS b ["on", "back"] && isWord c)))) S := q
        rw [Bool.true_and] at q
        refine ⟨false, rfl, iteF ⟨b, at1, sz rfl, in_texts (ss := ["on", "back"]) hb (by decide) (by decide +kernel) ⟨_, rfl, ?_⟩⟩⟩
        cases h : inS b ["on", "back"] with
        | false =>
         rw [h] at q
         refine iteT ?_
         rw [ret_bl]; exact q
        | true =>
         rw [h, Bool.true_and] at q
         have q : Q (.dat (.bl (isS c "*" || isName c))) S := q
         refine iteF ⟨c, at2, eq_text hc (by decide) (by decide +kernel) ⟨_, rfl, ?_⟩⟩
         cases h2 : isS c "*" with
         | true =>
          rw [h2] at q
          refine iteT ?_
          rw [ret_bl]; exact q
         | false =>
          rw [h2, Bool.false_or] at q
          refine iteF ⟨c, at2, c, rfl, hc, ?_⟩
          show M.ret S S _ Q
          rw [ret_bl]; exact q
       | b :: c :: d :: r, q, _ =>
        refine ⟨true, ?_, iteT (by rw [ret_bl]; exact q)⟩
        show D.bl (!decide _) = _
        rw [decide_eq_false (by simp; omega)]; rfl
      ·have e2 : isS (.str y) "step" = false := decide_eq_false y2
       rw [e2]
       refine iteF ⟨sz rfl, in_texts (ss := ["at", "off"]) ha (by decide) (by decide +kernel) ⟨_, rfl, ?_⟩⟩
       rw [Bool.false_bne]
       cases h : inS (.str y) ["at", "off"] with
       | false =>
        refine iteF ?_
        rw [ret_bl]
        match r, q with
        | [], q => have q : Q (.dat (.bl (isS (.str y) "stay"))) S := q; rw [e1] at q; exact q
        | [b], q => have q : Q (.dat (.bl (inS (.str y) ["at", "off"] && isName b))) S := q; rw [h] at q; exact q
        | [b, c], q => have q : Q (.dat (.bl (isS (.str y) "step" && (inS b ["on", "back"] && isWord c)))) S := q; rw [e2] at q; exact q
        | b :: c :: d :: r, q => exact q
       | true =>
        refine iteT ⟨_, rfl, ?_⟩
        match r, q, hp with
        | [], q, _ => have q : Q (.dat (.bl (isS (.str y) "stay"))) S := q; rw [e1] at q; exact iteF (by rw [ret_bl]; exact q)
        | [b], q, hp =>
         have hb : thB 60 b = true := th_item hp (by simp)
         have q : Q (.dat (.bl (inS (.str y) ["at", "off"] && isName b))) S := q
         rw [h, Bool.true_and] at q
         refine iteT ⟨b, at1, b, rfl, hb, ?_⟩
         show M.ret S S _ Q
         rw [ret_bl]; exact q
        | [b, c], q, _ => have q : Q (.dat (.bl (isS (.str y) "step" && (inS b ["on", "back"] && isWord c)))) S := q; rw [e2] at q; exact iteF (by rw [ret_bl]; exact q)
        | b :: c :: d :: r, q, _ =>
         rw [if_neg (by simp; omega)]
         rw [ret_bl]; exact q
    | _ =>
     have e : ∀ {a : D}, (∀ y, a ≠ .str y) → isLeaf (.tup (a :: r)) = false := fun {a} h => by
      have s1 : ∀ t, isS a t = false := fun t => by cases a <;> first | rfl | exact absurd rfl (h _)
      match r with
      | [] => exact s1 _
      | [b] => show (inS a ["at", "off"] && isName b) = false; rw [show inS a ["at", "off"] = false by simp [inS, s1]]; rfl
      | [b, c] => show (isS a "step" && _) = false; rw [s1]; rfl
      | b :: c :: d :: r => rfl
     rw [e (by intro y z; cases z)] at q
     exact q
  all_goals exact q
end
open PySem L2 M M6
noncomputable abbrev sRis : Stmt := top 17
noncomputable abbrev NscRis : List Str := ["things"]
noncomputable abbrev PscRis : List Str := ["things"]
theorem scRis : FnScope NscRis PscRis (defScope sRis) := ⟨rfl, rfl, rfl, by decide +kernel, rfl, by decide +kernel, by decide +kernel⟩
noncomputable abbrev sEnds : Stmt := top 14
noncomputable abbrev NscEnds : List Str := ["many", "thing"]
noncomputable abbrev PscEnds : List Str := ["many", "thing"]
theorem scEnds : FnScope NscEnds PscEnds (defScope sEnds) := ⟨rfl, rfl, rfl, by decide +kernel, rfl, by decide +kernel, by decide +kernel⟩
noncomputable abbrev sMvs : Stmt := top 15
noncomputable abbrev NscMvs : List Str := ["many", "thing"]
noncomputable abbrev PscMvs : List Str := ["many", "thing"]
theorem scMvs : FnScope NscMvs PscMvs (defScope sMvs) := ⟨rfl, rfl, rfl, by decide +kernel, rfl, by decide +kernel, by decide +kernel⟩
noncomputable abbrev sIsM : Stmt := top 12
noncomputable abbrev NscIsM : List Str := ["thing", "many"]
noncomputable abbrev PscIsM : List Str := ["thing"]
theorem scIsM : FnScope NscIsM PscIsM (defScope sIsM) := ⟨rfl, rfl, rfl, by decide +kernel, rfl, by decide +kernel, by decide +kernel⟩
theorem rises_eq (es : List D) : rises es = ((es.zip (es.drop 1)).map fun p => ltK (py p.1) (py p.2)).all id := by
 unfold rises riseP
 rw [← List.map_drop, List.zip_map, List.map_map]; rfl
noncomputable def Keys (es : List D) : Prop := (∀ e ∈ es, pur e = true ∧ okK (py e) = true ∧ (py e).depth ≤ 6) ∧ ∀ x ∈ es, ∀ y ∈ es, cmpK (py x) (py y) = true
noncomputable def isEnds (n : Int) : D → Bool
 | .tup es => es.all (isSt n) && rises es
 | _ => false
noncomputable def isMvs (n : Int) : D → Bool
 | .tup es => es.all (isMv n) && rises es
 | _ => false
theorem st_int {n : Int} {x : D} (h : isSt n x = true) : ∃ i, x = .int i := by
 cases x <;> first | exact ⟨_, rfl⟩ | cases h
theorem st_keys {n : Int} {es : List D} (h : es.all (isSt n) = true) : Keys es := by
 have h := List.all_eq_true.mp h
 refine ⟨fun e he => ?_, fun x hx y hy => ?_⟩
 ·obtain ⟨i, rfl⟩ := st_int (h e he)
  exact ⟨rfl, rfl, by simp [py, PyData.depth]⟩
 ·obtain ⟨i, rfl⟩ := st_int (h x hx)
  obtain ⟨j, rfl⟩ := st_int (h y hy)
  rfl
theorem strs_ok : ∀ (ss : List Str), (∀ s ∈ ss, okS s = true) → okKs (pys (ss.map D.str)) = true ∧ PyData.depthAll (pys (ss.map D.str)) = 0
 | [], _ => ⟨rfl, rfl⟩
 | s :: ss, h => by
  obtain ⟨h1, h2⟩ := strs_ok ss fun t ht => h t (List.mem_cons_of_mem _ ht)
  simp only [List.map_cons, pys, py, okKs, okK, PyData.depthAll, PyData.depth, h1, h2, str_ok (h s (by simp))]
  simp
theorem strs_cmp : ∀ (ss ts : List Str), cmpKs (pys (ss.map D.str)) (pys (ts.map D.str)) = true
 | [], ts => by cases ts <;> rfl
 | s :: ss, [] => rfl
 | s :: ss, t :: ts => by simp only [List.map_cons, pys, py, cmpKs, cmpK, strs_cmp ss ts, Bool.and_self]
theorem isS_str {x : D} {s : Str} (h : isS x s = true) : ∃ y, x = .str y := by cases x <;> first | exact ⟨_, rfl⟩ | cases h
theorem inS_str {x : D} {ss : List Str} (h : inS x ss = true) : ∃ y, x = .str y := by
 unfold inS at h
 obtain ⟨s, _, h⟩ := List.any_eq_true.mp h
 exact isS_str h
theorem nm_str {x : D} (h : isName x = true) : ∃ y, x = .str y := by cases x <;> first | exact ⟨_, rfl⟩ | cases h
theorem wd_str {x : D} (h : isWord x = true) : ∃ y, x = .str y := by
 unfold isWord at h
 rw [Bool.or_eq_true] at h
 exact h.elim isS_str nm_str
theorem leaf_strs {x : D} (h : isLeaf x = true) : ∃ ss : List Str, x = .tup (ss.map D.str) := by
 cases x <;> first | (cases h; done) | skip
 rename_i es
 match es, h with
 | [a], h =>
  obtain ⟨y, rfl⟩ := isS_str h
  exact ⟨[y], rfl⟩
 | [a, b], h =>
  have h : (inS a ["at", "off"] && isName b) = true := h
  rw [Bool.and_eq_true] at h
  obtain ⟨y, rfl⟩ := inS_str h.1
  obtain ⟨z, rfl⟩ := nm_str h.2
  exact ⟨[y, z], rfl⟩
 | [a, b, c], h =>
  have h : (isS a "step" && (inS b ["on", "back"] && isWord c)) = true := h
  rw [Bool.and_eq_true, Bool.and_eq_true] at h
  obtain ⟨y, rfl⟩ := isS_str h.1
  obtain ⟨z, rfl⟩ := inS_str h.2.1
  obtain ⟨u, rfl⟩ := wd_str h.2.2
  exact ⟨[y, z, u], rfl⟩
theorem mv_shape {n : Int} {x : D} (h : isMv n x = true) : ∃ (i j : Int) (ss : List Str), x = .tup [.int i, .tup (ss.map D.str), .int j] := by
 cases x <;> first | (cases h; done) | skip
 rename_i es
 match es, h with
 | [a, l, b], h =>
  have h : (isSt n a && (isLeaf l && isSt n b)) = true := h
  rw [Bool.and_eq_true, Bool.and_eq_true] at h
  obtain ⟨i, rfl⟩ := st_int h.1
  obtain ⟨ss, rfl⟩ := leaf_strs h.2.1
  obtain ⟨j, rfl⟩ := st_int h.2.2
  exact ⟨i, j, ss, rfl⟩
theorem mv_key {k : Nat} {i j : Int} {ss : List Str} (hp : thB (k + 2) (.tup [.int i, .tup (ss.map D.str), .int j]) = true) : GoodK (.tup [.int i, .tup (ss.map D.str), .int j]) := by
 have hl : thB (k + 1) (.tup (ss.map D.str)) = true := th_item hp (by simp)
 have hs : ∀ s ∈ ss, okS s = true := fun s hs => by
  have : thB k (.str s) = true := th_item hl (List.mem_map.mpr ⟨s, hs, rfl⟩)
  cases k <;> exact this
 obtain ⟨h1, h2⟩ := strs_ok ss hs
 refine ⟨th_pur hp, ?_, ?_, _, rfl⟩
 ·simp only [py, pys, okK, okKs, h1, Bool.and_self]
 ·simp only [py, pys, PyData.depth, PyData.depthAll, h2]
  decide
theorem mv_keys {n : Int} {k : Nat} {es : List D} (hp : thB (k + 3) (.tup es) = true) (h : es.all (isMv n) = true) : (∀ e ∈ es, GoodK e ∧ ∃ q r, py e = PyData.tuple (.int q :: r)) ∧ ∀ x ∈ es, ∀ y ∈ es, cmpK (py x) (py y) = true := by
 have h := List.all_eq_true.mp h
 refine ⟨fun e he => ?_, fun x hx y hy => ?_⟩
 ·obtain ⟨i, j, ss, rfl⟩ := mv_shape (h e he)
  exact ⟨mv_key (th_item hp he), _, _, rfl⟩
 ·obtain ⟨i, j, ss, rfl⟩ := mv_shape (h x hx)
  obtain ⟨i', j', ss', rfl⟩ := mv_shape (h y hy)
  simp only [py, pys, cmpK, cmpKs, strs_cmp, Bool.and_self]
theorem mv_keys' {n : Int} {k : Nat} {es : List D} (hp : thB (k + 3) (.tup es) = true) (h : es.all (isMv n) = true) : Keys es :=
 ⟨fun e he => let ⟨a, b, c, _⟩ := ((mv_keys hp h).1 e he).1; ⟨a, b, c⟩, (mv_keys hp h).2⟩
section
variable {P : Program} {w : World} {K : PySem.W.Frag} {mg : Str → Option Value} {base : Heap}
noncomputable def spRis : AN := fun ds S Q => ∃ es : List D, ds = [.tup es] ∧ es.length ≤ 100 ∧ Keys es ∧ Q (.dat (.bl (rises es))) S
theorem d_Ris (T : Txt K mg) (F : Src K mg "is_rising" PscRis sRis) : Def P w K mg base 1 "is_rising" PscRis (conSp K spRis) := by
 refine defA F scRis (fun ds S Q h => ?_) (fun f cdv A outer s H E hr => ?_)
 ·obtain ⟨es, rfl, _⟩ := h; rfl
 ·refine ⟨_, (M.pss_one (M.ps_ret (M.pcb (M.o_all rfl) (by rfl) T.all (by decide +kernel) (M.pac (M.pe_comp (N := ["one", "other"]) (caps := [none, none]) (bs_mk (by decide +kernel)) (by rfl) (by rfl) rfl (M.pi_zip (by rfl) T.zip (M.pac (M.pv 0) (M.pac (M.pe_slice M.o_slc (M.pv 0) (M.po_some M.pe_int) M.po_none) M.pa_nil))) (fun _ _ _ _ => (M.pg_tup (n := 2) rfl (M.pgs_cons (M.pg_name (i := 0) (by decide +kernel : List.Nodup (["one", "other"] : List Str)) rfl (Or.inl rfl)) (M.pgs_cons (M.pg_name (i := 1) (by decide +kernel : List.Nodup (["one", "other"] : List Str)) rfl (Or.inl rfl)) M.pgs_nil)))) (fun _ _ _ _ => M.pts_nil) (fun _ _ _ _ => (M.pe_cmpR (M.o_ltD hr) (M.pv 0) (M.pv 1) (nomark _)))) M.pa_nil)))), fun ds S Q h => ?_⟩
  obtain ⟨es, rfl, hl, hk, q⟩ := h
  have e0 : startA NscRis [.tup es] = [some (.tup es)] := rfl
  rw [e0]
  push_cast [true_and]
  have hcut : cutD es (some 1) none = es.drop 1 := by
   unfold cutD
   have e1 : HT.sIx es.length 0 (some 1) = min 1 es.length := HT.sIx_nat ..
   have e2 : HT.sIx es.length es.length none = es.length := rfl
   rw [e1, e2]
   cases es with
   | nil => rfl
   | cons a r =>
    have : min 1 (a :: r).length = 1 := by simp
    rw [this]
    simp
  push_cast [aComp, iZip, aCons, aNil, aVar, aSl, aSlc, aPart, aNoPart, aC, captA]
  refine ⟨es, rfl, _, rfl, ?_⟩
  rw [hcut]
  refine comp_by (fun xs acc δ' S' => S' = S ∧ δ'.length = 2 ∧ ∃ ps qs : List (D × D), es.zip (es.drop 1) = ps ++ qs ∧ xs = (qs.map fun p => D.tup [p.1, p.2]) ∧ acc = ps.map fun p => D.bl (ltK (py p.1) (py p.2))) (fun acc δ' S' h => ?_) (fun x xs acc δ' S' N h hN => ?_) _ [] _ S ⟨rfl, rfl, [], es.zip (es.drop 1), rfl, rfl, rfl⟩
  ·obtain ⟨rfl, _, ps, qs, e1, e2, rfl⟩ := h
   obtain rfl : qs = [] := by simpa using e2.symm
   rw [List.append_nil] at e1
   refine ⟨trivial, _, ps.map fun p => ltK (py p.1) (py p.2), rfl, by rw [see_lst', List.map_map]; rfl, ?_⟩
   show M.ret S' S' _ Q
   rw [ret_bl, ← e1, ← rises_eq]; exact q
  ·obtain ⟨rfl, hd, ps, qs, e1, e2, rfl⟩ := h
   cases qs with
   | nil => cases e2
   | cons c qs =>
    rw [List.map_cons] at e2
    injection e2 with e2 e3
    subst e2; subst e3
    have hm : c ∈ es.zip (es.drop 1) := by rw [e1]; simp
    have m1 : c.1 ∈ es := (List.of_mem_zip hm).1
    have m2 : c.2 ∈ es := List.mem_of_mem_drop (List.of_mem_zip hm).2
    obtain ⟨a1, a2, a3⟩ := hk.1 _ m1
    obtain ⟨b1, b2, b3⟩ := hk.1 _ m2
    have hpl : ps.length ≤ 100 := by
     have e := congrArg List.length e1
     rw [List.length_append, List.length_zip] at e
     omega
    match δ', hd with
    | [d0, d1], _ =>
    refine ⟨trivial, _, rfl, rfl, _, _, rfl, _, _, rfl, rfl, ?_⟩
    push_cast [aYes, if_true, aOp, aVar, List.set_cons_zero, List.set_cons_succ]
    unfold aLtD
    rw [see_pur a1, see_pur b1]
    refine ⟨a1, b1, a2, b2, hk.2 _ m1 _ m2, a3, b3, by rw [List.length_map, sizeLine_eq]; omega, hN _ _ _ ⟨rfl, rfl, ps ++ [c], qs, by rw [e1, List.append_assoc]; rfl, rfl, by rw [List.map_append]; rfl⟩⟩
noncomputable def spEnds : AN := fun ds S Q => ∃ (n : Int) (x : D), ds = [.int n, x] ∧ thB 63 x = true ∧ Q (.dat (.bl (isEnds n x))) S
theorem d_Ends (T : Txt K mg) (F : Src K mg "are_ends" PscEnds sEnds) (D_is_stand : Def P w K mg base 2 "is_stand" PscStand (conSp K spStand)) (D_is_rising : Def P w K mg base 1 "is_rising" PscRis (conSp K spRis)) : Def P w K mg base 3 "are_ends" PscEnds (conSp K spEnds) := by
 refine defA F scEnds (fun ds S Q h => ?_) (fun f cdv A outer s H E hr => ?_)
 ·obtain ⟨n, x, rfl, _⟩ := h; rfl
 ·refine ⟨_, (M.pss_one (M.ps_ret (M.pe_and (M.pcb M.o_isi (by rfl) T.isinstance (by decide +kernel) (M.pac (M.pv 1) (M.pac (M.pe_ty "tuple" (by rfl) T.tuple (by decide +kernel)) M.pa_nil))) (M.pe_and (M.pcb (M.o_all rfl) (by rfl) T.all (by decide +kernel) (M.pac (M.pe_comp (N := ["end", "many"]) (caps := [none, some 0]) (bs_mk (by decide +kernel)) (by rfl) (by rfl) rfl (M.pi_any (M.pv 1)) (fun _ _ _ _ => (M.pg_name (i := 0) (by decide +kernel : List.Nodup (["end", "many"] : List Str)) rfl (Or.inl rfl))) (fun _ _ _ _ => M.pts_nil) (fun _ _ _ _ => (M.pe_own D_is_stand (hr.mono (by decide)) (by rfl) (M.pac (M.pv 1) (M.pac (M.pv 0) M.pa_nil))))) M.pa_nil)) (M.pe_one (M.pe_own D_is_rising (hr.mono (by decide)) (by rfl) (M.pac (M.pv 1) M.pa_nil))))))), fun ds S Q h => ?_⟩
  obtain ⟨n, x, rfl, hp, q⟩ := h
  have e0 : startA NscEnds [.int n, x] = [some (.int n), some x] := rfl
  rw [e0]
  push_cast [(isi_of (S := S) (th_pur hp)).1]
  cases x <;> first | (simp [thB] at hp; done) | skip
  case tup es =>
   refine iteT ?_
   have hl := th_short hp
   push_cast [aComp, iAny, iAnyD, aVar]
   refine comp_map (δ := captA [none, some 0] [some (.int n), some (.tup es)]) (fun x => .bl (isSt n x)) trivial es [] _ rfl (fun x hx Q' q' => by
    push_cast [captA, List.map_cons, List.map_nil, Option.bind_none, Option.bind_some, List.set_cons_zero, List.getElem?_cons_zero, List.getElem?_cons_succ, Option.getD_some, aVar, aCons, aNil, aCall]
    exact ⟨n, x, rfl, th_pur (th_item hp hx), q'⟩) (by rw [sizeLine_eq]; simp; omega) ?_
   rw [List.nil_append]
   refine ⟨_, es.map (isSt n), rfl, by rw [see_lst', List.map_map]; rfl, _, rfl, ?_⟩
   have q : Q (.dat (.bl (es.all (isSt n) && rises es))) S := q
   have e1 : (es.map (isSt n)).all id = es.all (isSt n) := by rw [List.all_map]; rfl
   rw [e1]
   cases h : es.all (isSt n) with
   | false => rw [h] at q; exact iteF (by rw [ret_bl]; exact q)
   | true =>
    rw [h, Bool.true_and] at q
    exact iteT ⟨es, rfl, hl, st_keys h, by show M.ret S S _ Q; rw [ret_bl]; exact q⟩
  all_goals exact q
noncomputable def spMvs : AN := fun ds S Q => ∃ (n : Int) (x : D), ds = [.int n, x] ∧ thB 63 x = true ∧ Q (.dat (.bl (isMvs n x))) S
theorem d_Mvs (T : Txt K mg) (F : Src K mg "are_moves" PscMvs sMvs) (D_is_move : Def P w K mg base 4 "is_move" PscMove (conSp K spMove)) (D_is_rising : Def P w K mg base 1 "is_rising" PscRis (conSp K spRis)) : Def P w K mg base 5 "are_moves" PscMvs (conSp K spMvs) := by
 refine defA F scMvs (fun ds S Q h => ?_) (fun f cdv A outer s H E hr => ?_)
 ·obtain ⟨n, x, rfl, _⟩ := h; rfl
 ·refine ⟨_, (M.pss_one (M.ps_ret (M.pe_and (M.pcb M.o_isi (by rfl) T.isinstance (by decide +kernel) (M.pac (M.pv 1) (M.pac (M.pe_ty "tuple" (by rfl) T.tuple (by decide +kernel)) M.pa_nil))) (M.pe_and (M.pcb (M.o_all rfl) (by rfl) T.all (by decide +kernel) (M.pac (M.pe_comp (N := ["move", "many"]) (caps := [none, some 0]) (bs_mk (by decide +kernel)) (by rfl) (by rfl) rfl (M.pi_any (M.pv 1)) (fun _ _ _ _ => (M.pg_name (i := 0) (by decide +kernel : List.Nodup (["move", "many"] : List Str)) rfl (Or.inl rfl))) (fun _ _ _ _ => M.pts_nil) (fun _ _ _ _ => (M.pe_own D_is_move (hr.mono (by decide)) (by rfl) (M.pac (M.pv 1) (M.pac (M.pv 0) M.pa_nil))))) M.pa_nil)) (M.pe_one (M.pe_own D_is_rising (hr.mono (by decide)) (by rfl) (M.pac (M.pv 1) M.pa_nil))))))), fun ds S Q h => ?_⟩
  obtain ⟨n, x, rfl, hp, q⟩ := h
  have e0 : startA NscMvs [.int n, x] = [some (.int n), some x] := rfl
  rw [e0]
  push_cast [(isi_of (S := S) (th_pur hp)).1]
  cases x <;> first | (simp [thB] at hp; done) | skip
  case tup es =>
   refine iteT ?_
   have hl := th_short hp
   push_cast [aComp, iAny, iAnyD, aVar]
   refine comp_map (δ := captA [none, some 0] [some (.int n), some (.tup es)]) (fun x => .bl (isMv n x)) trivial es [] _ rfl (fun x hx Q' q' => by
    push_cast [captA, List.map_cons, List.map_nil, Option.bind_none, Option.bind_some, List.set_cons_zero, List.getElem?_cons_zero, List.getElem?_cons_succ, Option.getD_some, aVar, aCons, aNil, aCall]
    exact ⟨n, x, rfl, th_item hp hx, q'⟩) (by rw [sizeLine_eq]; simp; omega) ?_
   rw [List.nil_append]
   refine ⟨_, es.map (isMv n), rfl, by rw [see_lst', List.map_map]; rfl, _, rfl, ?_⟩
   have q : Q (.dat (.bl (es.all (isMv n) && rises es))) S := q
   have e1 : (es.map (isMv n)).all id = es.all (isMv n) := by rw [List.all_map]; rfl
   rw [e1]
   cases h : es.all (isMv n) with
   | false => rw [h] at q; exact iteF (by rw [ret_bl]; exact q)
   | true =>
    rw [h, Bool.true_and] at q
    exact iteT ⟨es, rfl, hl, mv_keys' hp h, by show M.ret S S _ Q; rw [ret_bl]; exact q⟩
  all_goals exact q
noncomputable def isM4 : D → D → D → D → Bool
 | .int n, b, e, v => decide (1 ≤ n) && (isSt n b && (isEnds n e && isMvs n v))
 | _, _, _, _ => false
noncomputable def isM : D → Bool
 | .tup [m, b, e, v] => isM4 m b e v
 | _ => false
noncomputable def spIsM : AN := fun ds S Q => ∃ x, ds = [x] ∧ thB 64 x = true ∧ Q (.dat (.bl (isM x))) S
theorem d_IsM (T : Txt K mg) (F : Src K mg "is_machine" PscIsM sIsM) (D_is_row : Def P w K mg base 1 "is_row" PscRow (conSp K spRow)) (D_is_whole : Def P w K mg base 1 "is_whole" PscWhole (conSp K spWhole)) (D_is_stand : Def P w K mg base 2 "is_stand" PscStand (conSp K spStand)) (D_are_ends : Def P w K mg base 3 "are_ends" PscEnds (conSp K spEnds)) (D_are_moves : Def P w K mg base 5 "are_moves" PscMvs (conSp K spMvs)) : Def P w K mg base 6 "is_machine" PscIsM (conSp K spIsM) := by
 refine defA F scIsM (fun ds S Q h => ?_) (fun f cdv A outer s H E hr => ?_)
 ·obtain ⟨x, rfl, _⟩ := h; rfl
 ·refine ⟨_, (M.pss_cons (M.ps_if (M.pt_not (M.pt_val (M.pe_own D_is_row (hr.mono (by decide)) (by rfl) (M.pac (M.pv 0) (M.pac M.pe_int M.pa_nil)))))
    (M.pss_one (M.ps_ret M.pe_bl))
    M.pss_nil)
   (M.pss_cons (M.ps_set (i := 1) scIsM.nd rfl (Or.inl rfl) (M.pe_ix M.o_ix (M.pv 0) M.pe_int (fun _ _ => rfl)))
   (M.pss_cons (M.ps_if (M.pw_pt (M.pw_or (M.pt_not (M.pt_val (M.pe_own D_is_whole (hr.mono (by decide)) (by rfl) (M.pac (M.pv 1) M.pa_nil)))) (M.pw_or (M.pt_cmpR M.o_lt (M.pv 1) M.pe_int (nomark _)) (M.pw_or1 (M.pt_not (M.pt_val (M.pe_own D_is_stand (hr.mono (by decide)) (by rfl) (M.pac (M.pv 1) (M.pac (M.pe_ix M.o_ix (M.pv 0) M.pe_int (fun _ _ => rfl)) M.pa_nil)))))))))
    (M.pss_one (M.ps_ret M.pe_bl))
    M.pss_nil)
   (M.pss_one (M.ps_ret (M.pe_and (M.pe_own D_are_ends (hr.mono (by decide)) (by rfl) (M.pac (M.pv 1) (M.pac (M.pe_ix M.o_ix (M.pv 0) M.pe_int (fun _ _ => rfl)) M.pa_nil))) (M.pe_one (M.pe_own D_are_moves (hr.mono (by decide)) (by rfl) (M.pac (M.pv 1) (M.pac (M.pe_ix M.o_ix (M.pv 0) M.pe_int (fun _ _ => rfl)) M.pa_nil)))))))))), fun ds S Q h => ?_⟩
  obtain ⟨x, rfl, hp, q⟩ := h
  have e0 : startA NscIsM [x] = [some x, none] := rfl
  rw [e0]
  push_cast [true_and]
  refine ⟨x, 4, rfl, th_pur hp, _, rfl, ?_⟩
  by_cases hw : isRow x 4 = true
  ·rw [hw]
   obtain ⟨m, b, e, v, rfl⟩ : ∃ m b e v, x = .tup [m, b, e, v] := by
    cases x <;> first | (cases hw; done) | skip
    rename_i es
    have h : (es.length : Int) = 4 := of_decide_eq_true hw
    match es, h with
    | [m, b, e, v], _ => exact ⟨m, b, e, v, rfl⟩
    | [], h => simp at h
    | [_], h => simp at h
    | [_, _], h => simp at h
    | [_, _, _], h => simp at h
    | _ :: _ :: _ :: _ :: _ :: _, h => simp at h; omega
   have hm : thB 63 m = true := th_item hp (by simp)
   have hb : thB 63 b = true := th_item hp (by simp)
   have he : thB 63 e = true := th_item hp (by simp)
   have hv : thB 63 v = true := th_item hp (by simp)
   push_cast [ix_tup, at0, at1, at2, at3]
   refine ⟨m, rfl, th_pur hm, _, rfl, ?_⟩
   by_cases hi : isWh m = true
   ·rw [hi]
    cases m <;> first | (cases hi; done) | skip
    rename_i n
    have q : Q (.dat (.bl (decide (1 ≤ n) && (isSt n b && (isEnds n e && isMvs n v))))) S := q
    push_cast [true_and]
    by_cases h1 : n < 1
    ·rw [decide_eq_false (by omega)] at q
     rw [decide_eq_true h1]
     exact iteT q
    ·rw [decide_eq_true (by omega : 1 ≤ n), Bool.true_and] at q
     rw [decide_eq_false h1]
     refine iteF ⟨n, b, rfl, th_pur hb, _, rfl, ?_⟩
     cases h2 : isSt n b with
     | false => rw [h2] at q; exact iteT (by rw [ret_bl]; exact q)
     | true =>
      rw [h2, Bool.true_and] at q
      refine iteF ⟨n, e, rfl, he, _, rfl, ?_⟩
      cases h3 : isEnds n e with
      | false => rw [h3] at q; exact iteF (by rw [ret_bl]; exact q)
      | true =>
       rw [h3, Bool.true_and] at q
       exact iteT ⟨n, v, rfl, hv, by show M.ret S S _ Q; rw [ret_bl]; exact q⟩
   ·rw [Bool.eq_false_iff.mpr hi]
    have e1 : isM (.tup [m, b, e, v]) = false := by cases m <;> first | rfl | exact absurd rfl hi
    rw [e1] at q
    exact iteT (by rw [ret_bl]; exact q)
  ·rw [Bool.eq_false_iff.mpr hw]
   have e1 : isM x = false := by
    cases x <;> first | rfl | skip
    rename_i es
    match es with
    | [m, b, e, v] => exact absurd rfl hw
    | [] => rfl
    | [_] => rfl
    | [_, _] => rfl
    | [_, _, _] => rfl
    | _ :: _ :: _ :: _ :: _ :: _ => rfl
   rw [e1] at q
   exact iteT (by rw [ret_bl]; exact q)
end
open PySem L2 M M6
noncomputable abbrev sLM : Stmt := top 25
noncomputable abbrev NscLM : List Str := ["_law_thing", "_law_most", "_law_many", "_law_begin", "_law_ends", "_law_moves", "_law_stands", "_law_move"]
noncomputable abbrev PscLM : List Str := ["_law_thing", "_law_most"]
theorem scLM : FnScope NscLM PscLM (defScope sLM) := ⟨rfl, rfl, rfl, by decide +kernel, rfl, by decide +kernel, by decide +kernel⟩
noncomputable def szM : D → Prop
 | .tup [m, _, e, v] => (∀ n, m = .int n → n ≤ 10 ^ 20) ∧ (∀ es, e = .tup es → es.length < 60) ∧ ∀ vs, v = .tup vs → vs.length < 60
 | _ => True
noncomputable def sides : D → List D
 | .tup [a, _, c] => [a, c]
 | _ => []
noncomputable def mid : D → Bool
 | .tup [_, l, _] => isLeaf l
 | _ => false
theorem mid_shape {v : D} (h : mid v = true) : ∃ a l c, v = .tup [a, l, c] := by
 cases v <;> first | (cases h; done) | skip
 rename_i es
 match es, h with
 | [a, l, c], _ => exact ⟨a, l, c, rfl⟩
theorem sides_len : ∀ vs : List D, (vs.flatMap sides).length ≤ 2 * vs.length
 | [] => Nat.le_refl _
 | v :: vs => by
  have h1 := sides_len vs
  have h2 : (sides v).length ≤ 2 := by
   unfold sides
   split <;> simp
  rw [List.flatMap_cons, List.length_append, List.length_cons]; omega
theorem st_ints {n : Int} : ∀ {es : List D}, (∀ e ∈ es, isSt n e = true) → ∃ ss : List Int, es = ss.map D.int
 | [], _ => ⟨[], rfl⟩
 | e :: es, h => by
  obtain ⟨i, rfl⟩ := st_int (h e (by simp))
  obtain ⟨ss, rfl⟩ := st_ints fun x hx => h x (List.mem_cons_of_mem _ hx)
  exact ⟨i :: ss, rfl⟩
theorem mv_mid (n : Int) (v : D) : isMv n v = (mid v && (sides v).all (isSt n)) := by
 cases v <;> first | rfl | skip
 rename_i es
 match es with
 | [a, l, c] =>
  show (isSt n a && (isLeaf l && isSt n c)) = (isLeaf l && (isSt n a && (isSt n c && true)))
  cases isSt n a <;> cases isLeaf l <;> cases isSt n c <;> rfl
 | [] => rfl
 | [_] => rfl
 | [_, _] => rfl
 | _ :: _ :: _ :: _ :: _ => rfl
theorem all_mv (n : Int) : ∀ vs : List D, vs.all mid = true → vs.all (isMv n) = (vs.flatMap sides).all (isSt n)
 | [], _ => rfl
 | v :: vs, h => by
  simp only [List.all_cons, Bool.and_eq_true] at h
  rw [List.flatMap_cons, List.all_append, List.all_cons, mv_mid, h.1, Bool.true_and, all_mv n vs h.2]
theorem pys_map : ∀ es : List D, pys es = es.map py
 | [] => rfl
 | e :: es => by simp only [pys, List.map_cons, pys_map es]
theorem fit_bls (bs : List Bool) : fit (.lst (bs.map D.bl)) = true := by
 have h : ∀ bs : List Bool, purs (bs.map D.bl) = true ∧ PyData.canLayAll0 (pys (bs.map D.bl)) = true ∧ PyData.depthAll (pys (bs.map D.bl)) = 0 := fun bs => by
  induction bs with
  | nil => exact ⟨rfl, rfl, rfl⟩
  | cons b bs ih =>
   obtain ⟨h1, h2, h3⟩ := ih
   refine ⟨by simp only [List.map_cons, purs, pur, h1, Bool.and_self], ?_, ?_⟩
   ·simp only [List.map_cons, pys, py, PyData.canLayAll0, PyData.canLay0, h2, Bool.and_self]
   ·simp only [List.map_cons, pys, py, PyData.depthAll, PyData.depth, h3]; rfl
 obtain ⟨h1, h2, h3⟩ := h bs
 unfold fit PySem.SeqAt.shaped
 simp only [pur, py, PyData.canLay0, PyData.depth, h1, h2, h3]
 decide
theorem fit_keys {es : List D} (h : ∀ e ∈ es, pur e = true ∧ okK (py e) = true ∧ (py e).depth ≤ 6) : fit (.lst es) = true := by
 have g : ∀ es : List D, (∀ e ∈ es, pur e = true ∧ okK (py e) = true ∧ (py e).depth ≤ 6) → purs es = true ∧ PyData.canLayAll0 (pys es) = true ∧ PyData.depthAll (pys es) ≤ 6 := fun es => by
  induction es with
  | nil => exact fun _ => ⟨rfl, rfl, Nat.zero_le _⟩
  | cons e es ih =>
   intro h
   obtain ⟨h1, h2, h3⟩ := ih fun x hx => h x (List.mem_cons_of_mem _ hx)
   obtain ⟨a1, a2, a3⟩ := h e (by simp)
   refine ⟨by simp only [purs, a1, h1, Bool.and_self], ?_, ?_⟩
   ·simp only [pys, PyData.canLayAll0, lay_ok _ a2, h2, Bool.and_self]
   ·simp only [pys, PyData.depthAll]; omega
 obtain ⟨h1, h2, h3⟩ := g es h
 unfold fit PySem.SeqAt.shaped
 simp only [pur, py, PyData.canLay0, PyData.depth, h1, h2, Bool.true_and]
 exact decide_eq_true (by omega)
theorem in_bls (bs : List Bool) : inD (.bl false) (bs.map D.bl) = !(bs.all id) := by
 unfold inD
 induction bs with
 | nil => rfl
 | cons b bs ih =>
  rw [List.map_cons, List.any_cons, ih, List.all_cons]
  cases b <;> rfl
theorem eq_sorted {ks ks' : List D} {S : Sto} {Q : AK} (hk : Keys ks) (h1 : ∀ k ∈ ks', k ∈ ks) (h2 : ∀ y, y ∈ ks'.map py ↔ y ∈ ks.map py) (h3 : (ks'.map py).Nodup) (h4 : ks'.Pairwise (fun x y => ltK (py y) (py x) = false)) (q : Q (.dat (.bl (rises ks))) S) : aEq (.lst ks) (.lst ks') S Q := by
 unfold aEq
 simp only [see_lst']
 refine ⟨fit_keys hk.1, fit_keys fun e he => hk.1 e (h1 e he), ?_⟩
 have e1 : PyData.eqv (py (.lst ks)) (py (.lst ks')) = decide (ks.map py = ks'.map py) := by
  simp only [py, pys_map]
  refine eqvL (okKs_of fun x hx => ?_) (okKs_of fun x hx => ?_)
  ·obtain ⟨e, he, rfl⟩ := List.mem_map.mp hx
   exact (hk.1 e he).2.1
  ·obtain ⟨e, he, rfl⟩ := List.mem_map.mp hx
   exact (hk.1 e (h1 e he)).2.1
 have hi := rise_iff (as := ks.map py) (bs := ks'.map py) (fun x hx y hy => by
  obtain ⟨a, ha, rfl⟩ := List.mem_map.mp hx
  obtain ⟨b, hb, rfl⟩ := List.mem_map.mp hy
  exact hk.2 a ha b hb) h2 h3 (by rw [List.pairwise_map]; exact h4)
 rw [e1]
 have e2 : decide (ks.map py = ks'.map py) = rises ks := by
  unfold rises
  by_cases h : ks.map py = ks'.map py
  ·rw [decide_eq_true h, hi.mp h]
  ·rw [decide_eq_false h]
   exact (Bool.eq_false_iff.mpr fun z => h (hi.mpr z)).symm
 rw [e2]; exact q
theorem ret_more {S : Sto} {o : Option MO} {b : Bool} {Q : AK} (q : Q (.dat (.bl b)) S) : M.ret S (S ++ [o]) (.dat (.bl b)) Q := by
 refine ⟨_, out_dat rfl, fun k o' hk e' => .inl ?_, by rw [List.take_left]; exact q⟩
 rw [List.getElem?_append_left hk] at e'; exact e'
section
variable {P : Program} {w : World} {K : PySem.W.Frag} {mg : Str → Option Value} {base : Heap}
noncomputable def spLM : AN := fun ds S Q => ∃ x, ds = [x, .int (10 ^ 20)] ∧ thB 64 x = true ∧ szM x ∧ Q (.dat (.bl (isM x))) S
theorem d_LM (T : Txt K mg) (F : Src K mg "_law_is_machine" PscLM sLM) (D_law_is_stand : Def P w K mg base 1 "_law_is_stand" PscLStand (conSp K spLStand)) (D_law_is_leaf : Def P w K mg base 2 "_law_is_leaf" PscLIsLf (conSp K spLIsLf)) : Def P w K mg base 3 "_law_is_machine" PscLM (conSp K spLM) := by
 refine defA F scLM (fun ds S Q h => ?_) (fun f cdv A outer s H E hr => ?_)
 ·obtain ⟨x, rfl, _⟩ := h; rfl
 ·refine ⟨_, (M.pss_cons (M.ps_if (M.pw_pt (M.pw_or (M.pt_not (M.pt_val (M.pcb M.o_isi (by rfl) T.isinstance (by decide +kernel) (M.pac (M.pv 0) (M.pac (M.pe_ty "tuple" (by rfl) T.tuple (by decide +kernel)) M.pa_nil))))) (M.pw_or1 (M.pt_cmpR (M.o_ne hr) (M.pcb M.o_len (by rfl) T.len (by decide +kernel) (M.pac (M.pv 0) M.pa_nil)) M.pe_int (nomark _)))))
    (M.pss_one (M.ps_ret M.pe_bl))
    M.pss_nil)
   (M.pss_cons (M.ps_asg (M.pv 0) (M.pg_tup (n := 4) rfl (M.pgs_cons (M.pg_name (i := 2) scLM.nd rfl (Or.inr rfl)) (M.pgs_cons (M.pg_name (i := 3) scLM.nd rfl (Or.inl rfl)) (M.pgs_cons (M.pg_name (i := 4) scLM.nd rfl (Or.inl rfl)) (M.pgs_cons (M.pg_name (i := 5) scLM.nd rfl (Or.inl rfl)) M.pgs_nil))))))
   (M.pss_cons (M.ps_if (M.pw_pt (M.pw_or (M.pt_not (M.pt_val (M.pcb M.o_isi (by rfl) T.isinstance (by decide +kernel) (M.pac (M.pv 4) (M.pac (M.pe_ty "tuple" (by rfl) T.tuple (by decide +kernel)) M.pa_nil))))) (M.pw_or1 (M.pt_not (M.pt_val (M.pcb M.o_isi (by rfl) T.isinstance (by decide +kernel) (M.pac (M.pv 5) (M.pac (M.pe_ty "tuple" (by rfl) T.tuple (by decide +kernel)) M.pa_nil))))))))
    (M.pss_one (M.ps_ret M.pe_bl))
    M.pss_nil)
   (M.pss_cons (M.ps_if (M.pw_pt (M.pw_or (M.pt_not (M.pt_val (M.pe_own D_law_is_stand (hr.mono (by decide)) (by rfl) (M.pac (M.pv 2) (M.pac (M.pe_op M.o_add (M.pv 1) M.pe_int) M.pa_nil))))) (M.pw_or1 (M.pt_cmpR M.o_lt (M.pv 2) M.pe_int (nomark _)))))
    (M.pss_one (M.ps_ret M.pe_bl))
    M.pss_nil)
   (M.pss_cons (M.ps_set (i := 6) scLM.nd rfl (Or.inl rfl) (M.alo (M.pe_op M.o_add (M.pe_lst (M.pac (M.pv 3) M.pa_nil)) (M.pct M.o_listOf (by rfl) T.list (by decide +kernel) (M.pac (M.pv 4) M.pa_nil)))))
   (M.pss_cons (M.ps_for PassesOwn.never rfl (M.pi_any (M.pv 5)) (M.pg_name (i := 7) scLM.nd rfl (Or.inl rfl))
    (M.pss_cons (M.ps_if (M.pw_pt (M.pw_or (M.pt_not (M.pt_val (M.pcb M.o_isi (by rfl) T.isinstance (by decide +kernel) (M.pac (M.pv 7) (M.pac (M.pe_ty "tuple" (by rfl) T.tuple (by decide +kernel)) M.pa_nil))))) (M.pw_or (M.pt_cmpR (M.o_ne hr) (M.pcb M.o_len (by rfl) T.len (by decide +kernel) (M.pac (M.pv 7) M.pa_nil)) M.pe_int (nomark _)) (M.pw_or1 (M.pt_not (M.pt_val (M.pe_own D_law_is_leaf (hr.mono (by decide)) (by rfl) (M.pac (M.pe_ix M.o_ix (M.pv 7) M.pe_int (fun _ _ => rfl)) M.pa_nil))))))))
     (M.pss_one (M.ps_ret M.pe_bl))
     M.pss_nil)
    (M.pss_one (M.ps_expr (M.pe_bm PySem.F.plainAttrs_list PySem.F.slot_list_extend PySem.F.type_list_extend M.m_extend (M.pv 6) (M.pac (M.pe_lst (M.pac (M.pe_ix M.o_ix (M.pv 7) M.pe_int (fun _ _ => rfl)) (M.pac (M.pe_ix M.o_ix (M.pv 7) M.pe_int (fun _ _ => rfl)) M.pa_nil))) M.pa_nil))))))
   (M.pss_cons (M.ps_if (M.pt_cmpR (M.o_in hr) M.pe_bl (M.pe_comp (N := ["_law_stand", "_law_many"]) (caps := [none, some 2]) (bs_mk (by decide +kernel)) (by rfl) (by rfl) rfl (M.pi_any (M.pv 6)) (fun _ _ _ _ => (M.pg_name (i := 0) (by decide +kernel : List.Nodup (["_law_stand", "_law_many"] : List Str)) rfl (Or.inl rfl))) (fun _ _ _ _ => M.pts_nil) (fun _ _ _ _ => (M.pe_own D_law_is_stand (hr.mono (by decide)) (by rfl) (M.pac (M.pv 0) (M.pac (M.pv 1) M.pa_nil))))) rfl)
    (M.pss_one (M.ps_ret M.pe_bl))
    M.pss_nil)
   (M.pss_one (M.ps_ret (M.pe_and (M.pe_cmpR (M.o_eq hr) (M.pct M.o_listOf (by rfl) T.list (by decide +kernel) (M.pac (M.pv 4) M.pa_nil)) (M.pe_sortSetI rfl (by rfl) T.sorted (by rfl) T.set (M.pv 4)) (nomark _)) (M.pe_one (M.pe_cmpR (M.o_eq hr) (M.pct M.o_listOf (by rfl) T.list (by decide +kernel) (M.pac (M.pv 5) M.pa_nil)) (M.pe_sortSetK hr rfl (by rfl) T.sorted (by rfl) T.set (M.pv 5)) (nomark _))))))))))))), fun ds S Q h => ?_⟩
  obtain ⟨x, rfl, hp, hz, q⟩ := h
  have e0 : startA NscLM [x, .int (10 ^ 20)] = [some x, some (.int (10 ^ 20)), none, none, none, none, none, none] := rfl
  rw [e0]
  push_cast [(isi_of (S := S) (th_pur hp)).1]
  cases x <;> first | (simp [thB] at hp; done) | skip
  case tup es =>
   refine iteF ⟨es.length, rfl, ?_⟩
   have hne : ∀ (h : ¬ es.length = 4), isM (.tup es) = false := fun h => by
    match es with
    | [m, b, e, v] => exact absurd rfl h
    | [] => rfl
    | [_] => rfl
    | [_, _] => rfl
    | [_, _, _] => rfl
    | _ :: _ :: _ :: _ :: _ :: _ => rfl
   by_cases h4 : es.length = 4
   ·match es, h4, hp, hz, q with
    | [m, b, e, v], _, hp, hz, q =>
    clear hne
    have hm : thB 63 m = true := th_item hp (by simp)
    have hb : thB 63 b = true := th_item hp (by simp)
    have he : thB 63 e = true := th_item hp (by simp)
    have hv : thB 63 v = true := th_item hp (by simp)
    have q : Q (.dat (.bl (isM4 m b e v))) S := q
    obtain ⟨hz1, hz2, hz3⟩ := hz
    refine ⟨false, rfl, iteF ?_⟩
    push_cast [agTup, agCons, agName, agNil, List.set_cons_zero, List.set_cons_succ, (isi_of (S := S) (th_pur he)).1, (isi_of (S := S) (th_pur hv)).1]
    refine ⟨_, rfl, rfl, _, _, rfl, _, _, rfl, _, _, rfl, _, _, rfl, rfl, ?_⟩
    rw [(isi_of (S := S) (th_pur he)).1]
    refine ⟨_, rfl, ?_⟩
    cases e with
    | tup es =>
     refine iteF ?_
     rw [(isi_of (S := S) (th_pur hv)).1]
     refine ⟨_, rfl, ?_⟩
     cases v with
     | tup vs =>
      refine iteF ⟨10 ^ 20 + 1, m, rfl, th_pur hm, _, rfl, ?_⟩
      cases hs : isSt (10 ^ 20 + 1) m with
      | false =>
       have e1 : isM4 m b (.tup es) (.tup vs) = false := by
        clear q hp e0
        cases m with
        | int n =>
         have h1 := hz1 n rfl
         have hs : (decide (0 ≤ n) && decide (n < 10 ^ 20 + 1)) = false := hs
         rw [decide_eq_true (by omega : n < 10 ^ 20 + 1), Bool.and_true] at hs
         have hs := of_decide_eq_false hs
         show (decide (1 ≤ n) && _) = false
         rw [decide_eq_false (by omega)]; rfl
        | _ => rfl
       rw [e1] at q
       exact iteT (by rw [ret_bl]; exact q)
      | true =>
       obtain ⟨n, rfl⟩ := st_int hs
       have q : Q (.dat (.bl (decide (1 ≤ n) && (isSt n b && (isEnds n (.tup es) && isMvs n (.tup vs)))))) S := q
       refine iteF ?_
       push_cast [true_and]
       by_cases h1 : n < 1
       ·rw [decide_eq_false (by omega)] at q
        rw [decide_eq_true h1]
        exact iteT q
       ·rw [decide_eq_true (by omega : 1 ≤ n), Bool.true_and] at q
        rw [decide_eq_false h1]
        refine iteF ?_
        have hle := hz2 es rfl
        have hlv := hz3 vs rfl
        push_cast [aAlloc, aLst, aCons, aNil, aListOf]
        refine ⟨sz rfl, by rw [sizeLine_eq]; show 1 + es.length ≤ _; omega, _, rfl, ?_⟩
        have hvl : thB 63 (.tup vs) = true := hv
        have atS : ∀ o : MO, (S ++ [some o])[S.length]? = some (some o) := fun o => by simp
        have setS : ∀ o o' : MO, (S ++ [some o]).set S.length (some o') = S ++ [some o'] := fun o o' => by rw [List.set_append_right _ _ (Nat.le_refl _)]; simp
        refine loop_by (fun xs δ S' => ∃ ps d7, vs = ps ++ xs ∧ ps.all mid = true ∧ δ = [some (D.tup [.int n, b, .tup es, .tup vs]), some (.int (10 ^ 20)), some (.int n), some b, some (.tup es), some (.tup vs), some (.loc S.length), d7] ∧ S' = S ++ [some (.lst ([b] ++ es ++ ps.flatMap sides))]) (fun δ S' h => ?_) (fun x xs δ S' N h hN => ?_) vs _ _ ⟨[], none, rfl, rfl, rfl, by simp⟩
        ·obtain ⟨ps, d7, e1, hmid, rfl, rfl⟩ := h
         rw [List.append_nil] at e1
         subst e1
         refine ⟨trivial, ?_⟩
         push_cast [aComp, aAndV]
         have hall : ∀ x ∈ [b] ++ es ++ vs.flatMap sides, pur x = true := fun x hx => by
          rcases List.mem_append.mp hx with hx | hx
          ·rcases List.mem_append.mp hx with hx | hx
           ·rw [List.mem_singleton.mp hx]; exact th_pur hb
           ·exact th_pur (th_item he hx)
          ·obtain ⟨v, v1, v2⟩ := List.mem_flatMap.mp hx
           have tv : thB 62 v = true := th_item hv v1
           obtain ⟨a, l, c, rfl⟩ := mid_shape (List.all_eq_true.mp hmid v v1)
           have v2 : x ∈ [a, c] := v2
           refine th_pur (th_item (ds := [a, l, c]) tv ?_)
           simp only [List.mem_cons, List.not_mem_nil, or_false] at v2 ⊢
           rcases v2 with rfl | rfl <;> simp
         have hlen : ([b] ++ es ++ vs.flatMap sides).length ≤ 200 := by
          have := sides_len vs
          rw [List.length_append, List.length_append]
          show 1 + es.length + _ ≤ 200
          omega
         have emv := all_mv n vs hmid
         have eall : ([b] ++ es ++ vs.flatMap sides).all (isSt n) = ((isSt n b && true) && es.all (isSt n) && vs.all (isMv n)) := by
          rw [List.all_append, List.all_append, emv]; rfl
         have q : Q (.dat (.bl (isSt n b && ((es.all (isSt n) && rises es) && (vs.all (isMv n) && rises vs))))) S := q
         clear emv
         generalize hst : [b] ++ es ++ vs.flatMap sides = sts at hall hlen eall
         refine ⟨_, rfl, sts, atS _, comp_map (δ := captA [none, some 2] [some (D.tup [.int n, b, .tup es, .tup vs]), some (.int (10 ^ 20)), some (.int n), some b, some (.tup es), some (.tup vs), some (.loc S.length), d7]) (fun x => .bl (isSt n x)) (atS _) sts [] _ rfl (fun x hx Q' q' => ?_) (by rw [sizeLine_eq]; simp; omega) ?_⟩
         ·push_cast [captA, List.map_cons, List.map_nil, Option.bind_none, Option.bind_some, List.set_cons_zero, List.getElem?_cons_zero, List.getElem?_cons_succ, Option.getD_some, aVar, aCons, aNil, aCall]
          exact ⟨n, x, rfl, hall x hx, q'⟩
         ·rw [List.nil_append, show (sts.map fun x => D.bl (isSt n x)) = (sts.map (isSt n)).map D.bl by rw [List.map_map]; rfl]
          refine ⟨rfl, fit_bls _, _, rfl, ?_⟩
          show if (false != inD (.bl false) _) = true then _ else _
          rw [in_bls, Bool.false_bne, show (sts.map (isSt n)).all id = sts.all (isSt n) by rw [List.all_map]; rfl, eall]
          cases c1 : isSt n b with
          | false => rw [c1] at q; exact iteT (ret_more q)
          | true =>
           rw [c1, Bool.true_and] at q
           cases c2 : es.all (isSt n) with
           | false => rw [c2] at q; exact iteT (ret_more q)
           | true =>
            rw [c2, Bool.true_and] at q
            cases c3 : vs.all (isMv n) with
            | false => rw [c3, Bool.false_and, Bool.and_false] at q; exact iteT (ret_more q)
            | true =>
             rw [c3, Bool.true_and] at q
             obtain ⟨ss, rfl⟩ := st_ints (List.all_eq_true.mp c2)
             have hle' : ss.length < 60 := by rw [List.length_map] at hle; exact hle
             have epy : ∀ t : List Int, (t.map D.int).map py = t.map PyData.int := fun t => by rw [List.map_map]; rfl
             have inj : ∀ {a b : Int}, PyData.int a = PyData.int b → a = b := fun h => by injection h
             refine iteF ⟨_, rfl, _, rfl, ss, .inl rfl, by omega, fun ss' n1 n2 n3 => ?_⟩
             refine eq_sorted (ks := ss.map D.int) (ks' := ss'.map D.int) (st_keys c2) (fun k hk => ?_) (fun y => ?_) ?_ ?_ ⟨_, rfl, ?_⟩
             ·obtain ⟨i, i1, rfl⟩ := List.mem_map.mp hk
              exact List.mem_map.mpr ⟨i, (n2 i).mp i1, rfl⟩
             ·rw [epy, epy, List.mem_map, List.mem_map]
              exact ⟨fun ⟨i, i1, i2⟩ => ⟨i, (n2 i).mp i1, i2⟩, fun ⟨i, i1, i2⟩ => ⟨i, (n2 i).mpr i1, i2⟩⟩
             ·rw [epy]
              show (ss'.map PyData.int).Pairwise (· ≠ ·)
              rw [List.pairwise_map]
              exact n1.imp fun h e => h (inj e)
             ·rw [List.pairwise_map]
              refine n3.imp fun {a b} h => ?_
              simp only [py, ltK]
              exact decide_eq_false (by omega)
             ·cases c4 : rises (ss.map D.int) with
              | false => rw [c4] at q; exact iteF (ret_more q)
              | true =>
               rw [c4, Bool.true_and] at q
               obtain ⟨g1, g2⟩ := mv_keys (k := 60) hv c3
               exact iteT ⟨_, rfl, _, rfl, vs, rfl, g1, g2, by omega, fun ks' k1 k2 k3 k4 => eq_sorted (mv_keys' (k := 60) hv c3) k1 k2 k3 k4 (ret_more q)⟩
        ·obtain ⟨ps, d7, e1, hmid, rfl, rfl⟩ := h
         refine ⟨trivial, ?_⟩
         have hxm : x ∈ vs := by rw [e1]; simp
         have hx : thB 62 x = true := th_item hvl hxm
         have bad : mid x = false → Q (.dat (.bl false)) S := fun hb => by
          have : isMvs n (.tup vs) = false := by
           show (vs.all (isMv n) && _) = false
           have : vs.all (isMv n) = false := Bool.eq_false_iff.mpr fun z => by
            have := List.all_eq_true.mp z x hxm
            rw [mv_mid, hb] at this; cases this
           rw [this]; rfl
          rw [this, Bool.and_false, Bool.and_false] at q
          exact q
         push_cast [agName, List.set_cons_zero, List.set_cons_succ]
         rw [(isi_of (th_pur hx)).1]
         refine ⟨_, rfl, ?_⟩
         cases x with
         | tup fs =>
          refine iteF ⟨fs.length, rfl, ?_⟩
          by_cases h3 : fs.length = 3
          ·match fs, h3, hx, hN, e1, bad with
           | [a, l, c], _, hx, hN, e1, bad =>
           refine ⟨false, rfl, iteF ?_⟩
           have hl : thB 61 l = true := th_item hx (by simp)
           have ha : thB 61 a = true := th_item hx (by simp)
           have hc : thB 61 c = true := th_item hx (by simp)
           push_cast [ix_tup, at1]
           refine ⟨l, rfl, hl, _, rfl, ?_⟩
           cases hlf : isLeaf l with
           | false => exact iteT (ret_more (bad hlf))
           | true =>
            refine iteF ?_
            push_cast [aBM, aCons, aNil, aLst, aOp, ix_tup, at0, at2]
            have hpl : ps.length < 60 := by
             have e := congrArg List.length e1
             rw [List.length_append] at e
             omega
            have hsl := sides_len ps
            refine ⟨by simp only [see, atS]; rfl, sz rfl, _, _, _, _, rfl, rfl, atS _, .inl rfl, ?_, ?_⟩
            ·rw [List.length_append, List.length_append, sizeLine_eq]
             show 1 + es.length + _ + 2 ≤ _
             omega
            ·rw [setS]
             refine hN _ _ ⟨ps ++ [.tup [a, l, c]], _, by rw [e1, List.append_assoc]; rfl, ?_, rfl, ?_⟩
             ·rw [List.all_append, hmid]
              show (true && (isLeaf l && true)) = true
              rw [hlf]; rfl
             ·rw [List.flatMap_append, ← List.append_assoc ([b] ++ es)]; rfl
          ·refine ⟨true, ?_, iteT (ret_more (bad ?_))⟩
           ·show D.bl (!decide _) = _
            rw [decide_eq_false (by omega)]; rfl
           ·match fs, h3 with
            | [a, l, c], h => exact absurd rfl h
            | [], _ => rfl
            | [_], _ => rfl
            | [_, _], _ => rfl
            | _ :: _ :: _ :: _ :: _, _ => rfl
         | _ => exact iteT (ret_more (bad rfl))
     | _ =>
      have e1 : ∀ {v : D}, (∀ vs, v ≠ .tup vs) → isM4 m b (.tup es) v = false := fun {v} h => by
       have : ∀ n, isMvs n v = false := fun n => by cases v <;> first | rfl | exact absurd rfl (h _)
       cases m <;> first | rfl | skip
       show (_ && (_ && (_ && isMvs _ v))) = false
       rw [this, Bool.and_false, Bool.and_false, Bool.and_false]
      rw [e1 (by intro y z; cases z)] at q
      exact q
    | _ =>
     have e1 : ∀ {e : D}, (∀ es, e ≠ .tup es) → isM4 m b e v = false := fun {e} h => by
      have : ∀ n, isEnds n e = false := fun n => by cases e <;> first | rfl | exact absurd rfl (h _)
      cases m <;> first | rfl | skip
      show (_ && (_ && (isEnds _ e && _))) = false
      rw [this, Bool.false_and, Bool.and_false, Bool.and_false]
     rw [e1 (by intro y z; cases z)] at q
     exact q
   ·rw [hne h4] at q
    refine ⟨true, ?_, iteT (by rw [ret_bl]; exact q)⟩
    show D.bl (!decide _) = _
    rw [decide_eq_false (by omega)]; rfl
  all_goals exact q
end
open PySem L2 M M6
noncomputable abbrev sBM : Stmt := top 31
noncomputable abbrev NscBM : List Str := ["_law_moves", "_law_way", "_law_number", "_law_many", "_law_at", "_law_move", "_law_odd", "_law_fresh"]
noncomputable abbrev PscBM : List Str := ["_law_moves", "_law_way", "_law_number", "_law_many"]
theorem scBM : FnScope NscBM PscBM (defScope sBM) := ⟨rfl, rfl, rfl, by decide +kernel, rfl, by decide +kernel, by decide +kernel⟩
theorem add0_int {i j : Int} {S : Sto} {Q : AK} : aAdd0 (.int i) (.int j) S Q = Q (.dat (.int (i + j))) S := rfl
theorem add_tup {xs ys : List D} {S : Sto} {Q : AK} (hl : xs.length + ys.length ≤ sizeLine) (q : Q (.dat (.tup (xs ++ ys))) S) : aAdd0 (.tup xs) (.tup ys) S Q := by
 cases xs with
 | nil => exact q
 | cons x xs => exact ⟨by simp, hl, q⟩
theorem th_tup {n : Nat} {ws : List D} (h : ∀ v ∈ ws, thB n v = true) (hl : ws.length ≤ 100) : thB (n + 1) (.tup ws) = true := by
 simp only [thB, Bool.and_eq_true, List.all_eq_true]
 exact ⟨decide_eq_true hl, h⟩
theorem cut_mem {α : Type} {xs : List α} {lo hi : Option Int} {x : α} (h : x ∈ cutD xs lo hi) : x ∈ xs := List.mem_of_mem_drop (List.mem_of_mem_take h)
theorem cut_lo {α : Type} {xs : List α} {j : Nat} (h : j ≤ xs.length) : (cutD xs none (some (j : Int))).length ≤ j := by
 unfold cutD
 rw [sIx_nat h]
 refine Nat.le_trans (List.length_take_le _ _) ?_
 omega
theorem cut_hi {α : Type} {xs : List α} {j : Nat} : (cutD xs (some ((j : Int) + 1)) none).length ≤ xs.length - (j + 1) := by
 have e : ((j : Int) + 1) = ((j + 1 : Nat) : Int) := by omega
 unfold cutD
 rw [e, HT.sIx_nat]
 refine Nat.le_trans (List.length_take_le' _ _) ?_
 rw [List.length_drop]
 omega
theorem bm_end {vs fl : List D} {j : Nat} {S : Sto} {Q : AK} (hj : j ≤ vs.length) (hl : vs.length < 50) (hf : fl.length ≤ 2) (hv : ∀ v ∈ vs, thB 62 v = true) (hfl : ∀ v ∈ fl, thB 62 v = true) (q2 : ∀ ws : List D, (∀ v ∈ ws, thB 62 v = true) → ws.length ≤ vs.length + 2 → Q (.dat (.tup ws)) S) :
  aSlc (.tup vs) none (some (j : Int)) S fun x S1 => aAdd0 x.d (.tup fl) S1 fun x S1 => aSlc (.tup vs) (some ((j : Int) + 1)) none S1 fun y S2 => aAdd0 x.d y.d S2 fun r S' => M.ret S S' r Q := by
 have h1 := cut_lo hj
 have h2 := cut_hi (xs := vs) (j := j)
 have sl : ∀ {lo hi : Option Int} {S : Sto} {Q : AK}, Q (.dat (.tup (cutD vs lo hi))) S → aSlc (.tup vs) lo hi S Q := fun q => by unfold aSlc; simp only [see_tup']; exact q
 refine sl ?_
 show aAdd0 (.tup (cutD vs none (some (j : Int)))) (.tup fl) S _
 refine add_tup (by rw [sizeLine_eq]; omega) ?_
 refine sl ?_
 show aAdd0 (.tup (cutD vs none (some (j : Int)) ++ fl)) (.tup (cutD vs (some ((j : Int) + 1)) none)) S _
 refine add_tup (by rw [List.length_append, sizeLine_eq]; omega) ?_
 have hall : ∀ v ∈ cutD vs none (some (j : Int)) ++ fl ++ cutD vs (some ((j : Int) + 1)) none, thB 62 v = true := fun v h => by
  rcases List.mem_append.mp h with h | h
  ·rcases List.mem_append.mp h with h | h
   ·exact hv v (cut_mem h)
   ·exact hfl v h
  ·exact hv v (cut_mem h)
 have hln : (cutD vs none (some (j : Int)) ++ fl ++ cutD vs (some ((j : Int) + 1)) none).length ≤ vs.length + 2 := by
  rw [List.length_append, List.length_append]; omega
 exact ret_pur (th_pur (th_tup hall (by omega))) (q2 _ hall hln)
theorem one {n : Nat} {x : D} (h : thB n x = true) : ∀ v ∈ [x], thB n v = true := fun v hv => by rw [List.mem_singleton.mp hv]; exact h
theorem th3 {n : Nat} {a l c : D} (h1 : thB n a = true) (h2 : thB n l = true) (h3 : thB n c = true) : thB (n + 1) (.tup [a, l, c]) = true := th_tup (fun v hv => by
 simp only [List.mem_cons, List.not_mem_nil, or_false] at hv
 rcases hv with rfl | rfl | rfl <;> assumption) (by simp)
theorem five {a l c : D} (tm : thB 62 (.tup [a, l, c]) = true) (hA : thB 61 a = true) (hL : thB 61 l = true) (hC : thB 61 c = true) (e : D) (he : e ∈ [D.lst [a, l, c], .tup (cutD [a, l, c] none (some 2)), .tup ([a, l, c] ++ [.int 0]), .non]) : thB 62 e = true := by
 have hall : ∀ v ∈ [a, l, c], thB 61 v = true := fun v hv => by
  simp only [List.mem_cons, List.not_mem_nil, or_false] at hv
  rcases hv with rfl | rfl | rfl <;> assumption
 simp only [List.mem_cons, List.not_mem_nil, or_false] at he
 rcases he with rfl | rfl | rfl | rfl
 ·exact tm
 ·exact th_tup (fun v hv => hall v (cut_mem hv)) (Nat.le_trans (cut_lo (j := 2) (by simp)) (by decide))
 ·refine th_tup (fun v hv => ?_) (by simp)
  rcases List.mem_append.mp hv with hv | hv
  ·exact hall v hv
  ·rw [List.mem_singleton.mp hv]; rfl
 ·rfl
theorem purs_of {n : Nat} : ∀ {ws : List D}, (∀ v ∈ ws, thB n v = true) → purs ws = true
 | [], _ => rfl
 | v :: ws, h => by simp only [purs, th_pur (h v (by simp)), purs_of fun x hx => h x (List.mem_cons_of_mem _ hx), Bool.and_self]
theorem slc_tup {vs : List D} {lo hi : Option Int} {S : Sto} {Q : AK} (q : Q (.dat (.tup (cutD vs lo hi))) S) : aSlc (.tup vs) lo hi S Q := by unfold aSlc; simp only [see_tup']; exact q
theorem seq_by {I : AEnv → Prop} {t u : AS} {Dn : AEnds} {S : Sto} (ht : ∀ δ, I δ → ∀ N : AEnv → Sto → Prop, (∀ δ', I δ' → N δ' S) → t { Dn with nx := N } δ S) (hu : ∀ δ, I δ → u Dn δ S) : ∀ δ, I δ → aSeq t u Dn δ S := fun δ h => ht δ h _ hu
section
variable {P : Program} {w : World} {K : PySem.W.Frag} {mg : Str → Option Value} {base : Heap}
noncomputable def spBM : AN := fun ds S Q => ∃ (vs : List D) (y : Int) (k : Nat) (n : Int), ds = [.tup vs, .int y, .int k, .int n] ∧ 0 ≤ y ∧ y < 7 ∧ vs.length < 50 ∧ (∀ v ∈ vs, thB 62 v = true ∧ ∃ a l c, v = .tup [a, l, c]) ∧ Q (.new (.lst vs)) S ∧
 ∀ ws : List D, (∀ v ∈ ws, thB 62 v = true) → ws.length ≤ vs.length + 2 → Q (.dat (.tup ws)) S
theorem d_BM (T : Txt K mg) (F : Src K mg "_law_bent_moves" PscBM sBM) (D_law_odd_stand : Def P w K mg base 1 "_law_odd_stand" PscOddS (conSp K spOddS)) (D_law_odd_leaf : Def P w K mg base 1 "_law_odd_leaf" PscOddL (conSp K spOddL)) : Def P w K mg base 2 "_law_bent_moves" PscBM (conSp K spBM) := by
 refine defA F scBM (fun ds S Q h => ?_) (fun f cdv A outer s H E hr => ?_)
 ·obtain ⟨vs, y, k, n, rfl, _⟩ := h; rfl
 ·refine ⟨_, (M.pss_cons (M.ps_set (i := 4) scBM.nd rfl (Or.inl rfl) (M.pe_op M.o_mod (M.pv 2) (M.pe_op M.o_add0 (M.pcb M.o_len (by rfl) T.len (by decide +kernel) (M.pac (M.pv 0) M.pa_nil)) M.pe_int)))
   (M.pss_cons (M.ps_set (i := 5) scBM.nd rfl (Or.inl rfl) (M.pe_tup (M.pac M.pe_int (M.pac (M.pe_tup (M.pac M.pe_str M.pa_nil)) (M.pac M.pe_int M.pa_nil)))))
   (M.pss_cons (M.ps_if (M.pt_cmpR M.o_lt (M.pv 4) (M.pcb M.o_len (by rfl) T.len (by decide +kernel) (M.pac (M.pv 0) M.pa_nil)) (nomark _))
    (M.pss_one (M.ps_set (i := 5) scBM.nd rfl (Or.inl rfl) (M.pe_ix M.o_ix (M.pv 0) (M.pv 4) (fun _ _ => rfl))))
    M.pss_nil)
   (M.pss_cons (M.ps_set (i := 6) scBM.nd rfl (Or.inl rfl) (M.pe_own D_law_odd_stand (hr.mono (by decide)) (by rfl) (M.pac (M.pv 2) (M.pac (M.pv 3) M.pa_nil))))
   (M.pss_cons (M.ps_set (i := 7) scBM.nd rfl (Or.inl rfl) (M.pe_tup (M.pac (M.pv 5) (M.pac (M.pv 5) M.pa_nil))))
   (M.pss_cons (M.ps_if (M.pt_cmpR (M.o_eq hr) (M.pv 1) M.pe_int (nomark _))
    (M.pss_one (M.ps_set (i := 7) scBM.nd rfl (Or.inl rfl) (M.pe_tup (M.pac (M.pe_tup (M.pac (M.pv 6) (M.pac (M.pe_ix M.o_ix (M.pv 5) M.pe_int (fun _ _ => rfl)) (M.pac (M.pe_ix M.o_ix (M.pv 5) M.pe_int (fun _ _ => rfl)) M.pa_nil)))) M.pa_nil))))
    M.pss_nil)
   (M.pss_cons (M.ps_if (M.pt_cmpR (M.o_eq hr) (M.pv 1) M.pe_int (nomark _))
    (M.pss_one (M.ps_set (i := 7) scBM.nd rfl (Or.inl rfl) (M.pe_tup (M.pac (M.pe_tup (M.pac (M.pe_ix M.o_ix (M.pv 5) M.pe_int (fun _ _ => rfl)) (M.pac (M.pe_ix M.o_ix (M.pv 5) M.pe_int (fun _ _ => rfl)) (M.pac (M.pv 6) M.pa_nil)))) M.pa_nil))))
    M.pss_nil)
   (M.pss_cons (M.ps_if (M.pt_cmpR (M.o_eq hr) (M.pv 1) M.pe_int (nomark _))
    (M.pss_one (M.ps_set (i := 7) scBM.nd rfl (Or.inl rfl) (M.pe_tup (M.pac (M.pe_tup (M.pac (M.pe_ix M.o_ix (M.pv 5) M.pe_int (fun _ _ => rfl)) (M.pac (M.pe_own D_law_odd_leaf (hr.mono (by decide)) (by rfl) (M.pac (M.pv 2) M.pa_nil)) (M.pac (M.pe_ix M.o_ix (M.pv 5) M.pe_int (fun _ _ => rfl)) M.pa_nil)))) M.pa_nil))))
    M.pss_nil)
   (M.pss_cons (M.ps_if (M.pt_cmpR (M.o_eq hr) (M.pv 1) M.pe_int (nomark _))
    (M.pss_one (M.ps_ret (M.pe_revT (M.pv 0))))
    M.pss_nil)
   (M.pss_cons (M.ps_if (M.pt_cmpR (M.o_eq hr) (M.pv 1) M.pe_int (nomark _))
    (M.pss_one (M.ps_set (i := 7) scBM.nd rfl (Or.inl rfl) (M.pe_tup (M.pac (M.pe_ix M.o_ix (M.pe_lst (M.pac (M.pct M.o_listOf (by rfl) T.list (by decide +kernel) (M.pac (M.pv 5) M.pa_nil)) (M.pac (M.pe_slice M.o_slc (M.pv 5) M.po_none (M.po_some M.pe_int)) (M.pac (M.pe_op M.o_add0 (M.pv 5) (M.pe_tup (M.pac M.pe_int M.pa_nil))) (M.pac M.pe_non M.pa_nil))))) (M.pe_op M.o_mod (M.pv 2) M.pe_int) (fun _ _ => rfl)) M.pa_nil))))
    M.pss_nil)
   (M.pss_cons (M.ps_if (M.pt_cmpR (M.o_eq hr) (M.pv 1) M.pe_int (nomark _))
    (M.pss_one (M.ps_ret (M.pct M.o_listOf (by rfl) T.list (by decide +kernel) (M.pac (M.pv 0) M.pa_nil))))
    M.pss_nil)
   (M.pss_one (M.ps_ret (M.pe_op M.o_add0 (M.pe_op M.o_add0 (M.pe_slice M.o_slc (M.pv 0) M.po_none (M.po_some (M.pv 4))) (M.pv 7)) (M.pe_slice M.o_slc (M.pv 0) (M.po_some (M.pe_op M.o_add0 (M.pv 4) M.pe_int)) M.po_none))))))))))))))), fun ds S Q h => ?_⟩
  obtain ⟨vs, y, k, n, rfl, y0, y1, hl, hv, q1, q2⟩ := h
  have e0 : startA NscBM [.tup vs, .int y, .int k, .int n] = [some (.tup vs), some (.int y), some (.int k), some (.int n), none, none, none, none] := rfl
  rw [e0]
  have hv' : ∀ v ∈ vs, thB 62 v = true := fun v h => (hv v h).1
  have hvr : ∀ v ∈ vs.reverse, thB 62 v = true := fun v h => hv' v (List.mem_reverse.mp h)
  have hlen : lenD (D.tup vs) = some vs.length := rfl
  obtain ⟨j, hj, ej⟩ : ∃ j : Nat, j ≤ vs.length ∧ (k : Int) % ((vs.length : Int) + 1) = (j : Int) := ⟨k % (vs.length + 1), Nat.le_of_lt_succ (Nat.mod_lt k (Nat.succ_pos vs.length)), by norm_cast⟩
  generalize hD : ({ nx := fun _ S' => M.ret S S' (.dat .non) Q, rt := fun r S' => M.ret S S' r Q } : AEnds) = Dn
  have hrt : Dn.rt = fun r S' => M.ret S S' r Q := by rw [← hD]
  clear hD
  generalize hR : aSeq (aAsg (aCall spOddS (aCons (aVar 2) (aCons (aVar 3) aNil))) (agName 6)) _ = RE
  have main : ∀ a l c : D, thB 61 a = true → thB 61 l = true → thB 61 c = true → RE Dn [some (D.tup vs), some (.int y), some (.int k), some (.int n), some (.int j), some (.tup [a, l, c]), none, none] S := fun a l c hA hL hC => by
   have tm := th3 hA hL hC
   rw [← hR]
   generalize hR2 : aSeq (aIfS (aB (aOp aEq (aVar 1) (aC (.int 0)))) _ aNext) _ = RE2
   push_cast [true_and]
   refine ⟨k, n, rfl, fun o ho => ⟨sz rfl, ?_⟩⟩
   rw [← hR2]
   refine seq_by (I := fun δ => ∃ fl : List D, δ = [some (D.tup vs), some (.int y), some (.int k), some (.int n), some (.int j), some (.tup [a, l, c]), some o, some (.tup fl)] ∧ fl.length ≤ 2 ∧ ∀ v ∈ fl, thB 62 v = true) (fun δ h N hN => ?_) (seq_by (fun δ h N hN => ?_) (seq_by (fun δ h N hN => ?_) (seq_by (fun δ h N hN => ?_) (seq_by (fun δ h N hN => ?_) (seq_by (fun δ h N hN => ?_) (fun δ h => ?_)))))) _ ⟨_, rfl, by simp, fun v hv => by
     simp only [List.mem_cons, List.not_mem_nil, or_false, or_self] at hv
     rw [hv]; exact tm⟩
   all_goals obtain ⟨fl, rfl, f1, f2⟩ := h
   all_goals push_cast [ix_tup, add0_int, List.set_cons_zero, List.set_cons_succ]
   ·exact ite2 (fun _ => ⟨_, at1, _, at2, sz rfl, sz rfl, hN _ ⟨_, rfl, by simp, one (th3 (thB_mono ho (by decide)) hL hC)⟩⟩) (fun _ => hN _ ⟨fl, rfl, f1, f2⟩)
   ·exact ite2 (fun _ => ⟨_, at0, _, at1, sz rfl, sz rfl, hN _ ⟨_, rfl, by simp, one (th3 hA hL (thB_mono ho (by decide)))⟩⟩) (fun _ => hN _ ⟨fl, rfl, f1, f2⟩)
   ·exact ite2 (fun _ => ⟨_, at0, k, rfl, fun o2 ho2 => ⟨_, at2, sz rfl, sz rfl, hN _ ⟨_, rfl, by simp, one (th3 hA (thB_mono ho2 (by decide)) hC)⟩⟩⟩) (fun _ => hN _ ⟨fl, rfl, f1, f2⟩)
   ·refine ite2 (fun _ => ⟨_, rfl, vs, rfl, ?_⟩) (fun _ => hN _ ⟨fl, rfl, f1, f2⟩)
    rw [hrt]
    exact ret_pur (th_pur (th_tup hvr (by rw [List.length_reverse]; omega))) (q2 _ hvr (by rw [List.length_reverse]; omega))
   ·refine ite2 (fun _ => ⟨_, rfl, slc_tup ⟨sz rfl, add_tup (sz rfl) ⟨sz rfl, by decide, ?_⟩⟩⟩) (fun _ => hN _ ⟨fl, rfl, f1, f2⟩)
    rw [show ((k : Int) % 4) = ((k % 4 : Nat) : Int) by omega]
    exact pickS rfl (by show k % 4 < 4; omega) fun e he => ⟨sz rfl, hN _ ⟨_, rfl, by simp, one (five tm hA hL hC e he)⟩⟩
   ·refine ite2 (fun _ => ⟨_, rfl, ?_⟩) (fun _ => hN _ ⟨fl, rfl, f1, f2⟩)
    rw [hrt]
    exact ret_new (purs_of hv') q1
   ·rw [hrt]
    exact bm_end hj hl f1 hv' f2 q2
  push_cast [hlen, add0_int]
  refine ⟨by omega, sz rfl, sz rfl, ?_⟩
  rw [ej]
  refine ite2 (fun h => ?_) (fun h => ?_)
  ·obtain ⟨mv, m1, m2⟩ := at_lt (ds := vs) (z := j) (by have := of_decide_eq_true h; omega)
   obtain ⟨tm, a, l, c, rfl⟩ := hv mv m2
   exact ⟨_, m1, main a l c (th_item tm (by simp)) (th_item tm (by simp)) (th_item tm (by simp))⟩
  ·exact main _ _ _ rfl (by decide +kernel) rfl
end
open PySem L2 M M6
noncomputable abbrev sBt : Stmt := top 32
noncomputable abbrev NscBt : List Str := ["_law_machine_here", "_law_way", "_law_number", "_law_many", "_law_begin", "_law_ends", "_law_moves", "_law_bent_here", "_law_odd"]
noncomputable abbrev PscBt : List Str := ["_law_machine_here", "_law_way", "_law_number"]
theorem scBt : FnScope NscBt PscBt (defScope sBt) := ⟨rfl, rfl, rfl, by decide +kernel, rfl, by decide +kernel, by decide +kernel⟩
noncomputable def szK (t : Nat) : D → Prop
 | .tup [m, _, e, v] => (∀ n, m = .int n → n ≤ 10 ^ 19 + t) ∧ (∀ es, e = .tup es → es.length ≤ 17 + 2 * t) ∧ ∀ vs, v = .tup vs → vs.length ≤ 17 + 2 * t
 | _ => True
theorem szK_M {t : Nat} {y : D} (ht : t ≤ 5) (h : szK t y) : szM y := by
 cases y <;> first | trivial | skip
 rename_i es
 match es, h with
 | [m, b, e, v], ⟨h1, h2, h3⟩ => exact ⟨fun n hn => by have := h1 n hn; omega, fun es he => by have := h2 es he; omega, fun vs hv => by have := h3 vs hv; omega⟩
 | [], _ => trivial
 | [_], _ => trivial
 | [_, _], _ => trivial
 | [_, _, _], _ => trivial
 | _ :: _ :: _ :: _ :: _ :: _, _ => trivial
theorem cut1 {α : Type} (xs : List α) : (cutD xs none (some 1)).length ≤ 1 := by
 unfold cutD
 have e : HT.sIx xs.length xs.length (some 1) = min 1 xs.length := HT.sIx_nat ..
 rw [e]
 refine Nat.le_trans (List.length_take_le _ _) ?_
 omega
section
variable {P : Program} {w : World} {K : PySem.W.Frag} {mg : Str → Option Value} {base : Heap}
noncomputable def MIn (t : Nat) (n : Int) (b : D) (es vs : List D) : Prop := n ≤ 10 ^ 19 + t ∧ thB 63 b = true ∧ es.length ≤ 17 + 2 * t ∧ (∀ e ∈ es, thB 62 e = true) ∧ vs.length ≤ 17 + 2 * t ∧ ∀ v ∈ vs, thB 62 v = true ∧ ∃ a l c, v = .tup [a, l, c]
noncomputable def spBt : AN := fun ds S Q => ∃ (t : Nat) (n : Int) (b : D) (es vs : List D) (y : Int) (k : Nat), ds = [.tup [.int n, b, .tup es, .tup vs], .int y, .int k] ∧ t ≤ 4 ∧ 0 ≤ y ∧ y < 16 ∧ MIn t n b es vs ∧ ∀ z, thB 64 z = true → szK (t + 1) z → Q (.dat z) S
theorem d_Bt (T : Txt K mg) (F : Src K mg "_law_bent" PscBt sBt) (D_law_bent_moves : Def P w K mg base 2 "_law_bent_moves" PscBM (conSp K spBM)) (D_law_odd_stand : Def P w K mg base 1 "_law_odd_stand" PscOddS (conSp K spOddS)) : Def P w K mg base 3 "_law_bent" PscBt (conSp K spBt) := by
 refine defA F scBt (fun ds S Q h => ?_) (fun f cdv A outer s H E hr => ?_)
 ·obtain ⟨t, n, b, es, vs, y, k, rfl, _⟩ := h; rfl
 ·refine ⟨_, (M.pss_cons (M.ps_asg (M.pv 0) (M.pg_tup (n := 4) rfl (M.pgs_cons (M.pg_name (i := 3) scBt.nd rfl (Or.inl rfl)) (M.pgs_cons (M.pg_name (i := 4) scBt.nd rfl (Or.inl rfl)) (M.pgs_cons (M.pg_name (i := 5) scBt.nd rfl (Or.inl rfl)) (M.pgs_cons (M.pg_name (i := 6) scBt.nd rfl (Or.inl rfl)) M.pgs_nil))))))
   (M.pss_cons (M.ps_if (M.pt_cmpR M.o_lt (M.pv 1) M.pe_int (nomark _))
    (M.pss_cons (M.ps_set (i := 7) scBt.nd rfl (Or.inl rfl) (M.pe_own D_law_bent_moves (hr.mono (by decide)) (by rfl) (M.pac (M.pv 6) (M.pac (M.pv 1) (M.pac (M.pv 2) (M.pac (M.pv 3) M.pa_nil))))))
    (M.pss_one (M.ps_ret (M.pe_tup (M.pac (M.pv 3) (M.pac (M.pv 4) (M.pac (M.pv 5) (M.pac (M.pv 7) M.pa_nil))))))))
    M.pss_nil)
   (M.pss_cons (M.ps_if (M.pt_cmpR (M.o_eq hr) (M.pv 1) M.pe_int (nomark _))
    (M.pss_one (M.ps_ret (M.pe_tup (M.pac (M.pv 3) (M.pac (M.pe_own D_law_odd_stand (hr.mono (by decide)) (by rfl) (M.pac (M.pv 2) (M.pac (M.pv 3) M.pa_nil))) (M.pac (M.pv 5) (M.pac (M.pv 6) M.pa_nil)))))))
    M.pss_nil)
   (M.pss_cons (M.ps_if (M.pt_cmpR (M.o_eq hr) (M.pv 1) M.pe_int (nomark _))
    (M.pss_one (M.ps_ret (M.pe_tup (M.pac (M.pv 3) (M.pac (M.pv 4) (M.pac (M.pe_op M.o_add0 (M.pv 5) (M.pe_tup (M.pac (M.pe_own D_law_odd_stand (hr.mono (by decide)) (by rfl) (M.pac (M.pv 2) (M.pac (M.pv 3) M.pa_nil))) M.pa_nil))) (M.pac (M.pv 6) M.pa_nil)))))))
    M.pss_nil)
   (M.pss_cons (M.ps_if (M.pt_cmpR (M.o_eq hr) (M.pv 1) M.pe_int (nomark _))
    (M.pss_one (M.ps_ret (M.pe_tup (M.pac (M.pv 3) (M.pac (M.pv 4) (M.pac (M.pe_op M.o_add0 (M.pv 5) (M.pe_slice M.o_slc (M.pv 5) M.po_none (M.po_some M.pe_int))) (M.pac (M.pv 6) M.pa_nil)))))))
    M.pss_nil)
   (M.pss_cons (M.ps_if (M.pt_cmpR (M.o_eq hr) (M.pv 1) M.pe_int (nomark _))
    (M.pss_one (M.ps_ret (M.pe_tup (M.pac (M.pv 3) (M.pac (M.pv 4) (M.pac (M.pe_revT (M.pv 5)) (M.pac (M.pv 6) M.pa_nil)))))))
    M.pss_nil)
   (M.pss_cons (M.ps_if (M.pt_cmpR (M.o_eq hr) (M.pv 1) M.pe_int (nomark _))
    (M.pss_one (M.ps_ret (M.pe_tup (M.pac (M.pv 3) (M.pac (M.pv 4) (M.pac (M.pe_ix M.o_ix (M.pe_lst (M.pac (M.pct M.o_listOf (by rfl) T.list (by decide +kernel) (M.pac (M.pv 5) M.pa_nil)) (M.pac M.pe_int (M.pac M.pe_non (M.pac M.pe_str M.pa_nil))))) (M.pe_op M.o_mod (M.pv 2) M.pe_int) (fun _ _ => rfl)) (M.pac (M.pv 6) M.pa_nil)))))))
    M.pss_nil)
   (M.pss_cons (M.ps_if (M.pt_cmpR (M.o_eq hr) (M.pv 1) M.pe_int (nomark _))
    (M.pss_one (M.ps_ret (M.pe_tup (M.pac (M.pe_ix M.o_ix (M.pe_lst (M.pac M.pe_int (M.pac (M.pe_un M.o_neg M.pe_int) (M.pac M.pe_bl (M.pac M.pe_str (M.pac M.pe_non (M.pac (M.pe_op M.o_sub (M.pv 3) M.pe_int) M.pa_nil))))))) (M.pe_op M.o_mod (M.pv 2) M.pe_int) (fun _ _ => rfl)) (M.pac (M.pv 4) (M.pac (M.pv 5) (M.pac (M.pv 6) M.pa_nil)))))))
    M.pss_nil)
   (M.pss_cons (M.ps_if (M.pt_cmpR (M.o_eq hr) (M.pv 1) M.pe_int (nomark _))
    (M.pss_cons (M.ps_set (i := 8) scBt.nd rfl (Or.inl rfl) (M.pe_lst (M.pac (M.pct M.o_listOf (by rfl) T.list (by decide +kernel) (M.pac (M.pv 0) M.pa_nil)) (M.pac (M.pe_slice M.o_slc (M.pv 0) M.po_none (M.po_some M.pe_int)) (M.pac (M.pe_op M.o_add0 (M.pv 0) (M.pe_tup (M.pac (M.pe_tup M.pa_nil) M.pa_nil))) (M.pac (M.pe_tup M.pa_nil) (M.pac M.pe_non (M.pac M.pe_int (M.pac M.pe_str M.pa_nil)))))))))
    (M.pss_one (M.ps_ret (M.pe_ix M.o_ix (M.pv 8) (M.pe_op M.o_mod (M.pv 2) M.pe_int) (fun _ _ => rfl)))))
    M.pss_nil)
   (M.pss_cons (M.ps_if (M.pt_cmpR (M.o_eq hr) (M.pv 1) M.pe_int (nomark _))
    (M.pss_one (M.ps_ret (M.pe_tup (M.pac (M.pe_ix M.o_ix (M.pe_lst (M.pac (M.pe_op M.o_pow M.pe_int M.pe_int) (M.pac (M.pe_op M.o_add0 (M.pv 3) M.pe_int) M.pa_nil))) (M.pe_op M.o_mod (M.pv 2) M.pe_int) (fun _ _ => rfl)) (M.pac (M.pv 4) (M.pac (M.pv 5) (M.pac (M.pv 6) M.pa_nil)))))))
    M.pss_nil)
   (M.pss_one (M.ps_ret (M.pv 0))))))))))))), fun ds S Q h => ?_⟩
  obtain ⟨t, n, b, es, vs, y, k, rfl, ht, y0, y1, ⟨hn, hb, hel, he, hvl, hv⟩, q⟩ := h
  have e0 : startA NscBt [.tup [.int n, b, .tup es, .tup vs], .int y, .int k] = [some (.tup [.int n, b, .tup es, .tup vs]), some (.int y), some (.int k), none, none, none, none, none, none] := rfl
  rw [e0]
  have he63 : thB 63 (.tup es) = true := th_tup he (by omega)
  have hv63 : thB 63 (.tup vs) = true := th_tup (fun v h => (hv v h).1) (by omega)
  have hel63 : thB 63 (.lst es) = true := he63
  have hvl63 : thB 63 (.lst vs) = true := hv63
  have fin : ∀ {m' b' e' v' : D}, thB 63 m' = true → thB 63 b' = true → thB 63 e' = true → thB 63 v' = true → (∀ n', m' = .int n' → n' ≤ 10 ^ 19 + ((t + 1 : Nat) : Int)) → (∀ es', e' = .tup es' → es'.length ≤ 17 + 2 * (t + 1)) → (∀ vs', v' = .tup vs' → vs'.length ≤ 17 + 2 * (t + 1)) → [m', b', e', v'].length ≤ sizeLine ∧ M.ret S S (.dat (.tup [m', b', e', v'])) Q := fun {m' b' e' v'} h1 h2 h3 h4 h5 h6 h7 => by
   have th : thB 64 (.tup [m', b', e', v']) = true := th_tup (fun x hx => by
    simp only [List.mem_cons, List.not_mem_nil, or_false] at hx
    rcases hx with rfl | rfl | rfl | rfl <;> assumption) (by simp)
   exact ⟨sz rfl, ret_pur (th_pur th) (q _ th ⟨h5, h6, h7⟩)⟩
  have hm0 : ∀ n', D.int n = .int n' → n' ≤ 10 ^ 19 + ((t + 1 : Nat) : Int) := fun n' h => by injection h with h; omega
  have he0 : ∀ es', D.tup es = .tup es' → es'.length ≤ 17 + 2 * (t + 1) := fun es' h => by injection h with h; rw [← h]; omega
  have hv0 : ∀ vs', D.tup vs = .tup vs' → vs'.length ≤ 17 + 2 * (t + 1) := fun vs' h => by injection h with h; rw [← h]; omega
  generalize hD : ({ nx := fun _ S' => M.ret S S' (.dat .non) Q, rt := fun r S' => M.ret S S' r Q } : AEnds) = Dn
  have hrt : Dn.rt = fun r S' => M.ret S S' r Q := by rw [← hD]
  clear hD
  have hall : ∀ x ∈ [D.int n, b, .tup es, .tup vs], thB 63 x = true := fun x hx => by
   simp only [List.mem_cons, List.not_mem_nil, or_false] at hx
   rcases hx with rfl | rfl | rfl | rfl <;> first | rfl | assumption
  have ok : ∀ z, thB 64 z = true → szK (t + 1) z → M.ret S S (.dat z) Q := fun z h1 h2 => ret_pur (th_pur h1) (q z h1 h2)
  generalize hR : aSeq (aIfS (aB (aOp aLt (aVar 1) (aC (.int 7)))) _ aNext) _ = RE
  have main : RE Dn [some (D.tup [.int n, b, .tup es, .tup vs]), some (.int y), some (.int k), some (.int n), some b, some (.tup es), some (.tup vs), none, none] S := by
   rw [← hR]
   refine seq_by (I := fun δ => δ = [some (D.tup [.int n, b, .tup es, .tup vs]), some (.int y), some (.int k), some (.int n), some b, some (.tup es), some (.tup vs), none, none]) (fun δ h N hN => ?_) (seq_by (fun δ h N hN => ?_) (seq_by (fun δ h N hN => ?_) (seq_by (fun δ h N hN => ?_) (seq_by (fun δ h N hN => ?_) (seq_by (fun δ h N hN => ?_) (seq_by (fun δ h N hN => ?_) (seq_by (fun δ h N hN => ?_) (seq_by (fun δ h N hN => ?_) (fun δ h => ?_))))))))) _ rfl
   all_goals subst h
   all_goals push_cast [add0_int, List.set_cons_zero, List.set_cons_succ, hrt]
   all_goals try (refine ite2 (fun h0 => ?_) (fun _ => hN _ rfl))
   ·have h7 := of_decide_eq_true h0
    refine ⟨vs, y, k, n, rfl, y0, h7, by omega, hv, fin rfl hb he63 hvl63 hm0 he0 (fun vs' h => by cases h), fun ws hw hl => fin rfl hb he63 (th_tup hw (by omega)) hm0 he0 fun vs' h => ?_⟩
    injection h with h
    rw [← h]; omega
   ·exact ⟨k, n, rfl, fun o ho => fin rfl (thB_mono ho (by decide)) he63 hv63 hm0 he0 hv0⟩
   ·refine ⟨k, n, rfl, fun o ho => ⟨sz rfl, add_tup (by rw [sizeLine_eq]; simp; omega) (fin rfl hb (th_tup (fun x hx => ?_) (by simp; omega)) hv63 hm0 (fun es' h => ?_) hv0)⟩⟩
    ·rcases List.mem_append.mp hx with hx | hx
     ·exact he x hx
     ·rw [List.mem_singleton.mp hx]; exact thB_mono ho (by decide)
    ·injection h with h
     rw [← h, List.length_append]; simp; omega
   ·have c1 := cut1 es
    refine slc_tup (add_tup (by rw [sizeLine_eq]; omega) (fin rfl hb (th_tup (fun x hx => ?_) (by rw [List.length_append]; omega)) hv63 hm0 (fun es' h => ?_) hv0))
    ·rcases List.mem_append.mp hx with hx | hx
     ·exact he x hx
     ·exact he x (cut_mem hx)
    ·injection h with h
     rw [← h, List.length_append]; omega
   ·refine ⟨_, rfl, es, rfl, fin rfl hb (th_tup (fun x hx => he x (List.mem_reverse.mp hx)) (by rw [List.length_reverse]; omega)) hv63 hm0 (fun es' h => ?_) hv0⟩
    injection h with h
    rw [← h, List.length_reverse]; omega
   ·refine ⟨_, rfl, sz rfl, by decide, ?_⟩
    rw [show ((k : Int) % 4) = ((k % 4 : Nat) : Int) by omega]
    refine pickS (ds := [.lst es, .int 0, .non, .str "01"]) rfl (by show k % 4 < 4; omega) fun e hx => ?_
    simp only [List.mem_cons, List.not_mem_nil, or_false] at hx
    rcases hx with rfl | rfl | rfl | rfl
    ·exact fin rfl hb hel63 hv63 hm0 (fun es' h => by cases h) hv0
    ·exact fin rfl hb rfl hv63 hm0 (fun es' h => by cases h) hv0
    ·exact fin rfl hb rfl hv63 hm0 (fun es' h => by cases h) hv0
    ·exact fin rfl hb (by decide +kernel) hv63 hm0 (fun es' h => by cases h) hv0
   ·refine ⟨sz rfl, by decide, ?_⟩
    rw [show ((k : Int) % 6) = ((k % 6 : Nat) : Int) by omega]
    refine pickS (ds := [.int 0, .int (-1), .bl true, .str "3", .non, .int (n - 1)]) rfl (by show k % 6 < 6; omega) fun e hx => ?_
    simp only [List.mem_cons, List.not_mem_nil, or_false] at hx
    rcases hx with rfl | rfl | rfl | rfl | rfl | rfl
    ·exact fin rfl hb he63 hv63 (fun n' h => by injection h with h; omega) he0 hv0
    ·exact fin rfl hb he63 hv63 (fun n' h => by injection h with h; omega) he0 hv0
    ·exact fin rfl hb he63 hv63 (fun n' h => by cases h) he0 hv0
    ·exact fin (by decide +kernel) hb he63 hv63 (fun n' h => by cases h) he0 hv0
    ·exact fin rfl hb he63 hv63 (fun n' h => by cases h) he0 hv0
    ·exact fin rfl hb he63 hv63 (fun n' h => by injection h with h; omega) he0 hv0
   ·refine ⟨_, rfl, slc_tup ⟨sz rfl, sz rfl, add_tup (sz rfl) ⟨sz rfl, sz rfl, by decide, ?_⟩⟩⟩
    rw [show ((k : Int) % 7) = ((k % 7 : Nat) : Int) by omega]
    refine pickS (ds := [.lst [.int n, b, .tup es, .tup vs], .tup (cutD [.int n, b, .tup es, .tup vs] none (some 3)), .tup ([.int n, b, .tup es, .tup vs] ++ [.tup []]), .tup [], .non, .int 7, .str "machine"]) rfl (by show k % 7 < 7; omega) fun e hx => ?_
    simp only [List.mem_cons, List.not_mem_nil, or_false] at hx
    rcases hx with rfl | rfl | rfl | rfl | rfl | rfl | rfl
    ·exact ok _ (th_tup (n := 63) hall (by simp)) trivial
    ·have e3 : cutD [D.int n, b, .tup es, .tup vs] none (some 3) = [.int n, b, .tup es] := rfl
     rw [e3]
     refine ok _ (th_tup (fun x hx => hall x ?_) (by simp)) trivial
     simp only [List.mem_cons, List.not_mem_nil, or_false] at hx ⊢
     rcases hx with rfl | rfl | rfl <;> simp
    ·refine ok _ (th_tup (fun x hx => ?_) (by simp)) trivial
     rcases List.mem_append.mp hx with hx | hx
     ·exact hall x hx
     ·rw [List.mem_singleton.mp hx]; rfl
    ·exact ok _ rfl trivial
    ·exact ok _ rfl trivial
    ·exact ok _ rfl trivial
    ·exact ok _ (by decide +kernel) trivial
   ·refine ⟨⟨by decide, by decide, by decide⟩, ?_⟩
    refine ⟨sz rfl, by decide, ?_⟩
    rw [show ((k : Int) % 2) = ((k % 2 : Nat) : Int) by omega]
    refine pickS (ds := [.int (10 ^ Int.toNat 19), .int (n + 1)]) rfl (by show k % 2 < 2; omega) fun e hx => ?_
    simp only [List.mem_cons, List.not_mem_nil, or_false] at hx
    rcases hx with rfl | rfl
    ·refine fin rfl hb he63 hv63 (fun n' h => ?_) he0 hv0
     injection h with h
     have e : (10 : Int) ^ Int.toNat 19 = 10 ^ 19 := rfl
     omega
    ·exact fin rfl hb he63 hv63 (fun n' h => by injection h with h; omega) he0 hv0
   ·have th : thB 64 (.tup [.int n, b, .tup es, .tup vs]) = true := th_tup (fun x hx => by
     simp only [List.mem_cons, List.not_mem_nil, or_false] at hx
     rcases hx with rfl | rfl | rfl | rfl <;> first | rfl | assumption) (by simp)
    exact ret_pur (th_pur th) (q _ th ⟨hm0, he0, hv0⟩)
  push_cast [agTup, agCons, agName, agNil, List.set_cons_zero, List.set_cons_succ]
  exact ⟨_, rfl, rfl, _, _, rfl, _, _, rfl, _, _, rfl, _, _, rfl, rfl, main⟩
end
open PySem L2 M M6
noncomputable abbrev sLaw : Stmt := top 33
noncomputable abbrev NscLaw : List Str := ["_law_script", "_law_k", "_law_cell", "_law_machine_here", "_law_ds", "_law_one", "_law_thing", "_law_found"]
noncomputable abbrev PscLaw : List Str := ["_law_script"]
theorem scLaw : FnScope NscLaw PscLaw (defScope sLaw) := ⟨rfl, rfl, rfl, by decide +kernel, rfl, by decide +kernel, by decide +kernel⟩
noncomputable def strOf : Value → Option Str
 | .str x _ => some x
 | _ => none
theorem strs_vals : ∀ {vs : List Value} {ss : List Str}, vs.map strOf = ss.map some → Vals (ss.map V.str) vs
 | [], [], _ => .nil
 | v :: vs, s :: ss, h => by
  rw [List.map_cons, List.map_cons] at h
  have h1 := List.cons.inj h
  refine .cons ?_ (strs_vals h1.2)
  cases v <;> simp [strOf] at h1
  obtain ⟨rfl, _⟩ := h1
  exact ⟨_, rfl⟩
theorem stc_of {K : PySem.W.Frag} {a : Addr} {od : Option Addr} {its : Array Value} {n : Nat} {sl : Array (Option Value)} {ss : List Str} (l : K.lookup a = some ⟨.type "tuple", od, .seq its n, sl⟩) (q : (its.toList.map strOf == ss.map some) = true) (h : ss.length ≤ 100) (H : Hp) : SqT K H a (ss.map V.str) := by
 have v := strs_vals (eq_of_beq q)
 refine .inr ⟨_, its, n, l, rfl, rfl, ?_, v⟩
 have := v.length
 rw [List.length_map] at this
 rw [sizeLine_eq, ← Array.length_toList]; omega
theorem cutD_19 {α : Type} {xs : List α} : (cutD xs none (some 19)).length ≤ 19 := by
 unfold cutD
 rw [List.length_take]
 have : HT.sIx xs.length xs.length (some ((19 : Nat) : Int)) ≤ 19 := by rw [HT.sIx_nat]; omega
 have : HT.sIx xs.length xs.length (some (19 : Int)) ≤ 19 := this
 omega
theorem th_str {n : Nat} {x : Str} (h : okS x = true) : thB n (.str x) = true := by cases n <;> exact h
theorem th_lf {l : Lf} (h : LOk l) : thB 61 (lD l) = true := by
 cases l with
 | stay => decide +kernel
 | step b x => exact th3 (th_str (by decide +kernel)) (th_str (by cases b <;> decide +kernel)) (th_str (wd_ok h))
 | mk b m =>
  refine th_tup (fun v hv => ?_) (by simp)
  simp only [List.mem_cons, List.not_mem_nil, or_false] at hv
  rcases hv with rfl | rfl
  ·exact th_str (by cases b <;> decide +kernel)
  ·exact th_str (mk_ok h)
theorem in_mD {n b : Nat} {es : List Nat} {mv : List Mv} (n6 : n ≤ 6) (hel : es.length ≤ 6) (hmv : ∀ m ∈ mv, MOk n m) (hl : mv.length ≤ 17) : MIn 0 n (.int b) (nL es) (mv.map vD) := by
 refine ⟨by omega, rfl, by unfold nL; rw [List.length_map]; omega, fun e he => ?_, by rw [List.length_map]; omega, fun v hv => ?_⟩
 ·obtain ⟨i, _, rfl⟩ := List.mem_map.mp he
  rfl
 ·obtain ⟨m, hm, rfl⟩ := List.mem_map.mp hv
  exact ⟨th3 rfl (th_lf (hmv m hm).2.1) rfl, _, _, _, rfl⟩
theorem th_MIn {t : Nat} {n : Int} {b : D} {es vs : List D} (ht : t ≤ 5) (h : MIn t n b es vs) : thB 64 (.tup [.int n, b, .tup es, .tup vs]) = true ∧ szM (.tup [.int n, b, .tup es, .tup vs]) := by
 obtain ⟨h1, h2, h3, h4, h5, h6⟩ := h
 refine ⟨th_tup (fun x hx => ?_) (by simp), fun n' e => ?_, fun es' e => ?_, fun vs' e => ?_⟩
 ·simp only [List.mem_cons, List.not_mem_nil, or_false] at hx
  rcases hx with rfl | rfl | rfl | rfl
  ·rfl
  ·exact h2
  ·exact th_tup h4 (by omega)
  ·exact th_tup (fun v hv => (h6 v hv).1) (by omega)
 ·injection e with e; omega
 ·injection e with e; rw [← e]; omega
 ·injection e with e; rw [← e]; omega
theorem isM_in {t : Nat} {x : D} (hp : thB 64 x = true) (hz : szK t x) (h : isM x = true) : ∃ n b es vs, x = .tup [.int n, b, .tup es, .tup vs] ∧ MIn t n b es vs := by
 cases x <;> first | (cases h; done) | skip
 rename_i l
 match l, hp, hz, h with
 | [m, b, e, v], hp, hz, h =>
  have h : isM4 m b e v = true := h
  cases m with
  | int n =>
   have h : (decide (1 ≤ n) && (isSt n b && (isEnds n e && isMvs n v))) = true := h
   simp only [Bool.and_eq_true] at h
   obtain ⟨_, _, h3, h4⟩ := h
   cases e with
   | tup es =>
    cases v with
    | tup vs =>
     have h4 : (vs.all (isMv n) && rises vs) = true := h4
     rw [Bool.and_eq_true] at h4
     have e63 : thB 63 (.tup es) = true := th_item hp (by simp)
     have v63 : thB 63 (.tup vs) = true := th_item hp (by simp)
     refine ⟨n, b, es, vs, rfl, hz.1 n rfl, th_item hp (by simp), hz.2.1 es rfl, fun e he => th_item e63 he, hz.2.2 vs rfl, fun v hv => ⟨th_item v63 hv, ?_⟩⟩
     obtain ⟨i, j, ss, rfl⟩ := mv_shape (List.all_eq_true.mp h4.1 v hv)
     exact ⟨_, _, _, rfl⟩
    | _ => cases h4
   | _ => cases h3
  | _ => cases h
section
variable {P : Program} {w : World} {K : PySem.W.Frag} {mg : Str → Option Value} {base : Heap}
noncomputable def spLawA : AN := fun ds S Q => ∃ ns : List Int, ds = [.scr ns] ∧ S = [] ∧ Q (.dat (.bl true)) []
theorem d_LawA {f : Addr} {fd : FuncData} (T : Txt K mg) (F : Fun K "law" "law" sLaw f fd) (D_law_cell_at : Def P w K mg base 1 "_law_cell_at" PscCell (conSp K spCell)) (D_law_draws : Def P w K mg base 1 "_law_draws" PscDraws (conSp K spDraws)) (D_law_machine : Def P w K mg base 3 "_law_machine" PscMach (conSp K spMach)) (D_law_bent : Def P w K mg base 3 "_law_bent" PscBt (conSp K spBt))
  (D_law_is_machine : Def P w K mg base 3 "_law_is_machine" PscLM (conSp K spLM)) (D_is_machine : Def P w K mg base 6 "is_machine" PscIsM (conSp K spIsM)) :
  FnOk P w K mg base CX0 7 f fd PscLaw (conSp K spLawA) := by
 refine okB F scLaw (fun ds S Q h => ?_) (fun f cdv A outer s H E hr => ?_)
 ·obtain ⟨ns, rfl, _⟩ := h; rfl
 ·refine ⟨_, (M.pss_cons (M.ps_for PassesOwn.never rfl (M.pi_range1 (by rfl) T.range (M.pac (M.pe_op M.o_add M.pe_int (M.pcb M.o_len (by rfl) T.len (by decide +kernel) (M.pac (M.pe_slice M.o_slc (M.pv 0) M.po_none (M.po_some M.pe_int)) M.pa_nil))) M.pa_nil)) (M.pg_name (i := 1) scLaw.nd rfl (Or.inl rfl))
    (M.pss_cons (M.ps_set (i := 2) scLaw.nd rfl (Or.inl rfl) (M.pe_own D_law_cell_at (hr.mono (by decide)) (by rfl) (M.pac (M.pv 0) (M.pac (M.pv 1) M.pa_nil))))
    (M.pss_cons (M.ps_set (i := 3) scLaw.nd rfl (Or.inl rfl) (M.pe_own D_law_machine (hr.mono (by decide)) (by rfl) (M.pac (M.pv 2) (M.pac M.pe_int M.pa_nil))))
    (M.pss_cons (M.ps_set (i := 4) scLaw.nd rfl (Or.inl rfl) (M.pe_own D_law_draws (hr.mono (by decide)) (by rfl) (M.pac (M.pe_op M.o_fdiv (M.pv 2) M.pe_int) (M.pac (M.pe_lst (M.pac M.pe_int (M.pac M.pe_int (M.pac M.pe_int (M.pac M.pe_int (M.pac M.pe_int M.pa_nil)))))) M.pa_nil))))
    (M.pss_cons (M.ps_set (i := 5) scLaw.nd rfl (Or.inl rfl) (M.pe_own D_law_bent (hr.mono (by decide)) (by rfl) (M.pac (M.pv 3) (M.pac (M.pe_ix M.o_ix (M.pv 4) M.pe_int (fun _ _ => rfl)) (M.pac (M.pe_ix M.o_ix (M.pv 4) M.pe_int (fun _ _ => rfl)) M.pa_nil)))))
    (M.pss_cons (M.ps_if (M.pw_pt (M.pw_and (M.pt_cmpR (M.o_eq hr) (M.pe_ix M.o_ix (M.pv 4) M.pe_int (fun _ _ => rfl)) M.pe_int (nomark _)) (M.pw_and1 (M.pt_val (M.pe_own D_law_is_machine (hr.mono (by decide)) (by rfl) (M.pac (M.pv 5) (M.pac (M.pe_op M.o_pow M.pe_int M.pe_int) M.pa_nil)))))))
     (M.pss_one (M.ps_set (i := 5) scLaw.nd rfl (Or.inl rfl) (M.pe_own D_law_bent (hr.mono (by decide)) (by rfl) (M.pac (M.pv 5) (M.pac (M.pe_ix M.o_ix (M.pv 4) M.pe_int (fun _ _ => rfl)) (M.pac (M.pe_ix M.o_ix (M.pv 4) M.pe_int (fun _ _ => rfl)) M.pa_nil))))))
     M.pss_nil)
    (M.pss_one (M.ps_for PassesOwn.never rfl (M.pi_any (M.pe_lst (M.pac (M.pv 3) (M.pac (M.pv 5) M.pa_nil)))) (M.pg_name (i := 6) scLaw.nd rfl (Or.inl rfl))
     (M.pss_cons (M.ps_set (i := 7) scLaw.nd rfl (Or.inl rfl) (M.pe_own D_is_machine (hr.mono (by decide)) (by rfl) (M.pac (M.pv 6) M.pa_nil)))
     (M.pss_one (M.ps_if (M.pw_pt (M.pw_or (M.pt_not (M.pt_val (M.pcb M.o_isi (by rfl) T.isinstance (by decide +kernel) (M.pac (M.pv 7) (M.pac (M.pe_ty "bool" (by rfl) T.bool (by decide +kernel)) M.pa_nil))))) (M.pw_or1 (M.pt_cmpR (M.o_ne hr) (M.pv 7) (M.pe_own D_law_is_machine (hr.mono (by decide)) (by rfl) (M.pac (M.pv 6) (M.pac (M.pe_op M.o_pow M.pe_int M.pe_int) M.pa_nil))) (nomark _)))))
      (M.pss_one (M.ps_ret M.pe_bl))
      M.pss_nil)))))))))))
   (M.pss_one (M.ps_ret M.pe_bl))), fun ds S Q h => ?_⟩
  obtain ⟨ns, rfl, rfl, q⟩ := h
  have e0 : startA NscLaw [.scr ns] = [some (.scr ns), none, none, none, none, none, none, none] := rfl
  rw [e0]
  push_cast [aFor, iRng]
  show ∃ x, _
  have h19 := cutD_19 (xs := ns)
  refine ⟨((cutD ns none (some 19)).map D.int).length, rfl, by omega, by rw [List.length_map]; omega, ?_⟩
  refine loop_by (fun rest δ S' => ∃ v1 v2 v3 v4 v5 v6 v7 : Option D, δ = [some (.scr ns), v1, v2, v3, v4, v5, v6, v7] ∧ S' = [] ∧ ∀ x ∈ rest, ∃ k : Nat, x = .int k) ?_ ?_ _ _ _ ⟨none, none, none, none, none, none, none, rfl, rfl, fun x hx => ?_⟩
  ·rintro δ S' ⟨v1, v2, v3, v4, v5, v6, v7, rfl, rfl, _⟩
   refine ⟨trivial, ?_⟩
   push_cast [true_and]
   first | exact q | exact ret_pur rfl q
  ·rintro x rest δ S' N' ⟨v1, v2, v3, v4, v5, v6, v7, rfl, rfl, hx⟩ hN'
   obtain ⟨k, rfl⟩ := hx x (by simp)
   refine ⟨trivial, ?_⟩
   push_cast [true_and]
   refine ⟨ns, k, rfl, fun z => ?_⟩
   push_cast [true_and]
   refine ⟨z, rfl, fun n b es mv n1 n6 hb hes hel hmv hl => ?_⟩
   push_cast [true_and]
   have hin := in_mD (b := b) n6 hel hmv hl
   have hmth : thB 64 (mD n b es mv) = true ∧ szM (mD n b es mv) := th_MIn (by decide) hin
   have fin : ∀ (dy one : D), thB 64 one = true → szM one → aFor (iAny (aLst (aCons (aVar 3) (aCons (aVar 5) aNil)))) (agName 6)
     (aSeq (aAsg (aCall spIsM (aCons (aVar 6) aNil)) (agName 7)) (aIfS (aOr (aNot (aTru (aCall aIsi (aCons (aVar 7) (aCons (aC (D.ty "bool")) aNil))))) (aB (aOp aNe (aVar 7) (aCall spLM (aCons (aVar 6) (aCons (aOp (aI CPow fun i j => D.int (i ^ j.toNat)) (aC (D.int 10)) (aC (D.int 20))) aNil)))))) (aRet (aC (D.bl false))) aNext))
     { nx := N', rt := fun r S' => M.ret [] S' r Q, bk := aRet (aC (D.bl true)) { nx := fun x S' => M.ret [] S' (R.dat D.non) Q, rt := fun r S' => M.ret [] S' r Q }, ct := N' }
     [some (.scr ns), some (.int k), some (.int z), some (mD n b es mv), some dy, some one, v6, v7] [] := fun dy one t1 z1 => by
    push_cast [aFor, iAny, aLst, aCons, aNil, aVar]
    refine ⟨sz rfl, ?_⟩
    show loopD (fun _ => True) _ _ [mD n b es mv, one] _ _ _
    refine loop_by (fun rest δ S' => ∃ v6 v7 : Option D, δ = [some (.scr ns), some (.int k), some (.int z), some (mD n b es mv), some dy, some one, v6, v7] ∧ S' = [] ∧ ∀ x ∈ rest, thB 64 x = true ∧ szM x) ?_ ?_ [mD n b es mv, one] _ _ ⟨v6, v7, rfl, rfl, fun x hx => ?_⟩
    ·rintro δ S' ⟨v6, v7, rfl, rfl, _⟩
     exact ⟨trivial, hN' _ _ ⟨_, _, _, _, _, _, _, rfl, rfl, fun x h => hx x (List.mem_cons_of_mem _ h)⟩⟩
    ·rintro x rest2 δ S' N2 ⟨v6, v7, rfl, rfl, hx2⟩ hN2
     obtain ⟨xt, xz⟩ := hx2 x (by simp)
     refine ⟨trivial, ?_⟩
     push_cast [agName, List.set_cons_zero, List.set_cons_succ]
     refine ⟨x, rfl, xt, ?_⟩
     push_cast [true_and]
     refine ⟨true, rfl, iteF ⟨⟨by decide, by decide, by decide⟩, x, rfl, xt, xz, false, ?_, iteF (hN2 _ _ ⟨_, _, rfl, rfl, fun y h => hx2 y (List.mem_cons_of_mem _ h)⟩)⟩⟩
     show D.bl (!decide (isM x = isM x)) = _
     rw [decide_eq_true rfl]; rfl
    ·simp only [List.mem_cons, List.not_mem_nil, or_false] at hx
     rcases hx with rfl | rfl
     ·exact hmth
     ·exact ⟨t1, z1⟩
   refine ⟨⟨by decide, by omega⟩, sz rfl, z / 5, [16, 720, 16, 720, 2], rfl, by decide, by decide, fun ys hyl hlt => ?_⟩
   have get : ∀ (i b : Nat), ([16, 720, 16, 720, 2] : List Nat)[i]? = some b → ∃ a, ys[i]? = some a ∧ a < b := fun i b h => by
    have hi : i < ys.length := by rw [hyl]; exact (List.getElem?_eq_some_iff.mp h).1
    exact ⟨ys[i], List.getElem?_eq_getElem hi, hlt i _ b (List.getElem?_eq_getElem hi) h⟩
   obtain ⟨y0, g0, l0⟩ := get 0 16 rfl
   obtain ⟨y1, g1, l1⟩ := get 1 720 rfl
   obtain ⟨y2, g2, l2⟩ := get 2 16 rfl
   obtain ⟨y3, g3, l3⟩ := get 3 720 rfl
   obtain ⟨y4, g4, l4⟩ := get 4 2 rfl
   have a0 : atI (nL ys) (0 : Int) = some (.int (y0 : Int)) := at_nL g0
   have a1 : atI (nL ys) (1 : Int) = some (.int (y1 : Int)) := at_nL g1
   have a2 : atI (nL ys) (2 : Int) = some (.int (y2 : Int)) := at_nL g2
   have a3 : atI (nL ys) (3 : Int) = some (.int (y3 : Int)) := at_nL g3
   have a4 : atI (nL ys) (4 : Int) = some (.int (y4 : Int)) := at_nL g4
   refine ⟨_, a0, _, a1, 0, n, .int b, nL es, mv.map vD, y0, y1, rfl, by decide, by omega, by omega, hin, fun one t1 z1 => ⟨_, a4, ?_⟩⟩
   have z1' := szK_M (by decide) z1
   refine ⟨_, rfl, ?_⟩
   refine ite2 (fun _ => ?_) (fun _ => fin _ _ t1 z1')
   refine ⟨⟨by decide, by decide, by decide⟩, one, rfl, t1, z1', _, rfl, ?_⟩
   cases hM : isM one with
   | false => exact iteF (fin _ _ t1 z1')
   | true =>
    obtain ⟨n', b', es', vs', rfl, hin'⟩ := isM_in t1 z1 hM
    exact iteT ⟨_, a2, _, a3, 1, n', b', es', vs', y2, y3, rfl, by decide, by omega, by omega, hin', fun two t2 z2 => fin _ _ t2 (szK_M (by decide) z2)⟩
  ·simp only [iRngD, List.mem_map, List.mem_range] at hx
   obtain ⟨a, ha, rfl⟩ := hx
   exact ⟨a, by simp⟩
noncomputable def spLaw (K : PySem.W.Frag) : Sp := fun vs H Q _ => ∃ (a : Addr) (ns : List Int), vs = [.ref a] ∧ SqL K H a (ns.map V.int) ∧ ns.length ≤ 63 ∧ ∀ H', Q (.bl true) H'
theorem top_of {f : Addr} {fd : FuncData} {k : Nat} (h : FnOk P w K mg base CX0 k f fd PscLaw (conSp K spLawA)) : FnOk P w K mg base CX0 k f fd PscLaw (spLaw K) := h.imp fun vs H Q E z => by
 obtain ⟨a, ns, rfl, hS, _, q⟩ := z
 refine ⟨⟨H, fun _ => none⟩, [.scr ns], [], fun r S => r = .dat (.bl true), ⟨Same.refl _, fun n o e => by simp at e, fun n m o o' e => by simp at e, fun _ _ => rfl⟩, ?_, ⟨ns, rfl, rfl, rfl⟩, fun r S' v w' H' _ _ rep e => ?_⟩
 ·simp only [Reps, Rep]; exact ⟨_, _, rfl, ⟨a, rfl, hS⟩, rfl⟩
 ·subst e
  have : v = .bl true := rep_bl rep rfl
  subst this
  exact q H'
end
open PySem L2
theorem all_mk {l : PySem.W.OpenLaw} {w : World} {K : PySem.W.Frag} {h : Heap} {mg : Str → Option Value} {fa : Addr} (X : K.In h) (G : h.Ns mainGlobals mg) (hfa : mg "law" = some (.ref fa))
  {f_scWhole : Addr} {oc_scWhole kV_scWhole dc_scWhole pm_scWhole cd_scWhole ct_scWhole : Value} {od_scWhole an_scWhole : Option Addr} {sl_scWhole : Array (Option Value)}
  {f_scRow : Addr} {oc_scRow kV_scRow dc_scRow pm_scRow cd_scRow ct_scRow : Value} {od_scRow an_scRow : Option Addr} {sl_scRow : Array (Option Value)}
  {f_scName : Addr} {oc_scName kV_scName dc_scName pm_scName cd_scName ct_scName : Value} {od_scName an_scName : Option Addr} {sl_scName : Array (Option Value)}
  {f_scLeaf : Addr} {oc_scLeaf kV_scLeaf dc_scLeaf pm_scLeaf cd_scLeaf ct_scLeaf : Value} {od_scLeaf an_scLeaf : Option Addr} {sl_scLeaf : Array (Option Value)}
  {f_scWord : Addr} {oc_scWord kV_scWord dc_scWord pm_scWord cd_scWord ct_scWord : Value} {od_scWord an_scWord : Option Addr} {sl_scWord : Array (Option Value)}
  {f_scIsM : Addr} {oc_scIsM kV_scIsM dc_scIsM pm_scIsM cd_scIsM ct_scIsM : Value} {od_scIsM an_scIsM : Option Addr} {sl_scIsM : Array (Option Value)}
  {f_scStand : Addr} {oc_scStand kV_scStand dc_scStand pm_scStand cd_scStand ct_scStand : Value} {od_scStand an_scStand : Option Addr} {sl_scStand : Array (Option Value)}
  {f_scEnds : Addr} {oc_scEnds kV_scEnds dc_scEnds pm_scEnds cd_scEnds ct_scEnds : Value} {od_scEnds an_scEnds : Option Addr} {sl_scEnds : Array (Option Value)}
  {f_scMvs : Addr} {oc_scMvs kV_scMvs dc_scMvs pm_scMvs cd_scMvs ct_scMvs : Value} {od_scMvs an_scMvs : Option Addr} {sl_scMvs : Array (Option Value)}
  {f_scMove : Addr} {oc_scMove kV_scMove dc_scMove pm_scMove cd_scMove ct_scMove : Value} {od_scMove an_scMove : Option Addr} {sl_scMove : Array (Option Value)}
  {f_scRis : Addr} {oc_scRis kV_scRis dc_scRis pm_scRis cd_scRis ct_scRis : Value} {od_scRis an_scRis : Option Addr} {sl_scRis : Array (Option Value)}
  {f_scCell : Addr} {oc_scCell kV_scCell dc_scCell pm_scCell cd_scCell ct_scCell : Value} {od_scCell an_scCell : Option Addr} {sl_scCell : Array (Option Value)}
  {f_scDraws : Addr} {oc_scDraws kV_scDraws dc_scDraws pm_scDraws cd_scDraws ct_scDraws : Value} {od_scDraws an_scDraws : Option Addr} {sl_scDraws : Array (Option Value)}
  {f_scWords : Addr} {oc_scWords kV_scWords dc_scWords pm_scWords cd_scWords ct_scWords : Value} {od_scWords an_scWords : Option Addr} {sl_scWords : Array (Option Value)}
  {f_scMarks : Addr} {oc_scMarks kV_scMarks dc_scMarks pm_scMarks cd_scMarks ct_scMarks : Value} {od_scMarks an_scMarks : Option Addr} {sl_scMarks : Array (Option Value)}
  {f_scLLeaf : Addr} {oc_scLLeaf kV_scLLeaf dc_scLLeaf pm_scLLeaf cd_scLLeaf ct_scLLeaf : Value} {od_scLLeaf an_scLLeaf : Option Addr} {sl_scLLeaf : Array (Option Value)}
  {f_scMach : Addr} {oc_scMach kV_scMach dc_scMach pm_scMach cd_scMach ct_scMach : Value} {od_scMach an_scMach : Option Addr} {sl_scMach : Array (Option Value)}
  {f_scLM : Addr} {oc_scLM kV_scLM dc_scLM pm_scLM cd_scLM ct_scLM : Value} {od_scLM an_scLM : Option Addr} {sl_scLM : Array (Option Value)}
  {f_scLStand : Addr} {oc_scLStand kV_scLStand dc_scLStand pm_scLStand cd_scLStand ct_scLStand : Value} {od_scLStand an_scLStand : Option Addr} {sl_scLStand : Array (Option Value)}
  {f_scLName : Addr} {oc_scLName kV_scLName dc_scLName pm_scLName cd_scLName ct_scLName : Value} {od_scLName an_scLName : Option Addr} {sl_scLName : Array (Option Value)}
  {f_scLIsLf : Addr} {oc_scLIsLf kV_scLIsLf dc_scLIsLf pm_scLIsLf cd_scLIsLf ct_scLIsLf : Value} {od_scLIsLf an_scLIsLf : Option Addr} {sl_scLIsLf : Array (Option Value)}
  {f_scOddL : Addr} {oc_scOddL kV_scOddL dc_scOddL pm_scOddL cd_scOddL ct_scOddL : Value} {od_scOddL an_scOddL : Option Addr} {sl_scOddL : Array (Option Value)}
  {f_scOddS : Addr} {oc_scOddS kV_scOddS dc_scOddS pm_scOddS cd_scOddS ct_scOddS : Value} {od_scOddS an_scOddS : Option Addr} {sl_scOddS : Array (Option Value)}
  {f_scBM : Addr} {oc_scBM kV_scBM dc_scBM pm_scBM cd_scBM ct_scBM : Value} {od_scBM an_scBM : Option Addr} {sl_scBM : Array (Option Value)}
  {f_scBt : Addr} {oc_scBt kV_scBt dc_scBt pm_scBt cd_scBt ct_scBt : Value} {od_scBt an_scBt : Option Addr} {sl_scBt : Array (Option Value)}
  {f_scLaw : Addr} {oc_scLaw kV_scLaw dc_scLaw pm_scLaw cd_scLaw ct_scLaw : Value} {od_scLaw an_scLaw : Option Addr} {sl_scLaw : Array (Option Value)}
  {t_LONGEST : Tok}
  {t_ANY : Tok}
  {ad_SIDES : Addr}
  {od_SIDES : Option Addr} {its_SIDES : Array Value} {n_SIDES : Nat} {sl_SIDES : Array (Option Value)}
  (a_scWhole : PySem.W.nsIn K mainGlobals "is_whole" = some (some (.ref f_scWhole))) (l_scWhole : K.lookup f_scWhole = some ⟨oc_scWhole, od_scWhole, .func (PySem.W.fnOf "is_whole" "is_whole" (defArgs sWhole) (defBody sWhole) (defScope sWhole) .none kV_scWhole dc_scWhole pm_scWhole an_scWhole cd_scWhole ct_scWhole), sl_scWhole⟩) (c_scWhole : PySem.W.codeIn K cd_scWhole "is_whole" = true) (k_scWhole : PySem.W.keepIn K (.ref f_scWhole) = true)
  (a_scRow : PySem.W.nsIn K mainGlobals "is_row" = some (some (.ref f_scRow))) (l_scRow : K.lookup f_scRow = some ⟨oc_scRow, od_scRow, .func (PySem.W.fnOf "is_row" "is_row" (defArgs sRow) (defBody sRow) (defScope sRow) .none kV_scRow dc_scRow pm_scRow an_scRow cd_scRow ct_scRow), sl_scRow⟩) (c_scRow : PySem.W.codeIn K cd_scRow "is_row" = true) (k_scRow : PySem.W.keepIn K (.ref f_scRow) = true)
  (a_scName : PySem.W.nsIn K mainGlobals "is_name" = some (some (.ref f_scName))) (l_scName : K.lookup f_scName = some ⟨oc_scName, od_scName, .func (PySem.W.fnOf "is_name" "is_name" (defArgs sName) (defBody sName) (defScope sName) .none kV_scName dc_scName pm_scName an_scName cd_scName ct_scName), sl_scName⟩) (c_scName : PySem.W.codeIn K cd_scName "is_name" = true) (k_scName : PySem.W.keepIn K (.ref f_scName) = true)
  (a_scLeaf : PySem.W.nsIn K mainGlobals "is_leaf" = some (some (.ref f_scLeaf))) (l_scLeaf : K.lookup f_scLeaf = some ⟨oc_scLeaf, od_scLeaf, .func (PySem.W.fnOf "is_leaf" "is_leaf" (defArgs sLeaf) (defBody sLeaf) (defScope sLeaf) .none kV_scLeaf dc_scLeaf pm_scLeaf an_scLeaf cd_scLeaf ct_scLeaf), sl_scLeaf⟩) (c_scLeaf : PySem.W.codeIn K cd_scLeaf "is_leaf" = true) (k_scLeaf : PySem.W.keepIn K (.ref f_scLeaf) = true)
  (a_scWord : PySem.W.nsIn K mainGlobals "is_word" = some (some (.ref f_scWord))) (l_scWord : K.lookup f_scWord = some ⟨oc_scWord, od_scWord, .func (PySem.W.fnOf "is_word" "is_word" (defArgs sWord) (defBody sWord) (defScope sWord) .none kV_scWord dc_scWord pm_scWord an_scWord cd_scWord ct_scWord), sl_scWord⟩) (c_scWord : PySem.W.codeIn K cd_scWord "is_word" = true) (k_scWord : PySem.W.keepIn K (.ref f_scWord) = true)
  (a_scIsM : PySem.W.nsIn K mainGlobals "is_machine" = some (some (.ref f_scIsM))) (l_scIsM : K.lookup f_scIsM = some ⟨oc_scIsM, od_scIsM, .func (PySem.W.fnOf "is_machine" "is_machine" (defArgs sIsM) (defBody sIsM) (defScope sIsM) .none kV_scIsM dc_scIsM pm_scIsM an_scIsM cd_scIsM ct_scIsM), sl_scIsM⟩) (c_scIsM : PySem.W.codeIn K cd_scIsM "is_machine" = true) (k_scIsM : PySem.W.keepIn K (.ref f_scIsM) = true)
  (a_scStand : PySem.W.nsIn K mainGlobals "is_stand" = some (some (.ref f_scStand))) (l_scStand : K.lookup f_scStand = some ⟨oc_scStand, od_scStand, .func (PySem.W.fnOf "is_stand" "is_stand" (defArgs sStand) (defBody sStand) (defScope sStand) .none kV_scStand dc_scStand pm_scStand an_scStand cd_scStand ct_scStand), sl_scStand⟩) (c_scStand : PySem.W.codeIn K cd_scStand "is_stand" = true) (k_scStand : PySem.W.keepIn K (.ref f_scStand) = true)
  (a_scEnds : PySem.W.nsIn K mainGlobals "are_ends" = some (some (.ref f_scEnds))) (l_scEnds : K.lookup f_scEnds = some ⟨oc_scEnds, od_scEnds, .func (PySem.W.fnOf "are_ends" "are_ends" (defArgs sEnds) (defBody sEnds) (defScope sEnds) .none kV_scEnds dc_scEnds pm_scEnds an_scEnds cd_scEnds ct_scEnds), sl_scEnds⟩) (c_scEnds : PySem.W.codeIn K cd_scEnds "are_ends" = true) (k_scEnds : PySem.W.keepIn K (.ref f_scEnds) = true)
  (a_scMvs : PySem.W.nsIn K mainGlobals "are_moves" = some (some (.ref f_scMvs))) (l_scMvs : K.lookup f_scMvs = some ⟨oc_scMvs, od_scMvs, .func (PySem.W.fnOf "are_moves" "are_moves" (defArgs sMvs) (defBody sMvs) (defScope sMvs) .none kV_scMvs dc_scMvs pm_scMvs an_scMvs cd_scMvs ct_scMvs), sl_scMvs⟩) (c_scMvs : PySem.W.codeIn K cd_scMvs "are_moves" = true) (k_scMvs : PySem.W.keepIn K (.ref f_scMvs) = true)
  (a_scMove : PySem.W.nsIn K mainGlobals "is_move" = some (some (.ref f_scMove))) (l_scMove : K.lookup f_scMove = some ⟨oc_scMove, od_scMove, .func (PySem.W.fnOf "is_move" "is_move" (defArgs sMove) (defBody sMove) (defScope sMove) .none kV_scMove dc_scMove pm_scMove an_scMove cd_scMove ct_scMove), sl_scMove⟩) (c_scMove : PySem.W.codeIn K cd_scMove "is_move" = true) (k_scMove : PySem.W.keepIn K (.ref f_scMove) = true)
  (a_scRis : PySem.W.nsIn K mainGlobals "is_rising" = some (some (.ref f_scRis))) (l_scRis : K.lookup f_scRis = some ⟨oc_scRis, od_scRis, .func (PySem.W.fnOf "is_rising" "is_rising" (defArgs sRis) (defBody sRis) (defScope sRis) .none kV_scRis dc_scRis pm_scRis an_scRis cd_scRis ct_scRis), sl_scRis⟩) (c_scRis : PySem.W.codeIn K cd_scRis "is_rising" = true) (k_scRis : PySem.W.keepIn K (.ref f_scRis) = true)
  (a_scCell : PySem.W.nsIn K mainGlobals "_law_cell_at" = some (some (.ref f_scCell))) (l_scCell : K.lookup f_scCell = some ⟨oc_scCell, od_scCell, .func (PySem.W.fnOf "_law_cell_at" "_law_cell_at" (defArgs sCell) (defBody sCell) (defScope sCell) .none kV_scCell dc_scCell pm_scCell an_scCell cd_scCell ct_scCell), sl_scCell⟩) (c_scCell : PySem.W.codeIn K cd_scCell "_law_cell_at" = true) (k_scCell : PySem.W.keepIn K (.ref f_scCell) = true)
  (a_scDraws : PySem.W.nsIn K mainGlobals "_law_draws" = some (some (.ref f_scDraws))) (l_scDraws : K.lookup f_scDraws = some ⟨oc_scDraws, od_scDraws, .func (PySem.W.fnOf "_law_draws" "_law_draws" (defArgs sDraws) (defBody sDraws) (defScope sDraws) .none kV_scDraws dc_scDraws pm_scDraws an_scDraws cd_scDraws ct_scDraws), sl_scDraws⟩) (c_scDraws : PySem.W.codeIn K cd_scDraws "_law_draws" = true) (k_scDraws : PySem.W.keepIn K (.ref f_scDraws) = true)
  (a_scWords : PySem.W.nsIn K mainGlobals "_law_words" = some (some (.ref f_scWords))) (l_scWords : K.lookup f_scWords = some ⟨oc_scWords, od_scWords, .func (PySem.W.fnOf "_law_words" "_law_words" (defArgs sWords) (defBody sWords) (defScope sWords) .none kV_scWords dc_scWords pm_scWords an_scWords cd_scWords ct_scWords), sl_scWords⟩) (c_scWords : PySem.W.codeIn K cd_scWords "_law_words" = true) (k_scWords : PySem.W.keepIn K (.ref f_scWords) = true)
  (a_scMarks : PySem.W.nsIn K mainGlobals "_law_marks" = some (some (.ref f_scMarks))) (l_scMarks : K.lookup f_scMarks = some ⟨oc_scMarks, od_scMarks, .func (PySem.W.fnOf "_law_marks" "_law_marks" (defArgs sMarks) (defBody sMarks) (defScope sMarks) .none kV_scMarks dc_scMarks pm_scMarks an_scMarks cd_scMarks ct_scMarks), sl_scMarks⟩) (c_scMarks : PySem.W.codeIn K cd_scMarks "_law_marks" = true) (k_scMarks : PySem.W.keepIn K (.ref f_scMarks) = true)
  (a_scLLeaf : PySem.W.nsIn K mainGlobals "_law_leaf" = some (some (.ref f_scLLeaf))) (l_scLLeaf : K.lookup f_scLLeaf = some ⟨oc_scLLeaf, od_scLLeaf, .func (PySem.W.fnOf "_law_leaf" "_law_leaf" (defArgs sLLeaf) (defBody sLLeaf) (defScope sLLeaf) .none kV_scLLeaf dc_scLLeaf pm_scLLeaf an_scLLeaf cd_scLLeaf ct_scLLeaf), sl_scLLeaf⟩) (c_scLLeaf : PySem.W.codeIn K cd_scLLeaf "_law_leaf" = true) (k_scLLeaf : PySem.W.keepIn K (.ref f_scLLeaf) = true)
  (a_scMach : PySem.W.nsIn K mainGlobals "_law_machine" = some (some (.ref f_scMach))) (l_scMach : K.lookup f_scMach = some ⟨oc_scMach, od_scMach, .func (PySem.W.fnOf "_law_machine" "_law_machine" (defArgs sMach) (defBody sMach) (defScope sMach) .none kV_scMach dc_scMach pm_scMach an_scMach cd_scMach ct_scMach), sl_scMach⟩) (c_scMach : PySem.W.codeIn K cd_scMach "_law_machine" = true) (k_scMach : PySem.W.keepIn K (.ref f_scMach) = true)
  (a_scLM : PySem.W.nsIn K mainGlobals "_law_is_machine" = some (some (.ref f_scLM))) (l_scLM : K.lookup f_scLM = some ⟨oc_scLM, od_scLM, .func (PySem.W.fnOf "_law_is_machine" "_law_is_machine" (defArgs sLM) (defBody sLM) (defScope sLM) .none kV_scLM dc_scLM pm_scLM an_scLM cd_scLM ct_scLM), sl_scLM⟩) (c_scLM : PySem.W.codeIn K cd_scLM "_law_is_machine" = true) (k_scLM : PySem.W.keepIn K (.ref f_scLM) = true)
  (a_scLStand : PySem.W.nsIn K mainGlobals "_law_is_stand" = some (some (.ref f_scLStand))) (l_scLStand : K.lookup f_scLStand = some ⟨oc_scLStand, od_scLStand, .func (PySem.W.fnOf "_law_is_stand" "_law_is_stand" (defArgs sLStand) (defBody sLStand) (defScope sLStand) .none kV_scLStand dc_scLStand pm_scLStand an_scLStand cd_scLStand ct_scLStand), sl_scLStand⟩) (c_scLStand : PySem.W.codeIn K cd_scLStand "_law_is_stand" = true) (k_scLStand : PySem.W.keepIn K (.ref f_scLStand) = true)
  (a_scLName : PySem.W.nsIn K mainGlobals "_law_is_name" = some (some (.ref f_scLName))) (l_scLName : K.lookup f_scLName = some ⟨oc_scLName, od_scLName, .func (PySem.W.fnOf "_law_is_name" "_law_is_name" (defArgs sLName) (defBody sLName) (defScope sLName) .none kV_scLName dc_scLName pm_scLName an_scLName cd_scLName ct_scLName), sl_scLName⟩) (c_scLName : PySem.W.codeIn K cd_scLName "_law_is_name" = true) (k_scLName : PySem.W.keepIn K (.ref f_scLName) = true)
  (a_scLIsLf : PySem.W.nsIn K mainGlobals "_law_is_leaf" = some (some (.ref f_scLIsLf))) (l_scLIsLf : K.lookup f_scLIsLf = some ⟨oc_scLIsLf, od_scLIsLf, .func (PySem.W.fnOf "_law_is_leaf" "_law_is_leaf" (defArgs sLIsLf) (defBody sLIsLf) (defScope sLIsLf) .none kV_scLIsLf dc_scLIsLf pm_scLIsLf an_scLIsLf cd_scLIsLf ct_scLIsLf), sl_scLIsLf⟩) (c_scLIsLf : PySem.W.codeIn K cd_scLIsLf "_law_is_leaf" = true) (k_scLIsLf : PySem.W.keepIn K (.ref f_scLIsLf) = true)
  (a_scOddL : PySem.W.nsIn K mainGlobals "_law_odd_leaf" = some (some (.ref f_scOddL))) (l_scOddL : K.lookup f_scOddL = some ⟨oc_scOddL, od_scOddL, .func (PySem.W.fnOf "_law_odd_leaf" "_law_odd_leaf" (defArgs sOddL) (defBody sOddL) (defScope sOddL) .none kV_scOddL dc_scOddL pm_scOddL an_scOddL cd_scOddL ct_scOddL), sl_scOddL⟩) (c_scOddL : PySem.W.codeIn K cd_scOddL "_law_odd_leaf" = true) (k_scOddL : PySem.W.keepIn K (.ref f_scOddL) = true)
  (a_scOddS : PySem.W.nsIn K mainGlobals "_law_odd_stand" = some (some (.ref f_scOddS))) (l_scOddS : K.lookup f_scOddS = some ⟨oc_scOddS, od_scOddS, .func (PySem.W.fnOf "_law_odd_stand" "_law_odd_stand" (defArgs sOddS) (defBody sOddS) (defScope sOddS) .none kV_scOddS dc_scOddS pm_scOddS an_scOddS cd_scOddS ct_scOddS), sl_scOddS⟩) (c_scOddS : PySem.W.codeIn K cd_scOddS "_law_odd_stand" = true) (k_scOddS : PySem.W.keepIn K (.ref f_scOddS) = true)
  (a_scBM : PySem.W.nsIn K mainGlobals "_law_bent_moves" = some (some (.ref f_scBM))) (l_scBM : K.lookup f_scBM = some ⟨oc_scBM, od_scBM, .func (PySem.W.fnOf "_law_bent_moves" "_law_bent_moves" (defArgs sBM) (defBody sBM) (defScope sBM) .none kV_scBM dc_scBM pm_scBM an_scBM cd_scBM ct_scBM), sl_scBM⟩) (c_scBM : PySem.W.codeIn K cd_scBM "_law_bent_moves" = true) (k_scBM : PySem.W.keepIn K (.ref f_scBM) = true)
  (a_scBt : PySem.W.nsIn K mainGlobals "_law_bent" = some (some (.ref f_scBt))) (l_scBt : K.lookup f_scBt = some ⟨oc_scBt, od_scBt, .func (PySem.W.fnOf "_law_bent" "_law_bent" (defArgs sBt) (defBody sBt) (defScope sBt) .none kV_scBt dc_scBt pm_scBt an_scBt cd_scBt ct_scBt), sl_scBt⟩) (c_scBt : PySem.W.codeIn K cd_scBt "_law_bent" = true) (k_scBt : PySem.W.keepIn K (.ref f_scBt) = true)
  (a_scLaw : PySem.W.nsIn K mainGlobals "law" = some (some (.ref f_scLaw))) (l_scLaw : K.lookup f_scLaw = some ⟨oc_scLaw, od_scLaw, .func (PySem.W.fnOf "law" "law" (defArgs sLaw) (defBody sLaw) (defScope sLaw) .none kV_scLaw dc_scLaw pm_scLaw an_scLaw cd_scLaw ct_scLaw), sl_scLaw⟩) (c_scLaw : PySem.W.codeIn K cd_scLaw "law" = true) (k_scLaw : PySem.W.keepIn K (.ref f_scLaw) = true)
  (z_len : PySem.W.nsIn K mainGlobals "len" = some none)
  (z_isinstance : PySem.W.nsIn K mainGlobals "isinstance" = some none)
  (z_str : PySem.W.nsIn K mainGlobals "str" = some none)
  (z_int : PySem.W.nsIn K mainGlobals "int" = some none)
  (z_tuple : PySem.W.nsIn K mainGlobals "tuple" = some none)
  (z_list : PySem.W.nsIn K mainGlobals "list" = some none)
  (z_all : PySem.W.nsIn K mainGlobals "all" = some none)
  (z_range : PySem.W.nsIn K mainGlobals "range" = some none)
  (z_sorted : PySem.W.nsIn K mainGlobals "sorted" = some none)
  (z_set : PySem.W.nsIn K mainGlobals "set" = some none)
  (z_dict : PySem.W.nsIn K mainGlobals "dict" = some none)
  (z_bool : PySem.W.nsIn K mainGlobals "bool" = some none)
  (z_zip : PySem.W.nsIn K mainGlobals "zip" = some none)
  (m_LONGEST : PySem.W.nsIn K mainGlobals "LONGEST" = some (some (.int 8 t_LONGEST)))
  (m_ANY : PySem.W.nsIn K mainGlobals "ANY" = some (some (.str "*" t_ANY)))
  (m_SIDES : PySem.W.nsIn K mainGlobals "SIDES" = some (some (.ref ad_SIDES)))
  (l_SIDES : K.lookup ad_SIDES = some ⟨.type "tuple", od_SIDES, .seq its_SIDES n_SIDES, sl_SIDES⟩)
  (q_SIDES : (its_SIDES.toList.map strOf == (["on", "back"] : List Str).map some) = true) :
  ∃ fd : FuncData, (∀ (s : Shared) (v : Value), BindsTo s fd ⟨[v], []⟩ [("_law_script", v)]) ∧ ∀ base : Heap, K.In base → base.Ns mainGlobals mg → FnOk l.prog w K mg base CX0 7 fa fd ["_law_script"] (spLaw K) := by
 have e := hfa.symm.trans (PySem.W.mg_of X G a_scLaw)
 cases e
 have S_scWhole : Src K mg "is_whole" PscWhole sWhole := J.src_mk X G a_scWhole l_scWhole c_scWhole k_scWhole fun _ _ _ _ _ _ => J.by1 (fun _ => rfl)
 have S_scRow : Src K mg "is_row" PscRow sRow := J.src_mk X G a_scRow l_scRow c_scRow k_scRow fun _ _ _ _ _ _ => J.by2 (fun _ _ => rfl)
 have S_scName : Src K mg "is_name" PscName sName := J.src_mk X G a_scName l_scName c_scName k_scName fun _ _ _ _ _ _ => J.by1 (fun _ => rfl)
 have S_scLeaf : Src K mg "is_leaf" PscLeaf sLeaf := J.src_mk X G a_scLeaf l_scLeaf c_scLeaf k_scLeaf fun _ _ _ _ _ _ => J.by1 (fun _ => rfl)
 have S_scWord : Src K mg "is_word" PscWord sWord := J.src_mk X G a_scWord l_scWord c_scWord k_scWord fun _ _ _ _ _ _ => J.by1 (fun _ => rfl)
 have S_scIsM : Src K mg "is_machine" PscIsM sIsM := J.src_mk X G a_scIsM l_scIsM c_scIsM k_scIsM fun _ _ _ _ _ _ => J.by1 (fun _ => rfl)
 have S_scStand : Src K mg "is_stand" PscStand sStand := J.src_mk X G a_scStand l_scStand c_scStand k_scStand fun _ _ _ _ _ _ => J.by2 (fun _ _ => rfl)
 have S_scEnds : Src K mg "are_ends" PscEnds sEnds := J.src_mk X G a_scEnds l_scEnds c_scEnds k_scEnds fun _ _ _ _ _ _ => J.by2 (fun _ _ => rfl)
 have S_scMvs : Src K mg "are_moves" PscMvs sMvs := J.src_mk X G a_scMvs l_scMvs c_scMvs k_scMvs fun _ _ _ _ _ _ => J.by2 (fun _ _ => rfl)
 have S_scMove : Src K mg "is_move" PscMove sMove := J.src_mk X G a_scMove l_scMove c_scMove k_scMove fun _ _ _ _ _ _ => J.by2 (fun _ _ => rfl)
 have S_scRis : Src K mg "is_rising" PscRis sRis := J.src_mk X G a_scRis l_scRis c_scRis k_scRis fun _ _ _ _ _ _ => J.by1 (fun _ => rfl)
 have S_scCell : Src K mg "_law_cell_at" PscCell sCell := J.src_mk X G a_scCell l_scCell c_scCell k_scCell fun _ _ _ _ _ _ => J.by2 (fun _ _ => rfl)
 have S_scDraws : Src K mg "_law_draws" PscDraws sDraws := J.src_mk X G a_scDraws l_scDraws c_scDraws k_scDraws fun _ _ _ _ _ _ => J.by2 (fun _ _ => rfl)
 have S_scWords : Src K mg "_law_words" PscWords sWords := J.src_mk X G a_scWords l_scWords c_scWords k_scWords fun _ _ _ _ _ _ => fun us e => by cases us with | nil => rfl | cons _ _ => cases e
 have S_scMarks : Src K mg "_law_marks" PscMarks sMarks := J.src_mk X G a_scMarks l_scMarks c_scMarks k_scMarks fun _ _ _ _ _ _ => fun us e => by cases us with | nil => rfl | cons _ _ => cases e
 have S_scLLeaf : Src K mg "_law_leaf" PscLLeaf sLLeaf := J.src_mk X G a_scLLeaf l_scLLeaf c_scLLeaf k_scLLeaf fun _ _ _ _ _ _ => J.by2 (fun _ _ => rfl)
 have S_scMach : Src K mg "_law_machine" PscMach sMach := J.src_mk X G a_scMach l_scMach c_scMach k_scMach fun _ _ _ _ _ _ => J.by2 (fun _ _ => rfl)
 have S_scLM : Src K mg "_law_is_machine" PscLM sLM := J.src_mk X G a_scLM l_scLM c_scLM k_scLM fun _ _ _ _ _ _ => J.by2 (fun _ _ => rfl)
 have S_scLStand : Src K mg "_law_is_stand" PscLStand sLStand := J.src_mk X G a_scLStand l_scLStand c_scLStand k_scLStand fun _ _ _ _ _ _ => J.by2 (fun _ _ => rfl)
 have S_scLName : Src K mg "_law_is_name" PscLName sLName := J.src_mk X G a_scLName l_scLName c_scLName k_scLName fun _ _ _ _ _ _ => J.by1 (fun _ => rfl)
 have S_scLIsLf : Src K mg "_law_is_leaf" PscLIsLf sLIsLf := J.src_mk X G a_scLIsLf l_scLIsLf c_scLIsLf k_scLIsLf fun _ _ _ _ _ _ => J.by1 (fun _ => rfl)
 have S_scOddL : Src K mg "_law_odd_leaf" PscOddL sOddL := J.src_mk X G a_scOddL l_scOddL c_scOddL k_scOddL fun _ _ _ _ _ _ => J.by1 (fun _ => rfl)
 have S_scOddS : Src K mg "_law_odd_stand" PscOddS sOddS := J.src_mk X G a_scOddS l_scOddS c_scOddS k_scOddS fun _ _ _ _ _ _ => J.by2 (fun _ _ => rfl)
 have S_scBM : Src K mg "_law_bent_moves" PscBM sBM := J.src_mk X G a_scBM l_scBM c_scBM k_scBM fun _ _ _ _ _ _ => J.by4 (fun _ _ _ _ => rfl)
 have S_scBt : Src K mg "_law_bent" PscBt sBt := J.src_mk X G a_scBt l_scBt c_scBt k_scBt fun _ _ _ _ _ _ => J.by3 (fun _ _ _ => rfl)
 have F := fun_mk (st := sLaw) l_scLaw c_scLaw k_scLaw
 have T : Txt K mg := ⟨PySem.W.mg_none_of X G z_len, PySem.W.mg_none_of X G z_isinstance, PySem.W.mg_none_of X G z_str, PySem.W.mg_none_of X G z_int, PySem.W.mg_none_of X G z_tuple, PySem.W.mg_none_of X G z_list, PySem.W.mg_none_of X G z_all, PySem.W.mg_none_of X G z_range, PySem.W.mg_none_of X G z_sorted, PySem.W.mg_none_of X G z_set, PySem.W.mg_none_of X G z_dict, PySem.W.mg_none_of X G z_bool, PySem.W.mg_none_of X G z_zip, ⟨_, PySem.W.mg_of X G m_LONGEST⟩, ⟨_, PySem.W.mg_of X G m_ANY⟩, ⟨_, PySem.W.mg_of X G m_SIDES, fun H => stc_of l_SIDES q_SIDES (by decide) H⟩⟩
 refine ⟨PySem.W.fnOf "law" "law" (defArgs sLaw) (defBody sLaw) (defScope sLaw) .none kV_scLaw dc_scLaw pm_scLaw an_scLaw cd_scLaw ct_scLaw, fun s v => .of_eq rfl, fun base _ _ => ?_⟩
 have D_row := d_Row (P := l.prog) (w := w) (base := base) T S_scRow
 have D_name := d_Name (P := l.prog) (w := w) (base := base) T S_scName
 have D_whole := d_Whole (P := l.prog) (w := w) (base := base) T S_scWhole
 have D_stand := d_Stand T S_scStand D_whole
 have D_leaf := d_Leaf T S_scLeaf D_name D_row (d_Word T S_scWord D_name)
 have D_move := d_Move T S_scMove D_row D_stand D_leaf
 have D_ris := d_Ris (P := l.prog) (w := w) (base := base) T S_scRis
 have D_ism := d_IsM T S_scIsM D_row D_whole D_stand (d_Ends T S_scEnds D_stand D_ris) (d_Mvs T S_scMvs D_move D_ris)
 have D_draws := d_Draws (P := l.prog) (w := w) (base := base) T S_scDraws
 have D_mach := d_Mach T S_scMach D_draws (d_LLeaf T S_scLLeaf (d_Words T S_scWords) (d_Marks T S_scMarks))
 have D_odds := d_OddS (P := l.prog) (w := w) (base := base) T S_scOddS
 have D_lm := d_LM T S_scLM (d_LStand (P := l.prog) (w := w) (base := base) T S_scLStand) (d_LIsLf T S_scLIsLf (d_LName T S_scLName))
 exact top_of (d_LawA T F (d_Cell T S_scCell) D_draws D_mach (d_Bt T S_scBt (d_BM T S_scBM D_odds (d_OddL T S_scOddL)) D_odds) D_lm D_ism)
theorem walk {l : PySem.W.OpenLaw} {q : Program} {loose : List Str} {XP : (Str → Option Value) → Heap → Prop} {YP : World → Heap → Prop} {d : DefRec} {K : Params → PySem.W.Frag} (hn : l.most = some 63) (hdf : d.params.defaults = [])
  (hY : ∀ (w : World) (h : Heap), YP w h → (K w.params).In h)
  (F : ∀ (w : World) (mg : Str → Option Value) (fa : Addr) (h : Heap), (K w.params).In h → h.Ns mainGlobals mg → mg d.name = some (.ref fa) →
   ∃ fd : FuncData, (∀ (s : Shared) (u : Value), BindsTo s fd ⟨[u], []⟩ [("_law_script", u)]) ∧ ∀ base : Heap, (K w.params).In base → base.Ns mainGlobals mg → FnOk l.prog w (K w.params) mg base CX0 7 fa fd ["_law_script"] (spLaw (K w.params))) :
  PySem.W.WalkO q loose XP YP l.row.toRowW d [] (fun f vs => PySem.call f vs) :=
 L2.walk_of (n := 63) (k := 7) (x := "_law_script") (CX := fun _ => CX0) (sp := fun w => spLaw (K w.params)) hn (by decide) hdf ⟨rfl, by decide, by decide, rfl⟩ hY F (fun _ _ a ns hl _ hS => ⟨a, ns, rfl, hS, hl, fun _ => rfl⟩) fun _ _ _ _ _ z => z
end K30
open PySem PySem.W PyProof.Rows
set_option maxRecDepth 100000 in
set_option maxHeartbeats 0 in
theorem PySem.Challenge.cw_pathask_k30_what_is_a_machine_holds : PySem.Challenge.rw_pathask_k30_what_is_a_machine.Holds := by
 w_on; o_law; k_head; (case hw => w_witness2)
 k_fill
 refine K30.walk (l := PySem.Challenge.rw_pathask_k30_what_is_a_machine) rfl rfl (fun w h Y => PySem.W.kIn_of Y) ?F
 case F =>
  intro w mg fa h KX G hmg
  refine' K30.all_mk KX G hmg ?a_scWhole ?l_scWhole ?c_scWhole ?k_scWhole ?a_scRow ?l_scRow ?c_scRow ?k_scRow ?a_scName ?l_scName ?c_scName ?k_scName ?a_scLeaf ?l_scLeaf ?c_scLeaf ?k_scLeaf ?a_scWord ?l_scWord ?c_scWord ?k_scWord ?a_scIsM ?l_scIsM ?c_scIsM ?k_scIsM ?a_scStand ?l_scStand ?c_scStand ?k_scStand ?a_scEnds ?l_scEnds ?c_scEnds ?k_scEnds ?a_scMvs ?l_scMvs ?c_scMvs ?k_scMvs ?a_scMove ?l_scMove ?c_scMove ?k_scMove ?a_scRis ?l_scRis ?c_scRis ?k_scRis ?a_scCell ?l_scCell ?c_scCell ?k_scCell ?a_scDraws ?l_scDraws ?c_scDraws ?k_scDraws ?a_scWords ?l_scWords ?c_scWords ?k_scWords ?a_scMarks ?l_scMarks ?c_scMarks ?k_scMarks ?a_scLLeaf ?l_scLLeaf ?c_scLLeaf ?k_scLLeaf ?a_scMach ?l_scMach ?c_scMach ?k_scMach ?a_scLM ?l_scLM ?c_scLM ?k_scLM ?a_scLStand ?l_scLStand ?c_scLStand ?k_scLStand ?a_scLName ?l_scLName ?c_scLName ?k_scLName ?a_scLIsLf ?l_scLIsLf ?c_scLIsLf ?k_scLIsLf ?a_scOddL ?l_scOddL ?c_scOddL ?k_scOddL ?a_scOddS ?l_scOddS ?c_scOddS ?k_scOddS ?a_scBM ?l_scBM ?c_scBM ?k_scBM ?a_scBt ?l_scBt ?c_scBt ?k_scBt ?a_scLaw ?l_scLaw ?c_scLaw ?k_scLaw ?z_len ?z_isinstance ?z_str ?z_int ?z_tuple ?z_list ?z_all ?z_range ?z_sorted ?z_set ?z_dict ?z_bool ?z_zip ?m_LONGEST ?m_ANY ?m_SIDES ?l_SIDES ?q_SIDES
  (case a_scWhole => k_is)
  (case l_scWhole => k_is)
  (case c_scWhole => k_is)
  (case k_scWhole => k_is)
  (case a_scRow => k_is)
  (case l_scRow => k_is)
  (case c_scRow => k_is)
  (case k_scRow => k_is)
  (case a_scName => k_is)
  (case l_scName => k_is)
  (case c_scName => k_is)
  (case k_scName => k_is)
  (case a_scLeaf => k_is)
  (case l_scLeaf => k_is)
  (case c_scLeaf => k_is)
  (case k_scLeaf => k_is)
  (case a_scWord => k_is)
  (case l_scWord => k_is)
  (case c_scWord => k_is)
  (case k_scWord => k_is)
  (case a_scIsM => k_is)
  (case l_scIsM => k_is)
  (case c_scIsM => k_is)
  (case k_scIsM => k_is)
  (case a_scStand => k_is)
  (case l_scStand => k_is)
  (case c_scStand => k_is)
  (case k_scStand => k_is)
  (case a_scEnds => k_is)
  (case l_scEnds => k_is)
  (case c_scEnds => k_is)
  (case k_scEnds => k_is)
  (case a_scMvs => k_is)
  (case l_scMvs => k_is)
  (case c_scMvs => k_is)
  (case k_scMvs => k_is)
  (case a_scMove => k_is)
  (case l_scMove => k_is)
  (case c_scMove => k_is)
  (case k_scMove => k_is)
  (case a_scRis => k_is)
  (case l_scRis => k_is)
  (case c_scRis => k_is)
  (case k_scRis => k_is)
  (case a_scCell => k_is)
  (case l_scCell => k_is)
  (case c_scCell => k_is)
  (case k_scCell => k_is)
  (case a_scDraws => k_is)
  (case l_scDraws => k_is)
  (case c_scDraws => k_is)
  (case k_scDraws => k_is)
  (case a_scWords => k_is)
  (case l_scWords => k_is)
  (case c_scWords => k_is)
  (case k_scWords => k_is)
  (case a_scMarks => k_is)
  (case l_scMarks => k_is)
  (case c_scMarks => k_is)
  (case k_scMarks => k_is)
  (case a_scLLeaf => k_is)
  (case l_scLLeaf => k_is)
  (case c_scLLeaf => k_is)
  (case k_scLLeaf => k_is)
  (case a_scMach => k_is)
  (case l_scMach => k_is)
  (case c_scMach => k_is)
  (case k_scMach => k_is)
  (case a_scLM => k_is)
  (case l_scLM => k_is)
  (case c_scLM => k_is)
  (case k_scLM => k_is)
  (case a_scLStand => k_is)
  (case l_scLStand => k_is)
  (case c_scLStand => k_is)
  (case k_scLStand => k_is)
  (case a_scLName => k_is)
  (case l_scLName => k_is)
  (case c_scLName => k_is)
  (case k_scLName => k_is)
  (case a_scLIsLf => k_is)
  (case l_scLIsLf => k_is)
  (case c_scLIsLf => k_is)
  (case k_scLIsLf => k_is)
  (case a_scOddL => k_is)
  (case l_scOddL => k_is)
  (case c_scOddL => k_is)
  (case k_scOddL => k_is)
  (case a_scOddS => k_is)
  (case l_scOddS => k_is)
  (case c_scOddS => k_is)
  (case k_scOddS => k_is)
  (case a_scBM => k_is)
  (case l_scBM => k_is)
  (case c_scBM => k_is)
  (case k_scBM => k_is)
  (case a_scBt => k_is)
  (case l_scBt => k_is)
  (case c_scBt => k_is)
  (case k_scBt => k_is)
  (case a_scLaw => k_is)
  (case l_scLaw => k_is)
  (case c_scLaw => k_is)
  (case k_scLaw => k_is)
  (case z_len => k_is)
  (case z_isinstance => k_is)
  (case z_str => k_is)
  (case z_int => k_is)
  (case z_tuple => k_is)
  (case z_list => k_is)
  (case z_all => k_is)
  (case z_range => k_is)
  (case z_sorted => k_is)
  (case z_set => k_is)
  (case z_dict => k_is)
  (case z_bool => k_is)
  (case z_zip => k_is)
  (case m_LONGEST => k_is)
  (case m_ANY => k_is)
  (case m_SIDES => k_is)
  (case l_SIDES => k_is)
  (case q_SIDES => kernel_rfl)
