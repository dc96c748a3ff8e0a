import PyProof.Rows.All
import Wide.All
import OpenK.AllK
import Wide.FinOn
import Lean
import KE.KSortTup
import PyProof.EqAt
import PyProof.EqKinds
import PyProof.TupleCall
import PyProof.P3Eq
import PyProof.NeData
import PySem.Challenge.RW_sampleyard_k61_tiles_cells
set_option Elab.async false
set_option linter.all false
set_option maxRecDepth 100000
namespace L2
open PySem PySem.Spec PyProof.Rows

noncomputable abbrev Key := Sum Int Str
noncomputable def keyIs : Key → Value → Bool
  | .inl k, v => Value.isInt k v
  | .inr x, v => Value.isStrOf x v
noncomputable def keyH (w : World) : Key → Int
  | .inl k => hashInt k
  | .inr x => hashStr w x
theorem keyIs_shape : ∀ {k : Key} {v : Value}, keyIs k v = true → (∃ i t, k = Sum.inl i ∧ v = Value.int i t) ∨ (∃ x t, k = Sum.inr x ∧ v = Value.str x t)
  | .inl i, v, h => by
    obtain ⟨t, e⟩ := Value.isInt_shape (k := i) (v := v) h
    exact .inl ⟨i, t, rfl, e⟩
  | .inr x, v, h => by
    obtain ⟨t, e⟩ := Value.isStrOf_shape (x := x) (v := v) h
    exact .inr ⟨x, t, rfl, e⟩
theorem key_ll (a b : Int) : decide ((Sum.inl a : Key) = Sum.inl b) = (a == b) := by
  by_cases e : a = b
  · subst e; simp
  · have h : ¬ (Sum.inl a : Key) = Sum.inl b := fun q => e (Sum.inl.inj q)
    rw [decide_eq_false h]
    exact (beq_eq_false_iff_ne.mpr e).symm
theorem key_rr (a b : Str) : decide ((Sum.inr a : Key) = Sum.inr b) = decide (a = b) := by
  by_cases e : a = b
  · subst e; simp
  · have h : ¬ (Sum.inr a : Key) = Sum.inr b := fun q => e (Sum.inr.inj q)
    rw [decide_eq_false h, decide_eq_false e]
theorem key_lr (a : Int) (b : Str) : decide ((Sum.inl a : Key) = Sum.inr b) = false := decide_eq_false (fun q => nomatch q)
theorem key_rl (a : Str) (b : Int) : decide ((Sum.inr a : Key) = Sum.inl b) = false := decide_eq_false (fun q => nomatch q)

noncomputable def mixKind (prog : Program) (w : World) : PySem.KeyKind prog w Key where
  is := keyIs
  hash := keyH w
  inj := fun v a b ha hb => by
    rcases keyIs_shape ha with ⟨i, t, rfl, rfl⟩ | ⟨x, t, rfl, rfl⟩
    · rcases keyIs_shape hb with ⟨j, u, rfl, e⟩ | ⟨y, u, rfl, e⟩
      · injection e with e1 _; rw [e1]
      · exact nomatch e
    · rcases keyIs_shape hb with ⟨j, u, rfl, e⟩ | ⟨y, u, rfl, e⟩
      · exact nomatch e
      · injection e with e1 _; rw [e1]
  byValue := fun k v h => by
    rcases keyIs_shape h with ⟨i, t, rfl, rfl⟩ | ⟨x, t, rfl, rfl⟩ <;> rfl
  pyHash := fun hv h => by
    rcases keyIs_shape hv with ⟨i, t, rfl, rfl⟩ | ⟨x, t, rfl, rfl⟩
    · exact wpAny_pyHash_int h
    · exact wpAny_pyHash_str h
  eqBool := fun hu hv h => by
    rcases keyIs_shape hu with ⟨i, t, rfl, rfl⟩ | ⟨x, t, rfl, rfl⟩
    · rcases keyIs_shape hv with ⟨j, u, rfl, rfl⟩ | ⟨y, u, rfl, rfl⟩
      · rw [key_ll] at h; exact wpAny_eqBool_int h
      · rw [key_lr] at h; exact SeqAt.EqAt.int_str i t y u _ _ _ _ h
    · rcases keyIs_shape hv with ⟨j, u, rfl, rfl⟩ | ⟨y, u, rfl, rfl⟩
      · rw [key_rl] at h; exact SeqAt.EqAt.str_int x t j u _ _ _ _ h
      · rw [key_rr] at h; exact wpAny_eqBool_str h
  «strs» := fun k x t v h => by
    rcases keyIs_shape h with ⟨i, u, rfl, e⟩ | ⟨y, u, rfl, e⟩
    · exact nomatch e
    · injection e with e1 _
      subst e1
      cases v <;> rfl

end L2

namespace L2
open PySem PySem.Spec PyProof.Rows

inductive V where
  | non | bl (b : Bool) | int (i : Int) | str (x : Str) | byt (b : Array UInt8) | flt (b : UInt64) | ref (a : Addr) | ty (n : String)
  deriving DecidableEq

noncomputable def RelV : V → Value → Prop
  | .non, u => u = Value.none
  | .bl b, u => u = Value.bool b
  | .int i, u => ∃ t, u = Value.int i t
  | .str x, u => ∃ t, u = Value.str x t
  | .byt b, u => ∃ t, u = Value.bytes b t
  | .flt b, u => ∃ t, u = Value.float b t
  | .ref a, u => u = Value.ref a
  | .ty n, u => u = Value.type n

noncomputable abbrev Vals : List V → List Value → Prop := Paired RelV
theorem Vals.length {xs : List V} {us : List Value} (r : Vals xs us) : xs.length = us.length := Paired.length r
theorem Vals.get : ∀ {xs : List V} {us : List Value} {i : Nat} {x : V}, Vals xs us → xs[i]? = some x → ∃ u, us[i]? = some u ∧ RelV x u
  | _, _, _, _, .nil, e => by simp at e
  | _, _, 0, _, .cons r _, e => by simp at e; subst e; exact ⟨_, rfl, r⟩
  | _, _, i + 1, x, .cons _ t, e => by
    obtain ⟨u, h1, h2⟩ := Vals.get (i := i) (x := x) t (by simpa using e)
    exact ⟨u, by simpa using h1, h2⟩
theorem Vals.set {x : V} {u : Value} (r : RelV x u) : ∀ {xs : List V} {us : List Value} (i : Nat), Vals xs us → Vals (xs.set i x) (us.set i u)
  | _, _, _, .nil => .nil
  | _, _, 0, .cons _ t => .cons r t
  | _, _, i + 1, .cons q t => .cons q (Vals.set r i t)
theorem Vals.append : ∀ {xs ys : List V} {us ws : List Value}, Vals xs us → Vals ys ws → Vals (xs ++ ys) (us ++ ws)
  | _, _, _, _, .nil, s => s
  | _, _, _, _, .cons r t, s => .cons r (Vals.append t s)
theorem Vals.take : ∀ {xs : List V} {us : List Value} (n : Nat), Vals xs us → Vals (xs.take n) (us.take n)
  | _, _, 0, _ => .nil
  | _, _, _ + 1, .nil => .nil
  | _, _, n + 1, .cons r t => .cons r (Vals.take n t)
theorem Vals.drop : ∀ {xs : List V} {us : List Value} (n : Nat), Vals xs us → Vals (xs.drop n) (us.drop n)
  | _, _, 0, r => r
  | _, _, _ + 1, .nil => .nil
  | _, _, n + 1, .cons _ t => Vals.drop n t
noncomputable def RelO : Option V → Option Value → Prop
  | some v, some u => RelV v u
  | none, none => True
  | _, _ => False
noncomputable def KV {κ : Type} : List (κ × V) → List (κ × Value) → Prop := Paired fun (p : κ × V) (q : κ × Value) => p.1 = q.1 ∧ RelV p.2 q.2

noncomputable def kV : Key → V
  | .inl i => .int i
  | .inr x => .str x

inductive HO where
  /-- a list -/
  | lst (xs : List V)
  /-- a tuple (never changes) -/
  | tup (xs : List V)
  /-- a dict whose keys are ints and texts; one whose keys are tuples of ints and texts (the empty one is both) -/
  | dK (kvs : List (Key × V)) | dT (kvs : List (List Key × V))
  /-- a set of ints: its members, its size -/
  | set (S : Int → Bool) (n : Nat)
  /-- an instance of the class at C, its dict at dx, its attributes -/
  | ins (C dx : Addr) (fs : List (Str × V))
  /-- the dict of the instance at x -/
  | own (x : Addr)
  /-- the dict of an exception -/
  | xd (fs : List (Str × V))
  /-- a bound method, f of x -/
  | met (f x : Addr)
  /-- a range object lo, lo + 1, .. below hi -/
  | rng (lo hi : Int)
  /-- a thing that is known to the object (the script; a dict while a loop walks it): read, never written while it is so -/
  | frz (o : Obj) (u : HO)
  /-- a code object's table -/
  | tbl (ps : Array Value)
  /-- any other thing, by what is true of its one object (a def of one's own: SetO a S n := HO.ext fun h => ..) -/
  | ext (φ : Heap → Prop)

noncomputable abbrev Hp := Addr → Option HO
noncomputable def upd (H : Hp) (a : Addr) (o : HO) : Hp := fun b => if b = a then some o else H b
theorem upd_same {H : Hp} {a : Addr} {o : HO} : upd H a o a = some o := by unfold upd; rw [if_pos rfl]
theorem upd_ne {H : Hp} {a b : Addr} {o : HO} (h : b ≠ a) : upd H a o b = H b := by unfold upd; rw [if_neg h]
theorem ne_of_none {H : Hp} {a b : Addr} {o : HO} (h : H a = some o) (h' : H b = none) : a ≠ b := by
  intro e; subst e; rw [h] at h'; cases h'

section
variable (P : Program) (w : World)
noncomputable def ObjOk (H : Hp) (h : Heap) (a : Addr) : HO → Prop
  | .lst xs => xs.length ≤ sizeLine ∧ ∃ (its : List Value) (n : Nat), Vals xs its ∧ h.get? a = some { cls := .type "list", data := .seq its.toArray n }
  | .tup xs => xs.length ≤ sizeLine ∧ ∃ its : List Value, Vals xs its ∧ IsTup h a its.toArray
  | .dK kvs => kvs.length ≤ sizeLine ∧ (a == sysModules) = false ∧ ∃ vs, KV kvs vs ∧ h.DictOf (mixKind P w) a vs
  | .dT kvs => kvs.length ≤ sizeLine ∧ (a == sysModules) = false ∧ ∃ xs : List (List Key × Addr × Value),
      Paired (fun (p : List Key × V) (q : List Key × Addr × Value) => p.1 = q.1 ∧ H q.2.1 = some (.tup (p.1.map kV)) ∧ RelV p.2 q.2.2) kvs xs ∧
      ∃ o es ep, h.get? a = some o ∧ o.ExactDict ∧ o.data = .dict es ep ∧ es.toList = xs.map (entryOfKey (tupleKind (mixKind P w))) ∧ (xs.map (·.1)).Nodup
  | .set S n => h.SetOf (intKind P w) a S n
  | .ins C dx fs => H dx = some (.own a) ∧ fs.length ≤ 1000 ∧ dx ≠ a ∧ h.get? a = some (PySem.W.instObj C dx) ∧
      ∃ mA, h.Ns1 dx mA ∧ (∀ f, RelO (fs.lookup f) (mA f)) ∧ PySem.Within mA (fs.map (·.1))
  | .own _ => ∃ o, h.get? a = some o
  | .xd fs => ∃ mA, h.Ns1 a mA ∧ ∀ f, RelO (fs.lookup f) (mA f)
  | .rng lo hi => ∃ t u v, h.get? a = some { cls := .type "range", data := .fields #[.int lo t, .int hi u, .int 1 v] }
  | .frz o u => h.get? a = some o ∧ ObjOk H h a u
  | .tbl ps => h.get? a = some { cls := .none, data := .fields ps }
  | .met f x => h.get? a = some (PySem.W.methodObj (.ref f) (.ref x))
  | .ext φ => φ h ∧ (∃ o, h.get? a = some o) ∧ ∀ h1 h2 : Heap, φ h1 → (∀ o, h1.get? a = some o → h2.get? a = some o) → φ h2
noncomputable def HOk (H : Hp) (h : Heap) : Prop := ∀ a o, H a = some o → ObjOk P w H h a o
end

section
variable {P : Program} {w : World} {H H' : Hp} {h h' : Heap} {a : Addr} {o : HO}
theorem ObjOk.lt (x : ObjOk P w H h a o) : a < h.objs.size := by
  cases o with
  | lst xs => obtain ⟨_, _, _, _, e⟩ := x; exact Heap.lt_size e
  | tup xs => obtain ⟨_, _, _, p⟩ := x; exact p.lt
  | dK kvs => obtain ⟨_, _, _, _, o, _, _, e, _⟩ := x; exact Heap.lt_size e
  | dT kvs => obtain ⟨_, _, _, _, o, _, _, e, _⟩ := x; exact Heap.lt_size e
  | set S n => obtain ⟨o, _, _, _, e, _⟩ := x; exact Heap.lt_size e
  | ins C dx fs => obtain ⟨_, _, _, e, _⟩ := x; exact Heap.lt_size e
  | own y => obtain ⟨_, e⟩ := x; exact Heap.lt_size e
  | xd fs => obtain ⟨_, ⟨_, _, _, e, _⟩, _⟩ := x; exact Heap.lt_size e
  | rng lo hi => obtain ⟨_, _, _, e⟩ := x; exact Heap.lt_size e
  | frz ob u => obtain ⟨e, _⟩ := x; exact Heap.lt_size e
  | tbl ps => exact Heap.lt_size (show h.get? a = some _ from x)
  | met f y => exact Heap.lt_size (show h.get? a = some _ from x)
  | ext φ => obtain ⟨_, ⟨_, e⟩, _⟩ := x; exact Heap.lt_size e
theorem Paired.mapP {α β : Type} {F G : α → β → Prop} : ∀ {l₁ : List α} {l₂ : List β}, Paired F l₁ l₂ → (∀ a b, F a b → G a b) → Paired G l₁ l₂
  | _, _, .nil, _ => .nil
  | _, _, .cons r t, f => .cons (f _ _ r) (Paired.mapP t f)
theorem ObjOk.stay (x : ObjOk P w H h a o) (k : ∀ b u, (b = a ∨ H b = some (.own a)) → h.get? b = some u → h'.get? b = some u)
    (ho : ∀ b, H b = some (.own a) → H' b = some (.own a)) (ht : ∀ b xs, H b = some (.tup xs) → H' b = some (.tup xs)) : ObjOk P w H' h' a o := by
  induction o with
  | lst xs => obtain ⟨z, its, n, r, e⟩ := x; exact ⟨z, its, n, r, k _ _ (.inl rfl) e⟩
  | tup xs => obtain ⟨z, its, r, ob, e, c⟩ := x; exact ⟨z, its, r, ob, k _ _ (.inl rfl) e, c⟩
  | dK kvs => obtain ⟨z, y, vs, r, ob, es, ep, e, c⟩ := x; exact ⟨z, y, vs, r, ob, es, ep, k _ _ (.inl rfl) e, c⟩
  | dT kvs =>
    obtain ⟨z, y, xs, r, ob, es, ep, e, c⟩ := x
    exact ⟨z, y, xs, Paired.mapP r fun p q z => ⟨z.1, ht _ _ z.2.1, z.2.2⟩, ob, es, ep, k _ _ (.inl rfl) e, c⟩
  | set S n => obtain ⟨ob, es, ep, t, e, c⟩ := x; exact ⟨ob, es, ep, t, k _ _ (.inl rfl) e, c⟩
  | ins C dx fs =>
    obtain ⟨d, z, ne, e, mA, ⟨od, es, ep, e2, c⟩, r⟩ := x
    exact ⟨ho _ d, z, ne, k _ _ (.inl rfl) e, mA, ⟨od, es, ep, k _ _ (.inr d) e2, c⟩, r⟩
  | own y => obtain ⟨ob, e⟩ := x; exact ⟨ob, k _ _ (.inl rfl) e⟩
  | xd fs => obtain ⟨mA, ⟨od, es, ep, e, c⟩, r⟩ := x; exact ⟨mA, ⟨od, es, ep, k _ _ (.inl rfl) e, c⟩, r⟩
  | rng lo hi => obtain ⟨t, u, v, e⟩ := x; exact ⟨t, u, v, k _ _ (.inl rfl) e⟩
  | frz ob u ih => obtain ⟨e, q⟩ := x; exact ⟨k _ _ (.inl rfl) e, ih q⟩
  | tbl ps =>
    have e : h.get? a = some { cls := .none, data := .fields ps } := x
    show h'.get? a = some { cls := .none, data := .fields ps }
    exact k a _ (.inl rfl) e
  | met f y =>
    have e : h.get? a = some (PySem.W.methodObj (.ref f) (.ref y)) := x
    show h'.get? a = some (PySem.W.methodObj (.ref f) (.ref y))
    exact k a _ (.inl rfl) e
  | ext φ => obtain ⟨p, ⟨o, e⟩, st⟩ := x; exact ⟨st _ _ p fun o q => k _ _ (.inl rfl) q, ⟨o, k _ _ (.inl rfl) e⟩, st⟩
theorem HOk.lt (x : HOk P w H h) (e : H a = some o) : a < h.objs.size := (x a o e).lt
theorem HOk.fresh (x : HOk P w H h) (e : h.objs.size ≤ a) : H a = none := by
  cases q : H a with
  | none => rfl
  | some u => exact absurd (Nat.lt_of_lt_of_le (x.lt q) e) (Nat.lt_irrefl _)
theorem HOk.kept (x : HOk P w H h) (k : ∀ b u, h.get? b = some u → h'.get? b = some u) : HOk P w H h' := fun a o e =>
  (x a o e).stay (fun b u _ q => k b u q) (fun _ q => q) fun _ _ q => q
theorem HOk.laid (x : HOk P w H h) (k : ∀ b u, h.get? b = some u → h'.get? b = some u) (hp : h.objs.size ≤ a) (new : ObjOk P w (upd H a o) h' a o) : HOk P w (upd H a o) h' := fun b u e => by
  have hn := x.fresh hp
  by_cases hb : b = a
  · subst hb; rw [upd_same] at e; cases e; exact new
  · rw [upd_ne hb] at e
    exact (x b u e).stay (fun c v _ q => k c v q) (fun c q => by rw [upd_ne (ne_of_none q hn)]; exact q) fun c xs q => by rw [upd_ne (ne_of_none q hn)]; exact q
end

noncomputable def Rd (H : Hp) (a : Addr) (u : HO) : Prop := H a = some u ∨ ∃ o, H a = some (.frz o u)
theorem Rd.of {H : Hp} {a : Addr} {u : HO} (h : H a = some u) : Rd H a u := .inl h
theorem Rd.ok {P : Program} {w : World} {H : Hp} {h : Heap} {a : Addr} {u : HO} (r : Rd H a u) (x : HOk P w H h) : ObjOk P w H h a u := by
  rcases r with r | ⟨o, r⟩
  · exact x a u r
  · obtain ⟨_, q⟩ := x a _ r
    exact q
noncomputable def Mut : Option HO → Prop
  | some (.lst _) => True
  | some (.dK _) => True
  | some (.dT _) => True
  | some (.set _ _) => True
  | some (.ins _ _ _) => True
  | some (.ext _) => True
  | _ => False
section
variable {P : Program} {w : World} {H : Hp} {h h' : Heap} {x e : Addr} {o' : HO}
theorem HOk.write (ok : HOk P w H h) (mu : Mut (H x)) (he : e = x ∨ H e = some (.own x)) (k : ∀ b u, b ≠ e → h.get? b = some u → h'.get? b = some u) (heo : ∃ u, h'.get? e = some u)
    (new : ObjOk P w (upd H x o') h' x o') : HOk P w (upd H x o') h' := fun b u q => by
  have nown : ∀ c y, H c = some (.own y) → c ≠ x := fun c y r z => by subst z; rw [r] at mu; exact mu
  have ntup : ∀ c xs, H c = some (.tup xs) → c ≠ x := fun c xs r z => by subst z; rw [r] at mu; exact mu
  by_cases hb : b = x
  · subst hb; rw [upd_same] at q; cases q; exact new
  · rw [upd_ne hb] at q
    by_cases hbe : b = e
    · have q' : H b = some (.own x) := by
        rcases he with z | z
        · exact absurd (hbe.trans z) hb
        · rw [hbe]; exact z
      rw [q] at q'; cases q'
      obtain ⟨v, hv⟩ := heo
      exact ⟨v, by rw [hbe]; exact hv⟩
    · refine (ok b u q).stay (fun c v hc r => k c v ?_ r) (fun c r => by rw [upd_ne (nown c b r)]; exact r) fun c xs r => by rw [upd_ne (ntup c xs r)]; exact r
      rcases hc with rfl | hc
      · exact hbe
      · rintro rfl
        rcases he with z | z
        · exact nown c b hc z
        · rw [hc] at z; cases z; exact hb rfl
end

structure Un (fs ex : List Addr) (H H' : Hp) (h h' : Heap) : Prop where
  keep : ∀ b o, h.get? b = some o → H b = none → b ∉ fs → b ∉ ex → h'.get? b = some o
  slot : ∀ b o, h.get? b = some o → H b = none → b ∈ fs → b ∉ ex → ∃ sl, h'.get? b = some { o with slots := sl }
  free : ∀ b o, h.get? b = some o → H b = none → b ∉ ex → H' b = none
  there : ∀ b o, h.get? b = some o → b ∉ ex → ∃ o', h'.get? b = some o'
  tups : ∀ b xs, H b = some (.tup xs) → H' b = some (.tup xs)
  frzs : ∀ b o u, H b = some (.frz o u) → H' b = some (.frz o u)
  tbls : ∀ b ps, H b = some (.tbl ps) → ∃ more, H' b = some (.tbl (ps ++ more))
section
variable {fs fs' ex ex' : List Addr} {H H1 H2 : Hp} {h h1 h2 h' : Heap} {a x e : Addr} {o : HO}
theorem Un.any (u : Un fs ex H H1 h h1) {b : Addr} {ob : Obj} (q : h.get? b = some ob) (n : H b = none) (hx : b ∉ ex) : ∃ sl, h1.get? b = some { ob with slots := sl } := by
  by_cases hb : b ∈ fs
  · exact u.slot b ob q n hb hx
  · exact ⟨ob.slots, u.keep b ob q n hb hx⟩
theorem Un.trans (a : Un fs ex H H1 h h1) (b : Un fs ex H1 H2 h1 h2) : Un fs ex H H2 h h2 where
  keep := fun c ob q n hc hx => b.keep c ob (a.keep c ob q n hc hx) (a.free c ob q n hx) hc hx
  slot := fun c ob q n hc hx => by
    obtain ⟨sl, e1⟩ := a.slot c ob q n hc hx
    obtain ⟨sl', e2⟩ := b.slot c _ e1 (a.free c ob q n hx) hc hx
    exact ⟨sl', e2⟩
  free := fun c ob q n hx => by
    obtain ⟨o', e1⟩ := a.there c ob q hx
    exact b.free c o' e1 (a.free c ob q n hx) hx
  there := fun c ob q hx => by
    obtain ⟨o', e1⟩ := a.there c ob q hx
    exact b.there c o' e1 hx
  tups := fun c xs q => b.tups c xs (a.tups c xs q)
  frzs := fun c ob xs q => b.frzs c ob xs (a.frzs c ob xs q)
  tbls := fun c ps q => by
    obtain ⟨m1, e1⟩ := a.tbls c ps q
    obtain ⟨m2, e2⟩ := b.tbls c _ e1
    exact ⟨m1 ++ m2, by rw [e2, Array.append_assoc]⟩
theorem Un.kept (k : ∀ b u, h.get? b = some u → h'.get? b = some u) : Un fs ex H H h h' :=
  ⟨fun b ob q _ _ _ => k b ob q, fun b ob q _ _ _ => ⟨ob.slots, k b ob q⟩, fun _ _ _ n _ => n, fun b ob q _ => ⟨ob, k b ob q⟩, fun _ _ q => q, fun _ _ _ q => q, fun _ ps q => ⟨#[], by rw [q]; simp⟩⟩
theorem Un.refl : Un fs ex H H h h := Un.kept fun _ _ q => q
theorem Un.laid (k : ∀ b u, h.get? b = some u → h'.get? b = some u) (hp : h.objs.size ≤ a) (hn : H a = none) : Un fs ex H (upd H a o) h h' where
  keep := fun b u q _ _ _ => k b u q
  slot := fun b u q _ _ _ => ⟨u.slots, k b u q⟩
  free := fun b u q n _ => by rw [upd_ne (Nat.ne_of_lt (Nat.lt_of_lt_of_le (Heap.lt_size q) hp))]; exact n
  there := fun b u q _ => ⟨u, k b u q⟩
  tups := fun b xs q => by rw [upd_ne (ne_of_none q hn)]; exact q
  frzs := fun b u xs q => by rw [upd_ne (ne_of_none q hn)]; exact q
  tbls := fun b ps q => ⟨#[], by rw [upd_ne (ne_of_none q hn), q]; simp⟩
theorem Un.write (mu : Mut (H x)) (he : e = x ∨ H e = some (.own x)) (k : ∀ b u, b ≠ e → h.get? b = some u → h'.get? b = some u) (heo : ∃ u, h'.get? e = some u) : Un fs ex H (upd H x o) h h' := by
  have hx : ∀ b, H b = none → b ≠ x := fun b n z => by subst z; rw [n] at mu; exact mu
  have hb : ∀ b, H b = none → b ≠ e := fun b n z => by
    subst z
    rcases he with r | r
    · exact hx b n r
    · rw [n] at r; cases r
  have hm : ∀ b u, H b = some u → ¬ Mut (some u) → b ≠ x := fun b u q nm z => by subst z; rw [q] at mu; exact nm mu
  refine ⟨fun b u q n _ _ => k b u (hb b n) q, fun b u q n _ _ => ⟨u.slots, k b u (hb b n) q⟩, fun b u q n _ => by rw [upd_ne (hx b n)]; exact n, fun b u q _ => ?_,
    fun b xs q => by rw [upd_ne (hm b _ q fun z => z)]; exact q, fun b u xs q => by rw [upd_ne (hm b _ q fun z => z)]; exact q, fun b ps q => ⟨#[], by rw [upd_ne (hm b _ q fun z => z), q]; simp⟩⟩
  by_cases hbe : b = e
  · subst hbe; exact heo
  · exact ⟨u, k b u hbe q⟩
theorem Un.mono (u : Un fs ex H H1 h h1) (hs : ∀ b ∈ fs, b ∈ fs') (hx : ∀ b ∈ ex, b ∈ ex') : Un fs' ex' H H1 h h1 :=
  ⟨fun b ob q n hb he => u.keep b ob q n (fun z => hb (hs b z)) fun z => he (hx b z), fun _ _ q n _ he => u.any q n fun z => he (hx _ z), fun b ob q n he => u.free b ob q n fun z => he (hx b z), fun b ob q he => u.there b ob q fun z => he (hx b z), u.tups, u.frzs, u.tbls⟩
end

noncomputable def trk (h : Heap) (H : Hp) : List Addr := (List.range h.objs.size).filter fun a => (H a).isSome
noncomputable def hidT (h : Heap) (H : Hp) : Heap := PySem.W.hideAll h (trk h H)
theorem hidT_size (h : Heap) (H : Hp) : (hidT h H).objs.size = h.objs.size := PySem.W.hideAll_size _ _
theorem hidT_get {h : Heap} {H : Hp} {b : Addr} {o : Obj} (e : h.get? b = some o) (n : H b = none) : (hidT h H).get? b = some o :=
  PySem.W.hideAll_get _ e fun hm => by
    have q : (H b).isSome = true := (List.mem_filter.mp hm).2
    rw [n] at q; simp at q
theorem of_hidT {h : Heap} {H : Hp} {b : Addr} {o : Obj} (e : (hidT h H).get? b = some o) : h.get? b = some o ∧ H b = none := by
  have e' : h.get? b = some o := PySem.W.of_hideAll (trk h H) e
  refine ⟨e', ?_⟩
  cases q : H b with
  | none => rfl
  | some x =>
    have hm : b ∈ trk h H := List.mem_filter.mpr ⟨List.mem_range.mpr (Heap.lt_size e'), by simp [q]⟩
    have z : (hidT h H).get? b = none := PySem.W.hideAll_none (trk h H) hm
    rw [z] at e; cases e

noncomputable def allNews (g h : Heap) (L : Addr) : List (Addr × Obj) := (List.range h.objs.size).filterMap fun a => if a = L ∨ (g.get? a).isSome = true then none else (h.get? a).map fun o => (a, o)
noncomputable def rest (g h : Heap) (L d : Addr) : List (Addr × Obj) := (allNews g h L).filter fun p => decide (p.1 ≠ d)
end L2

namespace L2
open PySem PySem.Spec PyProof.Rows

structure Mod (K : PySem.W.Frag) (mg : Str → Option Value) (base : Heap) : Prop where
  kin : K.In base
  glob : base.Ns mainGlobals mg
  blt : ∃ mb, base.Ns builtinsNs mb ∧ ∀ x : Str, x ≠ "__name__" → mb x = bootBuiltins x
  nolimit : base.NoLimit

structure Cx where
  prog : Program
  w : World
  K : PySem.W.Frag
  mg : Str → Option Value
  base : Heap
  A : Around
  N : List Str
  s₀ : Shared
  H₀ : Hp
  env : Env
  outer : List Env
  stack : List Env
  ex : List Addr
  fn : Str → Bool
  calm : Bool
  pn : List (Addr × Obj)
  xe : Value → Shared → Prop
noncomputable def frs (l : List Env) : List Addr := l.filterMap (·.frame)
noncomputable abbrev Cx.fs (X : Cx) : List Addr := frs X.outer

noncomputable def Vis (sc : Scope) (x : Str) : Prop := sc.names.lookup x = some .local ∨ sc.names.lookup x = some .cell ∨ sc.names.lookup x = some .free
noncomputable def Loc (sc : Scope) (x : Str) : Prop := sc.names.lookup x = some .local ∨ sc.names.lookup x = some .cell
noncomputable def Look (env : Env) (h : Heap) (m : Str → Option Value) (x : Str) (u : Value) : Prop :=
  (env.kindOf x = some .local ∧ m x = some u) ∨ ((env.kindOf x = some .cell ∨ env.kindOf x = some .free) ∧ ∃ c, env.cells.lookup x = some c ∧ h.IsCell c (some u))

structure Cx.Ok (X : Cx) : Prop where
  mod : Mod X.K X.mg X.base
  kind : X.env.scope.kind = .function
  glob : X.env.globals = mainGlobals
  blt : X.env.builtins = builtinsNs
  above : X.s₀.heap.objs.size ≤ X.env.locals
  inj : ∀ x y c, X.env.cells.lookup x = some c → X.env.cells.lookup y = some c → x = y
  has : ∀ x, (X.env.kindOf x = some .cell ∨ X.env.kindOf x = some .free) → ∃ c, X.env.cells.lookup x = some c
  cab : ∀ x c, X.fn x = true → X.env.cells.lookup x = some c → X.s₀.heap.objs.size ≤ c
  hd : X.calm = true → X.A.handled = none
  frames : X.A.frames = some X.stack
  stk : X.stack = X.outer ∨ (X.stack = X.env :: X.outer ∧ X.env.frame = some X.env.locals)
  exf : ∀ b ∈ X.ex, b ≠ X.env.locals ∧ ∀ x c, X.env.cells.lookup x = some c → c ≠ b
  bs : ∀ b o, X.base.get? b = some o → X.s₀.heap.get? b = some o ∧ X.H₀ b = none
  bsz : X.base.objs.size ≤ X.s₀.heap.objs.size
  noex : ∀ b o, X.base.get? b = some o → b ∉ X.ex
  exfs : ∀ b ∈ X.ex, b ∉ X.fs
  funs : X.s₀.heap.FunFrames X.base X.outer
  frf : ∀ b ∈ X.fs, X.H₀ b = none

structure Inv (X : Cx) (pins : List (Addr × Obj)) (σ : List (Option V)) (H : Hp) (s : Shared) : Prop where
  ok : X.Ok
  os : s.os = X.s₀.os
  bare : AllBare s.gens
  base : Un X.fs X.ex X.H₀ H X.s₀.heap s.heap
  loc : ∃ m, s.heap.Ns X.env.locals m ∧ ∀ (i : Nat) (x : Str) (v : V), X.N[i]? = some x → σ[i]? = some (some v) → Vis X.env.scope x → ∃ u, RelV v u ∧ Look X.env s.heap m x u
  cell : ∀ x c, X.env.cells.lookup x = some c → ∃ v, s.heap.IsCell c v
  free : H X.env.locals = none
  freeC : ∀ x c, X.env.cells.lookup x = some c → H c = none
  pin : ∀ p ∈ X.pn ++ pins, s.heap.get? p.1 = some p.2 ∧ H p.1 = none ∧ p.1 ≠ X.env.locals ∧ p.1 ∉ X.fs ∧ ∀ v, p.2.data ≠ .cell v
  hok : HOk X.prog X.w H s.heap
  len : σ.length = X.N.length

section
variable {X : Cx} {pins : List (Addr × Obj)} {σ : List (Option V)} {H H' : Hp} {s : Shared} {h' : Heap}

theorem Cx.Ok.nofr (ok : X.Ok) {b : Addr} {o : Obj} (e : X.base.get? b = some o) : b ∉ X.fs := fun hb => by
  have := (ok.funs.mem hb).1
  rw [e] at this; cases this
theorem Inv.bs (I : Inv X pins σ H s) : ∀ b o, X.base.get? b = some o → s.heap.get? b = some o ∧ H b = none := fun b o e =>
  ⟨I.base.keep b o (I.ok.bs b o e).1 (I.ok.bs b o e).2 (I.ok.nofr e) (I.ok.noex b o e), I.base.free b o (I.ok.bs b o e).1 (I.ok.bs b o e).2 (I.ok.noex b o e)⟩
theorem Inv.bk (I : Inv X pins σ H s) : ∀ b o, X.base.get? b = some o → s.heap.get? b = some o := fun b o e => (I.bs b o e).1
theorem Inv.mod (I : Inv X pins σ H s) : Mod X.K X.mg X.base := I.ok.mod
theorem Inv.kIn (I : Inv X pins σ H s) : X.K.In s.heap := I.ok.mod.kin.keeps I.bk
theorem Inv.nolimit (I : Inv X pins σ H s) : s.heap.NoLimit := I.ok.mod.nolimit.keeps I.bk
theorem Inv.fr (I : Inv X pins σ H s) : ∃ m, Fr X.base X.env.locals s.heap m :=
  let ⟨m, hn, _⟩ := I.loc
  ⟨m, hn, I.bk, Nat.le_trans I.ok.bsz I.ok.above⟩
theorem Inv.lt (I : Inv X pins σ H s) : X.env.locals < s.heap.objs.size := let ⟨_, hn, _⟩ := I.loc; hn.lt
theorem Inv.sz (I : Inv X pins σ H s) : X.s₀.heap.objs.size ≤ s.heap.objs.size := Nat.le_trans I.ok.above (Nat.le_of_lt I.lt)
theorem Inv.nofs (I : Inv X pins σ H s) {a : Addr} (h : s.heap.objs.size ≤ a) : a ∉ X.fs := fun hb => by
  obtain ⟨_, o, ho, _⟩ := I.ok.funs.mem hb
  exact absurd (Nat.lt_of_lt_of_le (Heap.lt_size ho) (Nat.le_trans I.sz h)) (Nat.lt_irrefl _)
theorem Inv.cne (I : Inv X pins σ H s) : ∀ x c, X.env.cells.lookup x = some c → c ≠ X.env.locals := fun x c e z => by
  obtain ⟨v, o, ho, hd⟩ := I.cell x c e
  obtain ⟨m, ⟨o', es, ep, ho', hd', _⟩, _⟩ := I.loc
  rw [z, ho'] at ho; cases ho; rw [hd'] at hd; cases hd
theorem Inv.funs (I : Inv X pins σ H s) : s.heap.FunFrames X.base X.outer := by
  have all : ∀ (l : List Env), (∀ b ∈ frs l, b ∈ X.fs) → X.s₀.heap.FunFrames X.base l → s.heap.FunFrames X.base l := by
    intro l
    induction l with
    | nil => intro _ _; trivial
    | cons env r ih =>
      intro hs hl
      obtain ⟨hk, ⟨L, o, hf, hn, ho, hd⟩, hr⟩ := hl
      have hL : L ∈ X.fs := hs L (by unfold frs; rw [List.filterMap_cons, hf]; exact List.mem_cons_self)
      obtain ⟨sl, e⟩ := I.base.slot L o ho (I.ok.frf L hL) hL fun z => I.ok.exfs L z hL
      exact ⟨hk, ⟨L, _, hf, hn, e, hd⟩, ih (fun b hb => hs b (by unfold frs; rw [List.filterMap_cons, hf]; exact List.mem_cons_of_mem _ hb)) hr⟩
  exact all X.outer (fun _ hb => hb) I.ok.funs

theorem Inv.stack (I : Inv X pins σ H s) : s.heap.FunFrames X.base X.stack := by
  rcases I.ok.stk with e | ⟨e, hf⟩
  · rw [e]; exact I.funs
  · rw [e]
    obtain ⟨m, hn, _⟩ := I.loc
    refine .cons (by rw [I.ok.kind]; decide) hf hn ?_ I.funs
    exact Heap.get?_none_of_le (Nat.le_trans I.ok.bsz I.ok.above)
theorem Inv.stkSub (I : Inv X pins σ H s) : ∀ b ∈ frs X.stack, b ∈ X.env.locals :: X.fs := fun b hb => by
  rcases I.ok.stk with e | ⟨e, hf⟩
  · rw [e] at hb; exact List.mem_cons_of_mem _ hb
  · rw [e] at hb
    unfold frs at hb
    rw [List.filterMap_cons, hf] at hb
    exact hb
theorem Inv.stkFree (I : Inv X pins σ H s) : ∀ b ∈ frs X.stack, H b = none := fun b hb => by
  rcases List.mem_cons.mp (I.stkSub b hb) with e | hb
  · rw [e]; exact I.free
  · obtain ⟨_, o, ho, _⟩ := I.ok.funs.mem hb
    exact I.base.free b o ho (I.ok.frf b hb) fun z => I.ok.exfs b z hb

theorem Inv.step {g' : Array GenState} {t' : Nat} {d' : Drawn} {ch : List Addr} (I : Inv X pins σ H s)
    (hch : ∀ b ∈ ch, (b ∈ X.ex ∨ X.s₀.heap.objs.size ≤ b) ∧ b ≠ X.env.locals ∧ (∀ x c, X.env.cells.lookup x = some c → c ≠ b) ∧ ∀ p ∈ X.pn ++ pins, p.1 ≠ b)
    (keep : ∀ b o, b ≠ X.env.locals → b ∉ X.fs → b ∉ ch → s.heap.get? b = some o → H b = none → h'.get? b = some o)
    (slot : ∀ b o, b ≠ X.env.locals → b ∈ X.fs → b ∉ ch → s.heap.get? b = some o → H b = none → ∃ sl, h'.get? b = some { o with slots := sl }) (free : ∀ b o, b ∉ ch → s.heap.get? b = some o → H b = none → H' b = none)
    (there : ∀ b o, b ∉ ch → s.heap.get? b = some o → ∃ o', h'.get? b = some o')
    (tups : ∀ b xs, H b = some (.tup xs) → H' b = some (.tup xs)) (frzs : ∀ b o u, H b = some (.frz o u) → H' b = some (.frz o u)) (tbls : ∀ b ps, H b = some (.tbl ps) → ∃ more, H' b = some (.tbl (ps ++ more)))
    (ns : ∀ m, s.heap.Ns X.env.locals m → h'.Ns X.env.locals m) (hok : HOk X.prog X.w H' h') (hg : AllBare g') :
    Inv X pins σ H' { s with heap := h', gens := g', drawn := d', toks := t' } := by
  have neL : ∀ b o, X.s₀.heap.get? b = some o → b ≠ X.env.locals := fun b o e => Nat.ne_of_lt (Nat.lt_of_lt_of_le (Heap.lt_size e) I.ok.above)
  have neC : ∀ b o, X.s₀.heap.get? b = some o → b ∉ X.ex → b ∉ ch := fun b o e hx hb => by
    rcases (hch b hb).1 with z | z
    · exact hx z
    · exact absurd (Nat.lt_of_lt_of_le (Heap.lt_size e) z) (Nat.lt_irrefl _)
  have cellK : ∀ x c, X.env.cells.lookup x = some c → ∀ v, s.heap.IsCell c v → h'.IsCell c v := fun x c e v ⟨o, ho, hd⟩ => by
    have nch : c ∉ ch := fun z => (hch c z).2.2.1 x c e rfl
    by_cases hc : c ∈ X.fs
    · obtain ⟨sl, q⟩ := slot c o (I.cne x c e) hc nch ho (I.freeC x c e)
      exact ⟨_, q, hd⟩
    · exact ⟨o, keep c o (I.cne x c e) hc nch ho (I.freeC x c e), hd⟩
  refine ⟨I.ok, I.os, hg, ⟨fun b o e n hb hx => ?_, fun b o e n hb hx => ?_, fun b o e n hx => ?_, fun b o e hx => ?_, fun b xs e => tups b xs (I.base.tups b xs e), fun b o xs e => frzs b o xs (I.base.frzs b o xs e), fun b ps e => ?_⟩, ?_, fun x c e => ?_, ?_, fun x c e => ?_, fun p hp => ?_, hok, I.len⟩
  · exact keep b o (neL b o e) hb (neC b o e hx) (I.base.keep b o e n hb hx) (I.base.free b o e n hx)
  · obtain ⟨sl, e1⟩ := I.base.slot b o e n hb hx
    obtain ⟨sl', e2⟩ := slot b _ (neL b o e) hb (neC b o e hx) e1 (I.base.free b o e n hx)
    exact ⟨sl', e2⟩
  · obtain ⟨o', e1⟩ := I.base.there b o e hx
    exact free b o' (neC b o e hx) e1 (I.base.free b o e n hx)
  · obtain ⟨o', e1⟩ := I.base.there b o e hx
    exact there b o' (neC b o e hx) e1
  · obtain ⟨m1, e1⟩ := I.base.tbls b ps e
    obtain ⟨m2, e2⟩ := tbls b _ e1
    exact ⟨m1 ++ m2, by rw [e2, Array.append_assoc]⟩
  · obtain ⟨m, hn, hl⟩ := I.loc
    refine ⟨m, ns m hn, fun i x v e1 e2 e3 => ?_⟩
    obtain ⟨u, r, l⟩ := hl i x v e1 e2 e3
    refine ⟨u, r, ?_⟩
    rcases l with l | ⟨k, c, e, z⟩
    · exact .inl l
    · exact .inr ⟨k, c, e, cellK x c e _ z⟩
  · obtain ⟨v, z⟩ := I.cell x c e
    exact ⟨v, cellK x c e v z⟩
  · obtain ⟨m, ⟨o, _, _, ho, _⟩, _⟩ := I.loc
    exact free _ o (fun z => (hch _ z).2.1 rfl) ho I.free
  · obtain ⟨v, o, ho, hd⟩ := I.cell x c e
    exact free c o (fun z => (hch c z).2.2.1 x c e rfl) ho (I.freeC x c e)
  · obtain ⟨e, n, ne, nf, d⟩ := I.pin p hp
    have nch : p.1 ∉ ch := fun z => (hch p.1 z).2.2.2 p hp rfl
    exact ⟨keep p.1 p.2 ne nf nch e n, free p.1 p.2 nch e n, ne, nf, d⟩
theorem Inv.un {t' : Nat} (I : Inv X pins σ H s) (u : Un X.fs [] H H' s.heap h') (hok : HOk X.prog X.w H' h') : Inv X pins σ H' { s with heap := h', toks := t' } := by
  obtain ⟨m, ⟨o, es, ep, ho, r⟩, _⟩ := id I.loc
  obtain ⟨sl, hL⟩ := u.any ho I.free (by simp)
  exact I.step (g' := s.gens) (d' := s.drawn) (ch := []) (fun _ z => nomatch z) (fun b o _ hb _ e n => u.keep b o e n hb (by simp)) (fun b o _ hb _ e n => u.slot b o e n hb (by simp)) (fun b o _ e n => u.free b o e n (by simp)) (fun b o _ e => u.there b o e (by simp)) u.tups u.frzs u.tbls (fun m' hm => by
    obtain ⟨o', es', ep', ho', r'⟩ := hm
    rw [ho] at ho'; cases ho'
    exact ⟨_, es', ep', hL, r'⟩) hok I.bare
theorem Inv.call {g' : Array GenState} {t' : Nat} {d' : Drawn} {ch : List Addr} (I : Inv X pins σ H s) (u : Un (frs X.stack) ch H H' s.heap h') (hok : HOk X.prog X.w H' h') (hg : AllBare g')
    (hch : ∀ b ∈ ch, (b ∈ X.ex ∨ X.s₀.heap.objs.size ≤ b) ∧ b ≠ X.env.locals ∧ (∀ x c, X.env.cells.lookup x = some c → c ≠ b) ∧ ∀ p ∈ X.pn ++ pins, p.1 ≠ b) :
    Inv X pins σ H' { s with heap := h', gens := g', drawn := d', toks := t' } := by
  obtain ⟨m, ⟨o, es, ep, ho, r⟩, _⟩ := id I.loc
  obtain ⟨sl, hL⟩ := u.any ho I.free fun z => (hch _ z).2.1 rfl
  exact I.step (ch := ch) hch (fun b o hL hb hc e n => u.keep b o e n (fun z => (List.mem_cons.mp (I.stkSub b z)).elim hL hb) hc) (fun b o _ _ hc e n => u.any e n hc) (fun b o hc e n => u.free b o e n hc) (fun b o hc e => u.there b o e hc) u.tups u.frzs u.tbls (fun m' hm => by
    obtain ⟨o', es', ep', ho', r'⟩ := hm
    rw [ho] at ho'; cases ho'
    exact ⟨_, es', ep', hL, r'⟩) hok hg
theorem Inv.turned {t' : Nat} {it : Addr} (I : Inv X pins σ H s) (k : ∀ b o, b ≠ it → s.heap.get? b = some o → h'.get? b = some o) (hn : H it = none) (hL : it ≠ X.env.locals)
    (h1 : it ∈ X.ex ∨ X.s₀.heap.objs.size ≤ it) (h2 : ∀ x c, X.env.cells.lookup x = some c → c ≠ it) (h3 : ∀ p ∈ X.pn ++ pins, p.1 ≠ it) : Inv X pins σ H { s with heap := h', toks := t' } := by
  have nit : ∀ b u, H b = some u → b ≠ it := fun b u e z => by rw [z, hn] at e; cases e
  refine I.step (g' := s.gens) (d' := s.drawn) (ch := [it]) (fun b hb => ?_) (fun b o _ _ hc e _ => k b o (fun z => hc (by simp [z])) e) (fun b o _ _ hc e _ => ⟨o.slots, k b o (fun z => hc (by simp [z])) e⟩) (fun _ _ _ _ n => n)
    (fun b o hc e => ⟨o, k b o (fun z => hc (by simp [z])) e⟩) (fun _ _ e => e) (fun _ _ _ e => e) (fun b ps e => ⟨#[], by rw [e]; simp⟩) (fun m hm => ?_) (fun b u e => ?_) I.bare
  · have e : b = it := by simpa using hb
    subst e
    exact ⟨h1, hL, h2, h3⟩
  · obtain ⟨o, es, ep, ho, r⟩ := hm
    exact ⟨o, es, ep, k _ o (Ne.symm hL) ho, r⟩
  · refine (I.hok b u e).stay (fun c v hc q => k c v ?_ q) (fun _ q => q) fun _ _ q => q
    rcases hc with z | z
    · rw [z]; exact nit b u e
    · exact nit c _ z
theorem Inv.tok (I : Inv X pins σ H s) (t : Nat) : Inv X pins σ H { s with toks := t } := I.un (h' := s.heap) (t' := t) Un.refl I.hok
theorem Inv.kept {t' : Nat} (I : Inv X pins σ H s) (k : ∀ b u, s.heap.get? b = some u → h'.get? b = some u) : Inv X pins σ H { s with heap := h', toks := t' } := I.un (Un.kept k) (I.hok.kept k)
theorem Inv.laid {a : Addr} {o : HO} {t' : Nat} (I : Inv X pins σ H s) (k : ∀ b u, s.heap.get? b = some u → h'.get? b = some u) (hp : s.heap.objs.size ≤ a) (new : ObjOk X.prog X.w (upd H a o) h' a o) :
    Inv X pins σ (upd H a o) { s with heap := h', toks := t' } := I.un (Un.laid k hp (I.hok.fresh hp)) (I.hok.laid k hp new)
theorem Inv.write {x e : Addr} {o : HO} {t' : Nat} (I : Inv X pins σ H s) (mu : Mut (H x)) (he : e = x ∨ H e = some (.own x)) (k : ∀ b u, b ≠ e → s.heap.get? b = some u → h'.get? b = some u) (heo : ∃ u, h'.get? e = some u)
    (new : ObjOk X.prog X.w (upd H x o) h' x o) : Inv X pins σ (upd H x o) { s with heap := h', toks := t' } := I.un (Un.write mu he k heo) (I.hok.write mu he k heo new)
theorem Inv.weak {σ' : List (Option V)} (I : Inv X pins σ H s) (hl : σ'.length = σ.length) (w : ∀ (i : Nat) v, σ'[i]? = some (some v) → σ[i]? = some (some v)) : Inv X pins σ' H s :=
  ⟨I.ok, I.os, I.bare, I.base, let ⟨m, hn, hl'⟩ := I.loc; ⟨m, hn, fun i x v e1 e2 e3 => hl' i x v e1 (w i v e2) e3⟩, I.cell, I.free, I.freeC, I.pin, I.hok, hl.trans I.len⟩
theorem Inv.pins_of {pins' : List (Addr × Obj)} (I : Inv X pins σ H s) (h : ∀ p ∈ pins', s.heap.get? p.1 = some p.2 ∧ H p.1 = none ∧ p.1 ≠ X.env.locals ∧ p.1 ∉ X.fs ∧ ∀ v, p.2.data ≠ .cell v) : Inv X pins' σ H s :=
  ⟨I.ok, I.os, I.bare, I.base, I.loc, I.cell, I.free, I.freeC, fun p hp => (List.mem_append.mp hp).elim (fun z => I.pin p (List.mem_append_left _ z)) (h p), I.hok, I.len⟩

theorem nodup_ix {N : List Str} (hN : N.Nodup) {i j : Nat} {x : Str} (a : N[i]? = some x) (b : N[j]? = some x) : i = j := by
  obtain ⟨h1, e1⟩ := List.getElem?_eq_some_iff.mp a
  obtain ⟨h2, e2⟩ := List.getElem?_eq_some_iff.mp b
  exact (List.getElem_inj hN).mp (e1.trans e2.symm)

theorem store_ok2 {M : Model} {A : Around} {E : Value → Shared → Prop} {i : Nat} {x : Str} {v : V} {u : Value} {Q : Unit → Shared → Prop} (I : Inv X pins σ H s) (hN : X.N.Nodup) (hi : X.N[i]? = some x) (hx : Loc X.env.scope x) (r : RelV v u)
    (h : ∀ s', Inv X pins (σ.set i (some v)) H s' → (∃ a, Heap.SameBut a s.heap s'.heap ∧ (a = X.env.locals ∨ X.env.cells.lookup x = some a)) → Q () s') (hf : X.fn x = true ∨ X.env.scope.names.lookup x = some .local := by first | exact .inl rfl | exact .inr rfl | assumption) : wpAny M A (storeName X.env x u) Q E s := by
  obtain ⟨m, hn, hl⟩ := id I.loc
  have hcls : (X.env.scope.kind == .class || (X.env.scope.kind == .module && X.env.locals != X.env.globals)) = false := by rw [I.ok.kind]; rfl
  have hiσ : i < σ.length := by rw [I.len]; exact (List.getElem?_eq_some_iff.mp hi).1
  have cne := I.cne
  have tracked : ∀ {a : Addr} {h' : Heap}, (∃ o, s.heap.get? a = some o ∧ H a = none) → Heap.SameBut a s.heap h' → HOk X.prog X.w H h' := fun {a h'} ha hs b ob e => by
    obtain ⟨_, _, hfree⟩ := ha
    refine (I.hok b ob e).stay (fun c w' hc q => (hs.2 c ?_).trans q) (fun _ q => q) fun _ _ q => q
    rintro rfl
    rcases hc with rfl | hc
    · rw [hfree] at e; cases e
    · rw [hfree] at hc; cases hc
  rcases hx with hk | hk
  · refine wpAny_storeName_local hk hn (fun h' hn' hs => ?_) hcls
    obtain ⟨oL, _, _, hoL, _⟩ := id hn
    refine h _ ⟨I.ok, I.os, I.bare, ⟨fun b o e n hb hx => ?_, fun b o e n hb hx => ?_, I.base.free, fun b o e hx => ?_, I.base.tups, I.base.frzs, I.base.tbls⟩, ⟨_, hn', fun j y v' e1 e2 e3 => ?_⟩, fun y c e => ?_, I.free, I.freeC, fun p hp => ?_, tracked ⟨oL, hoL, I.free⟩ hs, by simpa using I.len⟩ ⟨_, hs, .inl rfl⟩
    · exact (hs.2 b (Nat.ne_of_lt (Nat.lt_of_lt_of_le (Heap.lt_size e) I.ok.above))).trans (I.base.keep b o e n hb hx)
    · obtain ⟨sl, e1⟩ := I.base.slot b o e n hb hx
      exact ⟨sl, (hs.2 b (Nat.ne_of_lt (Nat.lt_of_lt_of_le (Heap.lt_size e) I.ok.above))).trans e1⟩
    · obtain ⟨o', e1⟩ := I.base.there b o e hx
      exact ⟨o', (hs.2 b (Nat.ne_of_lt (Nat.lt_of_lt_of_le (Heap.lt_size e) I.ok.above))).trans e1⟩
    · by_cases hj : j = i
      · subst hj
        rw [hi] at e1; cases e1
        rw [List.getElem?_set_self hiσ] at e2
        cases e2
        exact ⟨u, r, .inl ⟨hk, by simp⟩⟩
      · rw [List.getElem?_set_ne (Ne.symm hj)] at e2
        obtain ⟨u', r', q⟩ := hl j y v' e1 e2 e3
        refine ⟨u', r', ?_⟩
        rcases q with ⟨k, e⟩ | ⟨k, c, e, z⟩
        · refine .inl ⟨k, ?_⟩
          have : y ≠ x := fun e => hj (nodup_ix hN e1 (e ▸ hi))
          simp [this, e]
        · exact .inr ⟨k, c, e, z.sameBut hs (cne y c e)⟩
    · obtain ⟨w', z⟩ := I.cell y c e
      exact ⟨w', z.sameBut hs (cne y c e)⟩
    · obtain ⟨e, n, ne, nf, d⟩ := I.pin p hp
      exact ⟨(hs.2 p.1 ne).trans e, n, ne, nf, d⟩
  · have hfn : X.fn x = true := by
      rcases hf with z | z
      · exact z
      · rw [z] at hk; cases hk
    obtain ⟨c, hc⟩ := I.ok.has x (.inl hk)
    obtain ⟨w', z⟩ := I.cell x c hc
    refine wpAny_storeName_cell I.ok.kind hk hc z (fun h' hc' hs => ?_)
    obtain ⟨oc, hoc, hocd⟩ := id z
    refine h { s with heap := h' } ⟨I.ok, I.os, I.bare, ⟨fun b o e n hb hx => ?_, fun b o e n hb hx => ?_, I.base.free, fun b o e hx => ?_, I.base.tups, I.base.frzs, I.base.tbls⟩, ⟨m, hn.sameBut hs (Ne.symm (cne x c hc)), fun j y v' e1 e2 e3 => ?_⟩, fun y c' e => ?_, I.free, I.freeC, fun p hp => ?_, tracked ⟨oc, hoc, I.freeC x c hc⟩ hs, by simpa using I.len⟩ ⟨c, hs, .inr hc⟩
    · exact (hs.2 b (Nat.ne_of_lt (Nat.lt_of_lt_of_le (Heap.lt_size e) (I.ok.cab x c hfn hc)))).trans (I.base.keep b o e n hb hx)
    · obtain ⟨sl, e1⟩ := I.base.slot b o e n hb hx
      exact ⟨sl, (hs.2 b (Nat.ne_of_lt (Nat.lt_of_lt_of_le (Heap.lt_size e) (I.ok.cab x c hfn hc)))).trans e1⟩
    · obtain ⟨o', e1⟩ := I.base.there b o e hx
      exact ⟨o', (hs.2 b (Nat.ne_of_lt (Nat.lt_of_lt_of_le (Heap.lt_size e) (I.ok.cab x c hfn hc)))).trans e1⟩
    · by_cases hj : j = i
      · subst hj
        rw [hi] at e1; cases e1
        rw [List.getElem?_set_self hiσ] at e2
        cases e2
        exact ⟨u, r, .inr ⟨.inl hk, c, hc, hc'⟩⟩
      · rw [List.getElem?_set_ne (Ne.symm hj)] at e2
        obtain ⟨u', r', q⟩ := hl j y v' e1 e2 e3
        refine ⟨u', r', ?_⟩
        rcases q with q | ⟨k, c', e, z'⟩
        · exact .inl q
        · refine .inr ⟨k, c', e, z'.sameBut hs ?_⟩
          rintro rfl
          exact hj (nodup_ix hN e1 (I.ok.inj _ _ _ e hc ▸ hi))
    · by_cases hcc : c' = c
      · subst hcc; exact ⟨_, hc'⟩
      · obtain ⟨w2, z2⟩ := I.cell y c' e
        exact ⟨w2, z2.sameBut hs hcc⟩
    · obtain ⟨e, n, ne, nf, d⟩ := I.pin p hp
      refine ⟨(hs.2 p.1 ?_).trans e, n, ne, nf, d⟩
      intro q
      rw [q, hoc] at e
      have q' : oc = p.2 := Option.some.inj e
      exact d w' (by rw [← q']; exact hocd)
theorem store_ok {M : Model} {A : Around} {E : Value → Shared → Prop} {i : Nat} {x : Str} {v : V} {u : Value} {Q : Unit → Shared → Prop} (I : Inv X pins σ H s) (hN : X.N.Nodup) (hi : X.N[i]? = some x) (hx : Loc X.env.scope x) (r : RelV v u)
    (h : ∀ s', Inv X pins (σ.set i (some v)) H s' → Q () s') (hf : X.fn x = true ∨ X.env.scope.names.lookup x = some .local := by first | exact .inl rfl | exact .inr rfl | assumption) : wpAny M A (storeName X.env x u) Q E s :=
  store_ok2 I hN hi hx r (fun s' I' _ => h s' I') hf
theorem Inv.call' {s' : Shared} {ch : List Addr} (I : Inv X pins σ H s) (ho : s'.os = s.os) (u : Un (frs X.stack) ch H H' s.heap s'.heap) (hok : HOk X.prog X.w H' s'.heap) (hg : AllBare s'.gens)
    (hch : ∀ b ∈ ch, (b ∈ X.ex ∨ X.s₀.heap.objs.size ≤ b) ∧ b ≠ X.env.locals ∧ (∀ x c, X.env.cells.lookup x = some c → c ≠ b) ∧ ∀ p ∈ X.pn ++ pins, p.1 ≠ b) : Inv X pins σ H' s' := by
  obtain ⟨h', g', d', t', o'⟩ := s'
  have e : o' = s.os := ho
  subst e
  exact I.call (g' := g') (t' := t') (d' := d') u hok hg hch
end

noncomputable abbrev XK := Value → Option Addr → Hp → Prop
noncomputable abbrev St := List (Option V)
noncomputable abbrev VK := V → Hp → Prop
noncomputable abbrev TE := St → Hp → VK → Prop
noncomputable abbrev TT := St → Hp → (Bool → Hp → Prop) → Prop
noncomputable abbrev TA := St → Hp → (List V → Hp → Prop) → Prop
structure Ends where
  nx : St → Hp → Prop
  rt : VK
  bk : St → Hp → Prop := fun _ _ => False
  ct : St → Hp → Prop := fun _ _ => False
noncomputable abbrev TS := Ends → St → Hp → Prop

noncomputable def EP (X : Cx) (pins : List (Addr × Obj)) (σ : St) (Q : VK) (u : Value) (s' : Shared) : Prop := ∃ v H', Inv X pins σ H' s' ∧ RelV v u ∧ Q v H'
noncomputable def TP (X : Cx) (pins : List (Addr × Obj)) (σ : St) (Q : Bool → Hp → Prop) (b : Bool) (s' : Shared) : Prop := ∃ H', Inv X pins σ H' s' ∧ Q b H'
noncomputable def AP (X : Cx) (pins : List (Addr × Obj)) (σ : St) (Q : List V → Hp → Prop) (us : List Value) (s' : Shared) : Prop := ∃ vs H', Inv X pins σ H' s' ∧ Vals vs us ∧ Q vs H'
noncomputable def SP (X : Cx) (pins : List (Addr × Obj)) (D : Ends) (f : Flow) (s' : Shared) : Prop :=
  match f with
  | .next => ∃ σ' H', Inv X pins σ' H' s' ∧ D.nx σ' H'
  | .brk => ∃ σ' H', Inv X pins σ' H' s' ∧ D.bk σ' H'
  | .cont => ∃ σ' H', Inv X pins σ' H' s' ∧ D.ct σ' H'
  | .ret u => ∃ v σ' H', Inv X pins σ' H' s' ∧ RelV v u ∧ D.rt v H'

noncomputable def PE (X : Cx) (e : Expr) (t : TE) : Prop :=
  ∀ (pins : List (Addr × Obj)) (s : Shared) (σ : St) (H : Hp) (Q : VK), Inv X pins σ H s → t σ H Q → wpAny (model X.prog X.w) X.A (eval e X.env) (EP X pins σ Q) X.xe s
noncomputable def PT (X : Cx) (e : Expr) (t : TT) : Prop :=
  ∀ (pins : List (Addr × Obj)) (s : Shared) (σ : St) (H : Hp) (Q : Bool → Hp → Prop), Inv X pins σ H s → t σ H Q → wpAny (model X.prog X.w) X.A (isTrue e X.env (eval e X.env)) (TP X pins σ Q) X.xe s
noncomputable def PW (X : Cx) (e : Expr) (t : TT) : Prop :=
  ∀ (whole : Sem Value) (pins : List (Addr × Obj)) (s : Shared) (σ : St) (H : Hp) (Q : Bool → Hp → Prop), Inv X pins σ H s → t σ H Q → wpAny (model X.prog X.w) X.A (isTrue e X.env whole) (TP X pins σ Q) X.xe s
theorem PW.pt {X : Cx} {e : Expr} {t : TT} (h : PW X e t) : PT X e t := h _
noncomputable def PA (X : Cx) (es : List Expr) (t : TA) : Prop :=
  ∀ (pos : Pos) (pins : List (Addr × Obj)) (s : Shared) (σ : St) (H : Hp) (Q : List V → Hp → Prop), Inv X pins σ H s → t σ H Q → wpAny (model X.prog X.w) X.A (spliced (backTo pos (starEach es X.env))) (AP X pins σ Q) X.xe s
noncomputable def PS (X : Cx) (st : Stmt) (t : TS) : Prop :=
  ∀ (pins : List (Addr × Obj)) (s : Shared) (σ : St) (H : Hp) (D : Ends), Inv X pins σ H s → t D σ H → wpAny (model X.prog X.w) X.A (exec st X.env) (SP X pins D) X.xe s
noncomputable def PSs (X : Cx) (st : List Stmt) (t : TS) : Prop :=
  ∀ (pins : List (Addr × Obj)) (s : Shared) (σ : St) (H : Hp) (D : Ends), Inv X pins σ H s → t D σ H → wpAny (model X.prog X.w) X.A (execs st X.env) (SP X pins D) X.xe s
theorem thn {α : Type} {t : Sem α} {Q Q' : α → Shared → Prop} {M : Model} {A : Around} {E : Value → Shared → Prop} {s : Shared} (h : wpAny M A t Q E s) (hQ : ∀ a s, Q a s → Q' a s) : wpAny M A t Q' E s := wpAny_mono h hQ fun _ _ x => x
end L2

namespace L2
open PySem PySem.Spec PyProof.Rows
section
variable {X : Cx}

noncomputable def tVar (i : Nat) : TE := fun σ H Q => ∃ v, σ[i]? = some (some v) ∧ Q v H
noncomputable def tC (v : V) : TE := fun _ H Q => Q v H
theorem pe_var {i : Nat} {x : Str} {pos : Pos} (hN : X.N[i]? = some x) (hv : Vis X.env.scope x) (hd : (x == ("__debug__" : Str)) = false := by decide) (hcd : (x == ("__classdict__" : Str)) = false := by decide) : PE X (.Name x pos) (tVar i) := by
  intro pins s σ H Q I h
  obtain ⟨v, e, h⟩ := h
  obtain ⟨m, hn, hl⟩ := I.loc
  obtain ⟨u, r, l⟩ := hl i x v hN e hv
  have fin : EP X pins σ Q u s := ⟨v, H, I, r, h⟩
  rcases l with ⟨hk, hm⟩ | ⟨hk, c, hc, hcell⟩
  · exact wpAny_Name (wpAny_loadName_local I.ok.kind hk hn hm fin) hd
  · rcases hk with hk | hk
    · exact wpAny_Name (wpAny_loadName_cell I.ok.kind hk hc hcell fin) hd
    · exact wpAny_Name (wpAny_loadName_free I.ok.kind hk hc hcell fin hcd) hd
theorem pe_int {i j pos} : PE X (.Constant (.int i) j pos) (tC (.int i)) := fun _ _ _ H _ I h => wpAny_Constant_int ⟨.int i, H, I.tok _, ⟨_, rfl⟩, h⟩
theorem pe_bl {b j pos} : PE X (.Constant (.bool b) j pos) (tC (.bl b)) := fun _ _ _ H _ I h => Constant_bool ⟨.bl b, H, I, rfl, h⟩
noncomputable def Gl (X : Cx) (x : Str) : Prop := X.env.kindOf x = some .globalImplicit
theorem ld_glob {E : Value → Shared → Prop} {pins : List (Addr × Obj)} {s : Shared} {σ : St} {H : Hp} {x : Str} {u : Value} {pos : Pos} {Q : Value → Shared → Prop} (I : Inv X pins σ H s) (hg : Gl X x) (hm : X.mg x = some u) (h : Q u s)
    (hd : (x == ("__debug__" : Str)) = false := by decide) : wpAny (model X.prog X.w) X.A (eval (.Name x pos) X.env) Q E s :=
  Calls.Name_function_global I.ok.kind hg (Calls.loadGlobal_global (by rw [I.ok.glob]; exact I.mod.glob.keeps I.bk) hm h) hd
theorem ld_blt {E : Value → Shared → Prop} {pins : List (Addr × Obj)} {s : Shared} {σ : St} {H : Hp} {x : Str} {u : Value} {pos : Pos} {Q : Value → Shared → Prop} (I : Inv X pins σ H s) (hg : Gl X x) (hm : X.mg x = none) (hv : bootBuiltins x = some u) (h : Q u s)
    (hn : x ≠ "__name__" := by decide) (hd : (x == ("__debug__" : Str)) = false := by decide) : wpAny (model X.prog X.w) X.A (eval (.Name x pos) X.env) Q E s := by
  obtain ⟨mb, h1, h2⟩ := I.mod.blt
  exact Calls.Name_function_global I.ok.kind hg (Calls.loadGlobal_builtin (by rw [I.ok.glob]; exact I.mod.glob.keeps I.bk) hm (by rw [I.ok.blt]; exact h1.keeps I.bk) ((h2 x hn).trans hv) h) hd
theorem pe_bltn {x : Str} {v : V} {u : Value} {pos : Pos} (hg : Gl X x) (hm : X.mg x = none) (hv : bootBuiltins x = some u) (r : RelV v u) (hn : x ≠ "__name__" := by decide) (hd : (x == ("__debug__" : Str)) = false := by decide) : PE X (.Name x pos) (tC v) :=
  fun _ _ _ H _ I h => ld_blt I hg hm hv ⟨v, H, I, r, h⟩ hn hd

variable {a b : Expr} {ta tb : TE} {pos : Pos}
noncomputable def tB (t : TE) : TT := fun σ H Q => t σ H fun x H1 => ∃ c, x = .bl c ∧ Q c H1
theorem pt_val {e : Expr} {t : TE} (h : PE X e t) (he : ∀ whole, isTrue e X.env whole = (do let v ← whole; standAt e.pos; holding [v] (truthy v)) := by intro _; rfl) : PT X e (tB t) := by
  intro pins s σ H Q I hw
  refine isTrue_plain (thn (h pins s σ H _ I hw) fun v s1 ⟨x, H1, I1, r1, q1⟩ => ?_) (he _)
  obtain ⟨d, rfl, q⟩ := q1
  cases r1
  exact wpAny_truthy_bool ⟨H1, I1, q⟩

variable {tA tB' : TT} {rest : List Expr}
noncomputable def tAnd (t u : TT) : TT := fun σ H Q => t σ H fun c H1 => if c = true then u σ H1 Q else Q false H1
noncomputable def tOr (t u : TT) : TT := fun σ H Q => t σ H fun c H1 => if c = true then Q true H1 else u σ H1 Q
noncomputable def tNot (t : TT) : TT := fun σ H Q => t σ H fun c H1 => Q (!c) H1
theorem pw_and1 (ha : PT X a tA) : PW X (.BoolOp .And [a] pos) tA := by
  intro wh pins s σ H Q I h
  refine isTrue_and (thn (ha pins s σ H Q I h) fun c s1 e => ?_)
  cases c with
  | true => exact isTrue_and_nil e
  | false => exact e
theorem pw_or1 (ha : PT X a tA) : PW X (.BoolOp .Or [a] pos) tA := by
  intro wh pins s σ H Q I h
  refine isTrue_or (thn (ha pins s σ H Q I h) fun c s1 e => ?_)
  cases c with
  | false => exact isTrue_or_nil e
  | true => exact e
theorem pw_and (ha : PT X a tA) (hb : PW X (.BoolOp .And (b :: rest) pos) tB') : PW X (.BoolOp .And (a :: b :: rest) pos) (tAnd tA tB') := by
  intro wh pins s σ H Q I h
  refine isTrue_and (thn (ha pins s σ H _ I h) fun c s1 ⟨H1, I1, q1⟩ => ?_)
  cases c with
  | true => exact hb wh pins s1 σ H1 Q I1 q1
  | false => exact ⟨H1, I1, q1⟩
theorem pw_or (ha : PT X a tA) (hb : PW X (.BoolOp .Or (b :: rest) pos) tB') : PW X (.BoolOp .Or (a :: b :: rest) pos) (tOr tA tB') := by
  intro wh pins s σ H Q I h
  refine isTrue_or (thn (ha pins s σ H _ I h) fun c s1 ⟨H1, I1, q1⟩ => ?_)
  cases c with
  | true => exact ⟨H1, I1, q1⟩
  | false => exact hb wh pins s1 σ H1 Q I1 q1
theorem pt_not (ha : PT X a tA) : PT X (.UnaryOp .Not a pos) (tNot tA) := by
  intro pins s σ H Q I h
  exact isTrue_not (ha pins s σ H (fun c H1 => Q (!c) H1) I h)
noncomputable def tAndV (ta tb : TE) : TE := fun σ H Q => ta σ H fun x H1 => ∃ c, x = .bl c ∧ if c = true then tb σ H1 Q else Q (.bl false) H1
theorem pe_one {op} {t : TE} (h : PE X a t) : PE X (.BoolOp op [a] pos) t := fun pins s σ H Q I hw => BoolOp_one (h pins s σ H Q I hw)
theorem pe_and (ha : PE X a ta) (hb : PE X (.BoolOp .And (b :: rest) pos) tb) : PE X (.BoolOp .And (a :: b :: rest) pos) (tAndV ta tb) := by
  intro pins s σ H Q I h
  refine BoolOp_and (thn (ha pins s σ H _ I h) fun v s1 ⟨x, H1, I1, r1, q1⟩ => ?_)
  obtain ⟨c, rfl, q1⟩ := q1
  cases r1
  refine wpAny_truthy_bool ?_
  cases c with
  | true => exact hb pins s1 σ H1 Q I1 q1
  | false => exact ⟨.bl false, H1, I1, rfl, q1⟩
end
end L2

namespace L2
open PySem PySem.Spec PyProof.Rows

noncomputable def SqL (K : PySem.W.Frag) (H : Hp) (a : Addr) (xs : List V) : Prop :=
  Rd H a (.lst xs) ∨
    ∃ (o : Obj) (its : Array Value) (n : Nat), K.lookup a = some o ∧ o.cls = .type "list" ∧ o.dict = none ∧ o.data = .seq its n ∧ its.size ≤ sizeLine ∧ Vals xs its.toList
noncomputable def SqT (K : PySem.W.Frag) (H : Hp) (a : Addr) (xs : List V) : Prop :=
  Rd H a (.tup xs) ∨
    ∃ (o : Obj) (its : Array Value) (n : Nat), K.lookup a = some o ∧ o.cls = .type "tuple" ∧ o.data = .seq its n ∧ its.size ≤ sizeLine ∧ Vals xs its.toList
noncomputable def absV : Value → Option V
  | .none => some .non
  | .bool b => some (.bl b)
  | .int i _ => some (.int i)
  | .str x _ => some (.str x)
  | .bytes b _ => some (.byt b)
  | .float b _ => some (.flt b)
  | .ref a => some (.ref a)
  | .type n => some (.ty n)
  | _ => none
theorem RelV.abs {x : V} {u : Value} (r : RelV x u) : absV u = some x := by
  cases x with
  | non => cases r; rfl
  | bl _ => cases r; rfl
  | int _ => obtain ⟨t, rfl⟩ := r; rfl
  | str _ => obtain ⟨t, rfl⟩ := r; rfl
  | byt _ => obtain ⟨t, rfl⟩ := r; rfl
  | flt _ => obtain ⟨t, rfl⟩ := r; rfl
  | ref _ => cases r; rfl
  | ty _ => cases r; rfl
theorem RelV.inj {x y : V} {u : Value} (r : RelV x u) (q : RelV y u) : x = y := Option.some.inj (r.abs.symm.trans q.abs)
theorem Vals.inj : ∀ {xs ys : List V} {us : List Value}, Vals xs us → Vals ys us → xs = ys
  | _, _, _, .nil, .nil => rfl
  | _, _, _, .cons r t, .cons r' t' => by rw [r.inj r', Vals.inj t t']
section
variable {X : Cx} {pins : List (Addr × Obj)} {σ : St} {H : Hp} {s : Shared} {a : Addr} {xs ys : List V}
theorem SqL.of {K : PySem.W.Frag} (h : H a = some (.lst xs)) : SqL K H a xs := .inl (.inl h)
theorem SqT.of {K : PySem.W.Frag} (h : H a = some (.tup xs)) : SqT K H a xs := .inl (.inl h)
theorem Inv.list (I : Inv X pins σ H s) (h : SqL X.K H a xs) : ∃ its : List Value, Vals xs its ∧ PlainL s.heap a its.toArray ∧ xs.length ≤ sizeLine := by
  rcases h with h | ⟨o, its, n, hk, hc, hd, hs, hz, r⟩
  · obtain ⟨z, its, n, r, e⟩ := h.ok I.hok
    exact ⟨its, r, ⟨_, n, e, rfl, rfl, rfl⟩, z⟩
  · refine ⟨its.toList, r, ⟨o, n, I.kIn a o hk, hc, hd, by simpa using hs⟩, ?_⟩
    have e := r.length
    simp only [Array.length_toList] at e
    omega
theorem Inv.tuple (I : Inv X pins σ H s) (h : SqT X.K H a xs) : ∃ its : List Value, Vals xs its ∧ IsTup s.heap a its.toArray ∧ xs.length ≤ sizeLine := by
  rcases h with h | ⟨o, its, n, hk, hc, hs, hz, r⟩
  · obtain ⟨z, its, r, p⟩ := h.ok I.hok
    exact ⟨its, r, p, z⟩
  · refine ⟨its.toList, r, ⟨o, I.kIn a o hk, hc, n, by simpa using hs⟩, ?_⟩
    have e := r.length
    simp only [Array.length_toList] at e
    omega
end

noncomputable abbrev Cx.wish (X : Cx) (E : Value → Shared → Prop) : Cx := { X with xe := E }
noncomputable abbrev Cx.nox (X : Cx) : Cx := X.wish fun _ _ => False
theorem Cx.Ok.wish {X : Cx} (ok : X.Ok) (E : Value → Shared → Prop) : (X.wish E).Ok :=
  ⟨ok.mod, ok.kind, ok.glob, ok.blt, ok.above, ok.inj, ok.has, ok.cab, ok.hd, ok.frames, ok.stk, ok.exf, ok.bs, ok.bsz, ok.noex, ok.exfs, ok.funs, ok.frf⟩
theorem Cx.Ok.unwish {X : Cx} {E : Value → Shared → Prop} (ok : (X.wish E).Ok) : X.Ok :=
  ⟨ok.mod, ok.kind, ok.glob, ok.blt, ok.above, ok.inj, ok.has, ok.cab, ok.hd, ok.frames, ok.stk, ok.exf, ok.bs, ok.bsz, ok.noex, ok.exfs, ok.funs, ok.frf⟩
section
variable {X : Cx} {pins : List (Addr × Obj)} {σ : St} {H : Hp} {s : Shared} {E : Value → Shared → Prop}
theorem Inv.wish (I : Inv X pins σ H s) (E : Value → Shared → Prop) : Inv (X.wish E) pins σ H s := ⟨I.ok.wish E, I.os, I.bare, I.base, I.loc, I.cell, I.free, I.freeC, I.pin, I.hok, I.len⟩
theorem Inv.unwish (I : Inv (X.wish E) pins σ H s) : Inv X pins σ H s := ⟨I.ok.unwish, I.os, I.bare, I.base, I.loc, I.cell, I.free, I.freeC, I.pin, I.hok, I.len⟩
theorem SP.unwish {D : Ends} {f : Flow} {s' : Shared} (h : SP (X.wish E) pins D f s') : SP X pins D f s' := by
  cases f with
  | next => obtain ⟨σ', H', I, q⟩ := h; exact ⟨σ', H', I.unwish, q⟩
  | brk => obtain ⟨σ', H', I, q⟩ := h; exact ⟨σ', H', I.unwish, q⟩
  | cont => obtain ⟨σ', H', I, q⟩ := h; exact ⟨σ', H', I.unwish, q⟩
  | ret u => obtain ⟨v, σ', H', I, r, q⟩ := h; exact ⟨v, σ', H', I.unwish, r, q⟩
theorem PE.nox {e : Expr} {t : TE} (h : PE X.nox e t) : PE X e t := fun pins s σ H Q I hw =>
  wpAny_mono (h pins s σ H Q (I.wish _) hw) (fun _ _ ⟨v, H', I', r, q⟩ => ⟨v, H', I'.unwish, r, q⟩) fun _ _ z => False.elim z
theorem PT.nox {e : Expr} {t : TT} (h : PT X.nox e t) : PT X e t := fun pins s σ H Q I hw =>
  wpAny_mono (h pins s σ H Q (I.wish _) hw) (fun _ _ ⟨H', I', q⟩ => ⟨H', I'.unwish, q⟩) fun _ _ z => False.elim z
theorem PSs.nox {st : List Stmt} {t : TS} (h : PSs X.nox st t) : PSs X st t := fun pins s σ H D I hw =>
  wpAny_mono (h pins s σ H D (I.wish _) hw) (fun _ _ q => q.unwish) fun _ _ z => False.elim z
end

section
variable {X : Cx} {st : Stmt} {rest : List Stmt} {t u : TS} {e : Expr} {te : TE} {pos : Pos}
noncomputable def tNext : TS := fun D σ H => D.nx σ H
noncomputable def tSeq (t u : TS) : TS := fun D σ H => t { D with nx := u D } σ H
theorem pss_nil : PSs X [] tNext := fun _ _ σ H _ I h => wpAny_execs_nil ⟨σ, H, I, h⟩
theorem pss_cons (h1 : PS X st t) (h2 : PSs X rest u) : PSs X (st :: rest) (tSeq t u) := by
  intro pins s σ H D I h
  refine wpAny_execs_cons (thn (h1 pins s σ H { D with nx := u D } I h) fun f s1 q => ?_)
  cases f with
  | next =>
    obtain ⟨σ', H', I', q⟩ := q
    exact h2 pins s1 σ' H' D I' q
  | ret v => exact q
  | brk => exact q
  | cont => exact q
theorem pss_one (h1 : PS X st t) : PSs X [st] t := by
  intro pins s σ H D I h
  refine wpAny_execs_cons (thn (h1 pins s σ H D I h) fun f s1 q => ?_)
  cases f with
  | next => exact wpAny_execs_nil q
  | ret v => exact q
  | brk => exact q
  | cont => exact q
theorem Inv.quiet {pins : List (Addr × Obj)} {σ : St} {H : Hp} {s : Shared} (I : Inv X pins σ H s) : interactive X.env = false := by simp [interactive, I.ok.kind]
noncomputable def tDrop (te : TE) : TS := fun D σ H => te σ H fun _ H1 => D.nx σ H1
theorem ps_expr (he : PE X e te) (hs : swapsWith e none pos.line X.env = pure false := by rfl) : PS X (.Expr e pos) (tDrop te) := by
  intro pins s σ H D I h
  exact wpAny_Expr_any (thn (he pins s σ H _ I h) fun v s1 ⟨x, H1, I1, r1, q1⟩ => ⟨σ, H1, I1, q1⟩) I.quiet hs
noncomputable def tRet (te : TE) : TS := fun D σ H => te σ H D.rt
theorem ps_ret (he : PE X e te) : PS X (.Return (some e) pos) (tRet te) := by
  intro pins s σ H D I h
  exact wpAny_Return_some (thn (he pins s σ H _ I h) fun v s1 ⟨x, H1, I1, r1, q1⟩ => ⟨x, σ, H1, I1, r1, q1⟩)
noncomputable def tIfS (c : TT) (t u : TS) : TS := fun D σ H => c σ H fun b H1 => if b = true then t D σ H1 else u D σ H1
theorem ps_if {c : Expr} {a b : List Stmt} {tc : TT} (hc : PT X c tc) (ha : PSs X a t) (hb : PSs X b u) : PS X (.If c a b pos) (tIfS tc t u) := by
  intro pins s σ H D I h
  refine wpAny_If (thn (hc pins s σ H _ I h) fun d s1 ⟨H1, I1, q1⟩ => ?_)
  cases d with
  | true => exact ha pins s1 σ H1 D I1 q1
  | false => exact hb pins s1 σ H1 D I1 q1
end

noncomputable abbrev TG := V → St → Hp → (St → Hp → Prop) → Prop
noncomputable abbrev TGs := List V → St → Hp → (St → Hp → Prop) → Prop
noncomputable def PG (X : Cx) (target : Expr) (t : TG) : Prop :=
  ∀ (pins : List (Addr × Obj)) (s : Shared) (σ : St) (H : Hp) (v : V) (u : Value) (Q : St → Hp → Prop), Inv X pins σ H s → RelV v u → t v σ H Q →
    wpAny (model X.prog X.w) X.A (assign target X.env u) (fun _ s' => ∃ σ' H', Inv X pins σ' H' s' ∧ Q σ' H') X.xe s
noncomputable def PGs (X : Cx) (ts : List Expr) (t : TGs) : Prop :=
  ∀ (pins : List (Addr × Obj)) (s : Shared) (σ : St) (H : Hp) (vs : List V) (us : List Value) (Q : St → Hp → Prop), Inv X pins σ H s → Vals vs us → t vs σ H Q →
    wpAny (model X.prog X.w) X.A (assignInOrder ((assignEach ts X.env).map (·.2)) us) (fun _ s' => ∃ σ' H', Inv X pins σ' H' s' ∧ Q σ' H') X.xe s
section
variable {X : Cx} {pos : Pos}
noncomputable def gName (i : Nat) : TG := fun v σ H Q => Q (σ.set i (some v)) H
theorem pg_name {i : Nat} {x : Str} (hN : X.N.Nodup) (hi : X.N[i]? = some x) (hx : Loc X.env.scope x) (hf : X.fn x = true ∨ X.env.scope.names.lookup x = some .local := by first | exact .inl rfl | exact .inr rfl | assumption) : PG X (.Name x pos) (gName i) := by
  intro pins s σ H v u Q I r h
  exact wpAny_assign_Name (store_ok I hN hi hx r (fun s' I' => ⟨_, H, I', h⟩) hf)
noncomputable def gNil : TGs := fun vs σ H Q => vs = [] ∧ Q σ H
noncomputable def gCons (t : TG) (u : TGs) : TGs := fun vs σ H Q => ∃ v r, vs = v :: r ∧ t v σ H fun σ' H' => u r σ' H' Q
theorem pgs_nil : PGs X [] gNil := by
  intro pins s σ H vs us Q I r h
  obtain ⟨e, h⟩ := h
  subst e
  cases r
  exact assignInOrder_nil ⟨σ, H, I, h⟩
theorem pgs_cons {e : Expr} {es : List Expr} {t : TG} {u : TGs} (h1 : PG X e t) (h2 : PGs X es u)
    (hs : (assignEach (e :: es) X.env).map (·.2) = assign e X.env :: (assignEach es X.env).map (·.2) := by rfl) : PGs X (e :: es) (gCons t u) := by
  intro pins s σ H vs us Q I r h
  obtain ⟨v, vr, e1, h⟩ := h
  subst e1
  cases r with
  | cons r rr =>
    rw [hs]
    refine assignInOrder_cons (thn (h1 pins s σ H _ _ _ I r h) fun _ s1 ⟨σ1, H1, I1, q1⟩ => ?_)
    exact h2 pins s1 σ1 H1 _ _ Q I1 rr q1
noncomputable def gTup (K : PySem.W.Frag) (n : Nat) (t : TGs) : TG := fun v σ H Q => ∃ a xs, v = .ref a ∧ SqT K H a xs ∧ xs.length = n ∧ t xs σ H Q
theorem pg_tup {es : List Expr} {k : Nat} {t : TGs} {n : Nat} (hc : X.calm = true) (h : PGs X es t)
    (hn : (assignEach es X.env).length = n := by rfl) (hst : (assignEach es X.env).findIdx? (·.1) = none := by rfl) : PG X (.Tuple es k pos) (gTup X.K n t) := by
  intro pins s σ H v u Q I r hw
  obtain ⟨a, xs, e1, hq, hl, hw⟩ := hw
  subst e1
  cases r
  obtain ⟨its, rv, ht, hz⟩ := I.tuple hq
  refine assign_Tuple_tuple (I.ok.hd hc) ht (by simp [hn, ← hl, rv.length]) hst fun h' hx => ?_
  have I1 : Inv X pins σ H { s with heap := h' } := I.kept (t' := s.toks) fun b o e => hx b o (Nat.ne_of_lt (Heap.lt_size e)) e
  exact h pins _ σ H xs _ Q I1 (by simpa using rv) hw
noncomputable def tAsg (te : TE) (g : TG) : TS := fun D σ H => te σ H fun x H1 => g x σ H1 D.nx
theorem ps_asg {tg e : Expr} {te : TE} {g : TG} (he : PE X e te) (hg : PG X tg g) (hs : swapsWithSole [tg] e pos.line X.env = pure false := by rfl) (hw : swappedStores [tg] e X.env = pure none := by rfl)
    (h1 : (assignEach [tg] X.env).map (·.2) = [assign tg X.env] := by rfl) : PS X (.Assign [tg] e pos) (tAsg te g) := by
  intro pins s σ H D I h
  refine wpAny_Assign_stores (thn (he pins s σ H _ I h) fun v s1 ⟨x, H1, I1, r1, q1⟩ => ?_) hs hw
  rw [h1]
  exact thn (hg pins s1 σ H1 x v _ I1 r1 q1) fun _ s2 q => q
theorem ps_set {i : Nat} {x : Str} {e : Expr} {te : TE} {pos' : Pos} (hN : X.N.Nodup) (hi : X.N[i]? = some x) (hx : Loc X.env.scope x) (he : PE X e te) (hs : swapsWith e (some (.Name x pos')) pos.line X.env = pure false := by rfl) (hf : X.fn x = true ∨ X.env.scope.names.lookup x = some .local := by first | exact .inl rfl | exact .inr rfl | assumption) :
    PS X (.Assign [.Name x pos'] e pos) (tAsg te (gName i)) := by
  intro pins s σ H D I h
  refine wpAny_Assign_Name (thn (he pins s σ H _ I h) fun v s1 ⟨y, H1, I1, r1, q1⟩ => ?_) hs
  exact store_ok I1 hN hi hx r1 (fun s2 I2 => ⟨_, H1, I2, q1⟩) hf
end

section
variable {X : Cx} {pos : Pos}
end

structure It where
  go : Nat → Hp → Prop
  yld : Nat → Hp → V → Hp → Prop
  stop : Nat → Hp → Prop
noncomputable def FpOk (X : Cx) (pins : List (Addr × Obj)) (H : Hp) (b : Addr) : Prop :=
  H b = none ∧ b ≠ X.env.locals ∧ b ∉ X.fs ∧ (b ∈ X.ex ∨ X.s₀.heap.objs.size ≤ b) ∧ (∀ x c, X.env.cells.lookup x = some c → c ≠ b) ∧ ∀ p ∈ X.pn ++ pins, p.1 ≠ b
theorem Inv.fpOk {X : Cx} {pins : List (Addr × Obj)} {σ : St} {H H' : Hp} {s : Shared} {b : Addr} (I : Inv X pins σ H s) (hb : s.heap.objs.size ≤ b) (hn : H' b = none) : FpOk X pins H' b := by
  refine ⟨hn, Nat.ne_of_gt (Nat.lt_of_lt_of_le I.lt hb), I.nofs hb, .inr (Nat.le_trans I.sz hb), fun x c e z => ?_, fun p hp z => ?_⟩
  · obtain ⟨v, q⟩ := I.cell x c e
    exact absurd (Nat.lt_of_lt_of_le q.lt (by rw [z]; exact hb)) (Nat.lt_irrefl _)
  · exact absurd (Nat.lt_of_lt_of_le (Heap.lt_size (I.pin p hp).1) (by rw [z]; exact hb)) (Nat.lt_irrefl _)
structure Turn (P : Program) (w : World) (K : PySem.W.Frag) (tg : Expr) (J : It) (fp : List Addr) (it : Addr) (tn : Nat → Heap → Prop) : Prop where
  mem : it ∈ fp
  obj : ∀ i h, tn i h → ∀ b ∈ fp, ∃ o, h.get? b = some o ∧ ∀ v, o.data ≠ .cell v
  keep : ∀ i h h', tn i h → (∀ b ∈ fp, ∀ o, h.get? b = some o → h'.get? b = some o) → tn i h'
  item : ∀ (X : Cx), X.prog = P → X.w = w → X.K = K → X.calm = true → ∀ (i : Nat) (pins : List (Addr × Obj)) (s : Shared) (σ : St) (H : Hp) (E : Value → Shared → Prop), Inv X pins σ H s → (∀ b ∈ fp, FpOk X pins H b) → tn i s.heap → J.go i H →
    wpAny (model P w) X.A (pyNext (.ref it)) (fun r s1 => ∃ u, r = some u ∧
      wpAny (model P w) X.A (letOwnedTupleGo tg (.ref it) u) (fun _ s2 => ∃ x H', Inv X pins σ H' s2 ∧ RelV x u ∧ J.yld i H x H' ∧ tn (i + 1) s2.heap ∧ ∀ b ∈ fp, H' b = none) E s1) E s
  done : ∀ (X : Cx), X.prog = P → X.w = w → X.K = K → X.calm = true → ∀ (i : Nat) (pins : List (Addr × Obj)) (s : Shared) (σ : St) (H : Hp) (E : Value → Shared → Prop), Inv X pins σ H s → (∀ b ∈ fp, FpOk X pins H b) → tn i s.heap → J.stop i H →
    wpAny (model P w) X.A (pyNext (.ref it)) (fun r s1 => r = none ∧ Inv X pins σ H s1) E s
  self : ∀ (A : Around) (i : Nat) (s : Shared) (Q : Value → Shared → Prop) (E : Value → Shared → Prop), tn i s.heap → Q (.ref it) s → wpAny (model P w) A (pyIter (.ref it)) Q E s
noncomputable abbrev TI := St → Hp → (It → Hp → Prop) → Prop
noncomputable def PIE (X : Cx) (pins : List (Addr × Obj)) (σ : St) (tg : Expr) (R : It → Hp → Prop) (itv : Value) (s2 : Shared) : Prop :=
  ∃ (it : Addr) (fp : List Addr) (tn : Nat → Heap → Prop) (J : It) (H' : Hp), itv = .ref it ∧ Inv X pins σ H' s2 ∧ Turn X.prog X.w X.K tg J fp it tn ∧ tn 0 s2.heap ∧ (∀ b ∈ fp, FpOk X pins H' b) ∧ R J H'
noncomputable def PI (X : Cx) (tg iter : Expr) (wi : TI) : Prop :=
  ∀ (pins : List (Addr × Obj)) (s : Shared) (σ : St) (H : Hp) (R : It → Hp → Prop), Inv X pins σ H s → wi σ H R →
    wpAny (model X.prog X.w) X.A (eval iter X.env) (fun v s1 => wpAny (model X.prog X.w) X.A (pyIter v) (PIE X pins σ tg R) X.xe s1) X.xe s

theorem go_of {M : Model} {A : Around} {E : Value → Shared → Prop} {s : Shared} {tg : Expr} {it : Addr} {u : Value} {o : Obj} {n : String} {vs : Array Value} {Q : Unit → Shared → Prop} (ho : s.heap.get? it = some o) (hc : o.cls = .type n) (hd : o.data = .fields vs)
    (hn : ["enumerate", "zip", "dict_itemiterator", "dict_reverseitemiterator", "odict_iterator", "itertools.zip_longest", "itertools.pairwise"].contains n = false) (hQ : Q () s) : wpAny M A (letOwnedTupleGo tg (.ref it) u) Q E s := by
  unfold letOwnedTupleGo
  cases tg <;> first
    | exact wpAny_pure hQ
    | (cases u <;> first
        | exact wpAny_pure hQ
        | (refine wpAny_bind (wpAny_load ho ?_)
           rw [hc, hd]
           show wpAny M A (if (["enumerate", "zip", "dict_itemiterator", "dict_reverseitemiterator", "odict_iterator", "itertools.zip_longest", "itertools.pairwise"].contains n && vs[0]? == some (rawInt _)) = true then _ else _) Q E s
           rw [if_neg (by intro h; rw [hn, Bool.false_and] at h; cases h)]
           exact wpAny_pure hQ))

noncomputable def Itr (lo : Int) (n : Nat) : It := ⟨fun i _ => i < n, fun i H x H' => H' = H ∧ x = .int (lo + i), fun i _ => n ≤ i⟩
theorem turn_range {P : Program} {w : World} {K : PySem.W.Frag} {tg : Expr} (it : Addr) (lo : Int) (n : Nat) : Turn P w K tg (Itr lo n) [it] it (fun i h => IsRangeIter h it (lo + (i : Nat) * 1) ((n : Int) - (i : Nat)) 1) where
  mem := by simp
  obj := fun i h st b hb => by
    have e : b = it := by simpa using hb
    subst e
    exact ⟨_, st, fun v z => by
      have z' : Data.fields _ = Data.cell v := z
      cases z'⟩
  keep := fun i h h' st k => k it (by simp) _ st
  item := by
    intro X hP hw hK hc i pins s σ H E I hf st hg
    subst hP hw hK
    obtain ⟨f0, f1, f2, f3, f4, f5⟩ := hf it (by simp)
    have W := Walks.range (prog := X.prog) (w := X.w) (I.ok.hd hc) it lo 1 n
    refine W.item i s _ _ hg st fun v h' tk hv st' kk => ?_
    obtain ⟨t, rfl⟩ := hv
    have I1 : Inv X pins σ H { s with heap := h', toks := tk } := I.turned (fun b o hb e => kk b o (by simpa using hb) e) f0 f1 f3 f4 f5
    refine ⟨_, rfl, go_of (s := { s with heap := h', toks := tk }) (n := "range_iterator") st' rfl rfl (by decide) ⟨.int (lo + i), H, I1, ⟨t, ?_⟩, ⟨rfl, rfl⟩, st', fun b hb => (hf b hb).1⟩⟩
    rw [Int.mul_one]
  done := by
    intro X hP hw hK hc i pins s σ H E I hf st hg
    subst hP hw hK
    obtain ⟨f0, f1, f2, f3, f4, f5⟩ := hf it (by simp)
    exact wpAny_pyNext_range_end (I.ok.hd hc) st (by have : n ≤ i := hg; omega) fun h' eb => ⟨rfl, I.turned (t' := s.toks) (fun b o hb e => eb b o hb e) f0 f1 f3 f4 f5⟩
  self := fun _ _ _ _ _ st h => wpAny_pyIter_rangeiter st h
end L2

namespace L2
open PySem PySem.Spec PyProof.Rows
section
variable {X : Cx} {tg : Expr}
theorem range_it {pins : List (Addr × Obj)} {σ : St} {H : Hp} {s : Shared} {R : It → Hp → Prop} {E : Value → Shared → Prop} {lo hi : Int} {t u v : Tok} {tk : Nat} (I : Inv X pins σ H s) (h1 : -(2 ^ 62) ≤ lo) (h2 : lo < 2 ^ 62) (h3 : -(2 ^ 62) ≤ hi) (h4 : hi < 2 ^ 62)
    (q : R (Itr lo (hi - lo).toNat) H) : wpAny (model X.prog X.w) X.A (pyIter (.ref s.heap.objs.size)) (PIE X pins σ tg R) E { s with heap := s.heap.push { cls := .type "range", data := .fields #[.int lo t, .int hi u, .int 1 v] }, toks := tk } := by
  refine wpAny_pyIter_range (IsRange.new ..) (small_one h1 h2 h3 h4) ?_
  have I1 : Inv X pins σ H { s with heap := s.heap.push { cls := .type "range", data := .fields #[.int lo t, .int hi u, .int 1 v] }, toks := tk } := I.kept fun b o e => Heap.get?_push_of_some _ e
  refine ⟨(s.heap.push { cls := .type "range", data := .fields #[.int lo t, .int hi u, .int 1 v] }).objs.size, [(s.heap.push { cls := .type "range", data := .fields #[.int lo t, .int hi u, .int 1 v] }).objs.size], _, _, H, rfl,
    I1.kept (t' := tk) fun b o e => Heap.get?_push_of_some _ e, turn_range _ lo (hi - lo).toNat, ?_, fun b hb => ?_, q⟩
  · have e1 : lo + ((0 : Nat) : Int) * 1 = lo := by simp
    have e2 : (((hi - lo).toNat : Nat) : Int) - ((0 : Nat) : Int) = Builtin.Range.rangeSize lo hi 1 := by rw [rangeSize_one]; split <;> omega
    show IsRangeIter _ _ (lo + ((0 : Nat) : Int) * 1) ((((hi - lo).toNat : Nat) : Int) - ((0 : Nat) : Int)) 1
    rw [e1, e2]
    exact Heap.get?_push_size _ rfl
  · have e : b = (s.heap.push { cls := .type "range", data := .fields #[.int lo t, .int hi u, .int 1 v] }).objs.size := by simpa using hb
    subst e
    exact I1.fpOk (Nat.le_refl _) (I1.hok.fresh (Nat.le_refl _))
noncomputable def iRng1 (ta : TA) : TI := fun σ H R => ta σ H fun vs H1 => ∃ j : Int, vs = [.int j] ∧ -(2 ^ 62) ≤ j ∧ j < 2 ^ 62 ∧ R (Itr 0 j.toNat) H1
noncomputable def iRng2 (ta : TA) : TI := fun σ H R => ta σ H fun vs H1 => ∃ i j : Int, vs = [.int i, .int j] ∧ (-(2 ^ 62) ≤ i ∧ i < 2 ^ 62 ∧ -(2 ^ 62) ≤ j ∧ j < 2 ^ 62) ∧ R (Itr i (j - i).toNat) H1
theorem pi_range1 {a : Expr} {ta : TA} {p pos : Pos} (hg : Gl X "range") (hm : X.mg "range" = none) (ha : PA X [a] ta) (hs : starEach [a] X.env = [(false, eval a X.env)] := by rfl) : PI X tg (.Call (.Name "range" p) [a] [] pos) (iRng1 ta) := by
  intro pins s σ H R I h
  refine Call_ (ld_blt I hg hm boot_range (PyProof.Rows.callWith_type1 (thn (ha pos pins s σ H _ I h) fun us s1 ⟨vs, H1, I1, r1, q1⟩ => ?_) hs rfl))
  obtain ⟨j, e, q1, q2, q⟩ := q1
  subst e
  cases r1 with
  | cons r rr =>
    cases rr
    obtain ⟨t, rfl⟩ := r
    exact call_range_1 (range_it I1 (by omega) (by omega) q1 q2 (by simpa using q))
theorem pi_range2 {a b : Expr} {ta : TA} {p pos : Pos} (hg : Gl X "range") (hm : X.mg "range" = none) (ha : PA X [a, b] ta) (hs : starEach [a, b] X.env = [(false, eval a X.env), (false, eval b X.env)] := by rfl) (hs2 : starEach [b] X.env = [(false, eval b X.env)] := by rfl) :
    PI X tg (.Call (.Name "range" p) [a, b] [] pos) (iRng2 ta) := by
  intro pins s σ H R I h
  refine Call_ (ld_blt I hg hm boot_range (PyProof.Rows.callWith_type1 (thn (ha pos pins s σ H _ I h) fun us s1 ⟨vs, H1, I1, r1, q1⟩ => ?_) (by rw [hs, hs2]) (by rw [hs2]; rfl)))
  obtain ⟨i, j, e, ⟨q1, q2, q3, q4⟩, q⟩ := q1
  subst e
  cases r1 with
  | cons r rr =>
    cases rr with
    | cons r' rr =>
      cases rr
      obtain ⟨t, rfl⟩ := r
      obtain ⟨t', rfl⟩ := r'
      exact call_range_2 (range_it I1 q1 q2 q3 q4 q)

noncomputable def tFor (wi : TI) (g : TG) (tb : TS) : TS := fun D σ H => wi σ H fun J H1 => ∃ W : Nat → Nat → St → Hp → Prop, (∃ m, W 0 m σ H1) ∧ ∀ i m σ H, W i m σ H →
  (J.stop i H ∧ D.nx σ H) ∨ (J.go i H ∧ ∃ N : St → Hp → Prop, (∀ σ' H', N σ' H' → ∃ m', m' < m ∧ W (i + 1) m' σ' H') ∧ ∀ x H', J.yld i H x H' → g x σ H' fun σ2 H2 => tb { D with nx := N, ct := N, bk := D.nx } σ2 H2)
noncomputable def pinsAt (fp : List Addr) (h : Heap) : List (Addr × Obj) := fp.filterMap fun b => (h.get? b).map fun o => (b, o)
theorem mem_pinsAt {fp : List Addr} {h : Heap} {b : Addr} {o : Obj} (hb : b ∈ fp) (e : h.get? b = some o) : (b, o) ∈ pinsAt fp h := List.mem_filterMap.mpr ⟨b, hb, by rw [e]; rfl⟩
theorem of_pinsAt {fp : List Addr} {h : Heap} {p : Addr × Obj} (hp : p ∈ pinsAt fp h) : p.1 ∈ fp ∧ h.get? p.1 = some p.2 := by
  obtain ⟨b, hb, e⟩ := List.mem_filterMap.mp hp
  cases q : h.get? b with
  | none => rw [q] at e; cases e
  | some o =>
    rw [q] at e
    have e' : (b, o) = p := Option.some.inj e
    subst e'
    exact ⟨hb, q⟩
theorem Inv.pinned {pins : List (Addr × Obj)} {σ : St} {H : Hp} {s : Shared} {fp : List Addr} (I : Inv X pins σ H s) (hf : ∀ b ∈ fp, FpOk X pins H b) (ho : ∀ b ∈ fp, ∃ o, s.heap.get? b = some o ∧ ∀ v, o.data ≠ .cell v) : Inv X (pins ++ pinsAt fp s.heap) σ H s :=
  I.pins_of fun p hp => (List.mem_append.mp hp).elim (fun z => I.pin p (List.mem_append_right _ z)) fun z => by
    obtain ⟨hb, e⟩ := of_pinsAt z
    obtain ⟨f0, f1, f2, _⟩ := hf p.1 hb
    obtain ⟨o, e', d⟩ := ho p.1 hb
    rw [e] at e'; cases e'
    exact ⟨e, f0, f1, f2, d⟩
theorem Inv.unpinned {pins pl : List (Addr × Obj)} {σ : St} {H : Hp} {s : Shared} (I : Inv X (pins ++ pl) σ H s) : Inv X pins σ H s := I.pins_of fun p hp => I.pin p (List.mem_append_right _ (List.mem_append_left _ hp))
theorem ps_for {iter : Expr} {body : List Stmt} {wi : TI} {g : TG} {tb : TS} {pos : Pos} (hp : PassesOwn (model X.prog X.w) X.A X.env X.xe) (hc : X.calm = true) (hi : PI X tg iter wi) (hg : PG X tg g) (hb : PSs X body tb)
    (hs : ∀ x, foldedSetIterable iter X.env x = pure x := by intro _; rfl) : PS X (.For tg iter body [] pos) (tFor wi g tb) := by
  intro pins s σ H D I h
  refine wpAny_For (thn (hi pins s σ H _ I h) fun v s1 h1 => thn h1 fun itv s2 h2 => ?_) hs
  obtain ⟨it, fp, tn, J, H2, e, I2, T, st2, f2, W, ⟨m0, w0⟩, turn⟩ := h2
  subst e
  -- what stays true of the iterator's objects through the loop
  have stat : ∀ {H' : Hp}, (∀ b ∈ fp, H' b = none) → ∀ b ∈ fp, FpOk X pins H' b := fun hn b hb => ⟨hn b hb, (f2 b hb).2⟩
  refine codeAny_forLoop_any (fun n s' => ∃ i σ' H', Inv X pins σ' H' s' ∧ tn i s'.heap ∧ (∀ b ∈ fp, H' b = none) ∧ W i n σ' H') ?_ m0 ⟨0, σ, H2, I2, st2, fun b hb => (f2 b hb).1, w0⟩
  rintro n s3 ⟨i, σ3, H3, I3, st3, fr3, w3⟩
  rcases turn i n σ3 H3 w3 with ⟨stop, qn⟩ | ⟨go, N, hN, step⟩
  · refine wpAny_passesOwn hp (thn (T.done X rfl rfl rfl hc i pins s3 σ3 H3 X.xe I3 (stat fr3) st3 stop) fun r s4 ⟨hr, I4⟩ => ?_)
    subst hr
    exact wpAny_execs_nil ⟨σ3, H3, I4, qn⟩
  · refine wpAny_passesOwn hp (thn (T.item X rfl rfl rfl hc i pins s3 σ3 H3 X.xe I3 (stat fr3) st3 go) fun r s4 ⟨u, hr, h4⟩ => ?_)
    subst hr
    refine wpAny_passesOwn hp (thn h4 fun _ s5 ⟨x, H5, I5, r5, y5, st5, fr5⟩ => ?_)
    have I5' := I5.pinned (stat fr5) (T.obj _ _ st5)
    refine wpAny_passesOwn hp (thn (hg _ s5 σ3 H5 x u _ I5' r5 (step x H5 y5)) fun _ s6 ⟨σ6, H6, I6, q6⟩ => ?_)
    refine wpAny_passesOwn hp (thn (hb _ s6 σ6 H6 _ I6 q6) fun f s7 q7 => ?_)
    have again : ∀ {σ7 : St} {H7 : Hp}, Inv X (pins ++ pinsAt fp s5.heap) σ7 H7 s7 → N σ7 H7 → ∃ m, m < n ∧ ∃ i σ' H', Inv X pins σ' H' s7 ∧ tn i s7.heap ∧ (∀ b ∈ fp, H' b = none) ∧ W i m σ' H' := fun {σ7 H7} I7 n7 => by
      obtain ⟨m', hm, w7⟩ := hN σ7 H7 n7
      refine ⟨m', hm, i + 1, σ7, H7, I7.unpinned, T.keep _ _ _ st5 fun b hb o e => (I7.pin (b, o) (List.mem_append_right _ (List.mem_append_right _ (mem_pinsAt hb e)))).1, fun b hb => ?_, w7⟩
      obtain ⟨o, e, d⟩ := T.obj _ _ st5 b hb
      exact (I7.pin (b, o) (List.mem_append_right _ (List.mem_append_right _ (mem_pinsAt hb e)))).2.1
    cases f with
    | next => obtain ⟨σ7, H7, I7, n7⟩ := q7; exact again I7 n7
    | cont => obtain ⟨σ7, H7, I7, n7⟩ := q7; exact again I7 n7
    | brk => obtain ⟨σ7, H7, I7, q7⟩ := q7; exact ⟨σ7, H7, I7.unpinned, q7⟩
    | ret v => obtain ⟨x7, σ7, H7, I7, r7, q7⟩ := q7; exact ⟨x7, σ7, H7, I7.unpinned, r7, q7⟩
end

end L2

namespace L2
open PySem PySem.Spec PyProof.Rows

noncomputable abbrev R2 := V → V → Hp → VK → Prop
noncomputable def OpR (X : Cx) (f : Value → Value → Sem Value) (r : R2) : Prop :=
  ∀ (pins : List (Addr × Obj)) (s : Shared) (σ : St) (H : Hp) (x y : V) (v u : Value) (Q : VK), Inv X pins σ H s → RelV x v → RelV y u → r x y H Q →
    wpAny (model X.prog X.w) X.A (f v u) (EP X pins σ Q) X.xe s
noncomputable def CallR (X : Cx) (f : Value) (r : List V → Hp → VK → Prop) : Prop :=
  ∀ (pins : List (Addr × Obj)) (s : Shared) (σ : St) (H : Hp) (xs : List V) (us : List Value) (Q : VK), Inv X pins σ H s → Vals xs us → r xs H Q →
    wpAny (model X.prog X.w) X.A (call f us) (EP X pins σ Q) X.xe s
noncomputable def tOp (r : R2) (ta tb : TE) : TE := fun σ H Q => ta σ H fun x H1 => tb σ H1 fun y H2 => r x y H2 Q
noncomputable def rI (C : Int → Int → Prop) (g : Int → Int → V) : R2 := fun x y H Q => ∃ i j, x = .int i ∧ y = .int j ∧ C i j ∧ Q (g i j) H
noncomputable def rI0 (g : Int → Int → V) : R2 := fun x y H Q => ∃ i j, x = .int i ∧ y = .int j ∧ Q (g i j) H
section
variable {X : Cx} {a b c : Expr} {ta tb tc : TE} {pos : Pos}

theorem binT (ha : PE X a ta) (hb : PE X b tb) {pins : List (Addr × Obj)} {s : Shared} {σ : St} {H : Hp} {R : V → V → Hp → Prop} (I : Inv X pins σ H s)
    (h : ta σ H fun x H1 => tb σ H1 fun y H2 => R x y H2) {Q : Value → Shared → Prop} {f : Value → Value → Sem Value}
    (hf : ∀ v u s2 x y H2, Inv X pins σ H2 s2 → RelV x v → RelV y u → R x y H2 → wpAny (model X.prog X.w) X.A (f v u) Q X.xe s2) :
    wpAny (model X.prog X.w) X.A (eval a X.env) (fun v s₁ => wpAny (model X.prog X.w) X.A (eval b X.env) (fun u s₂ => wpAny (model X.prog X.w) X.A (f v u) Q X.xe s₂) X.xe s₁) X.xe s := by
  refine thn (ha pins s σ H _ I h) fun v s1 ⟨x, H1, I1, r1, q1⟩ => ?_
  refine thn (hb pins s1 σ H1 _ I1 q1) fun u s2 ⟨y, H2, I2, r2, q2⟩ => ?_
  exact hf v u s2 x y H2 I2 r1 r2 q2

theorem pe_op {op : Operator} {r : R2} (ho : OpR X (binaryOp op) r) (ha : PE X a ta) (hb : PE X b tb) : PE X (.BinOp a op b pos) (tOp r ta tb) := by
  intro pins s σ H Q I h
  exact wpAny_BinOp (binT ha hb I h fun v u s2 x y H2 I2 rx ry q => ho pins s2 σ H2 x y v u Q I2 rx ry q)
theorem opI {f : Value → Value → Sem Value} {C : Int → Int → Prop} {g : Int → Int → Int}
    (rule : ∀ (i j : Int) (t u : Tok) (s : Shared) (Q : Value → Shared → Prop) (E : Value → Shared → Prop), C i j → Q (.int (g i j) s.toks) { s with toks := s.toks + 1 } → wpAny (model X.prog X.w) X.A (f (.int i t) (.int j u)) Q E s) :
    OpR X f (rI C fun i j => .int (g i j)) := by
  intro pins s σ H x y v u Q I rx ry h
  obtain ⟨i, j, rfl, rfl, hc, q⟩ := h
  obtain ⟨t, rfl⟩ := rx
  obtain ⟨t', rfl⟩ := ry
  exact rule i j t t' s _ _ hc ⟨.int (g i j), H, I.tok _, ⟨_, rfl⟩, q⟩
theorem opI0 {f : Value → Value → Sem Value} {g : Int → Int → Int}
    (rule : ∀ (i j : Int) (t u : Tok) (s : Shared) (Q : Value → Shared → Prop) (E : Value → Shared → Prop), Q (.int (g i j) s.toks) { s with toks := s.toks + 1 } → wpAny (model X.prog X.w) X.A (f (.int i t) (.int j u)) Q E s) :
    OpR X f (rI0 fun i j => .int (g i j)) := by
  intro pins s σ H x y v u Q I rx ry h
  obtain ⟨i, j, rfl, rfl, q⟩ := h
  obtain ⟨t, rfl⟩ := rx
  obtain ⟨t', rfl⟩ := ry
  exact rule i j t t' s _ _ ⟨.int (g i j), H, I.tok _, ⟨_, rfl⟩, q⟩
theorem opB0 {f : Value → Value → Sem Value} {g : Int → Int → Bool}
    (rule : ∀ (i j : Int) (t u : Tok) (s : Shared) (Q : Value → Shared → Prop) (E : Value → Shared → Prop), Q (.bool (g i j)) s → wpAny (model X.prog X.w) X.A (f (.int i t) (.int j u)) Q E s) :
    OpR X f (rI0 fun i j => .bl (g i j)) := by
  intro pins s σ H x y v u Q I rx ry h
  obtain ⟨i, j, rfl, rfl, q⟩ := h
  obtain ⟨t, rfl⟩ := rx
  obtain ⟨t', rfl⟩ := ry
  exact rule i j t t' s _ _ ⟨.bl (g i j), H, I, rfl, q⟩

noncomputable def CPow (i j : Int) : Prop := 0 ≤ j ∧ j ≤ 1000000 ∧ i.natAbs < 2 ^ 64
noncomputable def CMul (i j : Int) : Prop := (-(2 ^ 64) < i ∧ i < 2 ^ 64) ∨ (-(2 ^ 64) < j ∧ j < 2 ^ 64)
theorem CMul.ok {i j : Int} (h : CMul i j) : IntMulOk i j := by
  rcases h with ⟨h1, h2⟩ | ⟨h1, h2⟩
  · exact .of_left (intBits_le_64 h1 h2)
  · exact .of_right (intBits_le_64 h1 h2)
theorem two_pow_nn (k : Nat) : (0 : Int) ≤ 2 ^ k := by
  rw [two_pow_cast]
  exact Int.natCast_nonneg _

theorem op_add : OpR X (binaryOp .Add) (rI0 fun i j => .int (i + j)) := opI0 fun _ _ _ _ _ _ _ q => add_int q
theorem op_sub : OpR X (binaryOp .Sub) (rI0 fun i j => .int (i - j)) := opI0 fun _ _ _ _ _ _ _ q => sub_int q
theorem op_modN : OpR X (binaryOp .Mod) (rI (fun _ j => j ≠ 0) fun i j => .int (i.fmod j)) := opI fun _ _ _ _ _ _ _ hc q => mod_int' hc q
theorem op_shl : OpR X (binaryOp .LShift) (rI CPow fun i j => .int (i * 2 ^ j.toNat)) := opI fun _ _ _ _ _ _ _ hc q => lshift_int_small hc.1 hc.2.1 hc.2.2 q
theorem op_shr : OpR X (binaryOp .RShift) (rI (fun _ j => 0 ≤ j) fun i j => .int (i / 2 ^ j.toNat)) := opI fun i j _ _ _ _ _ hc q =>
  rshift_int hc (by rw [Int.fdiv_eq_ediv_of_nonneg i (two_pow_nn _)]; exact q)
end

section
variable {X : Cx} {a b c : Expr} {ta tb tc : TE} {pos : Pos}
theorem fin_bl {pins : List (Addr × Obj)} {σ : St} {H : Hp} {s : Shared} {Q : VK} {k k' : Bool} (I : Inv X pins σ H s) (q : Q (.bl k) H) (e : k = k') : EP X pins σ Q (.bool k') s := by
  subst e
  exact ⟨.bl k, H, I, rfl, q⟩
theorem op_lt : OpR X (compareOp .Lt) (rI0 fun i j => .bl (decide (i < j))) := opB0 fun _ _ _ _ _ _ _ q => lt_int q
theorem op_gt : OpR X (compareOp .Gt) (rI0 fun i j => .bl (decide (j < i))) := opB0 fun _ _ _ _ _ _ _ q => gt_int q
theorem op_ge : OpR X (compareOp .GtE) (rI0 fun i j => .bl (decide (j ≤ i))) := opB0 fun _ _ _ _ _ _ _ q => ge_int q
theorem OpR.or {f : Value → Value → Sem Value} {r r' : R2} (h : OpR X f r) (h' : OpR X f r') : OpR X f (fun x y H Q => r x y H Q ∨ r' x y H Q) := by
  intro pins s σ H x y v u Q I rx ry q
  rcases q with q | q
  · exact h pins s σ H x y v u Q I rx ry q
  · exact h' pins s σ H x y v u Q I rx ry q

theorem nomark (b : Expr) {op : CmpOp} (h : op ≠ .In := by decide) (h2 : op ≠ .NotIn := by decide) : behindInMarks op b = false := by
  have e1 : (op == CmpOp.In) = false := by cases op <;> first | rfl | exact absurd rfl h
  have e2 : (op == CmpOp.NotIn) = false := by cases op <;> first | rfl | exact absurd rfl h2
  cases b <;> simp [behindInMarks, e1, e2]
theorem pe_cmpR {op : CmpOp} {r : R2} (ho : OpR X (compareOp op) r) (ha : PE X a ta) (hb : PE X b tb) (hm : behindInMarks op b = false) : PE X (.Compare a [op] [b] pos) (tOp r ta tb) := by
  intro pins s σ H Q I h
  exact wpAny_Compare1 (binT ha hb I h fun v u s2 x y H2 I2 rx ry q => ho pins s2 σ H2 x y v u Q I2 rx ry q) hm
noncomputable def tTest (t : TE) : TT := fun σ H Q => t σ H fun x H' => ∃ k, x = .bl k ∧ Q k H'
theorem pt_cmpR {op : CmpOp} {r : R2} (ho : OpR X (compareOp op) r) (ha : PE X a ta) (hb : PE X b tb) (hm : behindInMarks op b = false) : PT X (.Compare a [op] [b] pos) (tTest (tOp r ta tb)) := by
  intro pins s σ H Q I h
  refine wpAny_isTrue_Compare1 (thn (ha pins s σ H _ I h) fun v s1 ⟨x, H1, I1, r1, q1⟩ => thn (hb pins s1 σ H1 _ I1 q1) fun u s2 ⟨y, H2, I2, r2, q2⟩ =>
    thn (ho pins s2 σ H2 x y v u _ I2 r1 r2 q2) fun c s3 ⟨z, H3, I3, r3, k, e, q3⟩ => ?_) hm
  subst e
  cases r3
  exact wpAny_truthy_bool ⟨H3, I3, q3⟩
theorem line63 : (sizeLine : Nat) < 2 ^ 63 := by rw [sizeLine_eq]; decide
theorem op_add_str : OpR X (binaryOp .Add) (fun x y H Q => ∃ i j, x = .str i ∧ y = .str j ∧ i.length + j.length ≤ sizeLine ∧ Q (.str (i ++ j)) H) := by
  intro pins s σ H x y v u Q I rx ry h
  obtain ⟨i, j, rfl, rfl, hz, q⟩ := h
  obtain ⟨t, rfl⟩ := rx
  obtain ⟨t', rfl⟩ := ry
  exact add_str (fun t' tk => ⟨.str (i ++ j), H, I.tok _, ⟨_, rfl⟩, q⟩) hz
theorem vals1 {x : V} {us : List Value} (r : Vals [x] us) : ∃ u, us = [u] ∧ RelV x u := by
  cases r with
  | cons r1 r2 => cases r2; exact ⟨_, rfl, r1⟩
theorem vals2 {x y : V} {us : List Value} (r : Vals [x, y] us) : ∃ u w', us = [u, w'] ∧ RelV x u ∧ RelV y w' := by
  cases r with
  | cons r1 r2 =>
    cases r2 with
    | cons r3 r4 => cases r4; exact ⟨_, _, rfl, r1, r3⟩
theorem call_max2 (hc : X.calm = true) : CallR X (.builtin "max") (fun xs H Q => ∃ i j, xs = [.int i, .int j] ∧ Q (.int (if j > i then j else i)) H) := by
  intro pins s σ H xs us Q I r h
  obtain ⟨i, j, rfl, q⟩ := h
  obtain ⟨u, w', rfl, ⟨t, rfl⟩, ⟨t', rfl⟩⟩ := vals2 r
  refine max_two_ints (I.ok.hd hc) fun h' tk k => ⟨_, H, I.kept k, ?_, q⟩
  by_cases hj : j > i
  · rw [if_pos hj, if_pos hj]; exact ⟨_, rfl⟩
  · rw [if_neg hj, if_neg hj]; exact ⟨_, rfl⟩
theorem call_min2 (hc : X.calm = true) : CallR X (.builtin "min") (fun xs H Q => ∃ i j, xs = [.int i, .int j] ∧ Q (.int (if j < i then j else i)) H) := by
  intro pins s σ H xs us Q I r h
  obtain ⟨i, j, rfl, q⟩ := h
  obtain ⟨u, w', rfl, ⟨t, rfl⟩, ⟨t', rfl⟩⟩ := vals2 r
  refine min_two_ints (I.ok.hd hc) fun h' tk k => ⟨_, H, I.kept k, ?_, q⟩
  by_cases hj : j < i
  · rw [if_pos hj, if_pos hj]; exact ⟨_, rfl⟩
  · rw [if_neg hj, if_neg hj]; exact ⟨_, rfl⟩
theorem call_int1 : CallR X (.type "int") (fun xs H Q => (∃ i, xs = [.int i] ∧ Q (.int i) H) ∨ ∃ k, xs = [.bl k] ∧ Q (.int (if k then 1 else 0)) H) := by
  intro pins s σ H xs us Q I r h
  rcases h with ⟨i, rfl, q⟩ | ⟨k, rfl, q⟩
  · obtain ⟨u, rfl, t, rfl⟩ := vals1 r
    exact call_int_int ⟨.int i, H, I, ⟨_, rfl⟩, q⟩
  · obtain ⟨u, rfl, r1⟩ := vals1 r
    cases r1
    exact call_int_bool ⟨.int (if k then 1 else 0), H, I.tok _, ⟨_, rfl⟩, q⟩
end
end L2

namespace L2
open PySem PySem.Spec PyProof.Rows

structure ObjM (h : Heap) (x dx C : Addr) (mA : Str → Option Value) : Prop where
  obj : h.get? x = some (PySem.W.instObj C dx)
  ns : h.Ns1 dx mA
  ne : dx ≠ x

theorem lookIn_ns {h : Heap} {dx : Addr} {mA : Str → Option Value} (n : h.Ns1 dx mA) : ∃ od, h.get? dx = some od ∧ ∀ name, PySem.W.lookIn name od = some (mA name) := by
  obtain ⟨o, es, ep, ho, hd, hk, _, hm⟩ := n
  refine ⟨o, ho, fun name => ?_⟩
  have e := hm name
  unfold nsFind findBy at e
  rw [← Array.find?_toList] at e
  unfold PySem.W.lookIn
  rw [hd]
  dsimp only
  split
  · rename_i y q
    rw [q] at e
    exact congrArg some e
  · rename_i q
    rw [q] at e
    have a : es.toList.any (·.refKey) = false := by
      rw [List.any_eq_false]
      intro y hy
      obtain ⟨z, t, hkey⟩ := hk y (Array.mem_toList_iff.mp hy)
      simp [DictEntry.refKey, hkey]
    have a' : ¬ es.toList.any (·.refKey) = true := by rw [a]; exact Bool.false_ne_true
    rw [if_neg a']
    exact congrArg some e

theorem ObjM.look {h : Heap} {x dx C : Addr} {mA : Str → Option Value} (I : ObjM h x dx C mA) : ∃ od, PySem.W.InstAt h x (PySem.W.instObj C dx) C (some od) ∧ ∀ name, PySem.W.lookIn name od = some (mA name) :=
  let ⟨od, ho, hl⟩ := lookIn_ns I.ns
  ⟨od, ⟨I.obj, rfl, rfl, ho⟩, hl⟩

section
variable {prog : Program} {w : World} {A : Around} {E : Value → Shared → Prop} {s : Shared} {K : PySem.W.Frag} {x dx C f : Addr} {mA : Str → Option Value} {name : Str} {v : Value}

end

noncomputable def putF (f : Str) (v : V) : List (Str × V) → List (Str × V)
  | [] => [(f, v)]
  | (g, x) :: r => if g = f then (g, v) :: r else (g, x) :: putF f v r
section
variable {P : Program} {w : World} {H H' : Hp} {h h' : Heap} {a C dx : Addr} {fs fs' : List (Str × V)}
theorem ins_get (hok : HOk P w H h) (e : H a = some (.ins C dx fs)) : ∃ mA, ObjM h a dx C mA ∧ (∀ f, RelO (fs.lookup f) (mA f)) ∧ PySem.Within mA (fs.map (·.1)) ∧ fs.length ≤ 1000 ∧ H dx = some (.own a) := by
  obtain ⟨d, z, ne, ob, mA, n, r, q⟩ := (show ObjOk P w H h a (.ins C dx fs) from hok a _ e)
  exact ⟨mA, ⟨ob, n, ne⟩, r, q, z, d⟩
end

structure Cls (K : PySem.W.Frag) (C : Addr) : Prop where
  pg : PySem.W.plainGet K C Str.empty = true
  hd : PySem.W.hasDictIn K C = true
  po : PySem.W.plainOver K C = true
  sa : PySem.W.findIn K (.ref C) "__setattr__" = some (some (.builtin "object.__setattr__"))
theorem Cls.get {K : PySem.W.Frag} {C : Addr} (c : Cls K C) (f : Str) : PySem.W.plainGet K C f = true := c.pg
noncomputable def NoAttr (K : PySem.W.Frag) (C : Addr) (f : Str) : Prop := PySem.W.findIn K (.ref C) f = some none
structure Con (K : PySem.W.Frag) (C : Addr) (f : Str) (v : V) (u : Value) : Prop where
  at_ : PySem.W.findIn K (.ref C) f = some (some u)
  rel : RelV v u
  get : PySem.W.specialIn K u "__get__" = some none
  cp : PySem.W.copiedNames.contains f = false
structure Meth (K : PySem.W.Frag) (C : Addr) (m : Str) (f : Addr) : Prop where
  at_ : PySem.W.findIn K (.ref C) m = some (some (.ref f))
  fn : PySem.W.isFn K (.ref f) = true
  kp : PySem.W.keepIn K (.ref f) = true

section
variable {X : Cx} {pins : List (Addr × Obj)} {σ : St} {H : Hp} {s : Shared} {a C dx : Addr} {fs : List (Str × V)} {f : Str} {v : V} {A : Around} {E : Value → Shared → Prop}

end

section
variable {X : Cx} {o e value : Expr} {f : Str} {pos pos' tpos : Pos} {ta tv : TE}
end

section
variable {X : Cx} {pins : List (Addr × Obj)} {σ : St} {H : Hp} {s : Shared} {A : Around} {E : Value → Shared → Prop} {Q : Value → Shared → Prop} {c : Value} {b : Bool}
inductive TyOf (K : PySem.W.Frag) (H : Hp) : V → Value → Prop where
  | non : TyOf K H .non (.type "NoneType")
  | bl (x : Bool) : TyOf K H (.bl x) (.type "bool")
  | int (i : Int) : TyOf K H (.int i) (.type "int")
  | str (x : Str) : TyOf K H (.str x) (.type "str")
  | flt (x : UInt64) : TyOf K H (.flt x) (.type "float")
  | lst {a : Addr} {xs : List V} (e : H a = some (.lst xs)) : TyOf K H (.ref a) (.type "list")
  | frz {a : Addr} {o : Obj} {xs : List V} (e : H a = some (.frz o (.lst xs))) : TyOf K H (.ref a) (.type "list")
  | tup {a : Addr} {xs : List V} (e : H a = some (.tup xs)) : TyOf K H (.ref a) (.type "tuple")
  | dK {a : Addr} {kvs : List (Key × V)} (e : H a = some (.dK kvs)) : TyOf K H (.ref a) (.type "dict")
  | dT {a : Addr} {kvs : List (List Key × V)} (e : H a = some (.dT kvs)) : TyOf K H (.ref a) (.type "dict")
  | ins {a C dx : Addr} {fs : List (Str × V)} (e : H a = some (.ins C dx fs)) (cl : Cls K C) (ha : PySem.W.findIn K (.ref C) "__class__" = some (some (.builtin "object.__class__")))
      (hn : PySem.W.specialIn K (.builtin "object.__class__") "__get__" = some (some (.builtin "getset_descriptor.__get__"))) (htk : PySem.W.takesIn K (.builtin "object.__class__") = some true)
      (hm : PySem.W.mroIn K C (.type "object") = some true) : TyOf K H (.ref a) (.ref C)
theorem isinst_ok {x : V} {u t : Value} (I : Inv X pins σ H s) (rx : RelV x u) (ty : TyOf X.K H x t) (e : PySem.W.kitOne X.K t c = some b) (h : ∀ tk, Q (.bool b) { s with toks := tk }) :
    wpAny (model X.prog X.w) A (call (.builtin "isinstance") [u, c]) Q E s := by
  cases ty with
  | non => cases (show u = Value.none from rx); exact PySem.W.kia_one PySem.W.kitx_none I.kIn True.intro e (fun z => nomatch z) h
  | bl y => cases (show u = Value.bool y from rx); exact PySem.W.kia_one PySem.W.kitx_bool I.kIn True.intro e (fun z => nomatch z) h
  | int i => obtain ⟨t, q⟩ := (show ∃ t, u = Value.int i t from rx); cases q; exact PySem.W.kia_one PySem.W.kitx_int I.kIn True.intro e (fun z => nomatch z) h
  | str y => obtain ⟨t, q⟩ := (show ∃ t, u = Value.str y t from rx); cases q; exact PySem.W.kia_one PySem.W.kitx_str I.kIn True.intro e (fun z => nomatch z) h
  | flt y => obtain ⟨t, q⟩ := (show ∃ t, u = Value.float y t from rx); cases q; exact PySem.W.kia_one PySem.W.kitx_float I.kIn True.intro e (fun z => nomatch z) h
  | @lst a xs ea =>
    cases (show u = Value.ref a from rx)
    obtain ⟨_, _, n, _, h1⟩ := (show ObjOk X.prog X.w H s.heap a (.lst xs) from I.hok a _ ea)
    exact PySem.W.kia_one PySem.W.kitx_list I.kIn ⟨_, h1, rfl⟩ e (fun z => nomatch z) h
  | @frz a ob xs ea =>
    cases (show u = Value.ref a from rx)
    obtain ⟨_, _, _, n, _, h1⟩ := (show ObjOk X.prog X.w H s.heap a (.frz ob (.lst xs)) from I.hok a _ ea)
    exact PySem.W.kia_one PySem.W.kitx_list I.kIn ⟨_, h1, rfl⟩ e (fun z => nomatch z) h
  | @tup a xs ea =>
    cases (show u = Value.ref a from rx)
    obtain ⟨_, _, _, p⟩ := (show ObjOk X.prog X.w H s.heap a (.tup xs) from I.hok a _ ea)
    obtain ⟨o, h1, h2, _⟩ := p
    exact PySem.W.kia_one PySem.W.kitx_tuple I.kIn ⟨o, h1, h2⟩ e (fun z => nomatch z) h
  | @dK a kvs ea =>
    cases (show u = Value.ref a from rx)
    obtain ⟨_, _, vs, _, p⟩ := (show ObjOk X.prog X.w H s.heap a (.dK kvs) from I.hok a _ ea)
    obtain ⟨o, es, ep, h1, h2, _⟩ := p
    exact PySem.W.kia_one PySem.W.kitx_dict I.kIn ⟨o, h1, h2.1⟩ e (fun z => nomatch z) h
  | @dT a kvs ea =>
    cases (show u = Value.ref a from rx)
    obtain ⟨_, _, xs, _, o, es, ep, h1, h2, _⟩ := (show ObjOk X.prog X.w H s.heap a (.dT kvs) from I.hok a _ ea)
    exact PySem.W.kia_one PySem.W.kitx_dict I.kIn ⟨o, h1, h2.1⟩ e (fun z => nomatch z) h
  | @ins a C dx fs ea cl ha hn htk hm =>
    cases (show u = Value.ref a from rx)
    obtain ⟨mA, O, _⟩ := ins_get I.hok ea
    obtain ⟨od, J, _⟩ := O.look
    exact PySem.W.kia_one (PySem.W.kitx_own (cl.get _) cl.hd ha hn htk hm) I.kIn J e (fun z => nomatch z) h
end
end L2

namespace L2
open PySem PySem.Spec PyProof.Rows

structure Room (k : Nat) (A : Around) : Prop where
  hd : A.handled = none
  dp : A.depth + 3 * k + 5 < recursionLimit
  un : A.units + 16 * k + 200 < cLine
theorem Room.mono {j k : Nat} {A : Around} (r : Room k A) (h : j ≤ k) : Room j A := ⟨r.hd, by have := r.dp; omega, by have := r.un; omega⟩
theorem Room.deeper {k : Nat} {A : Around} (r : Room (k + 1) A) (env : Env) : Room k (A.deeper env) :=
  ⟨r.hd, by have := r.dp; show A.depth + 1 + 3 * k + 5 < _; omega, by have := r.un; show A.units + 3 + 16 * k + 200 < _; omega⟩
theorem Room.depth {k : Nat} {A : Around} (r : Room k A) : A.depth < recursionLimit := by have := r.dp; omega
theorem Room.units {k : Nat} {A : Around} (r : Room k A) : A.units + 64 < cLine := by have := r.un; omega
noncomputable def tNil : TA := fun _ H Q => Q [] H
noncomputable def tCons (ta : TE) (tr : TA) : TA := fun σ H Q => ta σ H fun x H1 => tr σ H1 fun xs H2 => Q (x :: xs) H2
section
variable {X : Cx} {e : Expr} {es : List Expr} {te : TE} {t : TA} {pos : Pos}
theorem pa_nil : PA X [] tNil := fun _ _ _ _ H Q I h => Calls.spliced_nil ⟨[], H, I, .nil, h⟩
theorem pa_cons (ha : PE X e te) (hr : PA X es t) (hs : starEach (e :: es) X.env = (false, eval e X.env) :: starEach es X.env := by rfl) : PA X (e :: es) (tCons te t) := by
  intro pos pins s σ H Q I h
  rw [hs]
  show wpAny _ _ (spliced ((false, eval e X.env) :: backTo pos (starEach es X.env))) _ _ s
  refine Calls.spliced_cons (thn (ha pins s σ H _ I h) fun u s1 ⟨x, H1, I1, r1, q1⟩ => ?_)
  exact thn (hr pos pins s1 σ H1 _ I1 q1) fun us s2 ⟨xs, H2, I2, r2, q2⟩ => ⟨x :: xs, H2, I2, .cons r1 r2, q2⟩

noncomputable def tTup (t : TA) : TE := fun σ H Q => t σ H fun xs H1 => xs.length ≤ sizeLine ∧ ∀ p, H1 p = none → Q (.ref p) (upd H1 p (.tup xs))
noncomputable def tLst (t : TA) : TE := fun σ H Q => t σ H fun xs H1 => xs.length ≤ sizeLine ∧ ∀ p, H1 p = none → Q (.ref p) (upd H1 p (.lst xs))
theorem pe_tup {x1} (h : PA X es t) : PE X (.Tuple es x1 pos) (tTup t) := by
  intro pins s σ H Q I hq
  refine wpAny_Tuple_spliced (thn (h pos pins s σ H _ I hq) fun us s1 ⟨xs, H1, I1, r, z, q⟩ => ⟨by rw [← r.length]; exact z, ?_⟩)
  have hf : H1 s1.heap.objs.size = none := I1.hok.fresh (Nat.le_refl _)
  refine ⟨.ref s1.heap.objs.size, upd H1 s1.heap.objs.size (.tup xs), I1.laid (t' := s1.toks) (fun b u e => Heap.get?_push_of_some _ e) (Nat.le_refl _) ?_, rfl, q _ hf⟩
  exact ⟨z, us, r, ⟨_, Heap.get?_push_size _ rfl, rfl, _, rfl⟩⟩
theorem pe_lst (h : PA X es t) : PE X (.List es pos) (tLst t) := by
  intro pins s σ H Q I hq
  refine wpAny_List_spliced (thn (h pos pins s σ H _ I hq) fun us s1 ⟨xs, H1, I1, r, z, q⟩ => ⟨by rw [← r.length]; exact z, ?_⟩)
  have hf : H1 s1.heap.objs.size = none := I1.hok.fresh (Nat.le_refl _)
  refine ⟨.ref s1.heap.objs.size, upd H1 s1.heap.objs.size (.lst xs), I1.laid (t' := s1.toks) (fun b u e => Heap.get?_push_of_some _ e) (Nat.le_refl _) ?_, rfl, q _ hf⟩
  exact ⟨z, us, 0, r, Heap.get?_push_size _ rfl⟩
end

noncomputable abbrev Sp := List V → Hp → VK → XK → Prop
noncomputable abbrev CXT := List Env → Hp → Shared → XK → Value → Shared → Prop

structure Env0 (P : Program) (w : World) (K : PySem.W.Frag) (mg : Str → Option Value) (base : Heap) (A : Around) (outer : List Env) (s : Shared) (H : Hp) : Prop where
  frames : A.frames = some outer
  mod : Mod K mg base
  bs : ∀ b o, base.get? b = some o → s.heap.get? b = some o ∧ H b = none
  bsz : base.objs.size ≤ s.heap.objs.size
  funs : s.heap.FunFrames base outer
  frf : ∀ b ∈ frs outer, H b = none
  hok : HOk P w H s.heap
  bare : AllBare s.gens
noncomputable def CE (outer : List Env) (P : Program) (w : World) (H : Hp) (s : Shared) (Q : VK) (u : Value) (s' : Shared) : Prop :=
  ∃ v H', s'.os = s.os ∧ AllBare s'.gens ∧ Un (frs outer) [] H H' s.heap s'.heap ∧ HOk P w H' s'.heap ∧ RelV v u ∧ Q v H'
noncomputable def CR (CX : CXT) (outer : List Env) (P : Program) (w : World) (H : Hp) (s : Shared) (Q : VK) (E : XK) (r : Result) (s' : Shared) : Prop :=
  match r with
  | .ok (.ret u) => CE outer P w H s Q u s'
  | .ok _ => False
  | .error e => CX outer H s E e s'
structure FnOk (P : Program) (w : World) (K : PySem.W.Frag) (mg : Str → Option Value) (base : Heap) (CX : CXT) (k : Nat) (f : Addr) (fd : FuncData) (ps : List Str) (sp : Sp) : Prop where
  len : ∀ vs H Q E, sp vs H Q E → vs.length = ps.length
  run : ∀ (A : Around) (outer : List Env) (s : Shared) (H : Hp) (args : Args) (us : List Value) (vs : List V) (Q : VK) (E : XK), Room k A → Env0 P w K mg base A outer s H → BindsTo s fd args (ps.zip us) → Vals vs us → sp vs H Q E →
    codeAny (model P w) A (.call (.ref f) args) (CR CX outer P w H s Q E) s
theorem FnOk.mono {P : Program} {w : World} {K : PySem.W.Frag} {mg : Str → Option Value} {base : Heap} {CX : CXT} {j k : Nat} {f : Addr} {fd : FuncData} {ps : List Str} {sp : Sp} (F : FnOk P w K mg base CX j f fd ps sp) (h : j ≤ k) :
    FnOk P w K mg base CX k f fd ps sp := ⟨F.len, fun A outer s H args us vs Q E hr => F.run A outer s H args us vs Q E (hr.mono h)⟩
theorem FnOk.imp {P : Program} {w : World} {K : PySem.W.Frag} {mg : Str → Option Value} {base : Heap} {CX : CXT} {k : Nat} {f : Addr} {fd : FuncData} {ps : List Str} {sp sp' : Sp} (F : FnOk P w K mg base CX k f fd ps sp)
    (h : ∀ vs H Q E, sp' vs H Q E → sp vs H Q E) : FnOk P w K mg base CX k f fd ps sp' :=
  ⟨fun vs H Q E q => F.len vs H Q E (h _ _ _ _ q), fun A outer s H args us vs Q E hr he hb hv hs => F.run A outer s H args us vs Q E hr he hb hv (h _ _ _ _ hs)⟩

section
variable {X : Cx} {pins : List (Addr × Obj)} {σ : St} {H : Hp} {s s' : Shared}
theorem Inv.env0 (I : Inv X pins σ H s) : Env0 X.prog X.w X.K X.mg X.base X.A X.stack s H :=
  ⟨I.ok.frames, I.ok.mod, I.bs, Nat.le_trans I.ok.bsz I.sz, I.stack, I.stkFree, I.hok, I.bare⟩
theorem Inv.after {Q : VK} {u : Value} (I : Inv X pins σ H s) (h : CE X.stack X.prog X.w H s Q u s') : EP X pins σ Q u s' := by
  obtain ⟨v, H', os, bare, un, hok, r, q⟩ := h
  obtain ⟨hh, g, d, t, os'⟩ := s'
  obtain rfl : os' = s.os := os
  exact ⟨v, H', I.call (h' := hh) (g' := g) (d' := d) (t' := t) (ch := []) un hok bare (fun b z => absurd z (by simp)), r, q⟩
end

noncomputable def tCall (sp : Sp) (dvs : List V) (E : XK) (t : TA) : TE := fun σ H Q => t σ H fun vs H1 => sp (vs ++ dvs) H1 Q E
noncomputable def Binds (K : PySem.W.Frag) (fd : FuncData) (ps : List Str) (ds : List Value) : Prop :=
  ∀ (s : Shared) (us : List Value), K.In s.heap → (us ++ ds).length = ps.length → BindsTo s fd ⟨us, []⟩ (ps.zip (us ++ ds))
theorem Binds.all {K : PySem.W.Frag} {fd : FuncData} {ps : List Str} (h : ∀ us : List Value, us.length = ps.length → bindArgs fd ⟨us, []⟩ = pure (ps.zip us)) : Binds K fd ps [] := fun s us _ hl => by
  rw [List.append_nil] at hl ⊢
  exact .of_eq (h us hl)

noncomputable def Passes (CX : CXT) (X : Cx) (E : XK) : Prop := ∀ (pins : List (Addr × Obj)) (σ : St) (H : Hp) (s : Shared) (e : Value) (s' : Shared), Inv X pins σ H s → CX X.stack H s E e s' → X.xe e s'

section
variable {X : Cx} {CX : CXT} {k : Nat} {f C : Addr} {fd : FuncData} {ps : List Str} {sp : Sp} {dvs : List V} {ds : List Value} {E : XK} {x m : Str} {p pos apos : Pos} {e o : Expr} {es : List Expr} {ta : TE} {t : TA}

theorem run_fn {pins : List (Addr × Obj)} {σ : St} {H : Hp} {s : Shared} {Q : VK} {us : List Value} {vs : List V} (F : FnOk X.prog X.w X.K X.mg X.base CX k f fd ps sp) (hr : Room k X.A) (hb : Binds X.K fd ps ds) (hd : Vals dvs ds) (hx : Passes CX X E)
    (I : Inv X pins σ H s) (r : Vals vs us) (h : sp (vs ++ dvs) H Q E) : wpAny (model X.prog X.w) X.A (call (.ref f) us) (EP X pins σ Q) X.xe s := by
  have r2 : Vals (vs ++ dvs) (us ++ ds) := r.append hd
  have hl : (us ++ ds).length = ps.length := by rw [← r2.length]; exact F.len _ _ _ _ h
  refine wpAny_call (codeAny_mono (F.run X.A X.stack s H ⟨us, []⟩ (us ++ ds) (vs ++ dvs) Q E hr I.env0 (hb s us I.kIn hl) r2 h) fun r s' hq => ?_)
  cases r with
  | error e => exact hx pins σ H s e s' I hq
  | ok fl =>
    cases fl with
    | ret u => exact I.after hq
    | next => exact False.elim hq
    | brk => exact False.elim hq
    | cont => exact False.elim hq

theorem pe_call (F : FnOk X.prog X.w X.K X.mg X.base CX k f fd ps sp) (hr : Room k X.A) (hg : Gl X x) (hm : X.mg x = some (.ref f)) (hk : PySem.W.keepIn X.K (.ref f) = true) (hb : Binds X.K fd ps ds) (hd : Vals dvs ds) (hx : Passes CX X E)
    (ha : PA X (e :: es) t) (hdb : (x == ("__debug__" : Str)) = false := by decide) (he : starEach (e :: es) X.env = (false, eval e X.env) :: starEach es X.env := by rfl) (hpl : (backTo pos (starEach es X.env)).any (·.1) = false := by rfl) :
    PE X (.Call (.Name x p) (e :: es) [] pos) (tCall sp dvs E t) := by
  intro pins s σ H Q I h
  refine wpAny_Call_Name_kw (ld_glob I hg hm ?_ hdb)
  refine PySem.W.callWith_K (h₀ := X.base) I.ok.mod.kin hk (thn (ha pos pins s σ H _ I h) fun us s1 ⟨vs, H1, I1, r, q⟩ => ⟨I1.kIn, ?_⟩) he hpl
  exact run_fn F hr hb hd hx I1 r q
structure Mk (K : PySem.W.Frag) (C f : Addr) : Prop where
  makes : PySem.W.makesIn K C = true
  init : PySem.W.findIn K (.ref C) "__init__" = some (some (.ref f))
  fn : PySem.W.isFn K (.ref f) = true
  kp : PySem.W.keepIn K (.ref C) = true

end

section
variable {X : Cx} {CX : CXT} {k : Nat} {f C : Addr} {fd : FuncData} {ps ks : List Str} {sp : Sp} {E : XK} {x m : Str} {p pos apos kpos : Pos} {e o : Expr} {es : List Expr} {kws : List Keyword} {te ta : TE} {t tk : TA} {nm : Option Str}
structure KBinds (K : PySem.W.Frag) (fd : FuncData) (ps ks : List Str) (g : List Value → List Value → List Value) (gV : List V → List V → List V) : Prop where
  to : ∀ (s : Shared) (us ws : List Value), K.In s.heap → (g us ws).length = ps.length → BindsTo s fd ⟨us, ks.zip ws⟩ (ps.zip (g us ws))
  rel : ∀ {vs : List V} {us : List Value} {zs : List V} {ws : List Value}, Vals vs us → Vals zs ws → Vals (gV vs zs) (g us ws)
variable {g : List Value → List Value → List Value} {gV : List V → List V → List V}
end

structure FnScope (N P : List Str) (sc : Scope) : Prop where
  kind : sc.kind = .function
  co : sc.isCoroutine = false
  gen : sc.isGenerator = false
  nd : N.Nodup
  pre : N.take P.length = P
  par : ∀ x ∈ P, sc.names.lookup x = some .local ∨ sc.names.lookup x = some .cell
  nofree : ∀ y ∈ sc.names, y.2 ≠ .free

theorem bindL_out {kindOf : Str → Option NameKind} {x : Str} : ∀ {binds : List (Str × Value)} {m : Str → Option Value}, (∀ v, (x, v) ∉ binds) → bindL kindOf binds m x = m x
  | [], _, _ => rfl
  | (n, v) :: r, m, h => by
    unfold bindL
    rw [bindL_out fun w hw => h w (List.mem_cons_of_mem _ hw)]
    split
    · have : x ≠ n := by rintro rfl; exact h v List.mem_cons_self
      simp [this]
    · rfl
theorem bindC_out {kindOf : Str → Option NameKind} {x : Str} : ∀ {binds : List (Str × Value)} {m : Str → Option Value}, (∀ v, (x, v) ∉ binds) → bindC kindOf binds m x = m x
  | [], _, _ => rfl
  | (n, v) :: r, m, h => by
    unfold bindC
    rw [bindC_out fun w hw => h w (List.mem_cons_of_mem _ hw)]
    split
    · rfl
    · have : x ≠ n := by rintro rfl; exact h v List.mem_cons_self
      simp [this]
theorem bindL_get {kindOf : Str → Option NameKind} {x : Str} {v : Value} : ∀ {P : List Str} {vs : List Value} {i : Nat} {m : Str → Option Value}, P.Nodup → P[i]? = some x → vs[i]? = some v → kindOf x = some .local →
    bindL kindOf (P.zip vs) m x = some v
  | [], _, _, _, _, h, _, _ => by simp at h
  | _ :: _, [], _, _, _, _, h, _ => by simp at h
  | p :: P, w :: vs, 0, m, nd, h1, h2, hk => by
    simp at h1 h2; subst h1; subst h2
    show bindL kindOf ((p, w) :: P.zip vs) m p = _
    unfold bindL
    rw [bindL_out fun v hv => (List.nodup_cons.mp nd).1 (List.of_mem_zip hv).1, if_pos hk]
    simp
  | p :: P, w :: vs, i + 1, m, nd, h1, h2, hk => by
    show bindL kindOf ((p, w) :: P.zip vs) m x = _
    unfold bindL
    exact bindL_get (i := i) (List.nodup_cons.mp nd).2 (by simpa using h1) (by simpa using h2) hk
theorem bindC_get {kindOf : Str → Option NameKind} {x : Str} {v : Value} : ∀ {P : List Str} {vs : List Value} {i : Nat} {m : Str → Option Value}, P.Nodup → P[i]? = some x → vs[i]? = some v → kindOf x ≠ some .local →
    bindC kindOf (P.zip vs) m x = some v
  | [], _, _, _, _, h, _, _ => by simp at h
  | _ :: _, [], _, _, _, _, h, _ => by simp at h
  | p :: P, w :: vs, 0, m, nd, h1, h2, hk => by
    simp at h1 h2; subst h1; subst h2
    show bindC kindOf ((p, w) :: P.zip vs) m p = _
    unfold bindC
    rw [bindC_out fun v hv => (List.nodup_cons.mp nd).1 (List.of_mem_zip hv).1, if_neg hk]
    simp
  | p :: P, w :: vs, i + 1, m, nd, h1, h2, hk => by
    show bindC kindOf ((p, w) :: P.zip vs) m x = _
    unfold bindC
    exact bindC_get (i := i) (List.nodup_cons.mp nd).2 (by simpa using h1) (by simpa using h2) hk

noncomputable def start (N : List Str) (vs : List V) : St := vs.map some ++ List.replicate (N.length - vs.length) none

noncomputable def cxOf (CX : CXT) (P : Program) (w : World) (K : PySem.W.Frag) (mg : Str → Option Value) (base : Heap) (N : List Str) (qual : Str) (scope : Scope) (f : Addr) (cd : Value) (A : Around) (outer : List Env) (s : Shared) (H : Hp) (E : XK) : Cx where
  prog := P
  w := w
  K := K
  mg := mg
  base := base
  A := A.deeper (envOfC qual scope s.heap.objs.size f cd)
  N := N
  s₀ := s
  H₀ := H
  env := envOfC qual scope s.heap.objs.size f cd
  outer := outer
  stack := envOfC qual scope s.heap.objs.size f cd :: outer
  ex := []
  calm := true
  fn := fun _ => true
  pn := []
  xe := fun e s' => wpAny (model P w) (A.deeper (envOfC qual scope s.heap.objs.size f cd)) (leaving (envOfC qual scope s.heap.objs.size f cd) e) (fun _ s'' => CX outer H s E e s'') (fun e' s'' => CX outer H s E e' s'') s'

theorem cell_has {sc : Scope} {n : Nat} {x : Str} (h : sc.names.lookup x = some .cell) : ∃ c, (cellsFrom n sc.names []).lookup x = some c := by
  have q := PySem.W.cellsFrom_some sc.names n [] (.inl h)
  exact Option.isSome_iff_exists.mp q

theorem inv_start {CX : CXT} {P : Program} {w : World} {K : PySem.W.Frag} {mg : Str → Option Value} {base : Heap} {N ps : List Str} {qual : Str} {scope : Scope} {f : Addr} {cd : Value} {A : Around} {outer : List Env} {s s1 : Shared} {H : Hp} {E : XK} {us : List Value} {vs : List V}
    (S : FnScope N ps scope) (hd : A.handled = none) (e0 : Env0 P w K mg base A outer s H) (hl : vs.length = ps.length) (r : Vals vs us)
    (x : InCallC s s.heap.objs.size (bindL (envOfC qual scope s.heap.objs.size f cd).kindOf (ps.zip us) fun _ => none) (cellsFrom (s.heap.objs.size + 1) scope.names []) (bindC (envOfC qual scope s.heap.objs.size f cd).kindOf (ps.zip us) fun _ => none) s1) :
    Inv (cxOf CX P w K mg base N qual scope f cd A outer s H E) [] (start N vs) H s1 := by
  have hpl : ps.length ≤ N.length := by have := congrArg List.length S.pre; rw [List.length_take] at this; omega
  obtain ⟨h1, tk, rfl, hk⟩ := x.done
  have noA : ∀ b : Addr, b ∉ (cxOf CX P w K mg base N qual scope f cd A outer s H E).ex := fun b z => absurd (show b ∈ ([] : List Addr) from z) (by simp)
  refine ⟨⟨e0.mod, S.kind, rfl, rfl, Nat.le_refl _, fun y z c h1 h2 => ?_, fun y hy => ?_, fun y c _ h => ?_, fun _ => hd, Around.frames_deeper e0.frames, .inr ⟨rfl, rfl⟩, fun b z => absurd z (noA b), e0.bs, e0.bsz, fun b _ _ => noA b, fun b z => absurd z (noA b), e0.funs, e0.frf⟩,
    rfl, e0.bare, Un.kept hk, ⟨_, x.toInCall.ns, fun i y v h1 h2 h3 => ?_⟩, fun y c h => ⟨_, x.cell y c h⟩, e0.hok.fresh (Nat.le_refl _), fun y c h => ?_, fun p hp => absurd (show p ∈ ([] : List (Addr × Obj)) from hp) (by simp), e0.hok.kept hk, ?_⟩
  · exact name_of_addr x.apart (PySem.mem_of_lookup h1) (PySem.mem_of_lookup h2)
  · have hy : scope.names.lookup y = some .cell ∨ scope.names.lookup y = some .free := hy
    rcases hy with hy | hy
    · exact cell_has hy
    · exact absurd rfl (S.nofree _ (PySem.mem_of_lookup hy))
  · exact Nat.le_of_lt (x.above y c (PySem.mem_of_lookup h))
  · have hi : i < vs.length := by
      unfold start at h2
      by_cases hi : i < vs.length
      · exact hi
      · rw [List.getElem?_append_right (by simpa using hi)] at h2
        rw [List.getElem?_replicate] at h2
        split at h2 <;> cases h2
    have ha : vs[i]? = some v := by
      unfold start at h2
      rw [List.getElem?_append_left (by simpa using hi), List.getElem?_map] at h2
      cases e : vs[i]? with
      | none => rw [e] at h2; cases h2
      | some a => rw [e] at h2; cases h2; rfl
    obtain ⟨u, hu, rv⟩ := r.get ha
    have hp : ps[i]? = some y := by
      rw [← S.pre, List.getElem?_take_of_lt (by omega)]; exact h1
    have ndP : ps.Nodup := by rw [← S.pre]; exact S.nd.sublist (List.take_sublist _ _)
    refine ⟨u, rv, ?_⟩
    rcases S.par y (List.mem_of_getElem? hp) with k | k
    · exact .inl ⟨k, bindL_get ndP hp hu k⟩
    · obtain ⟨c, e⟩ := cell_has (n := s.heap.objs.size + 1) k
      refine .inr ⟨.inl k, c, e, ?_⟩
      have q := x.cell y c e
      rw [bindC_get ndP hp hu (by show scope.names.lookup y ≠ _; rw [k]; decide)] at q
      exact q
  · exact e0.hok.fresh (Nat.le_of_lt (x.above y c (PySem.mem_of_lookup h)))
  · unfold start
    show _ = N.length
    rw [List.length_append, List.length_map, List.length_replicate]
    omega

theorem fn_of {CX : CXT} {P : Program} {w : World} {K : PySem.W.Frag} {mg : Str → Option Value} {base : Heap} {k : Nat} {f : Addr} {name qual : Str} {params : Arguments} {body : List Stmt} {scope : Scope} {dV kV doc pm cdv ct oc : Value} {an od : Option Addr}
    {osl : Array (Option Value)} {N ps : List Str} {sp : Sp} (lk : K.lookup f = some ⟨oc, od, .func (PySem.W.fnOf name qual params body scope dV kV doc pm an cdv ct), osl⟩) (hcd : PySem.W.codeIn K cdv qual = true) (S : FnScope N ps scope)
    (len : ∀ vs H Q E, sp vs H Q E → vs.length = ps.length)
    (hbody : ∀ (A : Around) (outer : List Env) (s : Shared) (H : Hp) (vs : List V) (Q : VK) (E : XK), Room k (A.deeper (envOfC qual scope s.heap.objs.size f cdv)) → sp vs H Q E →
      ∃ t, PSs (cxOf CX P w K mg base N qual scope f cdv A outer s H E) body t ∧ t { nx := fun _ H' => Q .non H', rt := Q } (start N vs) H) :
    FnOk P w K mg base CX (k + 1) f (PySem.W.fnOf name qual params body scope dV kV doc pm an cdv ct) ps sp := by
  refine ⟨len, fun A outer s H args us vs Q E hr e0 hb r hsp => ?_⟩
  have hl := len _ _ _ _ hsp
  have KX : K.In s.heap := e0.mod.kin.keeps fun b o e => (e0.bs b o e).1
  have lim : s.heap.NoLimit := e0.mod.nolimit.keeps fun b o e => (e0.bs b o e).1
  have hkind : ∀ y ∈ ps.zip us, scope.names.lookup y.1 = some .local ∨ (scope.names.lookup y.1 = some .cell ∧ ((cellsFrom (s.heap.objs.size + 1) scope.names []).lookup y.1).isSome = true) := fun ⟨n, v⟩ hy => by
    rcases S.par n (List.of_mem_zip hy).1 with q | q
    · exact .inl q
    · exact .inr ⟨q, PySem.W.cellsFrom_some _ _ _ (.inl q)⟩
  refine codeAny_call_function hr.depth (KX _ _ lk) rfl S.co S.gen rfl (PySem.W.codeRec_of KX hcd) (hb _ _ _ _ ?_)
  refine wpAny_newFunctionEnv_cells S.kind hkind fun env he s1 x => ?_
  subst he
  refine ⟨lim.keeps x.toInCall.keep, codeAny_func ?_⟩
  obtain ⟨t, ht, hq⟩ := hbody A outer s H vs Q E (hr.deeper _) hsp
  have I : Inv (cxOf CX P w K mg base N qual scope f cdv A outer s H E) [] (start N vs) H s1 := inv_start S hr.hd e0 hl r x
  refine wpAny_mono (ht [] s1 (start N vs) H _ I hq) (fun fl s' hs => ?_) fun e s' hs => hs
  have fin : ∀ {σ' : St} {H' : Hp} {v : V} {u : Value}, Inv (cxOf CX P w K mg base N qual scope f cdv A outer s H E) [] σ' H' s' → RelV v u → Q v H' → CE outer P w H s Q u s' :=
    fun {σ' H' v u} J rv q => ⟨v, H', J.os, J.bare, J.base, J.hok, rv, q⟩
  cases fl with
  | ret u =>
    obtain ⟨v, σ', H', J, rv, q⟩ := hs
    exact fin J rv q
  | next =>
    obtain ⟨σ', H', J, q⟩ := hs
    exact fin (v := V.non) (u := Value.none) J rfl q
  | brk =>
    obtain ⟨_, _, _, q⟩ := hs
    exact False.elim q
  | cont =>
    obtain ⟨_, _, _, q⟩ := hs
    exact False.elim q
end L2

namespace L2
open PySem PySem.Spec PyProof.Rows
section
variable {X : Cx} {x : Str} {p pos : Pos} {e : Expr} {es : List Expr} {t : TA} {id T : String} {r : List V → Hp → VK → Prop}

noncomputable def tCB (r : List V → Hp → VK → Prop) (t : TA) : TE := fun σ H Q => t σ H fun vs H1 => r vs H1 Q
theorem pe_callB (hc : CallR X (.builtin id) r) (hg : Gl X x) (hm : X.mg x = none) (hv : bootBuiltins x = some (.builtin id)) (ha : PA X (e :: es) t) (hn : x ≠ "__name__" := by decide) (hdb : (x == ("__debug__" : Str)) = false := by decide)
    (he : starEach (e :: es) X.env = (false, eval e X.env) :: starEach es X.env := by rfl) (hpl : (backTo pos (starEach es X.env)).any (·.1) = false := by rfl) : PE X (.Call (.Name x p) (e :: es) [] pos) (tCB r t) := by
  intro pins s σ H Q I h
  refine wpAny_Call_Name_kw (ld_blt I hg hm hv ?_ hn hdb)
  exact PyProof.Rows.callWith_builtin1 (thn (ha pos pins s σ H _ I h) fun us s1 ⟨vs, H1, I1, r1, q1⟩ => hc pins s1 σ H1 vs us Q I1 r1 q1) he hpl
theorem pe_callTy (hc : CallR X (.type T) r) (hg : Gl X x) (hm : X.mg x = none) (hv : bootBuiltins x = some (.type T)) (ha : PA X (e :: es) t) (hn : x ≠ "__name__" := by decide) (hdb : (x == ("__debug__" : Str)) = false := by decide)
    (he : starEach (e :: es) X.env = (false, eval e X.env) :: starEach es X.env := by rfl) (hpl : (backTo pos (starEach es X.env)).any (·.1) = false := by rfl) : PE X (.Call (.Name x p) (e :: es) [] pos) (tCB r t) := by
  intro pins s σ H Q I h
  refine wpAny_Call_Name_kw (ld_blt I hg hm hv ?_ hn hdb)
  exact PyProof.Rows.callWith_type1 (thn (ha pos pins s σ H _ I h) fun us s1 ⟨vs, H1, I1, r1, q1⟩ => hc pins s1 σ H1 vs us Q I1 r1 q1) he hpl
end
end L2

namespace HT
open PySem PyProof.Rows

section
open PySem.SeqAt
open PySem.AutoSeq1 (wpAny_loadPart')
open PySem.MeetsSeq PySem.MeetsSeq2 PySem.MeetsSeq3

end

section
variable {prog : Program} {w : World} {A : Around} {E : Value → Shared → Prop} {s : Shared}

theorem cat_tup {t b : Addr} {vs ws : List Value} {Q : Value → Shared → Prop} (ht : IsTup s.heap t vs.toArray) (hb : IsTup s.heap b ws.toArray) (hv : vs ≠ [])
    (h1 : ws = [] → Q (.ref t) s) (h2 : ws ≠ [] → Q (.ref s.heap.objs.size) { s with heap := s.heap.push { cls := .type "tuple", data := .seq (vs ++ ws).toArray } })
    (hsz : vs.length + ws.length ≤ sizeLine) : wpAny (model prog w) A (binaryOp .Add (.ref t) (.ref b)) Q E s := by
  obtain ⟨⟨cls, dd, data, sl⟩, ho, hc, n, hd⟩ := id ht
  obtain ⟨⟨cls2, dd2, data2, sl2⟩, ho2, hc2, n2, hd2⟩ := id hb
  simp only at hc hd hc2 hd2
  subst hc hd hc2 hd2
  have e : vs.toArray ++ ws.toArray = (vs ++ ws).toArray := by simp
  by_cases hw : ws = []
  · exact concat_meets ⟨_, ho, rfl⟩ ⟨_, ho2, rfl⟩ noFill_tuple_add seq_tuple_add PySem.F.slot_tuple_add PySem.F.entry_tuple_add (PySem.F.args_tuple_add_2 _ _)
      (tuple_addW1 t b vs.toArray ws.toArray n n2 dd dd2 sl sl2 (by simpa using hv) (by simp [hw])) ⟨ho, ho2, h1 hw⟩
  · refine concat_meets ⟨_, ho, rfl⟩ ⟨_, ho2, rfl⟩ noFill_tuple_add seq_tuple_add PySem.F.slot_tuple_add PySem.F.entry_tuple_add (PySem.F.args_tuple_add_2 _ _)
      (tuple_addW2 t b vs.toArray ws.toArray n n2 dd dd2 sl sl2 (by simpa using hv) (by simpa using hw) (by rw [List.size_toArray, List.size_toArray]; exact hsz)) ⟨ho, ho2, ?_⟩
    rw [e]
    exact h2 hw

end
end HT

namespace L2
open PySem PySem.Spec PyProof.Rows

noncomputable abbrev TO := St → Hp → (Option Int → Hp → Prop) → Prop
noncomputable def PO (X : Cx) (e : Option Expr) (t : TO) : Prop :=
  ∀ (pins : List (Addr × Obj)) (s : Shared) (σ : St) (H : Hp) (Q : Option Int → Hp → Prop), Inv X pins σ H s → t σ H Q →
    wpAny (model X.prog X.w) X.A (evalPart e X.env) (fun u s' => ∃ o H', Inv X pins σ H' s' ∧ IsPart u o ∧ Q o H') X.xe s
section
variable {X : Cx} {e : Expr} {te : TE} {lo hi : Option Expr} {tl th : TO} {pos p2 : Pos}

noncomputable def SlR (X : Cx) (r : V → Option Int → Option Int → Hp → VK → Prop) : Prop :=
  ∀ (pins : List (Addr × Obj)) (s : Shared) (σ : St) (H : Hp) (x : V) (v vl vu : Value) (lo hi : Option Int) (sl : Addr) (Q : VK), Inv X pins σ H s → RelV x v → s.heap.IsSliceOf sl vl vu .none → IsPart vl lo → IsPart vu hi → r x lo hi H Q →
    ∃ T id, typeLookup (.type T) "__getitem__" = pure (some (.builtin id)) ∧ s.TypeIs v T ∧ wpAny (model X.prog X.w) X.A (getItem v (.ref sl)) (EP X pins σ Q) X.xe s
theorem SlR.or {r r' : V → Option Int → Option Int → Hp → VK → Prop} (h : SlR X r) (h' : SlR X r') : SlR X (fun x lo hi H Q => r x lo hi H Q ∨ r' x lo hi H Q) := by
  intro pins s σ H x v vl vu lo hi sl Q I rx hs pl pu q
  rcases q with q | q
  · exact h pins s σ H x v vl vu lo hi sl Q I rx hs pl pu q
  · exact h' pins s σ H x v vl vu lo hi sl Q I rx hs pl pu q
noncomputable def rCatT (K : PySem.W.Frag) : R2 := fun x y H Q => ∃ a b xs ys, x = .ref a ∧ y = .ref b ∧ SqT K H a xs ∧ SqT K H b ys ∧ xs ≠ [] ∧ xs.length + ys.length ≤ sizeLine ∧
  (ys = [] → Q (.ref a) H) ∧ (ys ≠ [] → ∀ p, H p = none → Q (.ref p) (upd H p (.tup (xs ++ ys))))
theorem Vals.nil_iff {xs : List V} {us : List Value} (r : Vals xs us) : us = [] ↔ xs = [] := by
  cases r with
  | nil => simp
  | cons _ _ => simp
theorem op_catT : OpR X (binaryOp .Add) (rCatT X.K) := by
  intro pins s σ H x y v u Q I rx ry h
  obtain ⟨a, b, xs, ys, rfl, rfl, ha, hb, hx, hz, q1, q2⟩ := h
  cases rx
  cases ry
  obtain ⟨its, r1, p1, _⟩ := I.tuple ha
  obtain ⟨its2, r2, p2, _⟩ := I.tuple hb
  refine HT.cat_tup p1 p2 (fun z => hx (r1.nil_iff.mp z)) (fun z => ⟨.ref a, H, I, rfl, q1 (r2.nil_iff.mp z)⟩) (fun z => ?_) (by rw [← r1.length, ← r2.length]; exact hz)
  refine ⟨.ref s.heap.objs.size, _, I.laid (t' := s.toks) (o := .tup (xs ++ ys)) (fun b ob q => Heap.get?_push_of_some _ q) (Nat.le_refl _) ?_, rfl, q2 (fun w => z (r2.nil_iff.mpr w)) _ (I.hok.fresh (Nat.le_refl _))⟩
  exact ⟨by rw [List.length_append]; exact hz, _, r1.append r2, IsTup.new _ _⟩
end
end L2

namespace L2
open PySem PySem.Spec PyProof.Rows

noncomputable def ixN (n : Nat) (i : Int) : Option Nat := if 0 ≤ i then (if i < n then some i.toNat else none) else if -(n : Int) ≤ i then some (i + n).toNat else none
noncomputable def atI {α : Type} (xs : List α) (i : Int) : Option α := (ixN xs.length i).bind fun j => xs[j]?
theorem ixN_seq {n : Nat} {i : Int} {j : Nat} (h : ixN n i = some j) : seqIndex? i n = some j ∧ j < n ∧ -(n : Int) ≤ i ∧ i < n := by
  unfold ixN at h
  by_cases h0 : 0 ≤ i
  · rw [if_pos h0] at h
    by_cases h1 : i < n
    · rw [if_pos h1] at h
      have e : i.toNat = j := Option.some.inj h
      exact ⟨by rw [seqIndex_of h0 h1, e], by omega, by omega, h1⟩
    · rw [if_neg h1] at h; cases h
  · rw [if_neg h0] at h
    by_cases h1 : -(n : Int) ≤ i
    · rw [if_pos h1] at h
      have e : (i + n).toNat = j := Option.some.inj h
      exact ⟨by rw [seqIndex_neg (by omega) h1, e], by omega, h1, by omega⟩
    · rw [if_neg h1] at h; cases h
theorem atI_get {α : Type} {xs : List α} {i : Int} {v : α} (h : atI xs i = some v) : ∃ j, seqIndex? i xs.length = some j ∧ xs[j]? = some v ∧ j < xs.length ∧ -(xs.length : Int) ≤ i ∧ i < xs.length := by
  unfold atI at h
  cases e : ixN xs.length i with
  | none => rw [e] at h; cases h
  | some j =>
    rw [e] at h
    obtain ⟨h1, h2, h3, h4⟩ := ixN_seq e
    exact ⟨j, h1, h, h2, h3, h4⟩
noncomputable def PlainIx (b : Expr) : Prop := ∀ o i, subscripted b false o i = operate [o, i] (getItem o i)
noncomputable def IxR (X : Cx) (r : R2) : Prop :=
  ∀ (value slice : Expr) (pins : List (Addr × Obj)) (s : Shared) (σ : St) (H : Hp) (x y : V) (v u : Value) (Q : VK), Inv X pins σ H s → RelV x v → RelV y u → r x y H Q →
    subscripted slice false v u = operate [v, u] (getItem v u) → wpAny (model X.prog X.w) X.A (subscriptTail value slice v u) (EP X pins σ Q) X.xe s
noncomputable def MtR (X : Cx) (id : String) (r : V → List V → Hp → VK → Prop) : Prop :=
  ∀ (pins : List (Addr × Obj)) (s : Shared) (σ : St) (H : Hp) (x : V) (xs : List V) (v : Value) (us : List Value) (Q : VK), Inv X pins σ H s → RelV x v → Vals xs us → r x xs H Q →
    wpAny (model X.prog X.w) X.A (call (.builtin id) (v :: us)) (EP X pins σ Q) X.xe s
section
variable {X : Cx} {a b : Expr} {ta tb : TE} {pos : Pos}
theorem IxR.or {r r' : R2} (h : IxR X r) (h' : IxR X r') : IxR X (fun x y H Q => r x y H Q ∨ r' x y H Q) := by
  intro value slice pins s σ H x y v u Q I rx ry q hs
  rcases q with q | q
  · exact h value slice pins s σ H x y v u Q I rx ry q hs
  · exact h' value slice pins s σ H x y v u Q I rx ry q hs
theorem MtR.or {id : String} {r r' : V → List V → Hp → VK → Prop} (h : MtR X id r) (h' : MtR X id r') : MtR X id (fun x xs H Q => r x xs H Q ∨ r' x xs H Q) := by
  intro pins s σ H x xs v us Q I rx rs q
  rcases q with q | q
  · exact h pins s σ H x xs v us Q I rx rs q
  · exact h' pins s σ H x xs v us Q I rx rs q
theorem pe_ix {r : R2} (hr : IxR X r) (ha : PE X a ta) (hb : PE X b tb) (hs : PlainIx b) : PE X (.Subscript a b pos) (tOp r ta tb) := by
  intro pins s σ H Q I h
  exact Subscript_ (binT ha hb I h fun v u s2 x y H2 I2 rx ry q => hr a b pins s2 σ H2 x y v u Q I2 rx ry q (hs _ _))

noncomputable def rIxL (K : PySem.W.Frag) : R2 := fun x y H Q => ∃ p xs i v, x = .ref p ∧ y = .int i ∧ SqL K H p xs ∧ atI xs i = some v ∧ Q v H
noncomputable def rIxT (K : PySem.W.Frag) : R2 := fun x y H Q => ∃ p xs i v, x = .ref p ∧ y = .int i ∧ SqT K H p xs ∧ atI xs i = some v ∧ Q v H
theorem ix_list : IxR X (rIxL X.K) := by
  intro value slice pins s σ H x y v u Q I rx ry h hs
  obtain ⟨p, xs, i, z, rfl, rfl, hq, he, q⟩ := h
  cases rx
  obtain ⟨t, rfl⟩ := ry
  obtain ⟨its, r, pl, hz⟩ := I.list hq
  obtain ⟨j, h1, h2, h3, h4, h5⟩ := atI_get he
  obtain ⟨w, ew, rw'⟩ := r.get h2
  have hl := r.length
  have hn := line63
  have fin : EP X pins σ Q w s := ⟨z, H, I, rw', q⟩
  by_cases h0 : 0 ≤ i
  · have hj : i.toNat = j := by
      rw [seqIndex_of h0 h5] at h1
      exact Option.some.inj h1
    exact item_listR pl.isList h0 (by omega) (by rw [hj]; simpa using ew) fin hs
  · have hj : (i + (its.toArray.size : Int)).toNat = j := by
      rw [seqIndex_neg (by omega) h4] at h1
      rw [List.size_toArray, ← hl]
      exact Option.some.inj h1
    exact subscriptTail_builtinR (x := w) pl.isList.typeIs slot_list_getitem.lookup
      (wpAny_getItem_list_neg (Q := fun r s' => r = w ∧ EP X pins σ Q r s') pl.isList (by omega) (by rw [List.size_toArray] <;> omega) (by omega) (by rw [hj]; simpa using ew) ⟨rfl, fin⟩) hs
theorem ix_tup : IxR X (rIxT X.K) := by
  intro value slice pins s σ H x y v u Q I rx ry h hs
  obtain ⟨p, xs, i, z, rfl, rfl, hq, he, q⟩ := h
  cases rx
  obtain ⟨t, rfl⟩ := ry
  obtain ⟨its, r, pl, hz⟩ := I.tuple hq
  obtain ⟨j, h1, h2, h3, h4, h5⟩ := atI_get he
  obtain ⟨w, ew, rw'⟩ := r.get h2
  have hl := r.length
  have hn := line63
  have fin : EP X pins σ Q w s := ⟨z, H, I, rw', q⟩
  exact subscriptTail_builtinR (x := w) pl.typeIs slot_tuple_getitem.lookup
    (getItem_tuple (j := j) (Q := fun r s' => r = w ∧ EP X pins σ Q r s') pl (by omega) (by omega) (by rw [List.size_toArray, ← hl]; exact h1) (by simpa using ew) ⟨rfl, fin⟩) hs
theorem Inv.lst {pins : List (Addr × Obj)} {σ : St} {H : Hp} {s : Shared} {p : Addr} {xs : List V} (I : Inv X pins σ H s) (h : H p = some (.lst xs)) :
    ∃ (its : List Value) (n : Nat), Vals xs its ∧ s.heap.get? p = some { cls := .type "list", data := .seq its.toArray n } ∧ xs.length ≤ sizeLine := by
  obtain ⟨z, its, n, r, e⟩ := I.hok p _ h
  exact ⟨its, n, r, e, z⟩
theorem call_len_seq : CallR X (.builtin "len") (fun xs H Q => ∃ p ys, xs = [.ref p] ∧ (SqL X.K H p ys ∨ SqT X.K H p ys) ∧ Q (.int ys.length) H) := by
  intro pins s σ H xs us Q I r h
  obtain ⟨p, ys, rfl, hq, q⟩ := h
  obtain ⟨u, rfl, rx⟩ := vals1 r
  cases rx
  have hn := line63
  rcases hq with hq | hq
  · obtain ⟨its, r', pl, hz⟩ := I.list hq
    have hlen := r'.length
    exact Calls.call_len_list pl.isList (by simp only [List.size_toArray] <;> omega) ⟨.int ys.length, H, I.tok _, ⟨s.toks + 1, by rw [List.size_toArray, hlen]⟩, q⟩
  · obtain ⟨its, r', pl, hz⟩ := I.tuple hq
    have hlen := r'.length
    exact len_tuple pl (by simp only [List.size_toArray] <;> omega) ⟨.int ys.length, H, I.tok _, ⟨s.toks + 1, by rw [List.size_toArray, hlen]⟩, q⟩
theorem CallR.or {f : Value} {r r' : List V → Hp → VK → Prop} (h : CallR X f r) (h' : CallR X f r') : CallR X f (fun xs H Q => r xs H Q ∨ r' xs H Q) := by
  intro pins s σ H xs us Q I rs q
  rcases q with q | q
  · exact h pins s σ H xs us Q I rs q
  · exact h' pins s σ H xs us Q I rs q
noncomputable def tyV (K : PySem.W.Frag) (T : String) (x : V) (H : Hp) : Prop := match x with
  | .str _ => T = "str"
  | .int _ => T = "int"
  | .ref p => (T = "list" ∧ ∃ xs, SqL K H p xs) ∨ (T = "tuple" ∧ ∃ o, K.lookup p = some o ∧ o.cls = .type "tuple" ∧ o.dict = none) ∨
      (T = "dict" ∧ ((∃ kvs, H p = some (.dK kvs)) ∨ ∃ kvs, H p = some (.dT kvs))) ∨ (T = "set" ∧ ∃ S n, H p = some (.set S n))
  | _ => False
theorem tyV_is {pins : List (Addr × Obj)} {σ : St} {H : Hp} {s : Shared} {T : String} {x : V} {v : Value} (I : Inv X pins σ H s) (r : RelV x v) (ty : tyV X.K T x H) :
    s.TypeIs v T ∧ ∀ a, v = .ref a → ∃ ob, s.heap.get? a = some ob ∧ ob.dict = none := by
  cases x with
  | str z =>
    obtain ⟨t, rfl⟩ := r
    cases (show T = "str" from ty)
    exact ⟨typeIs_str s z t, fun _ e => nomatch e⟩
  | int i =>
    obtain ⟨t, rfl⟩ := r
    cases (show T = "int" from ty)
    exact ⟨typeIs_int s i t, fun _ e => nomatch e⟩
  | ref p =>
    cases r
    rcases ty with ⟨rfl, xs, hq⟩ | ⟨rfl, o, hk, hc, hd⟩ | ⟨rfl, hk⟩ | ⟨rfl, S, n, hk⟩
    · obtain ⟨its, _, pl, _⟩ := I.list hq
      refine ⟨pl.isList.typeIs, fun a e => ?_⟩
      cases e
      obtain ⟨o, n, e, c, hd, _⟩ := pl
      exact ⟨o, e, hd⟩
    · refine ⟨⟨o, I.kIn p o hk, hc⟩, fun a e => ?_⟩
      cases e
      exact ⟨o, I.kIn _ o hk, hd⟩
    · have z : ∃ o, s.heap.get? p = some o ∧ o.ExactDict := by
        rcases hk with ⟨kvs, hk⟩ | ⟨kvs, hk⟩
        · obtain ⟨_, _, _, _, o, _, _, e, ex, _⟩ := I.hok p _ hk
          exact ⟨o, e, ex⟩
        · obtain ⟨_, _, _, _, o, _, _, e, ex, _⟩ := I.hok p _ hk
          exact ⟨o, e, ex⟩
      obtain ⟨o, e, ex⟩ := z
      refine ⟨⟨o, e, ex.1⟩, fun a e2 => ?_⟩
      cases e2
      exact ⟨o, e, ex.2.1⟩
    · obtain ⟨o, _, _, _, e, ex, _⟩ := I.hok p _ hk
      refine ⟨⟨o, e, ex.1⟩, fun a e2 => ?_⟩
      cases e2
      exact ⟨o, e, ex.2.1⟩
  | _ => exact False.elim ty
noncomputable def tBM (K : PySem.W.Frag) (T : String) (r : V → List V → Hp → VK → Prop) (to : TE) (t : TA) : TE := fun σ H Q => to σ H fun x H1 => tyV K T x H1 ∧ t σ H1 fun xs H2 => r x xs H2 Q
variable {o e : Expr} {es : List Expr} {to : TE} {t : TA} {name : Str} {apos cpos : Pos} {T id : String} {r : V → List V → Hp → VK → Prop}
theorem pe_bm (pa : PlainAttrs T) (slot : Slot T name id) (hty : typeOf (.builtin id) = pure (.type "method_descriptor")) (hm : MtR X id r) (ho : PE X o to) (ha : PA X (e :: es) t)
    (hbase : attributeBase o name X.env (eval o X.env) = eval o X.env := by rfl)
    (hfew : ((backTo cpos (starEach (e :: es) X.env)).all (fun x => !x.1) && (backToKw cpos (keywordEach [] X.env)).all (fun x => x.1.isSome)
      && decide ((e :: es).length + ([] : List Keyword).length + (if ([] : List Keyword).isEmpty then 0 else 1) < 30)) = true := by rfl)
    (hline : (apos.endLine == cpos.line) = true := by rfl) (hs : starEach (e :: es) X.env = (false, eval e X.env) :: starEach es X.env := by rfl) (hplain : (backTo cpos (starEach es X.env)).any (·.1) = false := by rfl) :
    PE X (.Call (.Attribute o name apos) (e :: es) [] cpos) (tBM X.K T r to t) := by
  intro pins s σ H Q I h
  refine wpAny_Call_method_late hbase hfew hline rfl (thn (ho pins s σ H _ I h) fun v s1 ⟨x, H1, I1, r1, ty, q1⟩ => ?_)
  obtain ⟨h1, h2⟩ := tyV_is I1 r1 ty
  refine ⟨T, id, pa, slot, hty, h1, h2, ?_⟩
  have hA := ha cpos pins s1 σ H1 _ I1 q1
  rw [hs] at hA ⊢
  refine Calls.callWith_builtin (by show (false || (backTo cpos (starEach es X.env)).any (·.1)) = false; rw [hplain] <;> rfl) (Calls.evalArgs_plain ?_)
  exact thn hA fun us s2 ⟨vs, H2, I2, r2, q2⟩ => hm pins s2 σ H2 x vs v us Q I2 r1 r2 q2
/- xs.append(e), list.index on a module's tuple .. are MtR facts of 06m -/
end
end L2

namespace L2
open PySem PySem.Spec PyProof.Rows

noncomputable def MtM (X : Cx) (id : String) (r : V → List V → Hp → VK → Prop) : Prop :=
  ∀ (pins : List (Addr × Obj)) (s : Shared) (σ : St) (H : Hp) (x : V) (xs : List V) (v : Value) (us : List Value) (Q : VK), Inv X pins σ H s → RelV x v → Vals xs us → r x xs H Q →
    wpAny (model X.prog X.w) X.A (call (.builtin id) (v :: us)) (EP X pins σ Q) X.xe s

theorem Vals.one : ∀ {x : V} {us : List Value}, Vals [x] us → ∃ u, us = [u] ∧ RelV x u
  | _, _, .cons r .nil => ⟨_, rfl, r⟩
theorem Vals.two : ∀ {x y : V} {us : List Value}, Vals [x, y] us → ∃ u v, us = [u, v] ∧ RelV x u ∧ RelV y v
  | _, _, _, .cons r (.cons q .nil) => ⟨_, _, rfl, r, q⟩
theorem Vals.zero : ∀ {us : List Value}, Vals [] us → us = []
  | _, .nil => rfl
theorem Vals.reverse {xs : List V} {us : List Value} (h : Vals xs us) : Vals xs.reverse us.reverse := by
  induction h with
  | nil => exact .nil
  | cons r t ih => rw [List.reverse_cons, List.reverse_cons]; exact Vals.append ih (.cons r .nil)
theorem Vals.rep {xs : List V} {us : List Value} (h : Vals xs us) : ∀ k : Nat, Vals (List.replicate k xs).flatten (List.replicate k us).flatten
  | 0 => .nil
  | k + 1 => by
    rw [List.replicate_succ, List.replicate_succ, List.flatten_cons, List.flatten_cons]
    exact Vals.append h (Vals.rep h k)
section
variable {X : Cx} {pins : List (Addr × Obj)} {σ : St} {H : Hp} {s : Shared} {l b : Addr} {xs ys zs : List V}

theorem Inv.lset {its its' : List Value} {n : Nat} {f : Array Value → Array Value} {t' : Nat} (I : Inv X pins σ H s) (hH : H l = some (.lst xs))
    (e : s.heap.get? l = some { cls := .type "list", data := .seq its.toArray n }) (hf : f its.toArray = its'.toArray) (hv : Vals ys its') (hz : ys.length ≤ sizeLine) :
    Inv X pins σ (upd H l (.lst ys)) { s with heap := s.heap.update l (Obj.mapSeq f), toks := t' } := by
  have q := PySem.IsL.update e f
  rw [hf] at q
  refine I.write (x := l) (e := l) (by rw [hH]; exact trivial) (.inl rfl) (fun b' u hb hu => (Heap.get?_update_other s.heap (Obj.mapSeq f) (Ne.symm hb)).trans hu) ⟨_, q⟩ ?_
  exact ⟨hz, its', _, hv, q⟩
theorem Inv.lnew {its : List Value} {t' : Nat} (I : Inv X pins σ H s) (hv : Vals ys its) (hz : ys.length ≤ sizeLine) :
    Inv X pins σ (upd H s.heap.objs.size (.lst ys)) { s with heap := s.heap.push { cls := .type "list", data := .seq its.toArray }, toks := t' } :=
  I.laid (fun _ _ q => Heap.get?_push_of_some _ q) (Nat.le_refl _) ⟨hz, its, 0, hv, Heap.get?_push_size _ rfl⟩
theorem Inv.fresh (I : Inv X pins σ H s) : H s.heap.objs.size = none := I.hok.fresh (Nat.le_refl _)
theorem Inv.lstM (I : Inv X pins σ H s) (hH : H l = some (.lst xs)) : xs.length ≤ sizeLine ∧ ∃ (its : List Value) (n : Nat), Vals xs its ∧ xs.length = its.length ∧ s.heap.get? l = some { cls := .type "list", data := .seq its.toArray n } := by
  obtain ⟨z, its, n, r, e⟩ := I.hok l _ hH
  exact ⟨z, its, n, r, r.length, e⟩

end

section
variable {X : Cx}

noncomputable def rAppend : V → List V → Hp → VK → Prop := fun x vs H Q => ∃ l xs y, x = .ref l ∧ vs = [y] ∧ H l = some (.lst xs) ∧ xs.length < sizeLine ∧ Q .non (upd H l (.lst (xs ++ [y])))
theorem mt_append : MtM X "list.append" rAppend := by
  intro pins s σ H x vs v us Q I rx rv h
  obtain ⟨l, xs, y, rfl, rfl, hH, hz, q⟩ := h
  cases rx
  obtain ⟨u, rfl, ru⟩ := rv.one
  obtain ⟨z, its, n, r, hl, e⟩ := I.lstM hH
  refine call_meets F.slot_list_append ⟨_, e, rfl⟩ F.entry_list_append (F.args_list_append_2 _ _) (PySem.list_append l its.toArray n u (by rw [List.size_toArray]; omega)) ⟨e, ?_⟩
  refine ⟨.non, _, I.lset (its' := its ++ [u]) hH e (by simp) (r.append (.cons ru .nil)) ?_, rfl, q⟩
  rw [List.length_append, List.length_singleton]
  omega

end

section
variable {prog : Program} {w : World} {A : Around} {E : Value → Shared → Prop} {s : Shared}
set_option maxRecDepth 100000 in
end

section
variable {X : Cx}
end
end L2

namespace Att
open PySem PySem.W PySem.Calls PyProof.Rows

theorem ints_of_wellAll {P : Params} {h : Heap} : ∀ (ns : List Int) (vs : List Value), WellAll P h vs (ns.map WData.int) → IntsAre vs ns := by
  intro ns
  induction ns with
  | nil =>
    intro vs w
    rw [List.map_nil] at w
    cases w
    exact .nil
  | cons n ns ih =>
    intro vs w
    rw [List.map_cons] at w
    cases w with
    | cons a b =>
      cases a
      exact .cons _ _ (ih _ b)

theorem script_of {l : OpenLaw} {n : Nat} (hn : l.most = some n) {P : Params} {h : Heap} {args : List WData} {vals : List Value}
    (hpre : l.row.toRowW.claim.pre args = true) (hwl : WellAll P h vals args) :
    ∃ a vs ns, vals = [Value.ref a] ∧ args = [WData.list (ns.map WData.int)] ∧ h.get? a = some { cls := .type "list", data := .seq vs.toArray } ∧ IntsAre vs ns ∧ ns.length ≤ n := by
  have hsh : WShape.hasAll [] args [.list .int] = true := (pre_splitW hpre).1
  have hc : l.pre.holds [] { args := args } = true := (pre_splitW hpre).2
  obtain ⟨d, r, rfl, h1, h2⟩ := hasAllW_cons hsh
  obtain rfl := hasAllW_nil h2
  obtain ⟨xs, rfl, h3⟩ := hasW_list h1
  obtain ⟨ns, rfl⟩ := items_int h3
  have hlen : ns.length ≤ n := by
    unfold OpenLaw.pre at hc
    have h4 : (WTm.not (.lt (.lit (.int (n : Int))) (.len (.arg 0)))).holds [] { args := [.list (ns.map .int)] } = true := by
      have h4 := (holds_andW hc).1
      rw [hn] at h4
      exact h4
    have h5 := condW_of h4 (w_not (w_lt w_lit (w_len_list (w_arg rfl))))
    rw [List.length_map] at h5
    refine Nat.le_of_not_lt fun q => ?_
    have q' : (n : Int) < ((ns.length : Nat) : Int) := by omega
    first
      | (rw [decide_eq_true q'] at h5; exact absurd h5 (by decide))
      | (simp at h5; omega)
  cases hwl with
  | cons w1 w2 =>
    cases w2
    cases w1 with
    | list ho hall => exact ⟨_, _, ns, rfl, rfl, ho, ints_of_wellAll ns _ hall, hlen⟩

theorem post_true (l : OpenLaw) (args : List WData) : l.row.toRowW.claim.post args (.bool true) args = true :=
  postW_of (r := l.row.toRowW) (X := (true == true))
    (show WShape.has [] (.bool true) .bool = true by first | rfl | decide | simp [WShape.has, WShape.arms, WShape.armsAll])
    (show (WTm.eq .res (.lit (.bool true))).value [] { args := args, res := some (.bool true), after := args } = some (.bool (true == true)) from w_eq_bool (w_res rfl) w_lit) rfl

theorem attach_call {l : OpenLaw} {n : Nat} {q : Program} {loose : List Str} {XP : (Str → Option Value) → Heap → Prop} {YP : World → Heap → Prop} {d : DefRec}
    (hn : l.most = some n) (hdf : d.params.defaults = [])
    (call : ∀ (w : World) (s₀ s₁ : Shared) (mg mb : Str → Option Value) (fa : Addr) (o : Obj) (pm cd doc : Value) (a : Addr) (vs : List Value) (ns : List Int),
      Ground q loose [] XP w s₀ mg mb s₁.heap → YP w s₁.heap →
      s₁.heap.get? fa = some o → o.data = .func (docDef d.name d.params d.body d.scope pm cd doc) → s₁.heap.CodeRec cd d.name → mg d.name = some (.ref fa) →
      s₁.heap.get? a = some { cls := .type "list", data := .seq vs.toArray } → IntsAre vs ns → ns.length ≤ n → s₁.gens = #[] →
      codeAny (model l.prog w) callerA (.call (.ref fa) ⟨[.ref a], []⟩) (fun r s' => r = .ok (.ret (.bool true)) ∧ OldK s₁.heap s'.heap ∧ s'.os = s₁.os ∧ AllBare s'.gens) s₁) :
    WalkO q loose XP YP l.row.toRowW d [] (fun f vs => PySem.call f vs) := by
  intro w s₀ s₁ mg mb G Y fa o pm cd doc dV kV ho hd hcd hD hmg hg args vals as hpre hlay hrd hwl hlo
  obtain rfl : dV = .none := Dflts.none hD hdf
  obtain rfl : kV = .none := Dflts.noKw hD
  obtain ⟨a, vs, ns, rfl, rfl, hobj, hints, hlen⟩ := script_of hn hpre hwl
  refine enter_call (codeAny_mono (call w s₀ s₁ mg mb fa o pm cd doc a vs ns G Y ho (fd_plain hd) hcd hmg hobj hints hlen hg) fun r s' hq => ?_)
  obtain ⟨rfl, h2, h3, h4⟩ := hq
  exact ⟨.inl ⟨.bool true, .bool true, [], rfl, fun _ => rfl, .bool true, post_true l _, fun _ => ⟨List.Pairwise.nil, fun _ hm => (nomatch hm)⟩⟩, h2, h3, h4⟩

section
variable {prog : Program} {w : World} {A : Around} {E : Value → Shared → Prop} {s : Shared} {K : Frag}

end
end Att

namespace L2
open PySem PySem.Spec PyProof.Rows

theorem vals_ints : ∀ {vs : List Value} {ns : List Int}, IntsAre vs ns → Vals (ns.map V.int) vs
  | _, _, .nil => .nil
  | _, _, .cons n t h => .cons ⟨t, rfl⟩ (vals_ints h)

noncomputable def Only (H : Hp) : Prop := ∀ b, H b = none ∨ ∃ o xs, H b = some (.frz o (.lst xs))

theorem law_call {P : Program} {w : World} {K : PySem.W.Frag} {mg mb : Str → Option Value} {CX : CXT} {k : Nat} {fa a : Addr} {fd : FuncData} {x : Str} {sp : Sp} {s₁ : Shared} {vs : List Value} {ns : List Int}
    (KX : K.In s₁.heap) (hns : s₁.heap.Ns mainGlobals mg) (hb : s₁.heap.Ns builtinsNs mb) (hbb : ∀ x : Str, x ≠ "__name__" → mb x = bootBuiltins x) (hlim : s₁.heap.NoLimit) (hg : s₁.gens = #[])
    (ha : s₁.heap.get? a = some { cls := .type "list", data := .seq vs.toArray }) (hi : IntsAre vs ns) (hl : ns.length ≤ sizeLine) (hr : Room k callerA)
    (F : ∀ base : Heap, K.In base → base.Ns mainGlobals mg → FnOk P w K mg base CX k fa fd [x] sp) (hbind : ∀ (s : Shared) (u : Value), BindsTo s fd ⟨[u], []⟩ [(x, u)])
    (hsp : ∀ H : Hp, Only H → SqL K H a (ns.map V.int) → sp [.ref a] H (fun v _ => v = .bl true) fun _ _ _ => False)
    (hCX : ∀ H e s', CX [] H s₁ (fun _ _ _ => False) e s' → False) :
    codeAny (model P w) callerA (.call (.ref fa) ⟨[.ref a], []⟩) (fun r s' => r = .ok (.ret (.bool true)) ∧ OldK s₁.heap s'.heap ∧ s'.os = s₁.os ∧ AllBare s'.gens) s₁ := by
  have rv := vals_ints hi
  have lenV := hi.length
  -- from an abstract heap in which nothing but the script may be tracked
  have core : ∀ H : Hp, Only H → SqL K H a (ns.map V.int) → HOk P w H s₁.heap → (∀ b, H b ≠ none → b = a) → (H a ≠ none → K.lookup a = none) →
      codeAny (model P w) callerA (.call (.ref fa) ⟨[.ref a], []⟩) (fun r s' => r = .ok (.ret (.bool true)) ∧ OldK s₁.heap s'.heap ∧ s'.os = s₁.os ∧ AllBare s'.gens) s₁ := by
    intro H hO hS hok hA hK
    have base_of : ∀ {b : Addr} {o : Obj}, s₁.heap.get? b = some o → H b = none → (hidT s₁.heap H).get? b = some o := fun e n => hidT_get e n
    have noA : ∀ {b : Addr} {o : Obj} {es : Array DictEntry} {ep : Nat}, s₁.heap.get? b = some o → o.data = .dict es ep → H b = none := fun {b o es ep} e d => by
      cases q : H b with
      | none => rfl
      | some u =>
        have e' : b = a := hA b (by rw [q]; simp)
        subst e'
        rw [ha] at e; cases e
        have d' : Data.seq vs.toArray _ = Data.dict es ep := d
        cases d'
    have nsK : ∀ {b : Addr} {m : Str → Option Value}, s₁.heap.Ns b m → (hidT s₁.heap H).Ns b m := fun {b m} ⟨o, es, ep, e, d, r⟩ => ⟨o, es, ep, base_of e (noA e d), d, r⟩
    have hKb : K.In (hidT s₁.heap H) := fun b o e => base_of (KX b o e) (by
      cases q : H b with
      | none => rfl
      | some u =>
        have e' : b = a := hA b (by rw [q]; simp)
        subst e'
        rw [hK (by rw [q]; simp)] at e; cases e)
    have hM : Mod K mg (hidT s₁.heap H) := ⟨hKb, nsK hns, ⟨mb, nsK hb, hbb⟩, let ⟨mc, h1, h2⟩ := hlim; ⟨mc, nsK h1, h2⟩⟩
    have e0 : Env0 P w K mg (hidT s₁.heap H) callerA [] s₁ H := ⟨rfl, hM, fun b o e => of_hidT e, Nat.le_of_eq (hidT_size _ _), trivial, fun b hb => absurd (show b ∈ ([] : List Addr) from hb) (by simp), hok, .of_eq hg⟩
    refine codeAny_mono ((F _ hKb (nsK hns)).run callerA [] s₁ H ⟨[.ref a], []⟩ [.ref a] [.ref a] _ _ hr e0 (hbind s₁ (.ref a)) (.cons rfl .nil) (hsp H hO hS)) fun r s' h => ?_
    cases r with
    | error e => exact (hCX H e s' h).elim
    | ok fl =>
      cases fl with
      | next => exact False.elim h
      | brk => exact False.elim h
      | cont => exact False.elim h
      | ret u =>
        obtain ⟨v, H', os, bare, un, hok', r', q⟩ := h
        have q' : v = .bl true := q
        subst q'
        obtain rfl : u = Value.bool true := r'
        refine ⟨rfl, OldK.of_keep fun b o e => ?_, os, bare⟩
        cases q : H b with
        | none => exact un.keep b o e q (by intro z; exact absurd (show b ∈ ([] : List Addr) from z) (by simp)) (by simp)
        | some u =>
          rcases hO b with z | ⟨ob, xs, z⟩
          · rw [q] at z; cases z
          · have z2 := un.frzs b ob _ z
            obtain ⟨e1, _⟩ := hok b _ z
            obtain ⟨e2, _⟩ := hok' b _ z2
            rw [e] at e1; cases e1
            exact e2
  cases hk : K.lookup a with
  | some o =>
    -- the script is one of the module's own objects
    have e := KX a o hk
    rw [ha] at e
    cases e
    refine core (fun _ => none) (fun _ => .inl rfl) (.inr ⟨_, vs.toArray, _, hk, rfl, rfl, rfl, by rw [List.size_toArray, lenV]; exact hl, by simpa using rv⟩) (fun b u z => by have z' : (none : Option HO) = some u := z; cases z') (fun b z => absurd rfl z) fun z => absurd rfl z
  | none =>
    refine core (fun b => if b = a then some (.frz { cls := .type "list", data := .seq vs.toArray } (.lst (ns.map V.int))) else none) (fun b => ?_) (.inl (.inr ⟨{ cls := .type "list", data := .seq vs.toArray }, if_pos rfl⟩)) (fun b u z => ?_) (fun b z => ?_) fun _ => hk
    · by_cases hb : b = a
      · exact .inr ⟨_, _, if_pos hb⟩
      · exact .inl (if_neg hb)
    · by_cases hb : b = a
      · have z' := (if_pos hb).symm.trans z
        cases z'
        subst hb
        exact ⟨ha, by rw [List.length_map]; exact hl, vs, _, rv, ha⟩
      · have z' := (if_neg hb).symm.trans z
        cases z'
    · by_cases hb : b = a
      · exact hb
      · exact absurd (if_neg hb) z
end L2

namespace L2
open PySem PySem.Spec PyProof.Rows

noncomputable abbrev KOf {K : PySem.W.Frag} {h : Heap} (_ : K.In h) : PySem.W.Frag := K

theorem walk_of {l : PySem.W.OpenLaw} {n k : Nat} {q : Program} {loose : List Str} {XP : (Str → Option Value) → Heap → Prop} {YP : World → Heap → Prop} {d : DefRec} {K : Params → PySem.W.Frag} {CX : World → CXT} {sp : World → Sp} {x : Str}
    (hn : l.most = some n) (hn2 : n ≤ sizeLine) (hdf : d.params.defaults = []) (hr : Room k callerA)
    (hY : ∀ (w : World) (h : Heap), YP w h → (K w.params).In h)
    (F : ∀ (w : World) (mg : Str → Option Value) (fa : Addr) (h : Heap), (K w.params).In h → h.Ns mainGlobals mg → mg d.name = some (.ref fa) →
      ∃ fd : FuncData, (∀ (s : Shared) (u : Value), BindsTo s fd ⟨[u], []⟩ [(x, u)]) ∧
        ∀ base : Heap, (K w.params).In base → base.Ns mainGlobals mg → FnOk l.prog w (K w.params) mg base (CX w) k fa fd [x] (sp w))
    (hsp : ∀ (w : World) (H : Hp) (a : Addr) (ns : List Int), ns.length ≤ n → Only H → SqL (K w.params) H a (ns.map V.int) → sp w [.ref a] H (fun v _ => v = .bl true) fun _ _ _ => False)
    (hCX : ∀ (w : World) (H : Hp) (s : Shared) (e : Value) (s' : Shared), CX w [] H s (fun _ _ _ => False) e s' → False) :
    PySem.W.WalkO q loose XP YP l.row.toRowW d [] (fun f vs => PySem.call f vs) := by
  refine Att.attach_call hn hdf fun w s₀ s₁ mg mb fa o pm cd doc a vs ns G Y ho hd hcd hmg hobj hints hlen hg => ?_
  have KX := hY w _ Y
  obtain ⟨fd, hb, hF⟩ := F w mg fa _ KX G.T.g hmg
  exact law_call KX G.T.g G.T.b G.T.builtins G.T.nolimit hg hobj hints (Nat.le_trans hlen hn2) hr hF hb (fun H hO hS => hsp w H a ns hlen hO hS) fun H e s' => hCX w H s₁ e s'
end L2

/- THE LAST THEOREM (shape; LID, My.* are yours):
   My.Adr: a structure of the addresses that your layer names (classes, functions); My.Txt K t: a structure (Prop) of the equations over K;
   My.txt_mk : {K} {implicit addresses ..} (e1 : nsIn K mainGlobals "law" = some (some (.ref f))) (e2 : K.lookup f = some ⟨oc, od, .func (fnOf "law" "law" params body scope dV kV doc pm an cdv ct), sl⟩) (e3 : codeIn K cdv "law" = true) .. : ∃ t, My.Txt K t

set_option maxRecDepth 100000 in
set_option maxHeartbeats 0 in
theorem PySem.Challenge.cw_LID_holds : PySem.Challenge.rw_LID.Holds := by
  w_on; o_law; k_head; (case hw => w_witness2)
  k_fill
  refine L2.walk_of (l := PySem.Challenge.rw_LID) (n := 63) (k := 40) (x := "script") (CX := fun w => ..) (sp := fun _ => My.sp_law) rfl (by decide) rfl ⟨rfl, by decide, by decide⟩ (fun w h Y => PySem.W.kIn_of Y) ?F ?S ?C
  case F =>
    intro w mg fa h KX G hmg
    have T : ∃ t, My.Txt (L2.KOf KX) t := by
      dsimp only [L2.KOf]                          -- K must stand as «<heap const> w.params» for k_is
      refine' My.txt_mk ?e1 ?e2 ?e3 ..
      (case e1 => PySem.W.k_is)                    -- in the order: a name -> its address -> its object -> its parts
      (case e2 => PySem.W.k_is)
      ..
    obtain ⟨t, T⟩ := T
    have e0 := hmg.symm.trans (PySem.W.mg_of KX G T.law)
    cases e0                                       -- fa is the law's own address
    exact ⟨_, fun s u => .of_eq rfl, fun base kb nb => My.law_fn T kb nb⟩     -- if «.of_eq rfl» comes too early: refine' ⟨_, ?b, fun base kb nb => My.law_fn T kb nb⟩; exact fun s u => .of_eq rfl
  case S => exact fun w H a ns hl hO hS => ..
  case C => exact ..
(the tactic k_is has no namespace: write k_is) -/

namespace L2
open PySem PySem.Spec PyProof.Rows

noncomputable def defArgs (s : Stmt) : Arguments := match s with
  | .FunctionDef _ a _ _ _ _ _ _ _ _ => a
  | _ => { posonlyargs := [], args := [], vararg := none, kwonlyargs := [], kw_defaults := [], kwarg := none, defaults := [] }
noncomputable def defBody (s : Stmt) : List Stmt := match s with
  | .FunctionDef _ _ b _ _ _ _ _ _ _ => b
  | _ => []
noncomputable def defScope (s : Stmt) : Scope := match s with
  | .FunctionDef _ _ _ _ _ _ sc _ _ _ => sc
  | _ => { kind := .function, names := [], isGenerator := false, isCoroutine := false }

noncomputable abbrev CX0 : CXT := fun _ _ _ _ _ _ => False
noncomputable abbrev E0 : XK := fun _ _ _ => False
structure Fun (K : PySem.W.Frag) (x qual : Str) (st : Stmt) (f : Addr) (fd : FuncData) : Prop where
  ex : ∃ (oc : Value) (od : Option Addr) (kV doc pm : Value) (an : Option Addr) (cdv ct : Value) (osl : Array (Option Value)),
    fd = PySem.W.fnOf x qual (defArgs st) (defBody st) (defScope st) .none kV doc pm an cdv ct ∧ K.lookup f = some ⟨oc, od, .func fd, osl⟩ ∧ PySem.W.codeIn K cdv qual = true
  kp : PySem.W.keepIn K (.ref f) = true
section
variable {P : Program} {w : World} {K : PySem.W.Frag} {mg : Str → Option Value} {base : Heap}
theorem Fun.ok {x qual : Str} {st : Stmt} {f : Addr} {fd : FuncData} {N ps : List Str} {k : Nat} {sp : Sp} (F : Fun K x qual st f fd) (S : FnScope N ps (defScope st)) (len : ∀ vs H Q E, sp vs H Q E → vs.length = ps.length)
    (hbody : ∀ (cdv : Value) (A : Around) (outer : List Env) (s : Shared) (H : Hp) (vs : List V) (Q : VK) (E : XK), Room k (A.deeper (envOfC qual (defScope st) s.heap.objs.size f cdv)) → sp vs H Q E →
      ∃ t, PSs (cxOf CX0 P w K mg base N qual (defScope st) f cdv A outer s H E).nox (defBody st) t ∧ t { nx := fun _ H' => Q .non H', rt := Q } (start N vs) H) : FnOk P w K mg base CX0 (k + 1) f fd ps sp := by
  obtain ⟨oc, od, kV, doc, pm, an, cdv, ct, osl, rfl, lk, hcd⟩ := F.ex
  refine fn_of lk hcd S len fun A outer s H vs Q E hr hsp => ?_
  obtain ⟨t, h, q⟩ := hbody cdv A outer s H vs Q E hr hsp
  exact ⟨t, h.nox, q⟩
theorem Fun.binds {x qual : Str} {st : Stmt} {f : Addr} {fd : FuncData} {ps : List Str} (F : Fun K x qual st f fd)
    (h : ∀ (kV doc pm : Value) (an : Option Addr) (cdv ct : Value) (us : List Value), us.length = ps.length → bindArgs (PySem.W.fnOf x qual (defArgs st) (defBody st) (defScope st) .none kV doc pm an cdv ct) ⟨us, []⟩ = pure (ps.zip us)) : Binds K fd ps [] := by
  obtain ⟨oc, od, kV, doc, pm, an, cdv, ct, osl, rfl, lk, hcd⟩ := F.ex
  exact .all (h kV doc pm an cdv ct)
theorem fun_mk {x qual : Str} {st : Stmt} {f : Addr} {oc : Value} {od an : Option Addr} {osl : Array (Option Value)} {kV doc pm cdv ct : Value} (l : K.lookup f = some ⟨oc, od, .func (PySem.W.fnOf x qual (defArgs st) (defBody st) (defScope st) .none kV doc pm an cdv ct), osl⟩)
    (c : PySem.W.codeIn K cdv qual = true) (k : PySem.W.keepIn K (.ref f) = true) : Fun K x qual st f (PySem.W.fnOf x qual (defArgs st) (defBody st) (defScope st) .none kV doc pm an cdv ct) := ⟨⟨oc, od, kV, doc, pm, an, cdv, ct, osl, rfl, l, c⟩, k⟩
end
section
variable {X : Cx}
end

noncomputable def Same (H H' : Hp) : Prop := ∀ b o, H b = some o → H' b = some o
theorem Same.refl (H : Hp) : Same H H := fun _ _ h => h
theorem Same.trans {H H1 H2 : Hp} (a : Same H H1) (b : Same H1 H2) : Same H H2 := fun c o h => b c o (a c o h)
theorem Same.free {H H' : Hp} (e : Same H H') {l : Addr} (h : H' l = Option.none) : H l = Option.none := by
  cases q : H l with
  | none => rfl
  | some o =>
    rw [e l o q] at h
    cases h
theorem Same.seq {K : PySem.W.Frag} {H H' : Hp} {a : Addr} {xs : List V} (e : Same H H') (h : SqL K H a xs) : SqL K H' a xs := by
  rcases h with (h | ⟨o, h⟩) | h
  · exact .inl (.inl (e _ _ h))
  · exact .inl (.inr ⟨o, e _ _ h⟩)
  · exact .inr h

end L2

set_option maxHeartbeats 4000000
namespace L2
open PySem PySem.Spec PyProof.Rows
noncomputable def Sm (k : Nat) (x : Int) : Prop := x.natAbs < 2 ^ k
theorem Sm.mono {k n : Nat} {x : Int} (h : Sm k x) (hn : k ≤ n) : Sm n x := Nat.lt_of_lt_of_le h (Nat.pow_le_pow_right (by decide) hn)
theorem Sm.mul {m n : Nat} {x y : Int} (h : Sm m x) (g : Sm n y) : Sm (m + n) (x * y) := by
  unfold Sm at *
  rw [Int.natAbs_mul, Nat.pow_add]
  rcases Nat.eq_zero_or_pos x.natAbs with z | z
  · rw [z, Nat.zero_mul]; exact Nat.mul_pos (Nat.two_pow_pos _) (Nat.two_pow_pos _)
  · exact Nat.lt_of_le_of_lt (Nat.mul_le_mul_left _ (Nat.le_of_lt g)) (Nat.mul_lt_mul_of_pos_right h (Nat.two_pow_pos _))
theorem Sm.add {m : Nat} {x y : Int} (h : Sm m x) (g : Sm m y) : Sm (m + 1) (x + y) := by
  unfold Sm at *
  rw [Nat.pow_succ]
  have := Int.natAbs_add_le x y
  omega
theorem Sm.neg {m : Nat} {x : Int} (h : Sm m x) : Sm m (-x) := by
  unfold Sm at *
  rw [Int.natAbs_neg]
  exact h
theorem Sm.sub {m : Nat} {x y : Int} (h : Sm m x) (g : Sm m y) : Sm (m + 1) (x - y) := by
  rw [Int.sub_eq_add_neg]; exact h.add g.neg
theorem Sm.le {m : Nat} {x y : Int} (h : Sm m x) (e : y.natAbs ≤ x.natAbs) : Sm m y := Nat.lt_of_le_of_lt e h
theorem Sm.ok {m n : Nat} {x y : Int} (h : Sm m x) (g : Sm n y) (hk : m + n ≤ 134217728 := by decide) : IntMulOk x y :=
  IntMulOk.of_le (intBits_le_iff.mpr h) (intBits_le_iff.mpr g) hk
theorem Sm.log {m : Nat} {x : Int} (h : Sm m x) (hm : m ≤ 9000 := by decide) : x.natAbs.log2 < 9000 := by
  rcases Nat.eq_zero_or_pos x.natAbs with z | z
  · rw [z]; decide +kernel
  · exact Nat.lt_of_lt_of_le ((Nat.log2_lt (Nat.ne_of_gt z)).mpr h) hm
section
variable {X : Cx}
theorem op_mulR : OpR X (binaryOp .Mult) (rI IntMulOk fun i j => .int (i * j)) := opI fun _ _ _ _ _ _ _ hc q => mul_int q hc
noncomputable def CDivG (_ j : Int) : Prop := j ≠ 0 ∧ j.natAbs.log2 < 9000
theorem op_fdivG : OpR X (binaryOp .FloorDiv) (rI CDivG fun i j => .int (i.fdiv j)) := opI fun _ _ _ _ _ _ _ hc q => floordiv_int hc.1 q (.inl (PyProof.noPylong_of_log2 hc.2))
theorem pe_tyn {n : String} {x : Str} {pos : Pos} (hg : Gl X x) (hm : X.mg x = none) (hv : bootBuiltins x = some (.type n)) (hn : x ≠ "__name__" := by decide) (hd : (x == ("__debug__" : Str)) = false := by decide) : PE X (.Name x pos) (tC (.ty n)) :=
  pe_bltn hg hm hv rfl hn hd
end
theorem bt_isinstance : bootBuiltins "isinstance" = some (.builtin "isinstance") := by decide +kernel
theorem bt_len : bootBuiltins "len" = some (.builtin "len") := by decide +kernel
theorem bt_max : bootBuiltins "max" = some (.builtin "max") := by decide +kernel
theorem bt_min : bootBuiltins "min" = some (.builtin "min") := by decide +kernel
theorem bt_sorted : bootBuiltins "sorted" = some (.builtin "sorted") := by decide +kernel
theorem bt_int : bootBuiltins "int" = some (.type "int") := by decide +kernel
theorem bt_list : bootBuiltins "list" = some (.type "list") := by decide +kernel
theorem kit_same (K : PySem.W.Frag) (t : Value) : PySem.W.kitOne K t t = some true := by
  unfold PySem.W.kitOne
  rw [if_pos (beq_self_eq_true t)]
theorem kit_ty (K : PySem.W.Frag) {T U : String} {b : Bool} (hne : (Value.type T == Value.type U) = false) (hm : PySem.W.kitMeta U = true) (h : (fastBuiltinMro T).map (·.contains (Value.type U)) = some b) : PySem.W.kitOne K (.type T) (.type U) = some b := by
  unfold PySem.W.kitOne
  rw [if_neg (by rw [hne]; exact Bool.false_ne_true)]
  show (if PySem.W.kitMeta U = true then _ else none) = _
  rw [if_pos hm]
  exact h
mutual
inductive DV (K : PySem.W.Frag) (H : Hp) : V → PyData → Prop
  | non : DV K H .non .none
  | bl (b : Bool) : DV K H (.bl b) (.bool b)
  | int (i : Int) : DV K H (.int i) (.int i)
  | str (x : Str) : DV K H (.str x) (.str x)
  | tup {a : Addr} {xs : List V} {ds : List PyData} (h : SqT K H a xs) (r : DVs K H xs ds) : DV K H (.ref a) (.tuple ds)
  | lst {a : Addr} {xs : List V} {ds : List PyData} (h : SqL K H a xs) (r : DVs K H xs ds) : DV K H (.ref a) (.list ds)
inductive DVs (K : PySem.W.Frag) (H : Hp) : List V → List PyData → Prop
  | nil : DVs K H [] []
  | cons {x : V} {xs : List V} {d : PyData} {ds : List PyData} (h : DV K H x d) (r : DVs K H xs ds) : DVs K H (x :: xs) (d :: ds)
end
section
variable {X : Cx} {pins : List (Addr × Obj)} {σ : St} {H : Hp} {s : Shared}
mutual
theorem DV.reads (I : Inv X pins σ H s) : ∀ {x : V} {d : PyData} {u : Value}, DV X.K H x d → RelV x u → ∃ as, Reads s.heap u d as
  | _, _, _, .non, r => by cases r; exact ⟨_, .none⟩
  | _, _, _, .bl b, r => by cases r; exact ⟨_, .bool b⟩
  | _, _, _, .int i, r => by obtain ⟨t, rfl⟩ := r; exact ⟨_, .int i t⟩
  | _, _, _, .str i, r => by obtain ⟨t, rfl⟩ := r; exact ⟨_, .str i t⟩
  | _, _, _, .tup h q, r => by
    cases r
    obtain ⟨its, rv, ⟨o, h1, h2, n, h3⟩, _⟩ := I.tuple h
    obtain ⟨as, ra⟩ := DVs.reads I q rv
    exact ⟨_, .tuple h1 h2 h3 (by simpa using ra)⟩
  | _, _, _, .lst h q, r => by
    cases r
    obtain ⟨its, rv, pl, _⟩ := I.list h
    obtain ⟨o, h1, h2, n, h3⟩ := pl.isList
    obtain ⟨as, ra⟩ := DVs.reads I q rv
    exact ⟨_, .list h1 h2 h3 (by simpa using ra)⟩
theorem DVs.reads (I : Inv X pins σ H s) : ∀ {xs : List V} {ds : List PyData} {us : List Value}, DVs X.K H xs ds → Vals xs us → ∃ as, ReadsAll s.heap us ds as
  | _, _, _, .nil, r => by cases r; exact ⟨_, .nil⟩
  | _, _, _, .cons h q, r => by
    cases r with
    | cons r1 r2 =>
      obtain ⟨as, ra⟩ := DV.reads I h r1
      obtain ⟨bs, rb⟩ := DVs.reads I q r2
      exact ⟨_, .cons ra rb⟩
end
end
section
variable {X : Cx}
noncomputable def rEqD (K : PySem.W.Frag) (f : Bool → Bool) : R2 := fun x y H Q => ∃ dx dy, DV K H x dx ∧ DV K H y dy ∧ dx.canLay0 = true ∧ dy.canLay0 = true ∧ dx.depth ≤ 60 ∧ Q (.bl (f (PyData.eqv dx dy))) H
theorem op_eqD (hu : X.A.units + 64 < cLine) : OpR X (compareOp .Eq) (rEqD X.K id) := by
  intro pins s σ H x y v u Q I rx ry h
  obtain ⟨dx, dy, h1, h2, h3, h4, h5, q⟩ := h
  obtain ⟨as, ra⟩ := h1.reads I rx
  obtain ⟨bs, rb⟩ := h2.reads I ry
  exact PySem.SeqAt.compareEq_reads ra rb h3 h4 (by omega) (fin_bl I q rfl)
theorem op_neD (hu : X.A.units + 64 < cLine) : OpR X (compareOp .NotEq) (rEqD X.K not) := by
  intro pins s σ H x y v u Q I rx ry h
  obtain ⟨dx, dy, h1, h2, h3, h4, h5, q⟩ := h
  obtain ⟨as, ra⟩ := h1.reads I rx
  obtain ⟨bs, rb⟩ := h2.reads I ry
  exact PySem.SeqAt.compareNe_reads ra rb h3 h4 (by omega) (fin_bl I q rfl)
end
structure Def (K : PySem.W.Frag) (mg : Str → Option Value) (x : Str) (st : Stmt) (ps : List Str) : Prop where
  ex : ∃ (f : Addr) (fd : FuncData), Fun K x x st f fd ∧ Binds K fd ps [] ∧ mg x = some (.ref f)
structure Callee (P : Program) (w : World) (K : PySem.W.Frag) (mg : Str → Option Value) (base : Heap) (n : Nat) (x : Str) (ps : List Str) (sp : Sp) : Prop where
  ex : ∃ (f : Addr) (fd : FuncData), FnOk P w K mg base CX0 n f fd ps sp ∧ Binds K fd ps [] ∧ PySem.W.keepIn K (.ref f) = true ∧ mg x = some (.ref f)
theorem same_new {H : Hp} {p : Addr} (h : H p = none) (o : HO) : Same H (upd H p o) := fun b u q => by rw [upd_ne (ne_of_none q h)]; exact q
theorem Same.new {H H' : Hp} {p : Addr} (e : Same H H') (h : H' p = none) (o : HO) : Same H (upd H' p o) := e.trans (same_new h o)
end L2
namespace L2
open PySem
end L2
namespace L2
open PySem
theorem Sm.of {k : Nat} {x : Int} (h : x.natAbs < 2 ^ k) : Sm k x := h
end L2
namespace L2
end L2

namespace L2
open PySem PySem.Spec PyProof.Rows
noncomputable def tstSem (ts : List Expr) (env : Env) : Sem Bool := match ts with
  | [] => pure true
  | c :: _ => isTrue c env (eval c env)
theorem compTurn_any (elt target iter : Expr) (scope : Scope) (pos : Pos) (it acc : Value) (env : Env) :
    compTurn (.ListComp elt [⟨target, iter, [], 0⟩] scope pos) 0 it acc env = (standAt iter.pos >>= fun _ => pyNext it >>= fun r => match r with
      | none => pure (.done .next)
      | some v => letOwnedTupleGo target it v >>= fun _ => assign target env v >>= fun _ =>
        (eval elt env >>= fun x => call (.builtin "list.append") [acc, x] >>= fun _ => pure ()) >>= fun _ =>
          again (.compLoop (.ListComp elt [⟨target, iter, [], 0⟩] scope pos) 0 it acc env)) := by rfl
theorem compTurn_if (elt target iter c : Expr) (scope : Scope) (pos : Pos) (it acc : Value) (env : Env) :
    compTurn (.ListComp elt [⟨target, iter, [c], 0⟩] scope pos) 0 it acc env = (standAt iter.pos >>= fun _ => pyNext it >>= fun r => match r with
      | none => pure (.done .next)
      | some v => letOwnedTupleGo target it v >>= fun _ => assign target env v >>= fun _ =>
        (forIn [c] true fun (c : Expr) (s : Bool) => if s = true then (isTrue c env (eval c env) >>= fun ok => pure (ForInStep.yield ok)) else pure (ForInStep.yield s)) >>= fun s => if s = true then
          (eval elt env >>= fun x => call (.builtin "list.append") [acc, x] >>= fun _ => pure ()) >>= fun _ =>
            again (.compLoop (.ListComp elt [⟨target, iter, [c], 0⟩] scope pos) 0 it acc env)
          else again (.compLoop (.ListComp elt [⟨target, iter, [c], 0⟩] scope pos) 0 it acc env)) := by rfl
theorem compLoop_any {prog : Program} {w : World} {A : Around} {R : Result → Shared → Prop} {s : Shared} {elt target iter : Expr} {ts : List Expr} {scope : Scope} {pos : Pos} {it acc : Value} {env : Env} (hts : ts.length ≤ 1) (I : Nat → Shared → Prop)
    (turn : ∀ n s, I n s → wpAny (model prog w) A (pyNext it) (fun r s₁ => match r with
      | none => R (.ok .next) s₁
      | some v => wpAny (model prog w) A (letOwnedTupleGo target it v) (fun _ s₁' => wpAny (model prog w) A (assign target env v) (fun _ s₂ => wpAny (model prog w) A (tstSem ts env) (fun b s₂' => if b = true then wpAny (model prog w) A (eval elt env) (fun x s₃ =>
          wpAny (model prog w) A (call (.builtin "list.append") [acc, x]) (fun _ s₄ => ∃ m, m < n ∧ I m s₄) (notedBy (model prog w) A env fun e s' => R (.error e) s') s₃)
          (notedBy (model prog w) A env fun e s' => R (.error e) s') s₂' else ∃ m, m < n ∧ I m s₂') (notedBy (model prog w) A env fun e s' => R (.error e) s') s₂) (notedBy (model prog w) A env fun e s' => R (.error e) s') s₁') (notedBy (model prog w) A env fun e s' => R (.error e) s') s₁) (notedBy (model prog w) A env fun e s' => R (.error e) s') s)
    (n : Nat) (h : I n s) :
    codeAny (model prog w) A (.compLoop (.ListComp elt [⟨target, iter, ts, 0⟩] scope pos) 0 it acc env) R s := by
  refine codeAny_loop rfl I (fun n s hI => ?_) n h
  show wpAny _ _ ((compTurn (.ListComp elt [⟨target, iter, ts, 0⟩] scope pos) 0 it acc env).onRaise (fun x => do noteFrame x env; theTreesLotGoes x)) _ _ s
  refine wpAny_noted ?_
  match ts, hts with
  | [], _ =>
    rw [compTurn_any]
    refine wpAny_bind (wpAny_standAt (wpAny_bind (wpAny_mono (turn n s hI) (fun r s₁ h₁ => ?_) fun _ _ h' => h')))
    cases r with
    | none => exact wpAny_pure h₁
    | some v =>
      refine wpAny_bind (wpAny_mono h₁ (fun _ s₁' h₁' => ?_) fun _ _ h' => h')
      refine wpAny_bind (wpAny_mono h₁' (fun _ s₂ h₂ => ?_) fun _ _ h' => h')
      show wpAny _ _ ((pure true : Sem Bool) >>= fun b => if b = true then ((eval elt env >>= fun x => call (.builtin "list.append") [acc, x] >>= fun _ => pure ()) >>= fun _ => again (.compLoop (.ListComp elt [⟨target, iter, [], 0⟩] scope pos) 0 it acc env)) else again (.compLoop (.ListComp elt [⟨target, iter, [], 0⟩] scope pos) 0 it acc env)) _ _ s₂
      refine wpAny_bind (wpAny_mono h₂ (fun b s₂' h₂' => ?_) fun _ _ h' => h')
      cases b with
      | true =>
        rw [if_pos rfl] at h₂' ⊢
        exact wpAny_bind (wpAny_bind (wpAny_mono h₂' (fun x s₃ h₃ => wpAny_bind (wpAny_mono h₃ (fun _ s₄ h₄ => wpAny_pure (wpAny_pure ⟨rfl, h₄⟩)) fun _ _ h' => h')) fun _ _ h' => h'))
      | false =>
        rw [if_neg Bool.false_ne_true] at h₂' ⊢
        exact wpAny_pure ⟨rfl, h₂'⟩
  | [c], _ =>
    rw [compTurn_if]
    refine wpAny_bind (wpAny_standAt (wpAny_bind (wpAny_mono (turn n s hI) (fun r s₁ h₁ => ?_) fun _ _ h' => h')))
    cases r with
    | none => exact wpAny_pure h₁
    | some v =>
      refine wpAny_bind (wpAny_mono h₁ (fun _ s₁' h₁' => ?_) fun _ _ h' => h')
      refine wpAny_bind (wpAny_mono h₁' (fun _ s₂ h₂ => ?_) fun _ _ h' => h')
      rw [List.forIn_cons]
      refine wpAny_bind (wpAny_bind ?_)
      rw [if_pos rfl]
      refine wpAny_bind (wpAny_mono h₂ (fun b s₂' h₂' => wpAny_pure ?_) fun _ _ h' => h')
      show wpAny _ _ (forIn [] b _) _ _ _
      rw [List.forIn_nil]
      refine wpAny_pure ?_
      cases b with
      | true =>
        rw [if_pos rfl] at h₂' ⊢
        exact wpAny_bind (wpAny_bind (wpAny_mono h₂' (fun x s₃ h₃ => wpAny_bind (wpAny_mono h₃ (fun _ s₄ h₄ => wpAny_pure (wpAny_pure ⟨rfl, h₄⟩)) fun _ _ h' => h')) fun _ _ h' => h'))
      | false =>
        rw [if_neg Bool.false_ne_true] at h₂' ⊢
        exact wpAny_pure ⟨rfl, h₂'⟩
theorem cells_mem : ∀ (names : List (Str × NameKind)) (h : Heap) (acc : List (Str × Addr)) (n : Str) (c : Addr), (n, c) ∈ PySem.cellsFrom h.objs.size names acc → (n, c) ∈ acc ∨ ((PySem.pushCells h names).IsCell c none ∧ h.objs.size ≤ c)
  | [], _, _, _, _, hm => .inl hm
  | (name, kind) :: r, h, acc, n, c, hm => by
    unfold PySem.cellsFrom at hm
    unfold PySem.pushCells
    split at hm
    · rename_i hk
      rw [if_pos hk]
      have hm' : (n, c) ∈ PySem.cellsFrom (h.push { cls := .type "cell", data := .cell none }).objs.size r ((name, h.objs.size) :: acc) := by rw [Heap.size_push]; exact hm
      rcases cells_mem r (h.push { cls := .type "cell", data := .cell none }) ((name, h.objs.size) :: acc) n c hm' with z | ⟨z1, z2⟩
      · rcases List.mem_cons.mp z with e | z
        · cases e
          exact .inr ⟨⟨_, PySem.pushCells_keeps r _ _ _ (Heap.get?_push_size _ rfl), rfl⟩, Nat.le_refl _⟩
        · exact .inl z
      · rw [Heap.size_push] at z2
        exact .inr ⟨z1, by omega⟩
    · rename_i hk
      rw [if_neg hk]
      exact cells_mem r h acc n c hm
theorem cells_inj : ∀ (names : List (Str × NameKind)) (k : Nat) (acc : List (Str × Addr)), (∀ n c, (n, c) ∈ acc → c < k) → (∀ n n' c, (n, c) ∈ acc → (n', c) ∈ acc → n = n') → ∀ n n' c, (n, c) ∈ PySem.cellsFrom k names acc → (n', c) ∈ PySem.cellsFrom k names acc → n = n'
  | [], _, _, _, hi, n, n', c, h1, h2 => hi n n' c h1 h2
  | (name, kind) :: r, k, acc, hl, hi, n, n', c, h1, h2 => by
    unfold PySem.cellsFrom at h1 h2
    split at h1
    · rename_i hk
      rw [if_pos hk] at h2
      refine cells_inj r (k + 1) ((name, k) :: acc) (fun m d hm => ?_) (fun m m' d hm hm' => ?_) n n' c h1 h2
      · rcases List.mem_cons.mp hm with e | hm
        · cases e; exact Nat.lt_succ_self _
        · exact Nat.lt_succ_of_lt (hl m d hm)
      · rcases List.mem_cons.mp hm with e | hm <;> rcases List.mem_cons.mp hm' with e' | hm'
        · cases e; cases e'; rfl
        · cases e; exact absurd (hl _ _ hm') (Nat.lt_irrefl _)
        · cases e'; exact absurd (hl _ _ hm) (Nat.lt_irrefl _)
        · exact hi m m' d hm hm'
    · rename_i hk
      rw [if_neg hk] at h2
      exact cells_inj r k acc hl hi n n' c h1 h2
theorem cells_old {x : Str} : ∀ (names : List (Str × NameKind)) (k : Nat) (acc : List (Str × Addr)), (∀ y ∈ names, y.2 = .cell → y.1 ≠ x) → (PySem.cellsFrom k names acc).lookup x = acc.lookup x
  | [], _, _, _ => rfl
  | (name, kind) :: r, k, acc, h => by
    unfold PySem.cellsFrom
    split
    · rename_i hk
      rw [cells_old r (k + 1) _ fun y hy => h y (List.mem_cons_of_mem _ hy)]
      have ne : name ≠ x := h (name, kind) List.mem_cons_self (by simpa using hk)
      rw [List.lookup_cons, beq_false_of_ne (Ne.symm ne)]
    · exact cells_old r k acc fun y hy => h y (List.mem_cons_of_mem _ hy)
theorem cells_some {x : Str} : ∀ (names : List (Str × NameKind)) (k : Nat) (acc : List (Str × Addr)), ((acc.lookup x).isSome = true ∨ (x, NameKind.cell) ∈ names) → ((PySem.cellsFrom k names acc).lookup x).isSome = true
  | [], _, _, h => by
    rcases h with h | h
    · exact h
    · cases h
  | (name, kind) :: r, k, acc, h => by
    unfold PySem.cellsFrom
    split
    · rename_i hk
      refine cells_some r (k + 1) _ ?_
      by_cases e : x = name
      · subst e; exact .inl (by simp)
      · rcases h with h | h
        · exact .inl (by rw [List.lookup_cons, beq_false_of_ne e]; exact h)
        · rcases List.mem_cons.mp h with z | h
          · cases z; exact absurd rfl e
          · exact .inr h
    · rename_i hk
      refine cells_some r k acc ?_
      rcases h with h | h
      · exact .inl h
      · rcases List.mem_cons.mp h with z | h
        · cases z; exact absurd rfl hk
        · exact .inr h
theorem newEnv_own {M : Model} {A : Around} {E : Value → Shared → Prop} {s : Shared} {scope : Scope} {globals : Addr} {closure : List (Str × Addr)} {qual : Str} {func : Option Addr} {code : Value} {outer : Env} {builtins : Addr} {Q : Env → Shared → Prop}
    (hQ : ∀ h', h'.Ns s.heap.objs.size (fun _ => none) → (∀ b o, s.heap.get? b = some o → h'.get? b = some o) → (∀ n c, (n, c) ∈ PySem.cellsFrom (s.heap.objs.size + 1) scope.names closure → (n, c) ∈ closure ∨ (h'.IsCell c none ∧ s.heap.objs.size + 1 ≤ c)) →
      Q (newEnv scope s.heap.objs.size globals (PySem.cellsFrom (s.heap.objs.size + 1) scope.names closure) qual func code (some outer) builtins) { s with heap := h' }) :
    wpAny M A (newFunctionEnv scope globals closure [] qual func code (some outer) builtins) Q E s := by
  simp only [newFunctionEnv, Option.isSome_some, if_true]
  refine wpAny_bind (wpAny_alloc ?_)
  refine wpAny_bind (wpAny_layCells _ (fun name kind cells => by cases hkc : kind == NameKind.cell <;> simp [hkc]) _ _ _ _ ?_)
  rw [show ({ s with heap := s.heap.push { cls := .type "dict", data := .dict #[] } } : Shared).heap.objs.size = s.heap.objs.size + 1 from Heap.size_push ..]
  rw [List.forIn_nil]
  refine wpAny_bind (wpAny_pure (wpAny_pure ?_))
  refine hQ _ ((Heap.Ns.new s.heap (.type "dict")).keeps (PySem.pushCells_keeps _ _)) (fun b o e => PySem.pushCells_keeps _ _ b o (Heap.get?_push_of_some _ e)) fun n c hm => ?_
  have z := cells_mem scope.names (s.heap.push { cls := .type "dict", data := .dict #[] }) closure n c (by rw [Heap.size_push]; exact hm)
  rwa [Heap.size_push] at z
noncomputable def PTs (X : Cx) (ts : List Expr) (tt : TT) : Prop :=
  ∀ (pins : List (Addr × Obj)) (s : Shared) (σ : St) (H : Hp) (Q : Bool → Hp → Prop), Inv X pins σ H s → tt σ H Q → wpAny (model X.prog X.w) X.A (tstSem ts X.env) (TP X pins σ Q) X.xe s
noncomputable def tYes : TT := fun _ H Q => Q true H
theorem pts_nil {X : Cx} : PTs X [] tYes := fun _ _ _ H _ I h => wpAny_pure ⟨H, I, h⟩
noncomputable def cxComp (X : Cx) (N : List Str) (scope : Scope) (cl : List (Str × Addr)) (C : Addr) (s₂ : Shared) (H₂ : Hp) (fp : List Addr) (pn : List (Addr × Obj)) : Cx :=
  { X with N := N, s₀ := s₂, H₀ := H₂, env := compEnvC scope (PySem.cellsFrom (C + 1) scope.names cl) C X.env, outer := X.stack, ex := fp, fn := fun x => scope.names.lookup x == some .cell, pn := pn, xe := fun _ _ => False }
noncomputable def CapOk (X : Cx) (sc : Scope) (cl : List (Str × Addr)) : List (Str × Nat) → Prop
  | [] => True
  | p :: r => (X.N[p.2]? = some p.1 ∧ X.env.scope.names.lookup p.1 = some .cell ∧ (sc.names.lookup p.1 = some .cell) ∧ ∃ c, cl.lookup p.1 = some c ∧ X.env.cells.lookup p.1 = some c) ∧ CapOk X sc cl r
theorem CapOk.get {X : Cx} {sc : Scope} {cl : List (Str × Addr)} : ∀ {cap : List (Str × Nat)} {j : Nat} {p : Str × Nat}, CapOk X sc cl cap → cap[j]? = some p →
    X.N[p.2]? = some p.1 ∧ X.env.scope.names.lookup p.1 = some .cell ∧ (sc.names.lookup p.1 = some .cell) ∧ ∃ c, cl.lookup p.1 = some c ∧ X.env.cells.lookup p.1 = some c
  | [], _, _, _, e => by simp at e
  | _ :: _, 0, _, h, e => by simp at e; subst e; exact h.1
  | _ :: _, j + 1, _, h, e => CapOk.get (j := j) h.2 (by simpa using e)
noncomputable def capt (σ : St) (cap : List (Str × Nat)) : St := cap.map fun p => (σ[p.2]?).join
noncomputable def st0 (own : List Str) (σ : St) (cap : List (Str × Nat)) : St := List.replicate own.length none ++ capt σ cap
noncomputable def compGoT (J : It) (g : TG) (tt : TT) (te : TE) (own : List Str) (cap : List (Str × Nat)) (σ : St) (Q : VK) (H1 : Hp) : Prop := ∃ W : Nat → Nat → List V → Hp → Prop, (∃ m, W 0 m [] H1) ∧ ∀ i m acc H, W i m acc H → acc.length ≤ sizeLine ∧
  ((J.stop i H ∧ ∀ p, H p = none → Q (.ref p) (upd H p (.lst acc))) ∨
   (J.go i H ∧ ∀ x H', J.yld i H x H' → g x (st0 own σ cap) H' fun σ2 H2 => σ2.drop own.length = capt σ cap ∧ tt σ2 H2 fun b H3 => if b = true then te σ2 H3 fun v H4 => acc.length < sizeLine ∧ ∃ m', m' < m ∧ W (i + 1) m' (acc ++ [v]) H4 else ∃ m', m' < m ∧ W (i + 1) m' acc H3))
noncomputable abbrev Fam (α : Type) := Addr → Shared → Hp → List Addr → List (Addr × Obj) → α
noncomputable def tCompT (wi : TI) (g : Fam TG) (tt : Fam TT) (te : Fam TE) (own : List Str) (cap : List (Str × Nat)) : TE := fun σ H Q => wi σ H fun J H1 => ∀ C s H2 fp pn, compGoT J (g C s H2 fp pn) (tt C s H2 fp pn) (te C s H2 fp pn) own cap σ Q H1
structure CompOk (X : Cx) (own : List Str) (cap : List (Str × Nat)) (scope : Scope) (cl : List (Str × Addr)) : Prop where
  clos : closureFor scope X.env = pure cl
  kind : scope.kind = .function
  nown : ∀ x c, (x, c) ∈ cl → ∀ y ∈ scope.names, y.2 = .cell → y.1 ≠ x
  locals : ∀ y ∈ scope.names, y.2 = .local → scope.names.lookup y.1 = some .local
  sub : ∀ x c, (x, c) ∈ cl → X.env.cells.lookup x = some c
  has : ∀ k x, ((relabel scope X.env).names.lookup x = some .cell ∨ (relabel scope X.env).names.lookup x = some .free) → ∃ c, (PySem.cellsFrom k scope.names cl).lookup x = some c
  cap : CapOk X (relabel scope X.env) cl cap
section
variable {X : Cx} {own : List Str} {cap : List (Str × Nat)} {scope : Scope} {cl : List (Str × Addr)} {pins : List (Addr × Obj)} {σ : St} {H : Hp} {s : Shared} {fp : List Addr} {tg : Expr} {J : It} {it : Addr} {tn : Nat → Heap → Prop}
theorem get_st0 {i : Nat} {v : V} (e : (st0 own σ cap)[i]? = some (some v)) : ∃ j p, i = own.length + j ∧ cap[j]? = some p ∧ σ[p.2]? = some (some v) := by
  unfold st0 at e
  by_cases hi : i < own.length
  · rw [List.getElem?_append_left (by simpa using hi), List.getElem?_replicate, if_pos hi] at e
    cases e
  · rw [List.getElem?_append_right (by simpa using hi), List.length_replicate] at e
    unfold capt at e
    rw [List.getElem?_map] at e
    cases q : cap[i - own.length]? with
    | none => rw [q] at e; cases e
    | some p =>
      rw [q] at e
      have e' : (σ[p.2]?).join = some v := Option.some.inj e
      refine ⟨i - own.length, p, by omega, q, ?_⟩
      cases z : σ[p.2]? with
      | none => rw [z] at e'; cases e'
      | some o => rw [z] at e'; have e2 : o = some v := e'; rw [e2]
theorem Inv.comp (I : Inv X pins σ H s) (O : CompOk X own cap scope cl) (T : Turn X.prog X.w X.K tg J fp it tn) (st : tn 0 s.heap) (f : ∀ b ∈ fp, FpOk X pins H b) {C : Addr} {h' : Heap} {t' : Nat} {m : Str → Option Value} (hC : s.heap.objs.size ≤ C)
    (k : ∀ b o, s.heap.get? b = some o → h'.get? b = some o) (hn : h'.Ns C m) (hx : ∀ n c, (n, c) ∈ PySem.cellsFrom (C + 1) scope.names cl → (n, c) ∈ cl ∨ (h'.IsCell c none ∧ C + 1 ≤ c)) :
    Inv (cxComp X (own ++ cap.map (·.1)) scope cl C s H fp (X.pn ++ pins)) [] (st0 own σ cap) H { s with heap := h', toks := t' } := by
  have neC : ∀ {b : Addr} {o : Obj}, s.heap.get? b = some o → b ≠ C := fun e => Nat.ne_of_lt (Nat.lt_of_lt_of_le (Heap.lt_size e) hC)
  have cellC : ∀ x c, (x, c) ∈ cl → ∃ v, s.heap.IsCell c v := fun x c e => I.cell x c (O.sub x c e)
  have ltC : ∀ x c, (x, c) ∈ cl → c < C + 1 := fun x c e => by
    obtain ⟨v, o, ho, _⟩ := cellC x c e
    exact Nat.lt_succ_of_le (Nat.le_of_lt (Nat.lt_of_lt_of_le (Heap.lt_size ho) hC))
  have nefp : ∀ b ∈ fp, b ≠ C := fun b hb => by
    obtain ⟨o, e, _⟩ := T.obj _ _ st b hb
    exact neC e
  refine ⟨⟨I.ok.mod, O.kind, I.ok.glob, I.ok.blt, hC, fun x y c e1 e2 => cells_inj scope.names (C + 1) cl ltC (fun n n' c h1 h2 => I.ok.inj n n' c (O.sub n c h1) (O.sub n' c h2)) x y c (PySem.mem_of_lookup e1) (PySem.mem_of_lookup e2), O.has (C + 1), fun x c e1 e2 => ?_, I.ok.hd, I.ok.frames, .inl rfl, fun b hb => ⟨nefp b hb, fun x c e => ?_⟩, I.bs, Nat.le_trans I.ok.bsz I.sz, fun b o e hb => ?_, fun b hb z => ?_, I.stack, I.stkFree⟩,
    rfl, I.bare, Un.kept k, ⟨m, hn, fun i x v e1 e2 e3 => ?_⟩, fun x c e => ?_, ?_, fun x c e => ?_, fun p hp => ?_, I.hok.kept k, ?_⟩
  · have e1' : scope.names.lookup x = some .cell := by simpa [cxComp] using e1
    rcases hx x c (PySem.mem_of_lookup e2) with z | ⟨_, z⟩
    · exact absurd rfl (O.nown x c z (x, .cell) (PySem.mem_of_lookup e1') rfl)
    · exact Nat.le_trans hC (Nat.le_of_succ_le z)
  · rcases hx x c (PySem.mem_of_lookup e) with z | ⟨_, z⟩
    · exact (f b hb).2.2.2.2.1 x c (O.sub x c z)
    · obtain ⟨o, eo, _⟩ := T.obj _ _ st b hb
      exact Nat.ne_of_gt (Nat.lt_of_lt_of_le (Nat.lt_of_lt_of_le (Heap.lt_size eo) hC) (Nat.le_of_succ_le z))
  · rcases (f b hb).2.2.2.1 with z | z
    · exact I.ok.noex b o e z
    · exact absurd (Nat.lt_of_lt_of_le (Heap.lt_size (I.ok.bs b o e).1) z) (Nat.lt_irrefl _)
  · rcases List.mem_cons.mp (I.stkSub b z) with q | q
    · exact (f b hb).2.1 q
    · exact (f b hb).2.2.1 q
  · obtain ⟨j, p, rfl, hp, hs⟩ := get_st0 e2
    obtain ⟨c1, c2, c3, c, c4, c5⟩ := O.cap.get hp
    have e1' : (own ++ cap.map (·.1))[own.length + j]? = some x := e1
    rw [List.getElem?_append_right (Nat.le_add_right _ _), Nat.add_sub_cancel_left, List.getElem?_map, hp] at e1'
    have ex : p.1 = x := Option.some.inj e1'
    subst ex
    obtain ⟨m2, _, hl⟩ := I.loc
    obtain ⟨u, r, l⟩ := hl p.2 p.1 v c1 hs (.inr (.inl c2))
    refine ⟨u, r, .inr ⟨.inl c3, c, (cells_old scope.names (C + 1) cl fun y hy hk => O.nown p.1 c (PySem.mem_of_lookup c4) y hy hk).trans c4, ?_⟩⟩
    rcases l with ⟨z, _⟩ | ⟨_, c', z, ⟨o, ho, hd⟩⟩
    · have z' : X.env.scope.names.lookup p.1 = some .local := z
      rw [c2] at z'; cases z'
    · rw [c5] at z; cases z
      exact ⟨o, k _ _ ho, hd⟩
  · rcases hx x c (PySem.mem_of_lookup e) with z | ⟨z, _⟩
    · obtain ⟨v, o, ho, hd⟩ := cellC x c z
      exact ⟨v, o, k _ _ ho, hd⟩
    · exact ⟨none, z⟩
  · exact I.hok.fresh hC
  · rcases hx x c (PySem.mem_of_lookup e) with z | ⟨_, z⟩
    · exact I.freeC x c (O.sub x c z)
    · exact I.hok.fresh (Nat.le_trans hC (Nat.le_of_succ_le z))
  · have hp' : p ∈ X.pn ++ pins := by simpa [cxComp] using hp
    obtain ⟨e, n, ne, nf, d⟩ := I.pin p hp'
    exact ⟨k _ _ e, n, neC e, fun z => (List.mem_cons.mp (I.stkSub p.1 z)).elim ne nf, d⟩
  · show (st0 own σ cap).length = (own ++ cap.map (·.1)).length
    unfold st0 capt
    simp
theorem Cx.Ok.rexe {X : Cx} {xe : Value → Shared → Prop} (o : X.Ok) : ({ X with xe := xe } : Cx).Ok := by
  cases o
  constructor <;> assumption
theorem Inv.rexe {X : Cx} {pins : List (Addr × Obj)} {σ : St} {H : Hp} {s : Shared} {xe : Value → Shared → Prop} (I : Inv X pins σ H s) : Inv { X with xe := xe } pins σ H s := by
  obtain ⟨ok, i1, i2, i3, i4, i5, i6, i7, i8, i9, i10⟩ := I
  exact ⟨ok.rexe, i1, i2, i3, i4, i5, i6, i7, i8, i9, i10⟩
noncomputable def cxCompE (xf : Addr → Shared → Hp → List Addr → Value → Shared → Prop) (X : Cx) (N : List Str) (scope : Scope) (cl : List (Str × Addr)) (C : Addr) (s₂ : Shared) (H₂ : Hp) (fp : List Addr) (pn : List (Addr × Obj)) : Cx := { cxComp X N scope cl C s₂ H₂ fp pn with xe := xf C s₂ H₂ fp }
theorem comp_runX {xf : Addr → Shared → Hp → List Addr → Value → Shared → Prop} {elt iter : Expr} {ts : List Expr} {pos : Pos} {gF : Fam TG} {ttF : Fam TT} {teF : Fam TE} {E : Value → Shared → Prop} (O : CompOk X own cap scope cl) (hc : X.calm = true)
    (hgF : ∀ C s H fp pn, PG (cxCompE xf X (own ++ cap.map (·.1)) scope cl C s H fp pn) tg (gF C s H fp pn)) (htF : ∀ C s H fp pn, PTs (cxCompE xf X (own ++ cap.map (·.1)) scope cl C s H fp pn) ts (ttF C s H fp pn)) (heF : ∀ C s H fp pn, PE (cxCompE xf X (own ++ cap.map (·.1)) scope cl C s H fp pn) elt (teF C s H fp pn)) (hts : ts.length ≤ 1)
    (I2 : Inv X pins σ H s) (T : Turn X.prog X.w X.K tg J fp it tn) (st2 : tn 0 s.heap) (f2 : ∀ b ∈ fp, FpOk X pins H b) {Q : VK}
    (hw : ∀ C s H2 fp pn, compGoT J (gF C s H2 fp pn) (ttF C s H2 fp pn) (teF C s H2 fp pn) own cap σ Q H)
    {R : Value → Addr → Result → Shared → Prop}
    (fin : ∀ (D C : Addr) (H' : Hp) (s' : Shared) (m : Str → Option Value), s.heap.objs.size ≤ C → s'.heap.Ns C m → H' C = none →
      (∀ h', Heap.SameBut C s'.heap h' → Inv X pins σ H' { s' with heap := h' }) → Q (.ref D) H' → R (.ref D) C (.ok .next) s')
    (hexc : ∀ (D C : Addr) (cells : List (Str × Addr)) (e : Value) (s' : Shared), s.heap.objs.size ≤ C → xf C s H fp e s' → notedBy (model X.prog X.w) X.A (compEnvC scope cells C X.env) (fun e s' => R (.ref D) C (.error e) s') e s') :
    wpAny (model X.prog X.w) X.A (newList []) (fun acc s₃ => wpAny (model X.prog X.w) X.A (newFunctionEnv scope X.env.globals cl [] X.env.qual none .none (some X.env)) (fun cenv s₄ =>
      codeAny (model X.prog X.w) X.A (.compStart (.ListComp elt [⟨tg, iter, ts, 0⟩] scope pos) 0 (.ref it) acc { cenv with scope := relabel scope X.env }) (R acc cenv.locals) s₄) E s₃) E s := by
  refine wpAny_newObj_type (newEnv_own (fun h₁ hns₁ hk₁ hx₁ => ?_))
  dsimp only at hns₁ hk₁ hx₁ ⊢
  generalize hHh : s.heap.push { cls := .type "list", dict := none, data := .seq ([] : List Value).toArray } = Hh at hns₁ hk₁ hx₁ ⊢
  have hCs : Hh.objs.size = s.heap.objs.size + 1 := by rw [← hHh, Heap.size_push]
  generalize hCC : Hh.objs.size = C at hns₁ hx₁ hCs ⊢
  generalize hDD : s.heap.objs.size = D at hCs ⊢
  have ltDC : D < C := by omega
  have hDC : D ≠ C := Nat.ne_of_lt ltDC
  have hsD : s.heap.objs.size ≤ D := Nat.le_of_eq hDD
  have hsC : s.heap.objs.size ≤ C := by omega
  have ltS : ∀ {b : Addr} {o : Obj}, s.heap.get? b = some o → b < D := fun e => by rw [← hDD]; exact Heap.lt_size e
  have old : ∀ b o, s.heap.get? b = some o → h₁.get? b = some o := fun b o e => by
    refine hk₁ b o ?_
    rw [← hHh]
    exact Heap.get?_push_of_some _ e
  have hD0 : h₁.PlainList D #[] := by
    have z : Hh.get? D = some { cls := .type "list", dict := none, data := .seq ([] : List Value).toArray } := by
      rw [← hHh, ← hDD]
      exact Heap.get?_push_size _ rfl
    exact ⟨_, hk₁ D _ z⟩
  obtain ⟨W, ⟨m0, w0⟩, turn⟩ := hw C s H fp (X.pn ++ pins)
  have hg := hgF C s H fp (X.pn ++ pins)
  have ht := htF C s H fp (X.pn ++ pins)
  have he := heF C s H fp (X.pn ++ pins)
  have I' : Inv (cxCompE xf X (own ++ cap.map (·.1)) scope cl C s H fp (X.pn ++ pins)) [] (st0 own σ cap) H { s with heap := h₁, toks := s.toks } := (I2.comp (t' := s.toks) O T st2 f2 hsC old hns₁ hx₁).rexe
  have cne : ∀ x c, (PySem.cellsFrom (C + 1) scope.names cl).lookup x = some c → (∃ v, s.heap.IsCell c v ∧ X.env.cells.lookup x = some c) ∨ C < c := fun x c e => by
    rcases hx₁ x c (PySem.mem_of_lookup e) with z | ⟨_, z⟩
    · obtain ⟨v, hv⟩ := I2.cell x c (O.sub x c z)
      exact .inl ⟨v, hv, O.sub x c z⟩
    · exact .inr z
  have st' : tn 0 h₁ := T.keep _ _ _ st2 fun b hb o e => old b o e
  have nofr : ∀ {a : Addr}, s.heap.objs.size ≤ a → a ∉ frs X.stack := fun {a} ha z => by
    rcases List.mem_cons.mp (I2.stkSub a z) with q | q
    · exact absurd (Nat.lt_of_lt_of_le I2.lt ha) (by rw [q]; exact Nat.lt_irrefl _)
    · exact I2.nofs ha q
  have ltfp : ∀ b ∈ fp, b < D := fun b hb => by
    obtain ⟨o, e, _⟩ := T.obj _ _ st2 b hb
    exact ltS e
  have fpk : ∀ {H3 : Hp} {objD : Obj}, (∀ b ∈ fp, H3 b = none) → ∀ b ∈ fp, FpOk (cxCompE xf X (own ++ cap.map (·.1)) scope cl C s H fp (X.pn ++ pins)) [(D, objD)] H3 b := fun {H3 objD} hn b hb => by
    obtain ⟨_, f1, f3, f4, f5, f6⟩ := f2 b hb
    have lb := ltfp b hb
    refine ⟨hn b hb, (Nat.ne_of_lt (Nat.lt_trans lb ltDC)), fun z => ?_, .inl hb, fun x c e => ?_, fun p hp => ?_⟩
    · rcases List.mem_cons.mp (I2.stkSub b z) with q | q
      · exact f1 q
      · exact f3 q
    · rcases cne x c e with ⟨_, _, z⟩ | z
      · exact f5 x c z
      · exact Nat.ne_of_gt (Nat.lt_trans lb (Nat.lt_trans ltDC z))
    · rcases List.mem_append.mp hp with z | z
      · exact f6 p z
      · have z' : p = (D, objD) := by simpa using z
        subst z'
        exact Nat.ne_of_gt lb
  have loop : ∀ s₃ : Shared, s₃ = { s with heap := h₁ } →
      codeAny (model X.prog X.w) X.A (.compLoop (.ListComp elt [⟨tg, iter, ts, 0⟩] scope pos) 0 (.ref it) (.ref D) (compEnvC scope (PySem.cellsFrom (C + 1) scope.names cl) C X.env)) (R (.ref D) C) s₃ := by
    rintro s₃ rfl
    refine compLoop_any hts (fun n s' => ∃ (i : Nat) (acc : List V) (its : List Value) (H' : Hp), Inv (cxCompE xf X (own ++ cap.map (·.1)) scope cl C s H fp (X.pn ++ pins)) [] (st0 own σ cap) H' s' ∧ tn i s'.heap ∧ (∀ b ∈ fp, H' b = none) ∧ H' D = none ∧
      s'.heap.PlainList D its.toArray ∧ Vals acc its ∧ W i n acc H') ?_ m0 ⟨0, [], [], H, I', st', fun b hb => (f2 b hb).1, I2.hok.fresh hsD, hD0, .nil, w0⟩
    rintro n s3 ⟨i, acc, its, H3, I3, st3, fr3, nD, ⟨nn, hD⟩, rv, w3⟩
    obtain ⟨hlen, hturn⟩ := turn i n acc H3 w3
    have lenV := rv.length
    have pinD : ∀ {s5 : Shared} {H5 : Hp}, s5.heap.get? D = some { cls := .type "list", data := .seq its.toArray nn } → H5 D = none → ∀ p ∈ [(D, ({ cls := .type "list", data := .seq its.toArray nn } : Obj))], s5.heap.get? p.1 = some p.2 ∧ H5 p.1 = none ∧ p.1 ≠ C ∧ p.1 ∉ frs X.stack ∧ ∀ v, p.2.data ≠ .cell v := by
      intro s5 H5 e1 e2 p hp
      have z' : p = (D, ({ cls := .type "list", data := .seq its.toArray nn } : Obj)) := by simpa using hp
      subst z'
      exact ⟨e1, e2, hDC, nofr hsD, fun v z => by cases z⟩
    have I3p : Inv (cxCompE xf X (own ++ cap.map (·.1)) scope cl C s H fp (X.pn ++ pins)) [(D, { cls := .type "list", data := .seq its.toArray nn })] (st0 own σ cap) H3 s3 := I3.pins_of (pinD hD nD)
    rcases hturn with ⟨stop, qn⟩ | ⟨go, step⟩
    · refine wpAny_mono (T.done (cxCompE xf X (own ++ cap.map (·.1)) scope cl C s H fp (X.pn ++ pins)) rfl rfl rfl hc i _ s3 _ H3 (fun _ _ => False) I3p (fpk fr3) st3 stop) (fun r s4 h4 => ?_) (fun _ _ z => z.elim)
      obtain ⟨hr, I4⟩ := h4
      subst hr
      obtain ⟨m4, hm4, _⟩ := I4.loc
      have hD4 := (I4.pin (D, { cls := .type "list", data := .seq its.toArray nn }) (List.mem_append_right _ (by simp))).1
      have nC : H3 C = none := I4.free
      refine fin D C (upd H3 D (.lst acc)) s4 m4 hsC hm4 (by rw [upd_ne (Ne.symm hDC)]; exact nC) (fun h' sb => ?_) (qn D nD)
      have kc : ∀ b o, b ≠ C → s4.heap.get? b = some o → h'.get? b = some o := fun b o hb e => sb.extBut b o hb e
      have neD : ∀ {b : Addr} {o : Obj}, s.heap.get? b = some o → b ≠ D := fun e => Nat.ne_of_lt (ltS e)
      have neC : ∀ {b : Addr} {o : Obj}, s.heap.get? b = some o → b ≠ C := fun e => Nat.ne_of_lt (Nat.lt_trans (ltS e) ltDC)
      refine I2.call' (s' := { s4 with heap := h' }) (ch := fp) I4.os ⟨?_, ?_, ?_, ?_, ?_, ?_, ?_⟩ (fun a o e => ?_) I4.bare (fun b hb => ?_)
      · exact fun b o e n hb hx => kc b o (neC e) (I4.base.keep b o e n hb hx)
      · intro b o e n hb hx
        obtain ⟨sl, q⟩ := I4.base.slot b o e n hb hx
        exact ⟨sl, kc b _ (neC e) q⟩
      · intro b o e n hx
        rw [upd_ne (neD e)]
        exact I4.base.free b o e n hx
      · intro b o e hx
        obtain ⟨o', q⟩ := I4.base.there b o e hx
        exact ⟨o', kc b _ (neC e) q⟩
      · intro b xs e
        have q := I4.base.tups b xs e
        rw [upd_ne (ne_of_none q nD)]
        exact q
      · intro b o u e
        have q := I4.base.frzs b o u e
        rw [upd_ne (ne_of_none q nD)]
        exact q
      · intro b ps e
        obtain ⟨more, q⟩ := I4.base.tbls b ps e
        exact ⟨more, by rw [upd_ne (ne_of_none q nD)]; exact q⟩
      · by_cases ha : a = D
        · subst ha
          rw [upd_same] at e
          cases e
          exact ⟨hlen, its, nn, rv, kc _ _ hDC hD4⟩
        · rw [upd_ne ha] at e
          refine (I4.hok a o e).stay (fun b u hb q => kc b u ?_ q) (fun b q => ?_) (fun b xs q => ?_)
          · rcases hb with rfl | hb
            · exact ne_of_none e nC
            · exact ne_of_none hb nC
          · rw [upd_ne (ne_of_none q nD)]; exact q
          · rw [upd_ne (ne_of_none q nD)]; exact q
      · obtain ⟨_, f1, _, f4, f5, f6⟩ := f2 b hb
        exact ⟨f4, f1, f5, f6⟩
    · refine wpAny_mono (T.item (cxCompE xf X (own ++ cap.map (·.1)) scope cl C s H fp (X.pn ++ pins)) rfl rfl rfl hc i _ s3 _ H3 (fun _ _ => False) I3p (fpk fr3) st3 go) (fun r s4 h4 => ?_) (fun _ _ z => z.elim)
      obtain ⟨u, hr, h4⟩ := h4
      subst hr
      refine wpAny_mono h4 (fun _ s5 h5 => ?_) (fun _ _ z => z.elim)
      obtain ⟨x, H5, I5, r5, y5, st5, fr5⟩ := h5
      have I5' := I5.pinned (fpk fr5) (T.obj _ _ st5)
      refine wpAny_mono (hg _ s5 _ H5 x u _ I5' r5 (step x H5 y5)) (fun _ s6 h6 => ?_) (fun e s' z => hexc D C _ e s' hsC z)
      obtain ⟨σ6, H6, I6, e6, q6⟩ := h6
      refine wpAny_mono (ht _ s6 σ6 H6 _ I6 q6) (fun bb s6' h6' => ?_) (fun e s' z => hexc D C _ e s' hsC z)
      obtain ⟨H6', I6', q6'⟩ := h6'
      have stay : ∀ {H7 : Hp} {s7 : Shared}, Inv (cxCompE xf X (own ++ cap.map (·.1)) scope cl C s H fp (X.pn ++ pins)) [] σ6 H7 s7 → Inv (cxCompE xf X (own ++ cap.map (·.1)) scope cl C s H fp (X.pn ++ pins)) [] (st0 own σ cap) H7 s7 := fun {H7 s7} I8 => by
        refine I8.weak (I'.len.trans I8.len.symm) (fun j v e => ?_)
        obtain ⟨l, p, rfl, hp, hs⟩ := get_st0 e
        have q : (σ6.drop own.length)[l]? = some (some v) := by
          rw [e6]
          unfold capt
          rw [List.getElem?_map, hp]
          show some ((σ[p.2]?).join) = _
          rw [hs]
          rfl
        rwa [List.getElem?_drop] at q
      cases bb with
      | false =>
        rw [if_neg Bool.false_ne_true] at q6' ⊢
        obtain ⟨m', hm, w7⟩ := q6'
        obtain ⟨hD7, nD7, _⟩ := I6'.pin (D, { cls := .type "list", data := .seq its.toArray nn }) (List.mem_append_right _ (by simp))
        have st7 : tn (i + 1) s6'.heap := T.keep _ _ _ st5 fun b hb o e => (I6'.pin (b, o) (List.mem_append_right _ (List.mem_append_right _ (mem_pinsAt hb e)))).1
        have fr7 : ∀ b ∈ fp, H6' b = none := fun b hb => by
          obtain ⟨o, e, _⟩ := T.obj _ _ st5 b hb
          exact (I6'.pin (b, o) (List.mem_append_right _ (List.mem_append_right _ (mem_pinsAt hb e)))).2.1
        exact ⟨m', hm, i + 1, acc, its, H6', stay (I6'.pins_of fun p hp => nomatch hp), st7, fr7, nD7, ⟨nn, hD7⟩, rv, w7⟩
      | true =>
      rw [if_pos rfl] at q6' ⊢
      refine wpAny_mono (he _ s6' σ6 H6' _ I6' q6') (fun y s7 h7 => ?_) (fun e s' z => hexc D C _ e s' hsC z)
      obtain ⟨v, H7, I7, r7, hl7, m', hm, w7⟩ := h7
      obtain ⟨hD7, nD7, _⟩ := I7.pin (D, { cls := .type "list", data := .seq its.toArray nn }) (List.mem_append_right _ (by simp))
      have st7 : tn (i + 1) s7.heap := T.keep _ _ _ st5 fun b hb o e => (I7.pin (b, o) (List.mem_append_right _ (List.mem_append_right _ (mem_pinsAt hb e)))).1
      have fr7 : ∀ b ∈ fp, H7 b = none := fun b hb => by
        obtain ⟨o, e, _⟩ := T.obj _ _ st5 b hb
        exact (I7.pin (b, o) (List.mem_append_right _ (List.mem_append_right _ (mem_pinsAt hb e)))).2.1
      refine wpAny_list_append_plain (l := D) (items := its.toArray) ⟨nn, hD7⟩ (fun h8 hp8 hs8 => ?_) (by rw [List.size_toArray]; omega)
      have I7w : Inv (cxCompE xf X (own ++ cap.map (·.1)) scope cl C s H fp (X.pn ++ pins)) [] σ6 H7 s7 := I7.pins_of fun p hp => nomatch hp
      have I8 : Inv (cxCompE xf X (own ++ cap.map (·.1)) scope cl C s H fp (X.pn ++ pins)) [] σ6 H7 { s7 with heap := h8 } := by
        refine I7w.turned (t' := s7.toks) (it := D) (fun b o hb e => hs8.extBut b o hb e) nD7 hDC (.inr hsD) (fun x c e => ?_) (fun p hp => ?_)
        · rcases cne x c e with ⟨v, ⟨o, ho, _⟩, _⟩ | z
          · exact Nat.ne_of_lt (ltS ho)
          · exact Nat.ne_of_gt (Nat.lt_trans ltDC z)
        · have hp' : p ∈ X.pn ++ pins := by simpa [cxCompE, cxComp] using hp
          exact Nat.ne_of_lt (ltS (I2.pin p hp').1)
      have I9 := stay I8
      refine ⟨m', hm, i + 1, acc ++ [v], its ++ [y], H7, I9, T.keep _ _ _ st7 (fun b hb o e => hs8.extBut b o (Nat.ne_of_lt (ltfp b hb)) e), fr7, nD7, ?_, rv.append (.cons r7 .nil), w7⟩
      simpa using hp8
  exact codeAny_compStart_list (loop _ rfl) (T.self X.A 0 _ _ _ st' (loop _ rfl))
theorem comp_run {elt iter : Expr} {ts : List Expr} {pos : Pos} {gF : Fam TG} {ttF : Fam TT} {teF : Fam TE} {E : Value → Shared → Prop} (O : CompOk X own cap scope cl) (hc : X.calm = true)
    (hgF : ∀ C s H fp pn, PG (cxComp X (own ++ cap.map (·.1)) scope cl C s H fp pn) tg (gF C s H fp pn)) (htF : ∀ C s H fp pn, PTs (cxComp X (own ++ cap.map (·.1)) scope cl C s H fp pn) ts (ttF C s H fp pn)) (heF : ∀ C s H fp pn, PE (cxComp X (own ++ cap.map (·.1)) scope cl C s H fp pn) elt (teF C s H fp pn)) (hts : ts.length ≤ 1)
    (I2 : Inv X pins σ H s) (T : Turn X.prog X.w X.K tg J fp it tn) (st2 : tn 0 s.heap) (f2 : ∀ b ∈ fp, FpOk X pins H b) {Q : VK}
    (hw : ∀ C s H2 fp pn, compGoT J (gF C s H2 fp pn) (ttF C s H2 fp pn) (teF C s H2 fp pn) own cap σ Q H)
    {R : Value → Addr → Result → Shared → Prop}
    (fin : ∀ (D C : Addr) (H' : Hp) (s' : Shared) (m : Str → Option Value), s.heap.objs.size ≤ C → s'.heap.Ns C m → H' C = none →
      (∀ h', Heap.SameBut C s'.heap h' → Inv X pins σ H' { s' with heap := h' }) → Q (.ref D) H' → R (.ref D) C (.ok .next) s') :
    wpAny (model X.prog X.w) X.A (newList []) (fun acc s₃ => wpAny (model X.prog X.w) X.A (newFunctionEnv scope X.env.globals cl [] X.env.qual none .none (some X.env)) (fun cenv s₄ =>
      codeAny (model X.prog X.w) X.A (.compStart (.ListComp elt [⟨tg, iter, ts, 0⟩] scope pos) 0 (.ref it) acc { cenv with scope := relabel scope X.env }) (R acc cenv.locals) s₄) E s₃) E s :=
  comp_runX (xf := fun _ _ _ _ _ _ => False) O hc hgF htF heF hts I2 T st2 f2 hw fin fun _ _ _ _ _ _ z => z.elim
theorem pe_comp {elt iter : Expr} {pos : Pos} {wi : TI} {ts : List Expr} {g : Fam TG} {tt : Fam TT} {te : Fam TE} (hi : PI X tg iter wi) (O : CompOk X own cap scope cl) (hc : X.calm = true)
    (hg : ∀ C s H fp pn, PG (cxComp X (own ++ cap.map (·.1)) scope cl C s H fp pn) tg (g C s H fp pn)) (ht : ∀ C s H fp pn, PTs (cxComp X (own ++ cap.map (·.1)) scope cl C s H fp pn) ts (tt C s H fp pn)) (he : ∀ C s H fp pn, PE (cxComp X (own ++ cap.map (·.1)) scope cl C s H fp pn) elt (te C s H fp pn)) (hts : ts.length ≤ 1)
    (hs : ∀ x, foldedSetIterable iter X.env x = pure x := by intro _; rfl) : PE X (.ListComp elt [⟨tg, iter, ts, 0⟩] scope pos) (tCompT wi g tt te own cap) := by
  intro pins s σ H Q I h
  rw [eval_ListComp]
  refine wpAny_comprehension_free (use := none) rfl hs O.clos O.kind O.locals (thn (hi pins s σ H _ I h) fun xv s₁ h₁ => thn h₁ fun itv s₂ h₂ => ?_)
  obtain ⟨it, fp, tn, J, H2, rfl, I2, T, st2, f2, hw⟩ := h₂
  refine comp_run (R := fun acc C => compPost (model X.prog X.w) X.A X.xe none (EP X pins σ Q) acc C) O hc hg ht he hts I2 T st2 f2 hw ?_
  intro D C H' s' m hC hn hH IV q
  exact ⟨m, hn, fun h' sb => ⟨.ref D, H', IV h' sb, rfl, q⟩⟩
end
end L2

namespace L2
open PySem PySem.Spec PyProof.Rows
noncomputable def relabelN (scope out : Scope) : List (Str × NameKind) := scope.names.map fun (n, k) => if (k == .free && out.kind == .function && out.names.lookup n == some .cell) then (n, .cell) else (n, k)
noncomputable def compChk (scope out : Scope) (cn : List Str) : Bool :=
  scope.names.all (fun y => y.2 != .cell || !cn.contains y.1) && scope.names.all (fun y => y.2 != .local || scope.names.lookup y.1 == some .local) && (relabelN scope out).all (fun y => !(y.2 == .cell || y.2 == .free) || cn.contains y.1 || scope.names.contains (y.1, .cell)) && cn.all (fun n => out.names.lookup n == some .cell && (relabelN scope out).lookup n == some .cell)
noncomputable def SubOk (X : Cx) : List (Str × Addr) → Prop
  | [] => True
  | p :: r => X.env.cells.lookup p.1 = some p.2 ∧ SubOk X r
theorem SubOk.mem {X : Cx} : ∀ {cl : List (Str × Addr)} {p : Str × Addr}, SubOk X cl → p ∈ cl → X.env.cells.lookup p.1 = some p.2
  | _ :: _, _, h, .head _ => h.1
  | _ :: _, _, h, .tail _ m => SubOk.mem h.2 m
noncomputable def CapN (X : Cx) : List (Str × Nat) → Prop
  | [] => True
  | p :: r => X.N[p.2]? = some p.1 ∧ CapN X r
theorem look_some {α : Type} {x : Str} : ∀ {l : List (Str × α)}, x ∈ l.map (·.1) → ∃ c, l.lookup x = some c
  | [], h => by simp at h
  | (y, c) :: r, h => by
    by_cases e : x = y
    · subst e; exact ⟨c, by simp⟩
    · have h' : x ∈ r.map (·.1) := by
        rcases List.mem_map.mp h with ⟨p, hp, rfl⟩
        rcases List.mem_cons.mp hp with rfl | hp
        · exact absurd rfl e
        · exact List.mem_map.mpr ⟨p, hp, rfl⟩
      obtain ⟨d, hd⟩ := look_some (l := r) h'
      exact ⟨d, by rw [List.lookup_cons, beq_false_of_ne e]; exact hd⟩
theorem CompOk.of {X : Cx} {own : List Str} {cap : List (Str × Nat)} {scope : Scope} {cl : List (Str × Addr)} (clos : closureFor scope X.env = pure cl) (kind : scope.kind = .function) (chk : compChk scope X.env.scope (cap.map (·.1)) = true)
    (names : cl.map (·.1) = cap.map (·.1)) (sub : SubOk X cl) (capn : CapN X cap) : CompOk X own cap scope cl := by
  unfold compChk at chk
  simp only [Bool.and_eq_true, List.all_eq_true] at chk
  obtain ⟨⟨⟨h1, h2⟩, h3⟩, h4⟩ := chk
  have sub' : ∀ x c, cl.lookup x = some c → X.env.cells.lookup x = some c := fun x c e => sub.mem (PySem.mem_of_lookup e)
  have capk : ∀ (l : List (Str × Nat)), (∀ p ∈ l, p.1 ∈ cap.map (·.1)) → CapN X l → CapOk X (relabel scope X.env) cl l := by
    intro l
    induction l with
    | nil => exact fun _ _ => trivial
    | cons p r ih =>
      intro hm hn
      have hp := hm p List.mem_cons_self
      have hq := h4 p.1 hp
      have e1 : X.env.scope.names.lookup p.1 = some .cell := by simpa using hq.1
      have e2 : (relabelN scope X.env.scope).lookup p.1 = some .cell := by simpa using hq.2
      obtain ⟨c, hc⟩ := look_some (l := cl) (x := p.1) (by rw [names]; exact hp)
      exact ⟨⟨hn.1, e1, e2, c, hc, sub' _ _ hc⟩, ih (fun q hq => hm q (List.mem_cons_of_mem _ hq)) hn.2⟩
  refine ⟨clos, kind, fun x c hm y hy hk => ?_, fun y hy e => ?_, fun x c hm => sub.mem hm, fun k x hx => ?_, capk cap (fun p hp => List.mem_map.mpr ⟨p, hp, rfl⟩) capn⟩
  · have := h1 y hy
    rw [hk] at this
    rintro rfl
    have hc : y.1 ∈ cap.map (·.1) := by rw [← names]; exact List.mem_map.mpr ⟨_, hm, rfl⟩
    simp at this
    simp at hc
    obtain ⟨a, ha⟩ := hc
    exact this a ha
  · have := h2 y hy
    rw [e] at this
    simpa using this
  · have fin : ∀ k', (relabelN scope X.env.scope).lookup x = some k' → (k' = .cell ∨ k' = .free) → ∃ c, (PySem.cellsFrom k scope.names cl).lookup x = some c := by
      intro k' e hk
      have := h3 _ (PySem.mem_of_lookup e)
      refine Option.isSome_iff_exists.mp (cells_some scope.names k cl ?_)
      have this' : x ∈ cap.map (·.1) ∨ (x, NameKind.cell) ∈ scope.names := by
        rcases hk with rfl | rfl
        · simpa using this
        · simpa using this
      rcases this' with z | z
      · obtain ⟨c, hc⟩ := look_some (l := cl) (x := x) (by rw [names]; exact z)
        exact .inl (by rw [hc]; rfl)
      · exact .inr z
    rcases hx with e | e
    · exact fin _ e (.inl rfl)
    · exact fin _ e (.inr rfl)
section
variable {X : Cx} {e st : Expr} {te ts : TE} {p2 pos : Pos}
end
end L2

namespace L2
open PySem PySem.Spec PyProof.Rows
theorem ObjOk.there {P : Program} {w : World} {H : Hp} {h : Heap} {a : Addr} {o : HO} (x : ObjOk P w H h a o) : ∃ ob, h.get? a = some ob := by
  cases o with
  | lst xs => obtain ⟨_, _, _, _, e⟩ := x; exact ⟨_, e⟩
  | tup xs => obtain ⟨_, _, _, o, e, _⟩ := x; exact ⟨_, e⟩
  | dK kvs => obtain ⟨_, _, _, _, o, _, _, e, _⟩ := x; exact ⟨_, e⟩
  | dT kvs => obtain ⟨_, _, _, _, o, _, _, e, _⟩ := x; exact ⟨_, e⟩
  | set S n => obtain ⟨o, _, _, _, e, _⟩ := x; exact ⟨_, e⟩
  | ins C dx fs => obtain ⟨_, _, _, e, _⟩ := x; exact ⟨_, e⟩
  | own y => obtain ⟨_, e⟩ := x; exact ⟨_, e⟩
  | xd fs => obtain ⟨_, ⟨_, _, _, e, _⟩, _⟩ := x; exact ⟨_, e⟩
  | rng lo hi => obtain ⟨_, _, _, e⟩ := x; exact ⟨_, e⟩
  | frz ob u => obtain ⟨e, _⟩ := x; exact ⟨_, e⟩
  | tbl ps => exact ⟨_, (show h.get? a = some _ from x)⟩
  | met f y => exact ⟨_, (show h.get? a = some _ from x)⟩
  | ext φ => obtain ⟨_, ⟨_, e⟩, _⟩ := x; exact ⟨_, e⟩
theorem HOk.free {P : Program} {w : World} {H : Hp} {h : Heap} (x : HOk P w H h) {a : Addr} (e : h.get? a = none) : H a = none := by
  cases q : H a with
  | none => rfl
  | some o =>
    obtain ⟨ob, z⟩ := (x a o q).there
    rw [e] at z; cases z
structure Fly (P : Program) (w : World) (l : List Env) (H H' : Hp) (s s' : Shared) (x : Addr) (cls : Value) : Prop where
  os : s'.os = s.os
  bare : AllBare s'.gens
  un : Un (frs l) [] H H' s.heap s'.heap
  hok : HOk P w H' s'.heap
  frf : ∀ b ∈ frs l, H' b = none
  free : H' x = none
  ex : ∃ (B : Heap) (a0 : Value), Heap.FlyingW B l x cls a0 s'.heap ∧ ∀ b o, s'.heap.get? b = some o → (H' b ≠ none ∨ ∃ o', s.heap.get? b = some o') → b ∉ frs l → B.get? b = some o
theorem fly_of {P : Program} {w : World} {l l' : List Env} {H H' : Hp} {s s' : Shared} {x : Addr} {cls a0 : Value} {B h' : Heap} (os : s'.os = s.os) (bare : AllBare s'.gens) (un : Un (frs l) [] H H' s.heap s'.heap) (hok : HOk P w H' s'.heap)
    (frf : ∀ b ∈ frs l, H' b = none) (nf : ∀ b ∈ frs l, ∃ o, s'.heap.get? b = some o ∧ ∀ vs, o.data ≠ .fields vs)
    (cov : ∀ b o, s'.heap.get? b = some o → (H' b ≠ none ∨ ∃ o', s.heap.get? b = some o') → b ∉ frs l → B.get? b = some o)
    (sub : ∀ b ∈ frs l', b ∈ frs l) (new : ∀ b ∈ frs l, b ∉ frs l' → s.heap.get? b = none) (fl : Heap.FlyingW B l' x cls a0 h') (sm : s'.heap.UpToSlots h') (free : H' x = none) :
    Fly P w l' H H' s { s' with heap := h' } x cls := by
  have stay : ∀ b o, s'.heap.get? b = some o → (H' b ≠ none ∨ ∃ o', s.heap.get? b = some o') → b ∉ frs l → h'.get? b = some o := fun b o e q hb => fl.1 b o (cov b o e q hb)
  have out : ∀ {b : Addr} {o : Obj}, s.heap.get? b = some o → b ∉ frs l' → b ∉ frs l := fun {b o} e hb z => by
    rw [new b z hb] at e; cases e
  refine ⟨os, bare, ⟨fun b o e n hb hx => ?_, fun b o e n hb hx => ?_, un.free, fun b o e hx => ?_, un.tups, un.frzs, un.tbls⟩, fun a o e => ?_, fun b hb => frf b (sub b hb), free, B, a0, fl, fun b o e q hb => ?_⟩
  · exact stay b o (un.keep b o e n (out e hb) hx) (.inr ⟨o, e⟩) (out e hb)
  · obtain ⟨sl, q⟩ := un.slot b o e n (sub b hb) hx
    obtain ⟨o1, q1, d1⟩ := nf b (sub b hb)
    rw [q] at q1; cases q1
    obtain ⟨sl', q2⟩ := sm b _ q d1
    exact ⟨sl', q2⟩
  · obtain ⟨o', q⟩ := un.there b o e hx
    by_cases hb : b ∈ frs l
    · obtain ⟨o1, q1, d1⟩ := nf b hb
      obtain ⟨sl', q2⟩ := sm b _ q1 d1
      exact ⟨_, q2⟩
    · exact ⟨o', stay b o' q (.inr ⟨o, e⟩) hb⟩
  · refine (hok a o e).stay (fun b u hb q => ?_) (fun _ q => q) fun _ _ q => q
    have tr : H' b ≠ none := by
      rcases hb with rfl | hb
      · rw [e]; simp
      · rw [hb]; simp
    exact stay b u q (.inl tr) fun z => tr (frf b z)
  · have hb' : b ∉ frs l := by
      intro z
      rcases q with q | ⟨o', q⟩
      · exact q (frf b z)
      · exact out q hb z
    have ⟨o1, q1⟩ : ∃ o1, s'.heap.get? b = some o1 := by
      rcases q with q | ⟨o', q⟩
      · cases z : H' b with
        | none => exact absurd z q
        | some u => exact (hok b u z).there
      · exact un.there b o' q (by simp)
    have c := cov b o1 q1 q hb'
    have z := fl.1 b o1 c
    have e' : h'.get? b = some o := e
    rw [e'] at z; cases z
    exact c
section
variable {X : Cx} {pins : List (Addr × Obj)} {σ : St} {H H' : Hp} {s s' : Shared} {x : Addr} {cls : Value}
theorem Inv.unStack (I : Inv X pins σ H s) (hex : X.ex = []) (hfs : ∀ b ∈ X.fs, b ∈ frs X.stack) : Un (frs X.stack) [] X.H₀ H X.s₀.heap s.heap := I.base.mono hfs (by rw [hex]; exact fun _ z => z)
theorem Inv.sub (I : Inv X pins σ H s) : ∀ b ∈ X.fs, b ∈ frs X.stack := fun b hb => by
  rcases I.ok.stk with e | ⟨e, hf⟩
  · rw [e]; exact hb
  · rw [e]
    unfold frs
    rw [List.filterMap_cons, hf]
    exact List.mem_cons_of_mem _ hb
theorem Inv.flyOut (I : Inv X pins σ H s) (hex : X.ex = []) (F : Fly X.prog X.w X.stack H H' s s' x cls) {B h' : Heap} {a0 : Value} (fl0 : Heap.FlyingW B X.stack x cls a0 s'.heap)
    (cov : ∀ b o, s'.heap.get? b = some o → (H' b ≠ none ∨ ∃ o', s.heap.get? b = some o') → b ∉ frs X.stack → B.get? b = some o) (fl : Heap.FlyingW B X.outer x cls a0 h') (sm : s'.heap.UpToSlots h') :
    Fly X.prog X.w X.outer X.H₀ H' X.s₀ { s' with heap := h' } x cls := by
  refine fly_of (F.os.trans I.os) F.bare ((I.unStack hex I.sub).trans F.un) F.hok F.frf (fun b hb => (fl0.2.2.1.mem hb).2) (fun b o e q hb => cov b o e (q.imp id fun ⟨o', z⟩ => I.base.there b o' z (by rw [hex]; simp)) hb) I.sub (fun b h1 h2 => ?_) fl sm F.free
  rcases List.mem_cons.mp (I.stkSub b h1) with e | e
  · rw [e]; exact Heap.get?_none_of_le I.ok.above
  · exact absurd e h2
end
noncomputable def CXR (P : Program) (w : World) : CXT := fun outer H s E e s' => ∃ (x : Addr) (cls : Value) (H' : Hp), e = .ref x ∧ Fly P w outer H H' s s' x cls ∧ E cls none H'
section
variable {P : Program} {w : World} {K : PySem.W.Frag} {mg : Str → Option Value} {base : Heap} {N : List Str} {qual : Str} {scope : Scope} {f : Addr} {cd : Value} {A : Around} {outer : List Env} {s₀ : Shared} {H₀ : Hp} {E : XK}
theorem pass_on : Passes (CXR P w) (cxOf (CXR P w) P w K mg base N qual scope f cd A outer s₀ H₀ E) E := by
  intro pins σ H s e s' I h
  obtain ⟨x, cls, H', rfl, F, q⟩ := h
  obtain ⟨B, a0, fl, cov⟩ := F.ex
  show wpAny (model P w) (A.deeper (envOfC qual scope s₀.heap.objs.size f cd)) (leaving (envOfC qual scope s₀.heap.objs.size f cd) (.ref x)) _ _ s'
  exact wpAny_leaves_onW I.ok.frames rfl fl fun h' fl' sm => ⟨x, cls, H', rfl, I.flyOut rfl F fl cov fl' sm, q⟩
end
section
variable {X : Cx} {pins : List (Addr × Obj)} {σ : St} {H : Hp} {s : Shared}
end
section
variable {P : Program} {w : World} {K : PySem.W.Frag} {mg : Str → Option Value} {base : Heap} {N : List Str} {qual : Str} {scope : Scope} {f : Addr} {cd : Value} {A : Around} {outer : List Env} {s₀ : Shared} {H₀ : Hp} {E : XK}
end
noncomputable def ExcAt (a : Addr) (C : Value) (h : Heap) : Prop := ∃ ob, h.get? a = some ob ∧ ob.cls = C
noncomputable def exO (a : Addr) (C : Value) : HO := .ext (ExcAt a C)
end L2

namespace L2
open PySem PySem.Spec PyProof.Rows PySem.Calls
theorem ExcAt.ty {M : Model} {h : Heap} {a : Addr} {C : Value} (e : ExcAt a C h) : PySem.W.Looks M h (typeOf (.ref a)) C := by
  obtain ⟨o, h1, h2⟩ := e
  exact h2 ▸ (PySem.W.Looks.ld h1).andThen .now
structure ClsOk (K : PySem.W.Frag) (D : Addr) : Prop where
  g : PySem.W.findIn K (.ref D) "__getattribute__" = some (some (.builtin "BaseException.__getattribute__"))
  n : PySem.W.findIn K (.ref D) "__getattr__" = some none
  b : PySem.W.mroIn K D (.type "BaseException") = some true
  d : PySem.W.hasDictIn K D = true
  f : PySem.W.findIn K (.ref D) "__class__" = some (some (.builtin "object.__class__"))
  s : PySem.W.specialIn K (.builtin "object.__class__") "__get__" = some (some (.builtin "getset_descriptor.__get__"))
  t : PySem.W.takesIn K (.builtin "object.__class__") = some true
  m : PySem.W.mroIn K D (.type "object") = some true
section
open PySem.Builtin PySem.Builtin.ObjectAttr PySem.Builtin.Getset_descriptor PySem.W
variable {prog : Program} {w : World} {A : Around} {E : Value → Shared → Prop} {s : Shared} {K : PySem.W.Frag} {x D : Addr} {name : Str} {M : Model} {h : Heap}
end
section
variable {X : Cx} {pins : List (Addr × Obj)} {σ : St} {H H' : Hp} {s s' : Shared} {x : Addr} {cls : Value}
end
section
variable {X : Cx} {k i : Nat} {x y n : Str} {Cy fa : Addr} {fd : FuncData} {ps : List Str} {sp : Sp} {t : TA} {u : Addr → TS} {e : Expr} {es : List Expr} {p yp cpos epos hpos pos : Pos} {b₀ : Stmt} {suite : List Stmt}
end
end L2

namespace L2
open PySem PySem.Spec PyProof.Rows
theorem list_addG (l : Addr) (items : Array Value) (n : Nat) (sl : Array (Option Value)) (b : Addr) (items2 : Array Value) (n2 : Nat) (sl2 : Array (Option Value)) (hc0 : items.size + items2.size ≤ sizeLine) :
    Meets (Builtin.«list.__add__» ⟨[.ref l, .ref b], []⟩) (fun _ R s => s.heap.get? l = some { cls := .type "list", dict := none, data := .seq items n, slots := sl } ∧ s.heap.get? b = some { cls := .type "list", dict := none, data := .seq items2 n2, slots := sl2 } ∧ R (.ok (.ret (Value.ref s.heap.objs.size))) { s with heap := s.heap.push { cls := Value.type "list", data := Data.seq (items ++ items2) }, toks := s.toks }) :=
  .of_wp fun prog w A R s h => by obtain ⟨hp, g, d, tk, os⟩ := s; obtain ⟨hl, hb, h⟩ := h; have f1 := AutoSeq1.idx_int; have f2 := AutoSeq1.sub_tuple_tuple; have f3 := AutoSeq1.sub_list_list; have f4 := AutoSeq1.sub_tuple_list; have f5 := AutoSeq1.sub_list_tuple; wp_walk using AutoSeq1.wpAny_loadPart' hl, AutoSeq1.wpAny_loadPart' hb; exact ⟨_, rfl, h⟩
section
variable {X : Cx}
theorem op_catL0 {pins : List (Addr × Obj)} {s : Shared} {σ : St} {H : Hp} {l b : Addr} {xs zs : List V} {Q : VK} (I : Inv X pins σ H s) (hH : SqL X.K H l xs) (hB : SqL X.K H b zs) (hz : xs.length + zs.length ≤ sizeLine) (q : ∀ p, H p = none → Q (.ref p) (upd H p (.lst (xs ++ zs)))) :
    wpAny (model X.prog X.w) X.A (binaryOp .Add (.ref l) (.ref b)) (EP X pins σ Q) X.xe s := by
  obtain ⟨its, r, ⟨⟨c1, d1, t1, sl1⟩, n, e, h1, h2, h3⟩, z⟩ := I.list hH
  obtain ⟨its2, r2, ⟨⟨c2, d2, t2, sl2⟩, n2, e2, g1, g2, g3⟩, z2⟩ := I.list hB
  simp only at h1 h2 h3 g1 g2 g3
  subst h1 h2 h3 g1 g2 g3
  refine concat_meets ⟨_, e, rfl⟩ ⟨_, e2, rfl⟩ noFill_list_add seq_list_add F.slot_list_add F.entry_list_add (F.args_list_add_2 _ _) (list_addG l its.toArray n sl1 b its2.toArray n2 sl2 (by rw [List.size_toArray, List.size_toArray, ← r.length, ← r2.length]; exact hz)) ⟨e, e2, ?_⟩
  have ea : its.toArray ++ its2.toArray = (its ++ its2).toArray := by simp
  rw [ea]
  exact ⟨.ref _, _, I.lnew (t' := s.toks) (r.append r2) (by rw [List.length_append]; exact hz), rfl, q _ I.fresh⟩
theorem op_catU0 {pins : List (Addr × Obj)} {s : Shared} {σ : St} {H : Hp} {a b : Addr} {xs ys : List V} {Q : VK} (I : Inv X pins σ H s) (ha : SqT X.K H a xs) (hb : SqT X.K H b ys) (hz : xs.length + ys.length ≤ sizeLine) (q0 : xs = [] → Q (.ref b) H)
    (q1 : xs ≠ [] → ys = [] → Q (.ref a) H) (q2 : xs ≠ [] → ys ≠ [] → ∀ p, H p = none → Q (.ref p) (upd H p (.tup (xs ++ ys)))) :
    wpAny (model X.prog X.w) X.A (binaryOp .Add (.ref a) (.ref b)) (EP X pins σ Q) X.xe s := by
  by_cases hx : xs = []
  · obtain ⟨its, r1, p1, _⟩ := I.tuple ha
    obtain ⟨its2, r2, p2, _⟩ := I.tuple hb
    have hi : its = [] := r1.nil_iff.mpr hx
    subst hi
    obtain ⟨⟨cls, dd, data, sl⟩, ho, hc, n, hd⟩ := id p1
    obtain ⟨⟨cls2, dd2, data2, sl2⟩, ho2, hc2, n2, hd2⟩ := id p2
    simp only at hc hd hc2 hd2
    subst hc hd hc2 hd2
    exact concat_meets ⟨_, ho, rfl⟩ ⟨_, ho2, rfl⟩ noFill_tuple_add seq_tuple_add PySem.F.slot_tuple_add PySem.F.entry_tuple_add (PySem.F.args_tuple_add_2 _ _)
      (tuple_addW0 a b ([] : List Value).toArray its2.toArray n n2 dd dd2 sl sl2 rfl) ⟨ho, ho2, ⟨.ref b, H, I, rfl, q0 hx⟩⟩
  · exact op_catT pins s σ H (.ref a) (.ref b) _ _ Q I rfl rfl ⟨a, b, xs, ys, rfl, rfl, ha, hb, hx, hz, q1 hx, q2 hx⟩
end
end L2
namespace HT
open PySem PyProof.Rows
section
variable {prog : Program} {w : World} {A : Around} {E : Value → Shared → Prop} {s : Shared}
end
end HT
namespace L2
open PySem PySem.Spec PyProof.Rows
section
variable {X : Cx} {pins : List (Addr × Obj)} {σ : St} {H : Hp} {s : Shared}
theorem FpOk.upd {b T : Addr} {o : HO} (f : FpOk X pins H b) (h : b ≠ T) : FpOk X pins (upd H T o) b := ⟨by rw [upd_ne h]; exact f.1, f.2⟩
end
end L2
namespace L2
open PySem PySem.Spec PyProof.Rows
section
variable {prog : Program} {w : World} {A : Around} {E : Value → Shared → Prop} {s : Shared}
theorem draw_list {it t : Addr} {items : Array Value} (hne : t ≠ it) : ∀ (n i : Nat) (s : Shared) (Q : List Value → Shared → Prop), s.heap.IsListIter it t i → s.heap.IsList t items → i + n ≤ items.size →
    (∀ h', h'.IsListIter it t (i + n) → Heap.SameBut it s.heap h' → Q ((items.toList.drop i).take n) { s with heap := h' }) → wpAny (model prog w) A (draw (.ref it) n) Q E s
  | 0, i, s, Q, hit, _, _, hQ => by
    show wpAny _ _ (pure []) Q E s
    exact wpAny_pure (by simpa using hQ s.heap hit (Heap.SameBut.refl ..))
  | n + 1, i, s, Q, hit, ht, hle, hQ => by
    have hlt : i < items.size := by omega
    show wpAny _ _ (pyNext (.ref it) >>= _) Q E s
    refine wpAny_bind (wpAny_pyNext_list_item hit ht (x := items[i]) (by simp [hlt]) fun h₁ hit₁ hs₁ => ?_)
    refine wpAny_bind (wpAny_holding (draw_list hne n (i + 1) _ _ hit₁ (ht.extBut hs₁.extBut hne) (by omega) fun h₂ hit₂ hs₂ => wpAny_pure ?_))
    have hd : items.toList.drop i = items[i] :: items.toList.drop (i + 1) := by simp [List.drop_eq_getElem_cons, hlt]
    have := hQ h₂ (by rw [show i + (n + 1) = i + 1 + n by omega]; exact hit₂) (hs₁.trans hs₂)
    rw [hd, List.take_succ_cons] at this
    exact this
theorem unpackItems_list {t : Addr} {items : Array Value} {Q : List Value → Shared → Prop} (hh : A.handled = none) (ht : s.heap.IsList t items)
    (hQ : ∀ h', Heap.ExtBut s.heap.objs.size s.heap h' → Q items.toList { s with heap := h' }) : wpAny (model prog w) A (unpackItems (.ref t) items.size none) Q E s := by
  have hlt : t ≠ s.heap.objs.size := by obtain ⟨o, ho, _⟩ := ht; exact Nat.ne_of_lt (Heap.lt_size ho)
  unfold unpackItems
  refine wpAny_bind ?_
  · unfold notIterableAtAll
    refine wpAny_bind (wpAny_specialOf ht.typeIs F.slot_list_iter.lookup ?_)
    refine wpAny_pure ?_
    simp only [Bool.false_eq_true, if_false]
    refine wpAny_bind (wpAny_holding (wpAny_pyIter_list ht ?_))
    refine wpAny_bind (wpAny_holding (draw_list hlt items.size 0 _ _ ⟨_, Heap.get?_push_size _ rfl, rfl, rfl⟩ (ht.push _) (by omega) fun h₁ hit₁ hs₁ => ?_))
    have hall : List.take items.size (List.drop 0 items.toList) = items.toList := by
      rw [List.drop_zero]; exact List.take_of_length_le (by simp)
    rw [hall]
    rw [if_neg (by simp)]
    have ht₁ : h₁.IsList t items := (ht.push _).extBut hs₁.extBut hlt
    refine wpAny_bind (wpAny_holding (wpAny_pyNext_list_end hh hit₁ ht₁ (by simp) fun h₂ he₂ => ?_))
    simp only [Option.isSome_none, Bool.false_eq_true, if_false]
    refine wpAny_pure (hQ h₂ fun b o hb e => he₂ b o hb (hs₁.extBut b o hb (Heap.get?_push_of_some _ e)))
theorem assign_Tuple_list {env : Env} {elts : List Expr} {x1} {pos : Pos} {t : Addr} {items : Array Value} {Q : Unit → Shared → Prop} (hh : A.handled = none) (ht : s.heap.IsList t items)
    (hn : (assignEach elts env).length = items.size) (hstar : (assignEach elts env).findIdx? (·.1) = none)
    (h : ∀ h', Heap.ExtBut s.heap.objs.size s.heap h' → wpAny (model prog w) A (assignInOrder ((assignEach elts env).map (·.2)) items.toList) Q E { s with heap := h' }) :
    wpAny (model prog w) A (assign (.Tuple elts x1 pos) env (.ref t)) Q E s := by
  rw [assign_Tuple]
  refine wpAny_bind (wpAny_standAt ?_)
  unfold unpack
  rw [hn, hstar]
  exact wpAny_bind (wpAny_holding (unpackItems_list hh ht h))
end
end L2

namespace L2
open PySem PySem.Spec PyProof.Rows
noncomputable def ItK : Bool → Heap → Addr → Addr → Nat → Prop
  | false, h, a, l, i => h.IsListIter a l i
  | true, h, a, l, i => h.IsTupleIter a l i
noncomputable def SqK : Bool → Heap → Addr → Array Value → Prop
  | false, h, a, xs => h.IsList a xs
  | true, h, a, xs => h.IsTuple a xs
noncomputable def itObj (p : Bool) (l : Addr) : Obj := { cls := .type (if p then "tuple_iterator" else "list_iterator"), data := .fields #[.ref l, .int 0 0] }
theorem ItK.extBut {p : Bool} {h h' : Heap} {a b l : Addr} {i : Nat} (x : ItK p h a l i) (hs : Heap.ExtBut b h h') (hab : a ≠ b) : ItK p h' a l i := by
  cases p
  · exact Heap.IsListIter.extBut x hs hab
  · exact Heap.IsTupleIter.extBut x hs hab
theorem ItK.at {p : Bool} {h h' : Heap} {a l : Addr} {i : Nat} (x : ItK p h a l i) (k : ∀ o, h.get? a = some o → h'.get? a = some o) : ItK p h' a l i := by
  cases p
  · obtain ⟨o, e, r⟩ := (show h.IsListIter a l i from x); exact ⟨o, k o e, r⟩
  · obtain ⟨o, e, r⟩ := (show h.IsTupleIter a l i from x); exact ⟨o, k o e, r⟩
theorem ItK.flds {p : Bool} {h : Heap} {a l : Addr} {i : Nat} (x : ItK p h a l i) : ∃ o vs, h.get? a = some o ∧ o.data = .fields vs := by
  cases p
  · obtain ⟨o, e, _, d⟩ := (show h.IsListIter a l i from x); exact ⟨o, _, e, d⟩
  · obtain ⟨o, e, _, d⟩ := (show h.IsTupleIter a l i from x); exact ⟨o, _, e, d⟩
theorem ItK.new {p : Bool} {h : Heap} {a l : Addr} (e : h.get? a = some (itObj p l)) : ItK p h a l 0 := by
  cases p
  · exact ⟨_, e, rfl, rfl⟩
  · exact ⟨_, e, rfl, rfl⟩
theorem SqK.extBut {p : Bool} {h h' : Heap} {a b : Addr} {xs : Array Value} (x : SqK p h a xs) (hs : Heap.ExtBut b h h') (hab : a ≠ b) : SqK p h' a xs := by
  cases p
  · exact Heap.IsList.extBut x hs hab
  · exact Heap.IsTuple.extBut x hs hab
theorem SqK.push {p : Bool} {h : Heap} {a : Addr} {xs : Array Value} (x : SqK p h a xs) (o : Obj) : SqK p (h.push o) a xs := by
  cases p
  · exact Heap.IsList.push x o
  · exact Heap.IsTuple.push x o
section
variable {prog : Program} {w : World} {A : Around} {E : Value → Shared → Prop} {s : Shared}
end
section
variable {prog : Program} {w : World} {A : Around} {E : Value → Shared → Prop} {s : Shared}

end
end L2
namespace L2
open PySem PySem.Spec PyProof.Rows
end L2

namespace Dl
open PySem
inductive D where
  | non | bl (b : Bool) | int (i : Int) | str (x : Str) | ty (n : String) | cls (c : Str)
  | tup (xs : List D) | lst (xs : List D) | exc (c : Str) | ins (c : Str) (ns : List Str) (vs : List D)
inductive Res (α : Type) where
  | ok (a : α) | ex (c : Str) | bad
noncomputable def Res.bind {α β : Type} : Res α → (α → Res β) → Res β
  | .ok a, f => f a
  | .ex c, _ => .ex c
  | .bad, _ => .bad
theorem ok_bind {α β : Type} (a : α) (f : α → Res β) : (Res.ok a).bind f = f a := rfl
inductive Cl where
  | no | im (d : D) | ow (ds : List D)
noncomputable abbrev Ev := List Cl
noncomputable abbrev ME := Ev → Res D
noncomputable abbrev MB := Ev → Res Bool
noncomputable abbrev MA := Ev → Res (List D)
noncomputable def getC : Option Cl → Res D
  | some (.im d) => .ok d
  | _ => .bad
noncomputable def v (i : Nat) : ME := fun ρ => getC ρ[i]?
noncomputable def c (d : D) : ME := fun _ => .ok d
noncomputable def o1 (f : D → Res D) (a : ME) : ME := fun ρ => (a ρ).bind f
noncomputable def o2 (f : D → D → Res D) (a b : ME) : ME := fun ρ => (a ρ).bind fun x => (b ρ).bind fun y => f x y
noncomputable def anil : MA := fun _ => .ok []
noncomputable def acons (a : ME) (r : MA) : MA := fun ρ => (a ρ).bind fun x => (r ρ).bind fun xs => .ok (x :: xs)
noncomputable def on (f : List D → Res D) (a : MA) : ME := fun ρ => (a ρ).bind f
noncomputable def mtp (a : MA) : ME := fun ρ => (a ρ).bind fun xs => .ok (.tup xs)
noncomputable def mls (a : MA) : ME := fun ρ => (a ρ).bind fun xs => .ok (.lst xs)
noncomputable def tru : D → Res Bool
  | .bl b => .ok b
  | _ => .bad
noncomputable def trb (a : ME) : MB := fun ρ => (a ρ).bind tru
noncomputable def bAnd (a b : MB) : MB := fun ρ => (a ρ).bind fun x => if x = true then b ρ else .ok false
noncomputable def bOr (a b : MB) : MB := fun ρ => (a ρ).bind fun x => if x = true then .ok true else b ρ
noncomputable def bNot (a : MB) : MB := fun ρ => (a ρ).bind fun x => .ok (!x)
noncomputable def eAnd (a b : ME) : ME := fun ρ => (trb a ρ).bind fun x => if x = true then b ρ else .ok (.bl false)
noncomputable def eOr (a b : ME) : ME := fun ρ => (trb a ρ).bind fun x => if x = true then .ok (.bl true) else b ρ
noncomputable def eNot (a : ME) : ME := fun ρ => (trb a ρ).bind fun x => .ok (.bl (!x))
noncomputable def ife (t : MB) (a b : ME) : ME := fun ρ => (t ρ).bind fun x => if x = true then a ρ else b ρ
noncomputable def mulOk (a b : Int) : Bool := decide (a.natAbs < 2 ^ 64) || decide (b.natAbs < 2 ^ 64) || decide (a.natAbs.log2 + b.natAbs.log2 < 100000000)
noncomputable def LIM : Nat := 1000000
noncomputable def dAdd : D → D → Res D
  | .int a, .int b => .ok (.int (a + b))
  | .lst a, .lst b => if a.length + b.length ≤ LIM then .ok (.lst (a ++ b)) else .bad
  | .tup a, .tup b => if a.length + b.length ≤ LIM then .ok (.tup (a ++ b)) else .bad
  | .str a, .str b => if a.length + b.length ≤ LIM then .ok (.str (a ++ b)) else .bad
  | _, _ => .bad
noncomputable def ii (f : Int → Int → Res D) : D → D → Res D
  | .int a, .int b => f a b
  | _, _ => .bad
noncomputable def iSub (a b : Int) : Res D := .ok (.int (a - b))
noncomputable def iMul (a b : Int) : Res D := if mulOk a b = true then .ok (.int (a * b)) else .bad
noncomputable def iMod (a b : Int) : Res D := if 0 < b then .ok (.int (a % b)) else if b = 0 then .bad else .ok (.int (a.fmod b))
noncomputable def iDiv (a b : Int) : Res D := if b.natAbs.log2 < 9000 then (if 0 < b then .ok (.int (a / b)) else if b = 0 then .bad else .ok (.int (a.fdiv b))) else .bad
noncomputable def iPow (a b : Int) : Res D := if 0 ≤ b ∧ b ≤ 1000000 ∧ a.natAbs < 2 ^ 64 then .ok (.int (a ^ b.toNat)) else .bad
noncomputable def iShl (a b : Int) : Res D := if 0 ≤ b ∧ b ≤ 1000000 ∧ a.natAbs < 2 ^ 64 then .ok (.int (a * 2 ^ b.toNat)) else .bad
noncomputable def iShr (a b : Int) : Res D := if 0 ≤ b then .ok (.int (a / 2 ^ b.toNat)) else .bad
noncomputable def iLt (a b : Int) : Res D := .ok (.bl (decide (a < b)))
noncomputable def iLe (a b : Int) : Res D := .ok (.bl (decide (a ≤ b)))
noncomputable def iGt (a b : Int) : Res D := .ok (.bl (decide (b < a)))
noncomputable def iGe (a b : Int) : Res D := .ok (.bl (decide (b ≤ a)))
noncomputable abbrev dSub := ii iSub
noncomputable abbrev dMul := ii iMul
noncomputable abbrev dMod := ii iMod
noncomputable abbrev dDiv := ii iDiv
noncomputable abbrev dPow := ii iPow
noncomputable abbrev dShl := ii iShl
noncomputable abbrev dShr := ii iShr
noncomputable abbrev dLt := ii iLt
noncomputable abbrev dLe := ii iLe
noncomputable abbrev dGt := ii iGt
noncomputable abbrev dGe := ii iGe
noncomputable def dNeg : D → Res D
  | .int a => .ok (.int (-a))
  | _ => .bad
noncomputable def chain (f g : D → D → Res D) (a b d : ME) : ME := fun ρ => (a ρ).bind fun x => (b ρ).bind fun y => (f x y).bind fun z => (tru z).bind fun b => if b = true then (d ρ).bind fun u => g y u else .ok (.bl false)
mutual
noncomputable def eqD : D → D → Bool
  | .non, .non => true
  | .bl a, .bl b => a == b
  | .bl a, .int j => (if a then 1 else 0) == j
  | .int i, .bl b => i == (if b then 1 else 0)
  | .int i, .int j => i == j
  | .str x, .str y => x == y
  | .lst xs, .lst ys => eqDs xs ys
  | .tup xs, .tup ys => eqDs xs ys
  | _, _ => false
noncomputable def eqDs : List D → List D → Bool
  | [], [] => true
  | x :: xs, y :: ys => eqD x y && eqDs xs ys
  | _, _ => false
end
mutual
/-- it may be compared, k deep at most -/
noncomputable def plain : Nat → D → Bool
  | _, .non => true
  | _, .bl _ => true
  | _, .int _ => true
  | _, .str x => x.cps.all (· < 0x110000)
  | k + 1, .tup xs => plains k xs
  | k + 1, .lst xs => plains k xs
  | _, _ => false
noncomputable def plains : Nat → List D → Bool
  | _, [] => true
  | k, x :: xs => plain k x && plains k xs
end
noncomputable def dEq (x y : D) : Res D := if plain 50 x && plain 50 y then .ok (.bl (eqD x y)) else .bad
noncomputable def dNe (x y : D) : Res D := if plain 50 x && plain 50 y then .ok (.bl (!eqD x y)) else .bad
noncomputable def seqD : D → Res (List D)
  | .lst ys => .ok ys
  | .tup ys => .ok ys
  | _ => .bad
noncomputable def isNon : D → Bool
  | .non => true
  | _ => false
noncomputable def dIsN (x : D) : Res D := .ok (.bl (isNon x))
noncomputable def dNotN (x : D) : Res D := .ok (.bl (!isNon x))
noncomputable def at_ {α : Type} (xs : List α) (i : Int) : Option α := if 0 ≤ i then xs[i.toNat]? else if -(xs.length : Int) ≤ i then xs[(i + xs.length).toNat]? else none
noncomputable def ofO {α : Type} : Option α → Res α
  | some a => .ok a
  | none => .bad
noncomputable def dIx : D → D → Res D
  | .lst xs, .int i => ofO (at_ xs i)
  | .tup xs, .int i => ofO (at_ xs i)
  | _, _ => .bad
noncomputable def cutAt (n d : Nat) : Option Int → Nat
  | none => d
  | some i => if i < 0 then (i + n).toNat else min i.toNat n
noncomputable def cutL (xs : List D) (lo hi : Option Int) : List D := (xs.drop (cutAt xs.length 0 lo)).take (cutAt xs.length xs.length hi - cutAt xs.length 0 lo)
noncomputable def dCut (x : D) (lo hi : Option Int) : Res D := match x with
  | .lst xs => .ok (.lst (cutL xs lo hi))
  | .tup xs => .ok (.tup (cutL xs lo hi))
  | _ => .bad
noncomputable def pno : Ev → Res (Option Int) := fun _ => .ok none
noncomputable def optI : D → Res (Option Int)
  | .int i => .ok (some i)
  | _ => .bad
noncomputable def pso (a : ME) : Ev → Res (Option Int) := fun ρ => (a ρ).bind optI
noncomputable def cut (a : ME) (lo hi : Ev → Res (Option Int)) : ME := fun ρ => (a ρ).bind fun x => (lo ρ).bind fun l => (hi ρ).bind fun h => dCut x l h
noncomputable def dRev : D → Res D
  | .lst xs => .ok (.lst xs.reverse)
  | _ => .bad
noncomputable def bLen : List D → Res D
  | [.lst xs] => .ok (.int xs.length)
  | [.tup xs] => .ok (.int xs.length)
  | _ => .bad
noncomputable def bAbs : List D → Res D
  | [.int i] => .ok (.int (if i < 0 then -i else i))
  | _ => .bad
noncomputable def bMax : List D → Res D
  | [.int i, .int j] => .ok (.int (if j > i then j else i))
  | _ => .bad
noncomputable def bMin : List D → Res D
  | [.int i, .int j] => .ok (.int (if j < i then j else i))
  | _ => .bad
noncomputable def bInt : List D → Res D
  | [.int i] => .ok (.int i)
  | [.bl k] => .ok (.int (if k then 1 else 0))
  | _ => .bad
noncomputable def bTup : List D → Res D
  | [.lst xs] => .ok (.tup xs)
  | [.tup xs] => .ok (.tup xs)
  | _ => .bad
noncomputable def bLst : List D → Res D
  | [.lst xs] => .ok (.lst xs)
  | [.tup xs] => .ok (.lst xs)
  | _ => .bad
noncomputable def tyName : D → Option String
  | .non => some "NoneType"
  | .bl _ => some "bool"
  | .int _ => some "int"
  | .str _ => some "str"
  | .tup _ => some "tuple"
  | .lst _ => some "list"
  | _ => none
noncomputable def isTy (t n : String) : Bool := t == n || (t == "bool" && n == "int")
noncomputable def tyList : List String := ["int", "bool", "str", "tuple", "list", "dict"]
noncomputable def bIsi : List D → Res D
  | [x, .ty n] => if tyList.contains n = true then (ofO (tyName x)).bind fun t => .ok (.bl (isTy t n)) else .bad
  | _ => .bad
noncomputable def bMax3 : List D → Res D
  | [.int i, .int j, .int k] => .ok (.int (if j > i then (if k > j then k else j) else (if k > i then k else i)))
  | _ => .bad
noncomputable def intsD : List D → Res (List Int)
  | [] => .ok []
  | d :: r => match d with
    | .int n => (intsD r).bind fun ns => .ok (n :: ns)
    | _ => .bad
noncomputable def bSum : List D → Res D
  | [d] => match d with
    | .lst xs => (intsD xs).bind fun ns => .ok (.int ns.sum)
    | _ => .bad
  | _ => .bad
noncomputable abbrev MI := Ev → Res (List D)
noncomputable def items : D → Res (List D)
  | .lst xs => .ok xs
  | .tup xs => .ok xs
  | _ => .bad
noncomputable def iv (a : ME) : MI := fun ρ => (a ρ).bind items
noncomputable def pairs : List D → List D → List D
  | x :: xs, y :: ys => .tup [x, y] :: pairs xs ys
  | _, _ => []
noncomputable def numbered : Nat → List D → List D
  | _, [] => []
  | k, x :: xs => .tup [.int k, x] :: numbered (k + 1) xs
noncomputable def zip2 : List D → Res (List D)
  | [x, y] => (seqD x).bind fun xs => (seqD y).bind fun ys => .ok (pairs xs ys)
  | _ => .bad
noncomputable def iZip (a : MA) : MI := fun ρ => (a ρ).bind zip2
noncomputable def enum1 : List D → Res (List D)
  | [x] => match x with
    | .lst xs => .ok (numbered 0 xs)
    | _ => .bad
  | _ => .bad
noncomputable def iEnumerate (a : MA) : MI := fun ρ => (a ρ).bind enum1
noncomputable def rangeD (lo : Int) (n : Nat) : List D := (List.range n).map fun (k : Nat) => D.int (lo + (k : Int))
noncomputable def rng1 : List D → Res (List D)
  | [.int j] => if -1000000000 ≤ j ∧ j ≤ 1000000000 then .ok (rangeD 0 j.toNat) else .bad
  | _ => .bad
noncomputable def r1 (a : MA) : MI := fun ρ => (a ρ).bind rng1
noncomputable def rng2 : List D → Res (List D)
  | [.int i, .int j] => if (-1000000000 ≤ i ∧ i ≤ 1000000000) ∧ (-1000000000 ≤ j ∧ j ≤ 1000000000) then .ok (rangeD i (j - i).toNat) else .bad
  | _ => .bad
noncomputable def r2 (a : MA) : MI := fun ρ => (a ρ).bind rng2
noncomputable abbrev MG := D → Ev → Res Ev
noncomputable abbrev MGs := List D → Ev → Res Ev
noncomputable def gN (i : Nat) : MG := fun d ρ => .ok (ρ.set i (.im d))
noncomputable def gs0 : MGs := fun ds ρ => match ds with
  | [] => .ok ρ
  | _ => .bad
noncomputable def gs1 (g : MG) (r : MGs) : MGs := fun ds ρ => match ds with
  | d :: ds => (g d ρ).bind fun ρ' => r ds ρ'
  | [] => .bad
noncomputable def gU (n : Nat) (g : MGs) : MG := fun d ρ => (items d).bind fun xs => if xs.length = n then g xs ρ else .bad
noncomputable def imOf : Option Cl → Cl
  | some (.im d) => .im d
  | _ => .no
noncomputable def capD (ρ : Ev) : List Nat → Ev
  | [] => []
  | j :: r => imOf ρ[j]? :: capD ρ r
noncomputable def noA : Nat → Ev → Ev
  | 0, e => e
  | k + 1, e => .no :: noA k e
noncomputable def compGo (g : MG) (t : MB) (e : ME) (ρ0 : Ev) : List D → Res (List D)
  | [] => .ok []
  | x :: r => (g x ρ0).bind fun ρ1 => (t ρ1).bind fun b => if b = true then (e ρ1).bind fun y => (compGo g t e ρ0 r).bind fun ys => .ok (y :: ys) else compGo g t e ρ0 r
noncomputable def yes : MB := fun _ => .ok true
noncomputable def noEx {α : Type} : Res α → Res α
  | .ex _ => .bad
  | r => r
noncomputable def comp (it : MI) (own : Nat) (cap : List Nat) (g : MG) (t : MB) (e : ME) : ME := fun ρ => (it ρ).bind fun xs =>
  if xs.length ≤ LIM then (noEx (compGo g t e (noA own (capD ρ cap)) xs)).bind fun ys => .ok (.lst ys) else .bad
inductive Fl where
  | nx (ρ : Ev) | rt (d : D) | bk (ρ : Ev) | ct (ρ : Ev)
noncomputable abbrev MS := Ev → Res Fl
noncomputable def nop : MS := fun ρ => .ok (.nx ρ)
noncomputable def goOn (b : MS) : Fl → Res Fl
  | .nx ρ => b ρ
  | f => .ok f
noncomputable def sq (a b : MS) : MS := fun ρ => (a ρ).bind (goOn b)
noncomputable def st (i : Nat) (e : ME) : MS := fun ρ => (e ρ).bind fun d => .ok (.nx (ρ.set i (.im d)))
noncomputable def lstO : D → Res (List D)
  | .lst xs => .ok xs
  | _ => .bad
noncomputable def stO (i : Nat) (e : ME) : MS := fun ρ => (e ρ).bind fun d => (lstO d).bind fun xs => .ok (.nx (ρ.set i (.ow xs)))
noncomputable def getO : Option Cl → Res (List D)
  | some (.ow xs) => .ok xs
  | _ => .bad
noncomputable def frz (i : Nat) (m : MS) : MS := fun ρ => (getO ρ[i]?).bind fun xs => m (ρ.set i (.im (.lst xs)))
noncomputable def app (i : Nat) (e : ME) : MS := fun ρ => (getO ρ[i]?).bind fun xs => (e ρ).bind fun d => if xs.length < LIM then .ok (.nx (ρ.set i (.ow (xs ++ [d])))) else .bad
noncomputable def asg (g : MG) (e : ME) : MS := fun ρ => (e ρ).bind fun d => (g d ρ).bind fun ρ' => .ok (.nx ρ')
noncomputable def par (i j : Nat) (a b : ME) : MS := fun ρ => (a ρ).bind fun x => (b ρ).bind fun y => .ok (.nx ((ρ.set i (.im x)).set j (.im y)))
noncomputable def drp (e : ME) : MS := fun ρ => (e ρ).bind fun _ => .ok (.nx ρ)
noncomputable def ret (e : ME) : MS := fun ρ => (e ρ).bind fun d => .ok (.rt d)
noncomputable def retN : MS := fun _ => .ok (.rt .non)
noncomputable def ifs (t : MB) (a b : MS) : MS := fun ρ => (t ρ).bind fun x => if x = true then a ρ else b ρ
noncomputable def brk : MS := fun ρ => .ok (.bk ρ)
noncomputable def cnt : MS := fun ρ => .ok (.ct ρ)
noncomputable def endT (i : Nat) : Res Fl → Res Fl
  | .ok (.nx ρ) => .ok (.nx (ρ.set i .no))
  | .ok (.bk ρ) => .ok (.bk (ρ.set i .no))
  | .ok (.ct ρ) => .ok (.ct (ρ.set i .no))
  | .ok (.rt d) => .ok (.rt d)
  | _ => .bad
noncomputable def scalD : D → Res D
  | .non => .ok .non
  | .bl b => .ok (.bl b)
  | .int i => .ok (.int i)
  | .str x => .ok (.str x)
  | _ => .bad
noncomputable def pk (i : Nat) (m : ME) : ME := fun ρ => (getO ρ[i]?).bind fun xs => (m (ρ.set i (.im (.lst xs)))).bind scalD
noncomputable def pkB (i : Nat) (m : MB) : MB := fun ρ => (getO ρ[i]?).bind fun xs => m (ρ.set i (.im (.lst xs)))
noncomputable def turn (k : MS) : Fl → Res Fl
  | .nx ρ => k ρ
  | .ct ρ => k ρ
  | .bk ρ => .ok (.nx ρ)
  | .rt d => .ok (.rt d)
noncomputable def forGo (g : MG) (b : MS) : List D → MS
  | [], ρ => .ok (.nx ρ)
  | x :: r, ρ => (g x ρ).bind fun ρ1 => (b ρ1).bind (turn (forGo g b r))
noncomputable def for_ (it : MI) (g : MG) (b : MS) : MS := fun ρ => (it ρ).bind fun xs => forGo g b xs ρ
noncomputable def whGo (t : MB) (b : MS) : Nat → MS
  | 0, _ => .bad
  | n + 1, ρ => (t ρ).bind fun x => if x = true then (b ρ).bind (turn (whGo t b n)) else .ok (.nx ρ)
noncomputable def whl (n : Ev → Nat) (t : MB) (b : MS) : MS := fun ρ => whGo t b (n ρ) ρ
noncomputable def evF : List D → Nat → Ev
  | [], k => noA k []
  | d :: r, k => .im d :: evF r (k - 1)
noncomputable def ev0 (n : Nat) (ds : List D) : Ev := evF ds n
theorem noA_eq : ∀ (k : Nat) (e : Ev), noA k e = List.replicate k .no ++ e
  | 0, _ => rfl
  | k + 1, e => by rw [noA, noA_eq k e, List.replicate_succ, List.cons_append]
theorem capD_map (ρ : Ev) : ∀ cap : List Nat, capD ρ cap = cap.map fun j => imOf ρ[j]?
  | [] => rfl
  | j :: r => by rw [capD, capD_map ρ r, List.map_cons]
theorem ev0_eq : ∀ (ds : List D) (n : Nat), ev0 n ds = ds.map .im ++ List.replicate (n - ds.length) .no
  | [], n => by show noA n [] = _; rw [noA_eq]; simp
  | d :: r, n => by
    have ih := ev0_eq r (n - 1)
    show .im d :: ev0 (n - 1) r = _
    rw [ih, List.map_cons, List.cons_append, List.length_cons, Nat.sub_sub, Nat.add_comm 1]
noncomputable def endOf : Fl → Res D
  | .rt d => .ok d
  | .nx _ => .ok .non
  | _ => .bad
noncomputable def fn (n : Nat) (b : MS) (ds : List D) : Res D := (b (ev0 n ds)).bind endOf
noncomputable def roV (i : Nat) : Ev → Res (List D) := fun ρ => getO ρ[i]?
noncomputable def soN (k' : Ev → Res (List D)) : Fl → Res (List D)
  | .nx ρ => k' ρ
  | _ => .bad
noncomputable def soQ (k : MS) (k' : Ev → Res (List D)) : Ev → Res (List D) := fun ρ => (k ρ).bind (soN k')
noncomputable def fnO (n : Nat) (m : Ev → Res (List D)) (ds : List D) : Res D := (m (ev0 n ds)).bind fun xs => .ok (.lst xs)
end Dl

namespace L2.Ds
open PySem PySem.Spec PyProof.Rows Dl
mutual
inductive Rp (K : PySem.W.Frag) (mg : Str → Option Value) (H : Hp) : V → D → Prop
  | non : Rp K mg H .non .non
  | bl (b : Bool) : Rp K mg H (.bl b) (.bl b)
  | int (i : Int) : Rp K mg H (.int i) (.int i)
  | str (x : Str) : Rp K mg H (.str x) (.str x)
  | ty (n : String) : Rp K mg H (.ty n) (.ty n)
  | cls {c : Str} {C : Addr} (h : mg c = some (.ref C)) : Rp K mg H (.ref C) (.cls c)
  | tup {a : Addr} {xs : List V} {ds : List D} (h : SqT K H a xs) (r : Rps K mg H xs ds) : Rp K mg H (.ref a) (.tup ds)
  | lst {a : Addr} {xs : List V} {ds : List D} (h : SqL K H a xs) (r : Rps K mg H xs ds) : Rp K mg H (.ref a) (.lst ds)
  | exc {c : Str} {C a : Addr} (m : mg c = some (.ref C)) (h : H a = some (exO a (.ref C))) : Rp K mg H (.ref a) (.exc c)
  | ins {c : Str} {C a dx : Addr} {fs : List (Str × V)} {xs : List V} {vs : List D} (m : mg c = some (.ref C)) (h : H a = some (.ins C dx fs)) (o : H dx = some (.own a)) (e : fs.map (·.2) = xs) (r : Rps K mg H xs vs) : Rp K mg H (.ref a) (.ins c (fs.map (·.1)) vs)
inductive Rps (K : PySem.W.Frag) (mg : Str → Option Value) (H : Hp) : List V → List D → Prop
  | nil : Rps K mg H [] []
  | cons {x : V} {xs : List V} {d : D} {ds : List D} (h : Rp K mg H x d) (r : Rps K mg H xs ds) : Rps K mg H (x :: xs) (d :: ds)
end
section
variable {K : PySem.W.Frag} {mg : Str → Option Value} {H H' : Hp}
theorem seqT_same {a : Addr} {xs : List V} (e : Same H H') (h : SqT K H a xs) : SqT K H' a xs := by
  rcases h with (h | ⟨o, h⟩) | h
  · exact .inl (.inl (e _ _ h))
  · exact .inl (.inr ⟨o, e _ _ h⟩)
  · exact .inr h
mutual
theorem Rp.same (e : Same H H') : ∀ {x : V} {d : D}, Rp K mg H x d → Rp K mg H' x d
  | _, _, .non => .non
  | _, _, .bl b => .bl b
  | _, _, .int i => .int i
  | _, _, .str x => .str x
  | _, _, .ty n => .ty n
  | _, _, .cls h => .cls h
  | _, _, .tup h r => .tup (seqT_same e h) (Rps.same e r)
  | _, _, .lst h r => .lst (e.seq h) (Rps.same e r)
  | _, _, .exc m h => .exc m (e _ _ h)
  | _, _, .ins m h o q r => .ins m (e _ _ h) (e _ _ o) q (Rps.same e r)
theorem Rps.same (e : Same H H') : ∀ {xs : List V} {ds : List D}, Rps K mg H xs ds → Rps K mg H' xs ds
  | _, _, .nil => .nil
  | _, _, .cons h r => .cons (Rp.same e h) (Rps.same e r)
end
theorem Rps.length : ∀ {xs : List V} {ds : List D}, Rps K mg H xs ds → xs.length = ds.length
  | _, _, .nil => rfl
  | _, _, .cons _ r => congrArg (· + 1) (Rps.length r)
theorem Rps.get : ∀ {xs : List V} {ds : List D} {i : Nat} {d : D}, Rps K mg H xs ds → ds[i]? = some d → ∃ x, xs[i]? = some x ∧ Rp K mg H x d
  | _, _, _, _, .nil, e => by simp at e
  | _, _, 0, _, .cons h _, e => by simp at e; subst e; exact ⟨_, rfl, h⟩
  | _, _, i + 1, _, .cons _ r, e => by
    obtain ⟨x, h1, h2⟩ := Rps.get (i := i) r (by simpa using e)
    exact ⟨x, by simpa using h1, h2⟩
theorem Rps.app {ys : List V} {es : List D} (q : Rps K mg H ys es) : ∀ {xs : List V} {ds : List D}, Rps K mg H xs ds → Rps K mg H (xs ++ ys) (ds ++ es)
  | _, _, .nil => q
  | _, _, .cons h r => .cons h (Rps.app q r)
theorem Rps.rev : ∀ {xs : List V} {ds : List D}, Rps K mg H xs ds → Rps K mg H xs.reverse ds.reverse
  | _, _, .nil => .nil
  | _, _, .cons h r => by
    rw [List.reverse_cons, List.reverse_cons]
    exact Rps.app (.cons h .nil) (Rps.rev r)
theorem Rps.drop : ∀ {xs : List V} {ds : List D} (n : Nat), Rps K mg H xs ds → Rps K mg H (xs.drop n) (ds.drop n)
  | _, _, 0, r => r
  | _, _, _ + 1, .nil => .nil
  | _, _, n + 1, .cons _ r => Rps.drop n r
theorem Rps.take : ∀ {xs : List V} {ds : List D} (n : Nat), Rps K mg H xs ds → Rps K mg H (xs.take n) (ds.take n)
  | _, _, 0, _ => .nil
  | _, _, _ + 1, .nil => .nil
  | _, _, n + 1, .cons h r => .cons h (Rps.take n r)
theorem Rps.one : ∀ {xs : List V} {d : D}, Rps K mg H xs [d] → ∃ x, xs = [x] ∧ Rp K mg H x d
  | _, _, .cons h .nil => ⟨_, rfl, h⟩
theorem Rps.two : ∀ {xs : List V} {d e : D}, Rps K mg H xs [d, e] → ∃ x y, xs = [x, y] ∧ Rp K mg H x d ∧ Rp K mg H y e
  | _, _, _, .cons h (.cons h' .nil) => ⟨_, _, rfl, h, h'⟩
end
structure Gr (F H F' H' : Hp) : Prop where
  f : Same F F'
  s : Same F' H'
  o : ∀ a o, F a = none → H a = some o → F' a = none ∧ H' a = some o
theorem Gr.refl {F H : Hp} (s : Same F H) : Gr F H F H := ⟨Same.refl _, s, fun _ _ h1 h2 => ⟨h1, h2⟩⟩
theorem Gr.trans {F H F1 H1 F2 H2 : Hp} (g : Gr F H F1 H1) (h : Gr F1 H1 F2 H2) : Gr F H F2 H2 := ⟨g.f.trans h.f, h.s, fun a o h1 h2 => let ⟨q1, q2⟩ := g.o a o h1 h2; h.o a o q1 q2⟩
theorem same_upd {F H : Hp} {p : Addr} {o : HO} (s : Same F H) : Same (upd F p o) (upd H p o) := fun b u e => by
  by_cases hb : b = p
  · subst hb; rw [upd_same] at e ⊢; exact e
  · rw [upd_ne hb] at e ⊢; exact s b u e
theorem Gr.new {F H : Hp} {p : Addr} (s : Same F H) (h : H p = none) (o : HO) : Gr F H (upd F p o) (upd H p o) :=
  ⟨same_new (s.free h) o, same_upd s, fun a u h1 h2 => by
    have ne : a ≠ p := ne_of_none h2 h
    rw [upd_ne ne, upd_ne ne]; exact ⟨h1, h2⟩⟩
theorem Gr.same {F H F' H' : Hp} (g : Gr F H F' H') (s : Same F H) : Same H H' := fun a o e => by
  cases q : F a with
  | none => exact (g.o a o q e).2
  | some u =>
    have e' := s a u q
    rw [e] at e'
    rw [g.s a u (g.f a u q), e']
structure Rep (K : PySem.W.Frag) (mg : Str → Option Value) (F0 H0 F H : Hp) (σ : St) (ρ : Ev) : Prop where
  g : Gr F0 H0 F H
  len : σ.length = ρ.length
  im : ∀ (i : Nat) (d : D), ρ[i]? = some (.im d) → ∃ x, σ[i]? = some (some x) ∧ Rp K mg F x d
  ow : ∀ (i : Nat) (ds : List D), ρ[i]? = some (.ow ds) → ∃ a xs, σ[i]? = some (some (.ref a)) ∧ H0 a = none ∧ F a = none ∧ H a = some (.lst xs) ∧ Rps K mg F xs ds
  ne : ∀ (i j : Nat) (ds es : List D) (a : Addr), ρ[i]? = some (.ow ds) → ρ[j]? = some (.ow es) → σ[i]? = some (some (.ref a)) → σ[j]? = some (some (.ref a)) → i = j
section
variable {K : PySem.W.Frag} {mg : Str → Option Value} {F0 H0 F H F' H' : Hp} {σ : St} {ρ : Ev}
theorem Rep.gr (r : Rep K mg F0 H0 F H σ ρ) (g : Gr F H F' H') : Rep K mg F0 H0 F' H' σ ρ := by
  refine ⟨r.g.trans g, r.len, fun i d e => ?_, fun i ds e => ?_, r.ne⟩
  · obtain ⟨x, h1, h2⟩ := r.im i d e
    exact ⟨x, h1, h2.same g.f⟩
  · obtain ⟨a, xs, h1, h2, h3, h4, h5⟩ := r.ow i ds e
    obtain ⟨q1, q2⟩ := g.o a _ h3 h4
    exact ⟨a, xs, h1, h2, q1, q2, h5.same g.f⟩
theorem set_get {α : Type} {l : List α} {i j : Nat} {x y : α} (h : (l.set i x)[j]? = some y) : (i = j ∧ y = x ∧ i < l.length) ∨ (i ≠ j ∧ l[j]? = some y) := by
  rw [List.getElem?_set] at h
  by_cases e : i = j
  · rw [if_pos e] at h
    split at h
    · exact .inl ⟨e, (Option.some.inj h).symm, by assumption⟩
    · cases h
  · rw [if_neg e] at h; exact .inr ⟨e, h⟩
theorem set_at {α : Type} {l : List α} {i : Nat} {x : α} (h : i < l.length) : (l.set i x)[i]? = some x := by
  rw [List.getElem?_set, if_pos rfl, if_pos h]
theorem set_off {α : Type} {l : List α} {i j : Nat} {x : α} (h : i ≠ j) : (l.set i x)[j]? = l[j]? := by
  rw [List.getElem?_set, if_neg h]
theorem Rep.set {x : V} {d : D} (r : Rep K mg F0 H0 F H σ ρ) (i : Nat) (h : Rp K mg F x d) : Rep K mg F0 H0 F H (σ.set i (some x)) (ρ.set i (.im d)) := by
  refine ⟨r.g, by rw [List.length_set, List.length_set]; exact r.len, fun j e q => ?_, fun j ds q => ?_, fun j k ds es a q1 q2 q3 q4 => ?_⟩
  · rcases set_get q with ⟨rfl, z, l⟩ | ⟨hij, q⟩
    · cases z
      exact ⟨x, set_at (by rw [r.len]; exact l), h⟩
    · rw [set_off hij]; exact r.im j e q
  · rcases set_get q with ⟨_, z, _⟩ | ⟨hij, q⟩
    · cases z
    · rw [set_off hij]; exact r.ow j ds q
  · rcases set_get q1 with ⟨_, z, _⟩ | ⟨h1, q1⟩
    · cases z
    · rcases set_get q2 with ⟨_, z, _⟩ | ⟨h2, q2⟩
      · cases z
      · rw [set_off h1] at q3
        rw [set_off h2] at q4
        exact r.ne j k ds es a q1 q2 q3 q4
theorem Rep.own {a : Addr} {xs : List V} {ds : List D} (r : Rep K mg F0 H0 F H σ ρ) (i : Nat) (hn : H a = none) (h : Rps K mg F xs ds) : Rep K mg F0 H0 F (upd H a (.lst xs)) (σ.set i (some (.ref a))) (ρ.set i (.ow ds)) := by
  have fa : F a = none := r.g.s.free hn
  have h0a : H0 a = none := by
    cases q : H0 a with
    | none => rfl
    | some o =>
      cases q2 : F0 a with
      | none => rw [(r.g.o a o q2 q).2] at hn; cases hn
      | some u => rw [r.g.f a u q2] at fa; cases fa
  have nea : ∀ {j : Nat} {es : List D} {b : Addr}, ρ[j]? = some (.ow es) → σ[j]? = some (some (.ref b)) → b ≠ a := fun {j es b} q1 q2 => by
    obtain ⟨b', xs', h1, _, _, h4, _⟩ := r.ow j es q1
    rw [q2] at h1; cases h1
    exact ne_of_none h4 hn
  refine ⟨⟨r.g.f, fun b o e => ?_, fun b o e1 e2 => ?_⟩, by rw [List.length_set, List.length_set]; exact r.len, fun j e q => ?_, fun j es q => ?_, fun j k es ts b q1 q2 q3 q4 => ?_⟩
  · rw [upd_ne (ne_of_none e fa)]; exact r.g.s b o e
  · rw [upd_ne (ne_of_none e2 h0a)]; exact r.g.o b o e1 e2
  · rcases set_get q with ⟨_, z, _⟩ | ⟨hij, q⟩
    · cases z
    · rw [set_off hij]; exact r.im j e q
  · rcases set_get q with ⟨rfl, z, l⟩ | ⟨hij, q⟩
    · cases z
      exact ⟨a, xs, set_at (by rw [r.len]; exact l), h0a, fa, upd_same, h⟩
    · rw [set_off hij]
      obtain ⟨b, ys, h1, h2, h3, h4, h5⟩ := r.ow j es q
      exact ⟨b, ys, h1, h2, h3, by rw [upd_ne (ne_of_none h4 hn)]; exact h4, h5⟩
  · rcases set_get q1 with ⟨rfl, _, l1⟩ | ⟨h1, q1⟩
    · rcases set_get q2 with ⟨rfl, _, _⟩ | ⟨h2, q2⟩
      · rfl
      · rw [set_at (by rw [r.len]; exact l1)] at q3
        rw [set_off h2] at q4
        cases q3
        exact absurd rfl (nea q2 q4)
    · rcases set_get q2 with ⟨rfl, _, l2⟩ | ⟨h2, q2⟩
      · rw [set_at (by rw [r.len]; exact l2)] at q4
        rw [set_off h1] at q3
        cases q4
        exact absurd rfl (nea q1 q3)
      · rw [set_off h1] at q3
        rw [set_off h2] at q4
        exact r.ne j k es ts b q1 q2 q3 q4
theorem Rep.app {i : Nat} {x : V} {d : D} {ds : List D} {a : Addr} {xs : List V} (r : Rep K mg F0 H0 F H σ ρ) (e : ρ[i]? = some (.ow ds)) (e2 : σ[i]? = some (some (.ref a))) (e3 : H a = some (.lst xs)) (e4 : H0 a = none) (e5 : F a = none) (hr : Rps K mg F xs ds) (h : Rp K mg F x d) :
    Rep K mg F0 H0 F (upd H a (.lst (xs ++ [x]))) σ (ρ.set i (.ow (ds ++ [d]))) := by
  have li : i < ρ.length := (List.getElem?_eq_some_iff.mp e).1
  refine ⟨⟨r.g.f, fun b o q => ?_, fun b o q1 q2 => ?_⟩, by rw [List.length_set]; exact r.len, fun j u q => ?_, fun j es q => ?_, fun j k es ts b q1 q2 q3 q4 => ?_⟩
  · rw [upd_ne (ne_of_none q e5)]; exact r.g.s b o q
  · rw [upd_ne (ne_of_none q2 e4)]; exact r.g.o b o q1 q2
  · rcases set_get q with ⟨_, z, _⟩ | ⟨_, q⟩
    · cases z
    · exact r.im j u q
  · rcases set_get q with ⟨rfl, z, l⟩ | ⟨hij, q⟩
    · cases z
      exact ⟨a, _, e2, e4, e5, upd_same, Rps.app (.cons h .nil) hr⟩
    · obtain ⟨b, ys, h1, h2, h3, h4, h5⟩ := r.ow j es q
      have nb : b ≠ a := by
        rintro rfl
        exact hij (r.ne i j ds es b e q e2 h1)
      exact ⟨b, ys, h1, h2, h3, by rw [upd_ne nb]; exact h4, h5⟩
  · have o1 : ∃ es', ρ[j]? = some (.ow es') := by
      rcases set_get q1 with ⟨rfl, _, _⟩ | ⟨_, q⟩
      · exact ⟨_, e⟩
      · exact ⟨_, q⟩
    have o2 : ∃ es', ρ[k]? = some (.ow es') := by
      rcases set_get q2 with ⟨rfl, _, _⟩ | ⟨_, q⟩
      · exact ⟨_, e⟩
      · exact ⟨_, q⟩
    obtain ⟨_, o1⟩ := o1
    obtain ⟨_, o2⟩ := o2
    exact r.ne j k _ _ b o1 o2 q3 q4
theorem Rep.frz {i : Nat} {ds : List D} (r : Rep K mg F0 H0 F H σ ρ) (e : ρ[i]? = some (.ow ds)) : ∃ F', Same F F' ∧ Rep K mg F0 H0 F' H σ (ρ.set i (.im (.lst ds))) := by
  obtain ⟨a, xs, e2, e4, e5, e3, hr⟩ := r.ow i ds e
  have sF : Same F (upd F a (.lst xs)) := same_new e5 _
  refine ⟨upd F a (.lst xs), sF, ⟨r.g.f.trans sF, fun b o q => ?_, fun b o q1 q2 => ?_⟩, by rw [List.length_set]; exact r.len, fun j u q => ?_, fun j es q => ?_, fun j k es ts b q1 q2 q3 q4 => ?_⟩
  · by_cases hb : b = a
    · subst hb; rw [upd_same] at q; cases q; exact e3
    · rw [upd_ne hb] at q; exact r.g.s b o q
  · rw [upd_ne (ne_of_none q2 e4)]; exact r.g.o b o q1 q2
  · rcases set_get q with ⟨rfl, z, _⟩ | ⟨_, q⟩
    · cases z
      exact ⟨.ref a, e2, .lst (SqL.of upd_same) (hr.same sF)⟩
    · obtain ⟨x, h1, h2⟩ := r.im j u q
      exact ⟨x, h1, h2.same sF⟩
  · rcases set_get q with ⟨_, z, _⟩ | ⟨hij, q⟩
    · cases z
    · obtain ⟨b, ys, h1, h2, h3, h4, h5⟩ := r.ow j es q
      have nb : b ≠ a := by
        rintro rfl
        exact hij (r.ne i j ds es b e q e2 h1)
      exact ⟨b, ys, h1, h2, by rw [upd_ne nb]; exact h3, h4, h5.same sF⟩
  · rcases set_get q1 with ⟨_, z, _⟩ | ⟨_, q1⟩
    · cases z
    · rcases set_get q2 with ⟨_, z, _⟩ | ⟨_, q2⟩
      · cases z
      · exact r.ne j k es ts b q1 q2 q3 q4
end
noncomputable def Ans {α β : Type} (mg : Str → Option Value) (E : XK) (R : Hp → β → α → Prop) (F H : Hp) (r : Res α) (w : (β → Hp → Prop) → Prop) : Prop :=
  match r with
  | .ok a => ∀ Q : β → Hp → Prop, (∀ F' H' b, Gr F H F' H' → R F' b a → Q b H') → w Q
  | .ex c => ∀ Q : β → Hp → Prop, (∀ F' H' C, Gr F H F' H' → mg c = some (.ref C) → E (.ref C) none H') → w Q
  | .bad => True
section
variable {α β γ δ : Type} {mg : Str → Option Value} {E : XK} {R : Hp → β → α → Prop} {R' : Hp → δ → γ → Prop} {F H : Hp}
theorem Ans.ret {a : α} {b : β} {w : (β → Hp → Prop) → Prop} (s : Same F H) (r : R F b a) (h : ∀ Q : β → Hp → Prop, Q b H → w Q) : Ans mg E R F H (.ok a) w := fun Q q => h Q (q F H b (.refl s) r)
theorem Ans.bindE {r : Res α} {w : (β → Hp → Prop) → Prop} {k : α → Res γ} {w' : β → Hp → (δ → Hp → Prop) → Prop} (h1 : Ans mg E R F H r w) (h2 : ∀ a, r = .ok a → ∀ F1 H1 b, Gr F H F1 H1 → R F1 b a → Ans mg E R' F1 H1 (k a) (w' b H1)) :
    Ans mg E R' F H (r.bind k) (fun Q => w fun b H1 => w' b H1 Q) := by
  cases r with
  | ok a =>
    show Ans mg E R' F H (k a) _
    have h2' := h2 a rfl
    generalize k a = r2 at h2'
    cases r2 with
    | ok d => exact fun Q q => h1 _ fun F1 H1 b g rb => h2' F1 H1 b g rb Q fun F2 H2 e g2 re => q F2 H2 e (g.trans g2) re
    | ex c => exact fun Q q => h1 _ fun F1 H1 b g rb => h2' F1 H1 b g rb Q fun F2 H2 C g2 hc => q F2 H2 C (g.trans g2) hc
    | bad => trivial
  | ex c => exact fun Q q => h1 _ q
  | bad => trivial
theorem Ans.bind {r : Res α} {w : (β → Hp → Prop) → Prop} {k : α → Res γ} {w' : β → Hp → (δ → Hp → Prop) → Prop} (h1 : Ans mg E R F H r w) (h2 : ∀ F1 H1 b a, Gr F H F1 H1 → R F1 b a → Ans mg E R' F1 H1 (k a) (w' b H1)) :
    Ans mg E R' F H (r.bind k) (fun Q => w fun b H1 => w' b H1 Q) := h1.bindE fun a _ F1 H1 b g q => h2 F1 H1 b a g q
end
end L2.Ds

namespace L2.Ds
open PySem PySem.Spec PyProof.Rows Dl
noncomputable def AnsS (K : PySem.W.Frag) (mg : Str → Option Value) (E : XK) (F0 H0 F : Hp) (r : Res Fl) (w : Ends → Prop) : Prop :=
  match r with
  | .ok (.nx ρ) => ∀ D : Ends, (∀ F' H' σ', Same F F' → Rep K mg F0 H0 F' H' σ' ρ → D.nx σ' H') → w D
  | .ok (.bk ρ) => ∀ D : Ends, (∀ F' H' σ', Same F F' → Rep K mg F0 H0 F' H' σ' ρ → D.bk σ' H') → w D
  | .ok (.ct ρ) => ∀ D : Ends, (∀ F' H' σ', Same F F' → Rep K mg F0 H0 F' H' σ' ρ → D.ct σ' H') → w D
  | .ok (.rt d) => ∀ D : Ends, (∀ F' H' x, Gr F0 H0 F' H' → Rp K mg F' x d → D.rt x H') → w D
  | .ex c => ∀ D : Ends, (∀ F' H' C, Gr F0 H0 F' H' → mg c = some (.ref C) → E (.ref C) none H') → w D
  | .bad => True
noncomputable abbrev RB : Hp → Bool → Bool → Prop := fun _ b b' => b = b'
noncomputable abbrev RO : Hp → Option Int → Option Int → Prop := fun _ b b' => b = b'
noncomputable def SE (K : PySem.W.Frag) (mg : Str → Option Value) (E : XK) (t : TE) (m : ME) : Prop := ∀ F0 H0 F H σ ρ, Rep K mg F0 H0 F H σ ρ → Ans mg E (Rp K mg) F H (m ρ) (t σ H)
noncomputable def STt (K : PySem.W.Frag) (mg : Str → Option Value) (E : XK) (t : TT) (m : MB) : Prop := ∀ F0 H0 F H σ ρ, Rep K mg F0 H0 F H σ ρ → Ans mg E RB F H (m ρ) (t σ H)
noncomputable def SA (K : PySem.W.Frag) (mg : Str → Option Value) (E : XK) (t : TA) (m : MA) : Prop := ∀ F0 H0 F H σ ρ, Rep K mg F0 H0 F H σ ρ → Ans mg E (Rps K mg) F H (m ρ) (t σ H)
noncomputable def SO (K : PySem.W.Frag) (mg : Str → Option Value) (E : XK) (t : TO) (m : Ev → Res (Option Int)) : Prop := ∀ F0 H0 F H σ ρ, Rep K mg F0 H0 F H σ ρ → Ans mg E RO F H (m ρ) (t σ H)
noncomputable def SS (K : PySem.W.Frag) (mg : Str → Option Value) (E : XK) (t : TS) (m : MS) : Prop := ∀ F0 H0 F H σ ρ, Rep K mg F0 H0 F H σ ρ → AnsS K mg E F0 H0 F (m ρ) (fun D => t D σ H)
noncomputable def AnsG (K : PySem.W.Frag) (mg : Str → Option Value) (F0 H0 F : Hp) (n : Nat) (σ : St) (r : Res Ev) (w : (St → Hp → Prop) → Prop) : Prop :=
  match r with
  | .ok ρ' => ∀ Q : St → Hp → Prop, (∀ F' H' σ', Same F F' → Rep K mg F0 H0 F' H' σ' ρ' → σ'.drop n = σ.drop n → Q σ' H') → w Q
  | _ => True
noncomputable def SG (K : PySem.W.Frag) (mg : Str → Option Value) (n : Nat) (t : TG) (g : MG) : Prop := ∀ F0 H0 F H σ ρ x d, Rep K mg F0 H0 F H σ ρ → Rp K mg F x d → AnsG K mg F0 H0 F n σ (g d ρ) (t x σ H)
noncomputable def SGs (K : PySem.W.Frag) (mg : Str → Option Value) (n : Nat) (t : TGs) (g : MGs) : Prop := ∀ F0 H0 F H σ ρ xs ds, Rep K mg F0 H0 F H σ ρ → Rps K mg F xs ds → AnsG K mg F0 H0 F n σ (g ds ρ) (t xs σ H)
noncomputable def ItOk (K : PySem.W.Frag) (mg : Str → Option Value) (F : Hp) (J : It) (ds : List D) : Prop := ∀ F' H', Same F F' → Same F' H' → ∀ i : Nat,
  (∀ d, ds[i]? = some d → J.go i H' ∧ ∀ x H'', J.yld i H' x H'' → ∃ F'', Gr F' H' F'' H'' ∧ Rp K mg F'' x d) ∧ (ds.length ≤ i → J.stop i H')
noncomputable def SI (K : PySem.W.Frag) (mg : Str → Option Value) (E : XK) (t : TI) (m : MI) : Prop := ∀ F0 H0 F H σ ρ, Rep K mg F0 H0 F H σ ρ → Ans mg E (ItOk K mg) F H (m ρ) (t σ H)
noncomputable def OpD (K : PySem.W.Frag) (mg : Str → Option Value) (r : R2) (f : D → D → Res D) : Prop := ∀ (E : XK) F H x y dx dy, Same F H → Rp K mg F x dx → Rp K mg F y dy → Ans mg E (Rp K mg) F H (f dx dy) (r x y H)
noncomputable def CallD (K : PySem.W.Frag) (mg : Str → Option Value) (r : List V → Hp → VK → Prop) (f : List D → Res D) : Prop := ∀ (E : XK) F H xs ds, Same F H → Rps K mg F xs ds → Ans mg E (Rp K mg) F H (f ds) (r xs H)
section
variable {K : PySem.W.Frag} {mg : Str → Option Value} {E : XK} {ta tb tc : TE} {ma mb mc : ME} {sa sb : TT} {na nb : MB}
theorem Rep.ss {F0 H0 F H : Hp} {σ : St} {ρ : Ev} (r : Rep K mg F0 H0 F H σ ρ) : Same F H := r.g.s
theorem se_v (i : Nat) : SE K mg E (tVar i) (v i) := by
  intro F0 H0 F H σ ρ r
  unfold v getC
  split
  · next d h =>
    obtain ⟨x, h1, h2⟩ := r.im i d h
    exact .ret r.ss h2 fun Q q => ⟨x, h1, q⟩
  · trivial
theorem se_c {x : V} {d : D} (h : ∀ F, Rp K mg F x d) : SE K mg E (tC x) (c d) := fun _ _ F _ _ _ r => .ret r.ss (h F) fun _ q => q
theorem se_op {r : R2} {f : D → D → Res D} (hf : OpD K mg r f) (ha : SE K mg E ta ma) (hb : SE K mg E tb mb) : SE K mg E (tOp r ta tb) (o2 f ma mb) := by
  intro F0 H0 F H σ ρ rr
  refine (ha F0 H0 F H σ ρ rr).bind fun F1 H1 x dx g1 rx => ?_
  refine (hb F0 H0 F1 H1 σ ρ (rr.gr g1)).bind fun F2 H2 y dy g2 ry => ?_
  exact hf E F2 H2 x y dx dy g2.s (rx.same g2.f) ry
theorem sa_nil : SA K mg E tNil anil := fun _ _ _ _ _ _ r => .ret r.ss .nil fun _ q => q
theorem sa_cons {t : TA} {m : MA} (ha : SE K mg E ta ma) (hr : SA K mg E t m) : SA K mg E (tCons ta t) (acons ma m) := by
  intro F0 H0 F H σ ρ rr
  refine (ha F0 H0 F H σ ρ rr).bind fun F1 H1 x dx g1 rx => ?_
  refine (hr F0 H0 F1 H1 σ ρ (rr.gr g1)).bind fun F2 H2 xs ds g2 rs => ?_
  exact .ret g2.s (.cons (rx.same g2.f) rs) fun _ q => q
theorem se_cb {r : List V → Hp → VK → Prop} {f : List D → Res D} {t : TA} {m : MA} (hf : CallD K mg r f) (ha : SA K mg E t m) : SE K mg E (tCB r t) (on f m) := by
  intro F0 H0 F H σ ρ rr
  exact (ha F0 H0 F H σ ρ rr).bind fun F1 H1 x dx g1 rx => hf E F1 H1 x dx g1.s rx
theorem ans_new {α : Type} {R : Hp → V → α → Prop} {F H : Hp} {a : α} {o : HO} {w : VK → Prop} (s : Same F H) (hr : ∀ p, H p = none → R (upd F p o) (.ref p) a) (h : ∀ Q : VK, (∀ p, H p = none → Q (.ref p) (upd H p o)) → w Q) : Ans mg E R F H (.ok a) w :=
  fun Q q => h Q fun p hp => q (upd F p o) (upd H p o) (.ref p) (.new s hp o) (hr p hp)
noncomputable def SAn (n : Nat) (m : MA) : Prop := ∀ ρ ds, m ρ = .ok ds → ds.length = n
theorem san_nil : SAn 0 anil := fun ρ ds h => by cases h; rfl
theorem san_cons {n : Nat} {m : MA} (h : SAn n m) : SAn (n + 1) (acons ma m) := fun ρ ds e => by
  unfold acons at e
  cases ea : ma ρ with
  | ok x =>
    rw [ea] at e
    cases em : m ρ with
    | ok xs =>
      have e' : (m ρ).bind (fun xs => Res.ok (x :: xs)) = .ok ds := e
      rw [em] at e'
      have e2 : Res.ok (x :: xs) = .ok ds := e'
      cases e2
      exact congrArg (· + 1) (h ρ xs em)
    | ex c =>
      have e' : (m ρ).bind (fun xs => Res.ok (x :: xs)) = .ok ds := e
      rw [em] at e'; cases e'
    | bad =>
      have e' : (m ρ).bind (fun xs => Res.ok (x :: xs)) = .ok ds := e
      rw [em] at e'; cases e'
  | ex c => rw [ea] at e; cases e
  | bad => rw [ea] at e; cases e
theorem se_tup {t : TA} {m : MA} {n : Nat} (ha : SA K mg E t m) (hl : SAn n m) (hn : n ≤ sizeLine) : SE K mg E (tTup t) (mtp m) := by
  intro F0 H0 F H σ ρ rr
  have h := ha F0 H0 F H σ ρ rr
  unfold mtp
  cases e : m ρ with
  | ok ds =>
    rw [e] at h
    exact fun Q q => h _ fun F' H' xs g rs => ⟨by rw [rs.length, hl ρ ds e]; exact hn, fun p hp => q _ _ _ (g.trans (.new g.s hp _)) (.tup (SqT.of upd_same) (rs.same (same_new (g.s.free hp) _)))⟩
  | ex c =>
    rw [e] at h
    exact fun Q q => h _ q
  | bad => trivial
theorem se_lst {t : TA} {m : MA} {n : Nat} (ha : SA K mg E t m) (hl : SAn n m) (hn : n ≤ sizeLine) : SE K mg E (tLst t) (mls m) := by
  intro F0 H0 F H σ ρ rr
  have h := ha F0 H0 F H σ ρ rr
  unfold mls
  cases e : m ρ with
  | ok ds =>
    rw [e] at h
    exact fun Q q => h _ fun F' H' xs g rs => ⟨by rw [rs.length, hl ρ ds e]; exact hn, fun p hp => q _ _ _ (g.trans (.new g.s hp _)) (.lst (SqL.of upd_same) (rs.same (same_new (g.s.free hp) _)))⟩
  | ex c =>
    rw [e] at h
    exact fun Q q => h _ q
  | bad => trivial
theorem st_b (ha : SE K mg E ta ma) : STt K mg E (L2.tB ta) (trb ma) := by
  intro F0 H0 F H σ ρ rr
  refine (ha F0 H0 F H σ ρ rr).bind fun F1 H1 x dx g1 rx => ?_
  cases dx with
  | bl b => cases rx; exact .ret g1.s rfl fun Q q => ⟨b, rfl, q⟩
  | _ => trivial
theorem st_test (ha : SE K mg E ta ma) : STt K mg E (tTest ta) (trb ma) := st_b ha
theorem st_and (ha : STt K mg E sa na) (hb : STt K mg E sb nb) : STt K mg E (tAnd sa sb) (bAnd na nb) := by
  intro F0 H0 F H σ ρ rr
  refine (ha F0 H0 F H σ ρ rr).bind fun F1 H1 x dx g1 rx => ?_
  cases (show x = dx from rx)
  cases x with
  | true =>
    have z := hb F0 H0 F1 H1 σ ρ (rr.gr g1)
    simp only [if_true]; exact z
  | false =>
    simp only [Bool.false_eq_true, if_false]
    exact Ans.ret (R := RB) g1.s rfl fun Q q => q
theorem st_or (ha : STt K mg E sa na) (hb : STt K mg E sb nb) : STt K mg E (tOr sa sb) (bOr na nb) := by
  intro F0 H0 F H σ ρ rr
  refine (ha F0 H0 F H σ ρ rr).bind fun F1 H1 x dx g1 rx => ?_
  cases (show x = dx from rx)
  cases x with
  | true =>
    simp only [if_true]
    exact Ans.ret (R := RB) g1.s rfl fun Q q => q
  | false =>
    have z := hb F0 H0 F1 H1 σ ρ (rr.gr g1)
    simp only [Bool.false_eq_true, if_false]; exact z
theorem st_not (ha : STt K mg E sa na) : STt K mg E (tNot sa) (bNot na) := by
  intro F0 H0 F H σ ρ rr
  refine (ha F0 H0 F H σ ρ rr).bind fun F1 H1 x dx g1 rx => ?_
  cases (show x = dx from rx)
  exact Ans.ret (R := RB) g1.s rfl fun Q q => q
theorem se_and (ha : SE K mg E ta ma) (hb : SE K mg E tb mb) : SE K mg E (tAndV ta tb) (eAnd ma mb) := by
  intro F0 H0 F H σ ρ rr
  have z := (st_b ha F0 H0 F H σ ρ rr).bind (R' := Rp K mg) (k := fun x => if x = true then mb ρ else .ok (D.bl false)) (w' := fun c H1 Q => if c = true then tb σ H1 Q else Q (V.bl false) H1) fun F1 H1 x dx g1 rx => by
    cases (show x = dx from rx)
    cases x with
    | true =>
      have z := hb F0 H0 F1 H1 σ ρ (rr.gr g1)
      simp only [if_true]; exact z
    | false =>
      simp only [Bool.false_eq_true, if_false]
      exact Ans.ret (R := Rp K mg) g1.s (.bl false) fun Q q => q
  exact z
end
end L2.Ds

namespace L2.Ds
open PySem PySem.Spec PyProof.Rows Dl
section
variable {K : PySem.W.Frag} {mg : Str → Option Value} {E : XK}
theorem opD_ii {r : R2} {f : Int → Int → Res D} (h : ∀ (E : XK) F H a b, Same F H → Ans mg E (Rp K mg) F H (f a b) (r (.int a) (.int b) H)) : OpD K mg r (ii f) := by
  intro E F H x y dx dy s rx ry
  unfold ii
  split
  · cases rx; cases ry; exact h E F H _ _ s
  · trivial
theorem opD_I {C : Int → Int → Prop} {g : Int → Int → V} {f : Int → Int → Res D} (h : ∀ a b, (∃ d, f a b = .ok d ∧ C a b ∧ ∀ F, Rp K mg F (g a b) d) ∨ f a b = .bad) : OpD K mg (rI C g) (ii f) := by
  refine opD_ii fun E F H a b s => ?_
  rcases h a b with ⟨d, e, hc, hr⟩ | e
  · rw [e]; exact .ret s (hr F) fun Q q => ⟨a, b, rfl, rfl, hc, q⟩
  · rw [e]; trivial
theorem opD_I0 {g : Int → Int → V} {f : Int → Int → Res D} (h : ∀ a b, (∃ d, f a b = .ok d ∧ ∀ F, Rp K mg F (g a b) d) ∨ f a b = .bad) : OpD K mg (rI0 g) (ii f) := by
  refine opD_ii fun E F H a b s => ?_
  rcases h a b with ⟨d, e, hr⟩ | e
  · rw [e]; exact .ret s (hr F) fun Q q => ⟨a, b, rfl, rfl, q⟩
  · rw [e]; trivial
theorem opD_sub : OpD K mg (rI0 fun i j => .int (i - j)) dSub := opD_I0 fun _ _ => .inl ⟨_, rfl, fun _ => .int _⟩
theorem opD_lt : OpD K mg (rI0 fun i j => .bl (decide (i < j))) dLt := opD_I0 fun _ _ => .inl ⟨_, rfl, fun _ => .bl _⟩
theorem opD_gt : OpD K mg (rI0 fun i j => .bl (decide (j < i))) dGt := opD_I0 fun _ _ => .inl ⟨_, rfl, fun _ => .bl _⟩
theorem opD_ge : OpD K mg (rI0 fun i j => .bl (decide (j ≤ i))) dGe := opD_I0 fun _ _ => .inl ⟨_, rfl, fun _ => .bl _⟩
theorem opD_mod : OpD K mg (rI (fun _ j => j ≠ 0) fun i j => .int (i.fmod j)) dMod := opD_I fun a b => by
  unfold iMod
  by_cases h1 : 0 < b
  · rw [if_pos h1]
    exact .inl ⟨_, rfl, by omega, fun _ => by rw [Int.fmod_eq_emod_of_nonneg a (by omega)]; exact .int _⟩
  · rw [if_neg h1]
    by_cases h2 : b = 0
    · rw [if_pos h2]; exact .inr rfl
    · rw [if_neg h2]; exact .inl ⟨_, rfl, h2, fun _ => .int _⟩
theorem opD_div : OpD K mg (rI CDivG fun i j => .int (i.fdiv j)) dDiv := opD_I fun a b => by
  unfold iDiv
  by_cases h0 : b.natAbs.log2 < 9000
  · rw [if_pos h0]
    by_cases h1 : 0 < b
    · rw [if_pos h1]
      exact .inl ⟨_, rfl, ⟨by omega, h0⟩, fun _ => by rw [Int.fdiv_eq_ediv_of_nonneg a (by omega)]; exact .int _⟩
    · rw [if_neg h1]
      by_cases h2 : b = 0
      · rw [if_pos h2]; exact .inr rfl
      · rw [if_neg h2]; exact .inl ⟨_, rfl, ⟨h2, h0⟩, fun _ => .int _⟩
  · rw [if_neg h0]; exact .inr rfl
theorem opD_shl : OpD K mg (rI CPow fun i j => .int (i * 2 ^ j.toNat)) dShl := opD_I fun a b => by
  unfold iShl
  by_cases h : 0 ≤ b ∧ b ≤ 1000000 ∧ a.natAbs < 2 ^ 64
  · rw [if_pos h]; exact .inl ⟨_, rfl, h, fun _ => .int _⟩
  · rw [if_neg h]; exact .inr rfl
theorem opD_shr : OpD K mg (rI (fun _ j => 0 ≤ j) fun i j => .int (i / 2 ^ j.toNat)) dShr := opD_I fun a b => by
  unfold iShr
  by_cases h : 0 ≤ b
  · rw [if_pos h]; exact .inl ⟨_, rfl, h, fun _ => .int _⟩
  · rw [if_neg h]; exact .inr rfl
noncomputable def rCatL (K : PySem.W.Frag) : R2 := fun x y H Q => ∃ l b xs zs, x = .ref l ∧ y = .ref b ∧ SqL K H l xs ∧ SqL K H b zs ∧ xs.length + zs.length ≤ sizeLine ∧ ∀ p, H p = none → Q (.ref p) (upd H p (.lst (xs ++ zs)))
noncomputable def rCatU (K : PySem.W.Frag) : R2 := fun x y H Q => ∃ a b xs ys, x = .ref a ∧ y = .ref b ∧ SqT K H a xs ∧ SqT K H b ys ∧ xs.length + ys.length ≤ sizeLine ∧
  (xs = [] → Q (.ref b) H) ∧ (xs ≠ [] → ys = [] → Q (.ref a) H) ∧ (xs ≠ [] → ys ≠ [] → ∀ p, H p = none → Q (.ref p) (upd H p (.tup (xs ++ ys))))
noncomputable def rAddS : R2 := fun x y H Q => ∃ i j : Str, x = .str i ∧ y = .str j ∧ i.length + j.length ≤ sizeLine ∧ Q (.str (i ++ j)) H
noncomputable def rAddD (K : PySem.W.Frag) : R2 := fun x y H Q => rI0 (fun i j => .int (i + j)) x y H Q ∨ rCatL K x y H Q ∨ rCatU K x y H Q ∨ rAddS x y H Q
theorem lim_le {n : Nat} (h : n ≤ LIM) : n ≤ sizeLine := Nat.le_trans h (by decide)
theorem opD_add : OpD K mg (rAddD K) dAdd := by
  intro E F H x y dx dy s rx ry
  unfold dAdd
  split
  · cases rx; cases ry
    exact .ret s (.int _) fun Q q => .inl ⟨_, _, rfl, rfl, q⟩
  · next as bs =>
    by_cases h : as.length + bs.length ≤ LIM
    · rw [if_pos h]
      cases rx with
      | lst ha ra =>
        cases ry with
        | lst hb rb =>
          refine ans_new s (o := .lst _) (fun p hp => .lst (SqL.of upd_same) ((Rps.app rb ra).same (same_new (s.free hp) _))) fun Q q => .inr (.inl ⟨_, _, _, _, rfl, rfl, s.seq ha, s.seq hb, ?_, q⟩)
          rw [ra.length, rb.length]; exact lim_le h
    · rw [if_neg h]; trivial
  · next as bs =>
    by_cases h : as.length + bs.length ≤ LIM
    · rw [if_pos h]
      cases rx with
      | tup ha ra =>
        cases ry with
        | tup hb rb =>
          rename_i a xs b ys
          have hl : xs.length + ys.length ≤ sizeLine := by rw [ra.length, rb.length]; exact lim_le h
          intro Q q
          refine .inr (.inr (.inl ⟨a, b, xs, ys, rfl, rfl, seqT_same s ha, seqT_same s hb, hl, fun e => ?_, fun _ e => ?_, fun _ _ p hp => ?_⟩))
          · subst e
            cases ra
            exact q F H _ (.refl s) (.tup hb rb)
          · subst e
            cases rb
            rw [List.append_nil] at q
            exact q F H _ (.refl s) (.tup ha ra)
          · exact q _ _ _ (.new s hp _) (.tup (SqT.of upd_same) ((Rps.app rb ra).same (same_new (s.free hp) _)))
    · rw [if_neg h]; trivial
  · next a b =>
    by_cases h : a.length + b.length ≤ LIM
    · rw [if_pos h]
      cases rx; cases ry
      exact .ret s (.str _) fun Q q => .inr (.inr (.inr ⟨_, _, rfl, rfl, lim_le h, q⟩))
    · rw [if_neg h]; trivial
  · trivial
theorem at_atI {F : Hp} {xs : List V} {ds : List D} {i : Int} {d : D} (r : Rps K mg F xs ds) (h : at_ ds i = some d) : ∃ x, atI xs i = some x ∧ Rp K mg F x d := by
  have hl := r.length
  unfold at_ at h
  unfold atI ixN
  by_cases h0 : 0 ≤ i
  · rw [if_pos h0] at h
    obtain ⟨x, e, rx⟩ := r.get h
    have lt : i.toNat < xs.length := (List.getElem?_eq_some_iff.mp e).1
    exact ⟨x, by rw [if_pos h0, if_pos (by omega)]; exact e, rx⟩
  · rw [if_neg h0] at h
    by_cases h1 : -(ds.length : Int) ≤ i
    · rw [if_pos h1] at h
      obtain ⟨x, e, rx⟩ := r.get h
      exact ⟨x, by rw [if_neg h0, if_pos (by omega), hl]; exact e, rx⟩
    · rw [if_neg h1] at h; cases h
noncomputable def rIxD (K : PySem.W.Frag) : R2 := fun x y H Q => rIxL K x y H Q ∨ rIxT K x y H Q
theorem opD_ix : OpD K mg (rIxD K) dIx := by
  intro E F H x y dx dy s rx ry
  unfold dIx
  split
  · next ds i =>
    cases e : at_ ds i with
    | none => trivial
    | some d =>
      cases rx with
      | lst ha ra =>
        cases ry
        obtain ⟨z, e1, rz⟩ := at_atI ra e
        exact Ans.ret s rz fun Q q => .inl ⟨_, _, _, _, rfl, rfl, s.seq ha, e1, q⟩
  · next ds i =>
    cases e : at_ ds i with
    | none => trivial
    | some d =>
      cases rx with
      | tup ha ra =>
        cases ry
        obtain ⟨z, e1, rz⟩ := at_atI ra e
        exact Ans.ret s rz fun Q q => .inr ⟨_, _, _, _, rfl, rfl, seqT_same s ha, e1, q⟩
  · trivial
theorem callD_len : CallD K mg (fun xs H Q => ∃ p ys, xs = [.ref p] ∧ (SqL K H p ys ∨ SqT K H p ys) ∧ Q (.int ys.length) H) bLen := by
  intro E F H xs ds s r
  unfold bLen
  split
  · obtain ⟨x, rfl, rx⟩ := r.one
    cases rx with
    | lst h q => rw [← q.length]; exact .ret s (.int _) fun Q q => ⟨_, _, rfl, .inl (s.seq h), q⟩
  · obtain ⟨x, rfl, rx⟩ := r.one
    cases rx with
    | tup h q => rw [← q.length]; exact .ret s (.int _) fun Q q => ⟨_, _, rfl, .inr (seqT_same s h), q⟩
  · trivial
theorem callD_max : CallD K mg (fun xs H Q => ∃ i j, xs = [.int i, .int j] ∧ Q (.int (if j > i then j else i)) H) bMax := by
  intro E F H xs ds s r
  unfold bMax
  split
  · obtain ⟨x, y, rfl, rx, ry⟩ := r.two
    cases rx; cases ry
    exact .ret s (.int _) fun Q q => ⟨_, _, rfl, q⟩
  · trivial
theorem callD_min : CallD K mg (fun xs H Q => ∃ i j, xs = [.int i, .int j] ∧ Q (.int (if j < i then j else i)) H) bMin := by
  intro E F H xs ds s r
  unfold bMin
  split
  · obtain ⟨x, y, rfl, rx, ry⟩ := r.two
    cases rx; cases ry
    exact .ret s (.int _) fun Q q => ⟨_, _, rfl, q⟩
  · trivial
theorem callD_int : CallD K mg (fun xs H Q => (∃ i, xs = [.int i] ∧ Q (.int i) H) ∨ ∃ k, xs = [.bl k] ∧ Q (.int (if k then 1 else 0)) H) bInt := by
  intro E F H xs ds s r
  unfold bInt
  split
  · obtain ⟨x, rfl, rx⟩ := r.one
    cases rx
    exact .ret s (.int _) fun Q q => .inl ⟨_, rfl, q⟩
  · obtain ⟨x, rfl, rx⟩ := r.one
    cases rx
    exact .ret s (.int _) fun Q q => .inr ⟨_, rfl, q⟩
  · trivial
noncomputable def spD (K : PySem.W.Frag) (mg : Str → Option Value) (n : Nat) (m : List D → Res D) : Sp := fun vs H Q E => vs.length = n ∧ ∃ F ds, Same F H ∧ Rps K mg F vs ds ∧ m ds ≠ .bad ∧
  (∀ d, m ds = .ok d → ∀ F' H' x, Gr F H F' H' → Rp K mg F' x d → Q x H') ∧ (∀ c, m ds = .ex c → ∀ F' H' C, Gr F H F' H' → mg c = some (.ref C) → E (.ref C) none H')
theorem ans_call {n : Nat} {m : List D → Res D} {F H : Hp} {vs : List V} {ds : List D} (s : Same F H) (r : Rps K mg F vs ds) (hl : ds.length = n) : Ans mg E (Rp K mg) F H (m ds) (fun Q => spD K mg n m vs H Q E) := by
  have hv : vs.length = n := r.length.trans hl
  cases e : m ds with
  | ok d =>
    intro Q q
    refine ⟨hv, F, ds, s, r, fun z => ?_, fun d' e' => ?_, fun c e' => ?_⟩
    · rw [e] at z; cases z
    · rw [e] at e'; cases e'; exact q
    · rw [e] at e'; cases e'
  | ex c =>
    intro Q q
    refine ⟨hv, F, ds, s, r, fun z => ?_, fun d' e' => ?_, fun c e' => ?_⟩
    · rw [e] at z; cases z
    · rw [e] at e'; cases e'
    · rw [e] at e'; cases e'; exact q
  | bad => trivial
theorem se_call {n : Nat} {m : List D → Res D} {t : TA} {ma : MA} (ha : SA K mg E t ma) (hl : SAn n ma) : SE K mg E (tCall (spD K mg n m) [] E t) (on m ma) := by
  intro F0 H0 F H σ ρ rr
  refine (ha F0 H0 F H σ ρ rr).bindE (w' := fun vs H1 Q => spD K mg n m (vs ++ []) H1 Q E) fun ds e F1 H1 vs g1 rs => ?_
  have z := ans_call (E := E) (m := m) g1.s rs (hl ρ ds e)
  simp only [List.append_nil]
  exact z
end
end L2.Ds

namespace L2.Ds
open PySem PySem.Spec PyProof.Rows Dl
section
variable {K : PySem.W.Frag} {mg : Str → Option Value} {E : XK} {ta : TE} {ma : ME} {F0 H0 F H : Hp}
theorem AnsS.mono {F1 : Hp} {r : Res Fl} {w : Ends → Prop} (s : Same F F1) (h : AnsS K mg E F0 H0 F1 r w) : AnsS K mg E F0 H0 F r w := by
  cases r with
  | ok f =>
    cases f with
    | nx ρ => exact fun D q => h D fun F' H' σ' s' r' => q F' H' σ' (s.trans s') r'
    | bk ρ => exact fun D q => h D fun F' H' σ' s' r' => q F' H' σ' (s.trans s') r'
    | ct ρ => exact fun D q => h D fun F' H' σ' s' r' => q F' H' σ' (s.trans s') r'
    | rt d => exact h
  | ex c => exact h
  | bad => trivial
theorem Ans.stm {α β : Type} {R : Hp → β → α → Prop} {r : Res α} {w : (β → Hp → Prop) → Prop} {k : α → Res Fl} {w' : β → Hp → Ends → Prop} (h1 : Ans mg E R F H r w) (g0 : Gr F0 H0 F H) (h2 : ∀ a, r = .ok a → ∀ F1 H1 b, Gr F H F1 H1 → R F1 b a → AnsS K mg E F0 H0 F1 (k a) (w' b H1)) :
    AnsS K mg E F0 H0 F (r.bind k) (fun D => w fun b H1 => w' b H1 D) := by
  cases r with
  | ok a =>
    show AnsS K mg E F0 H0 F (k a) _
    have h2' := fun F1 H1 b (g : Gr F H F1 H1) q => (h2 a rfl F1 H1 b g q).mono g.f
    generalize k a = r2 at h2'
    cases r2 with
    | ok f =>
      cases f with
      | nx ρ => exact fun D q => h1 _ fun F1 H1 b g rb => h2' F1 H1 b g rb D q
      | bk ρ => exact fun D q => h1 _ fun F1 H1 b g rb => h2' F1 H1 b g rb D q
      | ct ρ => exact fun D q => h1 _ fun F1 H1 b g rb => h2' F1 H1 b g rb D q
      | rt d => exact fun D q => h1 _ fun F1 H1 b g rb => h2' F1 H1 b g rb D q
    | ex c => exact fun D q => h1 _ fun F1 H1 b g rb => h2' F1 H1 b g rb D q
    | bad => trivial
  | ex c => exact fun D q => h1 _ fun F1 H1 C g hc => q F1 H1 C (g0.trans g) hc
  | bad => trivial
theorem ss_nop : SS K mg E tNext nop := fun _ _ _ _ _ _ r D q => q _ _ _ (Same.refl _) r
theorem ss_seq {t u : TS} {m n : MS} (h1 : SS K mg E t m) (h2 : SS K mg E u n) : SS K mg E (tSeq t u) (sq m n) := by
  intro F0 H0 F H σ ρ rr
  have h := h1 F0 H0 F H σ ρ rr
  unfold sq
  cases e : m ρ with
  | ok f =>
    rw [e] at h
    cases f with
    | nx ρ' =>
      show AnsS K mg E F0 H0 F (n ρ') _
      have h2' := fun F1 H1 σ1 (s : Same F F1) r1 => (h2 F0 H0 F1 H1 σ1 ρ' r1).mono s
      generalize n ρ' = r2 at h2'
      cases r2 with
      | ok f =>
        cases f with
        | nx ρ => exact fun D q => h _ fun F1 H1 σ1 s r1 => h2' F1 H1 σ1 s r1 D q
        | bk ρ => exact fun D q => h _ fun F1 H1 σ1 s r1 => h2' F1 H1 σ1 s r1 D q
        | ct ρ => exact fun D q => h _ fun F1 H1 σ1 s r1 => h2' F1 H1 σ1 s r1 D q
        | rt d => exact fun D q => h _ fun F1 H1 σ1 s r1 => h2' F1 H1 σ1 s r1 D q
      | ex c => exact fun D q => h _ fun F1 H1 σ1 s r1 => h2' F1 H1 σ1 s r1 D q
      | bad => trivial
    | bk ρ' => exact fun D q => h _ q
    | ct ρ' => exact fun D q => h _ q
    | rt d => exact fun D q => h _ q
  | ex c => rw [e] at h; exact fun D q => h _ q
  | bad => trivial
theorem ss_ret (ha : SE K mg E ta ma) : SS K mg E (tRet ta) (ret ma) := by
  intro F0 H0 F H σ ρ rr
  exact (ha F0 H0 F H σ ρ rr).stm (w' := fun x H1 D => D.rt x H1) rr.g fun d _ F1 H1 x g1 rx => fun D q => q F1 H1 x (rr.g.trans g1) rx
theorem ss_if {sc : TT} {nc : MB} {t u : TS} {m n : MS} (hc : STt K mg E sc nc) (h1 : SS K mg E t m) (h2 : SS K mg E u n) : SS K mg E (tIfS sc t u) (ifs nc m n) := by
  intro F0 H0 F H σ ρ rr
  refine (hc F0 H0 F H σ ρ rr).stm (w' := fun b H1 D => if b = true then t D σ H1 else u D σ H1) rr.g fun b _ F1 H1 x g1 rx => ?_
  cases (show x = b from rx)
  cases b with
  | true =>
    have z := h1 F0 H0 F1 H1 σ ρ (rr.gr g1)
    simp only [if_true]; exact z
  | false =>
    have z := h2 F0 H0 F1 H1 σ ρ (rr.gr g1)
    simp only [Bool.false_eq_true, if_false]; exact z
theorem drop_set_lt {α : Type} {l : List α} {i n : Nat} {x : α} (h : i < n) : (l.set i x).drop n = l.drop n := by
  rw [List.drop_set, if_pos h]
theorem sg_name {i n : Nat} (h : i < n) : SG K mg n (gName i) (gN i) := fun _ _ _ _ _ _ _ _ r rx _ q => q _ _ _ (Same.refl _) (r.set i rx) (drop_set_lt h)
theorem sgs_nil {n : Nat} : SGs K mg n gNil gs0 := by
  intro F0 H0 F H σ ρ xs ds r rs
  unfold gs0
  split
  · cases rs
    exact fun Q q => ⟨rfl, q _ _ _ (Same.refl _) r rfl⟩
  · trivial
theorem sgs_cons {n : Nat} {t : TG} {u : TGs} {g : MG} {gs : MGs} (h1 : SG K mg n t g) (h2 : SGs K mg n u gs) : SGs K mg n (gCons t u) (gs1 g gs) := by
  intro F0 H0 F H σ ρ xs ds r rs
  unfold gs1
  cases rs with
  | nil => trivial
  | cons rx rs =>
    rename_i x xs d ds
    have h := h1 F0 H0 F H σ ρ x d r rx
    show AnsG K mg F0 H0 F n σ ((g d ρ).bind fun ρ' => gs ds ρ') _
    cases e : g d ρ with
    | ok ρ' =>
      rw [e] at h
      show AnsG K mg F0 H0 F n σ (gs ds ρ') _
      cases e2 : gs ds ρ' with
      | ok ρ'' =>
        refine fun Q q => ⟨x, xs, rfl, h _ fun F1 H1 σ1 s1 r1 d1 => ?_⟩
        have h' := h2 F0 H0 F1 H1 σ1 ρ' xs ds r1 (rs.same s1)
        rw [e2] at h'
        exact h' _ fun F2 H2 σ2 s2 r2 d2 => q F2 H2 σ2 (s1.trans s2) r2 (d2.trans d1)
      | ex c => trivial
      | bad => trivial
    | ex c => trivial
    | bad => trivial
noncomputable def gLst (K : PySem.W.Frag) (n : Nat) (t : TGs) : TG := fun v σ H Q => ∃ a xs, v = .ref a ∧ SqL K H a xs ∧ xs.length = n ∧ t xs σ H Q
noncomputable def gSeq (K : PySem.W.Frag) (n : Nat) (t : TGs) : TG := fun v σ H Q => gTup K n t v σ H Q ∨ gLst K n t v σ H Q
theorem sg_seq {n k : Nat} {t : TGs} {g : MGs} (h : SGs K mg n t g) : SG K mg n (gSeq K k t) (gU k g) := by
  intro F0 H0 F H σ ρ x d r rx
  unfold gU items
  split
  · next ds =>
    show AnsG K mg F0 H0 F n σ (if ds.length = k then g ds ρ else .bad) _
    by_cases hl : ds.length = k
    · rw [if_pos hl]
      cases rx with
      | lst ha ra =>
        have h' := h F0 H0 F H σ ρ _ _ r ra
        cases e : g ds ρ with
        | ok ρ' =>
          rw [e] at h'
          exact fun Q q => .inr ⟨_, _, rfl, r.ss.seq ha, ra.length.trans hl, h' Q q⟩
        | ex c => trivial
        | bad => trivial
    · rw [if_neg hl]; trivial
  · next ds =>
    show AnsG K mg F0 H0 F n σ (if ds.length = k then g ds ρ else .bad) _
    by_cases hl : ds.length = k
    · rw [if_pos hl]
      cases rx with
      | tup ha ra =>
        have h' := h F0 H0 F H σ ρ _ _ r ra
        cases e : g ds ρ with
        | ok ρ' =>
          rw [e] at h'
          exact fun Q q => .inl ⟨_, _, rfl, seqT_same r.ss ha, ra.length.trans hl, h' Q q⟩
        | ex c => trivial
        | bad => trivial
    · rw [if_neg hl]; trivial
  · trivial
theorem ss_asg {n : Nat} {t : TG} {g : MG} (ha : SE K mg E ta ma) (hg : SG K mg n t g) (hx : ∀ d ρ c, g d ρ ≠ .ex c) : SS K mg E (tAsg ta t) (asg g ma) := by
  intro F0 H0 F H σ ρ rr
  refine (ha F0 H0 F H σ ρ rr).stm (w' := fun x H1 D => t x σ H1 D.nx) rr.g fun d _ F1 H1 x g1 rx => ?_
  have h := hg F0 H0 F1 H1 σ ρ x d (rr.gr g1) rx
  cases e : g d ρ with
  | ok ρ' =>
    rw [e] at h
    exact fun D q => h _ fun F' H' σ' s r' _ => q F' H' σ' s r'
  | ex c => exact absurd e (hx d ρ c)
  | bad => trivial
theorem ss_set {i : Nat} (ha : SE K mg E ta ma) : SS K mg E (tAsg ta (gName i)) (st i ma) := by
  intro F0 H0 F H σ ρ rr
  exact (ha F0 H0 F H σ ρ rr).stm (w' := fun x H1 D => D.nx (σ.set i (some x)) H1) rr.g fun d _ F1 H1 x g1 rx => fun D q => q F1 H1 _ (Same.refl _) ((rr.gr g1).set i rx)
theorem ss_frz {i : Nat} {t : TS} {m : MS} (h : SS K mg E t m) : SS K mg E t (frz i m) := by
  intro F0 H0 F H σ ρ rr
  unfold frz getO
  split
  · next xs e =>
    show AnsS K mg E F0 H0 F (m (ρ.set i (.im (.lst xs)))) _
    obtain ⟨F', s, r'⟩ := rr.frz e
    exact (h F0 H0 F' H σ _ r').mono s
  · trivial
theorem ss_app {i : Nat} (ha : SE K mg E ta ma) (hty : ∀ H a xs, H a = some (.lst xs) → tyV K "list" (.ref a) H) : SS K mg E (tDrop (tBM K "list" rAppend (tVar i) (tCons ta tNil))) (app i ma) := by
  intro F0 H0 F H σ ρ rr
  unfold app getO
  split
  · next ds e =>
    show AnsS K mg E F0 H0 F ((ma ρ).bind fun d => if ds.length < LIM then .ok (.nx (ρ.set i (.ow (ds ++ [d])))) else .bad) _
    obtain ⟨a, xs, e2, e4, e5, e3, hr⟩ := rr.ow i ds e
    have hl : xs.length = ds.length := hr.length
    have h := (ha F0 H0 F H σ ρ rr).stm (K := K) (k := fun d => if ds.length < LIM then .ok (.nx (ρ.set i (.ow (ds ++ [d])))) else .bad) (w' := fun x H2 D => rAppend (.ref a) [x] H2 fun _ H3 => D.nx σ H3) rr.g fun d _ F1 H1 x g1 rx => ?_
    · generalize ((ma ρ).bind fun d => if ds.length < LIM then Res.ok (Fl.nx (ρ.set i (.ow (ds ++ [d])))) else .bad) = res at h
      have fin : ∀ D : Ends, (ta σ H fun x H2 => rAppend (.ref a) [x] H2 fun _ H3 => D.nx σ H3) → tDrop (tBM K "list" rAppend (tVar i) (tCons ta tNil)) D σ H := fun D z => ⟨.ref a, e2, hty H a xs e3, z⟩
      cases res with
      | ok f =>
        cases f with
        | nx ρ => exact fun D q => fin D (h D q)
        | bk ρ => exact fun D q => fin D (h D q)
        | ct ρ => exact fun D q => fin D (h D q)
        | rt d => exact fun D q => fin D (h D q)
      | ex c => exact fun D q => fin D (h D q)
      | bad => trivial
    · by_cases hlim : ds.length < LIM
      · simp only [hlim, if_true]
        have r1 := rr.gr g1
        obtain ⟨q1, q2⟩ := g1.o a _ e5 e3
        exact fun D q => ⟨a, xs, x, rfl, rfl, q2, by rw [hl]; exact Nat.lt_of_lt_of_le hlim (by decide), q F1 _ σ (Same.refl _) (r1.app e e2 q2 e4 q1 (hr.same g1.f) rx)⟩
      · simp only [hlim, if_false]; trivial
  · trivial
theorem itr_ok (lo : Int) (n : Nat) : ItOk K mg F (Itr lo n) (rangeD lo n) := by
  intro F' H' s1 s2 i
  unfold rangeD
  refine ⟨fun d e => ?_, fun hl => ?_⟩
  · rw [List.getElem?_map] at e
    have hi : i < n := by
      rcases Nat.lt_or_ge i n with z | z
      · exact z
      · rw [List.getElem?_eq_none (by rw [List.length_range]; exact z)] at e; cases e
    rw [List.getElem?_range hi] at e
    cases e
    refine ⟨hi, fun y H'' q => ?_⟩
    obtain ⟨rfl, rfl⟩ := q
    exact ⟨F', .refl s2, .int _⟩
  · rw [List.length_map, List.length_range] at hl
    exact hl
theorem si_r1 {t : TA} {m : MA} (ha : SA K mg E t m) : SI K mg E (iRng1 t) (r1 m) := by
  intro F0 H0 F H σ ρ rr
  refine (ha F0 H0 F H σ ρ rr).bind fun F1 H1 xs ds g1 rs => ?_
  unfold rng1
  split
  · next j =>
    by_cases h : -1000000000 ≤ j ∧ j ≤ 1000000000
    · rw [if_pos h]
      obtain ⟨x, rfl, rx⟩ := rs.one
      cases rx
      exact Ans.ret (R := ItOk K mg) g1.s (itr_ok 0 _) fun Q q => ⟨j, rfl, by omega, by omega, q⟩
    · rw [if_neg h]; trivial
  · trivial
theorem si_r2 {t : TA} {m : MA} (ha : SA K mg E t m) : SI K mg E (iRng2 t) (r2 m) := by
  intro F0 H0 F H σ ρ rr
  refine (ha F0 H0 F H σ ρ rr).bind fun F1 H1 xs ds g1 rs => ?_
  unfold rng2
  split
  · next i j =>
    by_cases h : (-1000000000 ≤ i ∧ i ≤ 1000000000) ∧ (-1000000000 ≤ j ∧ j ≤ 1000000000)
    · rw [if_pos h]
      obtain ⟨x, y, rfl, rx, ry⟩ := rs.two
      cases rx; cases ry
      exact Ans.ret (R := ItOk K mg) g1.s (itr_ok i _) fun Q q => ⟨i, j, rfl, by omega, q⟩
    · rw [if_neg h]; trivial
  · trivial
theorem AnsS.of_eq {r r' : Res Fl} {w : Ends → Prop} (e : r = r') (h : AnsS K mg E F0 H0 F r w) : AnsS K mg E F0 H0 F r' w := e ▸ h
theorem ss_for {wi : TI} {mi : MI} {n : Nat} {t : TG} {g : MG} {u : TS} {m : MS} (hi : SI K mg E wi mi) (hg : SG K mg n t g) (hx : ∀ d ρ c, g d ρ ≠ .ex c) (hb : SS K mg E u m) : SS K mg E (tFor wi t u) (for_ mi g m) := by
  intro F0 H0 F H σ ρ rr
  refine (hi F0 H0 F H σ ρ rr).stm (w' := fun J H1 D => ∃ W : Nat → Nat → St → Hp → Prop, (∃ m, W 0 m σ H1) ∧ ∀ i m σ H, W i m σ H →
    (J.stop i H ∧ D.nx σ H) ∨ (J.go i H ∧ ∃ N : St → Hp → Prop, (∀ σ' H', N σ' H' → ∃ m', m' < m ∧ W (i + 1) m' σ' H') ∧ ∀ x H', J.yld i H x H' → t x σ H' fun σ2 H2 => u { D with nx := N, ct := N, bk := D.nx } σ2 H2)) rr.g fun ds _ F1 H1 J g1 jo => ?_
  have r1 := rr.gr g1
  -- for each wanted end: the loop by its rest
  have key : ∀ (D : Ends) (res : Res Fl), res ≠ .bad → (∀ ρ', res = .ok (.nx ρ') → ∀ F' H' σ', Same F1 F' → Rep K mg F0 H0 F' H' σ' ρ' → D.nx σ' H') → (∀ ρ', res = .ok (.bk ρ') → ∀ F' H' σ', Same F1 F' → Rep K mg F0 H0 F' H' σ' ρ' → D.bk σ' H') →
      (∀ ρ', res = .ok (.ct ρ') → ∀ F' H' σ', Same F1 F' → Rep K mg F0 H0 F' H' σ' ρ' → D.ct σ' H') → (∀ d, res = .ok (.rt d) → ∀ F' H' x, Gr F0 H0 F' H' → Rp K mg F' x d → D.rt x H') →
      (∀ c, res = .ex c → ∀ F' H' C, Gr F0 H0 F' H' → mg c = some (.ref C) → E (.ref C) none H') → forGo g m ds ρ = res →
      ∃ W : Nat → Nat → St → Hp → Prop, (∃ m, W 0 m σ H1) ∧ ∀ i m σ H, W i m σ H →
        (J.stop i H ∧ D.nx σ H) ∨ (J.go i H ∧ ∃ N : St → Hp → Prop, (∀ σ' H', N σ' H' → ∃ m', m' < m ∧ W (i + 1) m' σ' H') ∧ ∀ x H', J.yld i H x H' → t x σ H' fun σ2 H2 => u { D with nx := N, ct := N, bk := D.nx } σ2 H2) := by
    intro D res hbad qn qb qc qr qe e0
    refine ⟨fun i k σ' H' => k = ds.length - i ∧ i ≤ ds.length ∧ ∃ ρ' F', Same F1 F' ∧ Rep K mg F0 H0 F' H' σ' ρ' ∧ forGo g m (ds.drop i) ρ' = res, ⟨ds.length, by simp, Nat.zero_le _, ρ, F1, Same.refl _, r1, e0⟩, ?_⟩
    rintro i k σ' H' ⟨rfl, hi', ρ', F', s1, r', e⟩
    by_cases hlt : i < ds.length
    · refine .inr ?_
      have hd : ds[i]? = some ds[i] := List.getElem?_eq_getElem hlt
      obtain ⟨go, yl⟩ := (jo F' H' s1 r'.ss i).1 _ hd
      rw [List.drop_eq_getElem_cons hlt] at e
      refine ⟨go, fun σ2 H2 => ∃ ρ2 F2, Same F1 F2 ∧ Rep K mg F0 H0 F2 H2 σ2 ρ2 ∧ forGo g m (ds.drop (i + 1)) ρ2 = res, fun σ2 H2 ⟨ρ2, F2, s2, r2, e2⟩ => ⟨ds.length - (i + 1), by omega, rfl, hlt, ρ2, F2, s2, r2, e2⟩, fun x H2 y => ?_⟩
      obtain ⟨F2, g2, rx⟩ := yl x H2 y
      have r2 := r'.gr g2
      have hG := hg F0 H0 F2 H2 σ' ρ' x _ r2 rx
      have e' : (g ds[i] ρ').bind (fun ρ1 => (m ρ1).bind (turn (forGo g m (ds.drop (i + 1))))) = res := e
      cases eg : g ds[i] ρ' with
      | ok ρ1 =>
        rw [eg] at e' hG
        refine hG _ fun F3 H3 σ3 s3 r3 _ => ?_
        have hB := hb F0 H0 F3 H3 σ3 ρ1 r3
        have sF : Same F1 F3 := s1.trans (g2.f.trans s3)
        have e2 : (m ρ1).bind (turn (forGo g m (ds.drop (i + 1)))) = res := e'
        cases em : m ρ1 with
        | ok f =>
          rw [em] at e2 hB
          cases f with
          | nx ρ2 => exact hB _ fun F4 H4 σ4 s4 r4 => ⟨ρ2, F4, sF.trans s4, r4, e2⟩
          | ct ρ2 => exact hB _ fun F4 H4 σ4 s4 r4 => ⟨ρ2, F4, sF.trans s4, r4, e2⟩
          | bk ρ2 => exact hB _ fun F4 H4 σ4 s4 r4 => qn ρ2 e2.symm F4 H4 σ4 (sF.trans s4) r4
          | rt d => exact hB _ fun F4 H4 y g4 ry => qr d e2.symm F4 H4 y g4 ry
        | ex c =>
          rw [em] at e2 hB
          exact hB _ fun F4 H4 C g4 hc => qe c e2.symm F4 H4 C g4 hc
        | bad => rw [em] at e2; exact absurd e2.symm hbad
      | ex c => exact absurd eg (hx _ _ c)
      | bad => rw [eg] at e'; exact absurd e'.symm hbad
    · have hi2 : i = ds.length := by omega
      subst hi2
      rw [List.drop_eq_nil_of_le (Nat.le_refl _)] at e
      exact .inl ⟨(jo F' H' s1 r'.ss _).2 (Nat.le_refl _), qn ρ' e.symm F' H' σ' s1 r'⟩
  cases e : forGo g m ds ρ with
  | ok f =>
    cases f with
    | nx ρ2 => exact fun D q => key D _ (fun z => by cases z) (fun _ z => by cases z; exact q) (fun _ z => by cases z) (fun _ z => by cases z) (fun _ z => by cases z) (fun _ z => by cases z) e
    | bk ρ2 => exact fun D q => key D _ (fun z => by cases z) (fun _ z => by cases z) (fun _ z => by cases z; exact q) (fun _ z => by cases z) (fun _ z => by cases z) (fun _ z => by cases z) e
    | ct ρ2 => exact fun D q => key D _ (fun z => by cases z) (fun _ z => by cases z) (fun _ z => by cases z) (fun _ z => by cases z; exact q) (fun _ z => by cases z) (fun _ z => by cases z) e
    | rt d => exact fun D q => key D _ (fun z => by cases z) (fun _ z => by cases z) (fun _ z => by cases z) (fun _ z => by cases z) (fun _ z => by cases z; exact q) (fun _ z => by cases z) e
  | ex c => exact fun D q => key D _ (fun z => by cases z) (fun _ z => by cases z) (fun _ z => by cases z) (fun _ z => by cases z) (fun _ z => by cases z) (fun _ z => by cases z; exact q) e
  | bad => trivial
end
end L2.Ds

namespace L2.Ds
open PySem PySem.Spec PyProof.Rows Dl
section
variable {K : PySem.W.Frag} {mg : Str → Option Value} {E : XK} {F0 H0 F H : Hp} {σ : St} {ρ : Ev}
theorem Rep.inner {own : List Str} {cap : List (Str × Nat)} {Fb Hb : Hp} (r : Rep K mg F0 H0 F H σ ρ) (gb : Gr Fb Hb F H) : Rep K mg Fb Hb F H (st0 own σ cap) (noA own.length (capD ρ (cap.map (·.2)))) := by
  have key : ∀ (i : Nat) (cl : Cl), (noA own.length (capD ρ (cap.map (·.2))))[i]? = some cl → cl = .no ∨ ∃ j p d, i = own.length + j ∧ cap[j]? = some p ∧ ρ[p.2]? = some (.im d) ∧ cl = .im d := by
    intro i cl e
    rw [noA_eq, capD_map] at e
    by_cases hi : i < own.length
    · rw [List.getElem?_append_left (by simpa using hi), List.getElem?_replicate, if_pos hi] at e
      cases e
      exact .inl rfl
    · rw [List.getElem?_append_right (by simpa using hi), List.length_replicate] at e
      rw [List.map_map, List.getElem?_map] at e
      cases q : cap[i - own.length]? with
      | none => rw [q] at e; cases e
      | some p =>
        rw [q] at e
        have e' : imOf ρ[p.2]? = cl := Option.some.inj e
        unfold imOf at e'
        split at e'
        · next d h => exact .inr ⟨i - own.length, p, d, by omega, q, h, e'.symm⟩
        · exact .inl e'.symm
  refine ⟨gb, ?_, fun i d e => ?_, fun i ds e => ?_, fun i j ds es a e => ?_⟩
  · rw [noA_eq, capD_map]
    unfold st0 capt
    simp
  · rcases key i _ e with z | ⟨j, p, d', rfl, hp, hρ, z⟩
    · cases z
    · cases z
      obtain ⟨x, hx, rx⟩ := r.im p.2 d hρ
      refine ⟨x, ?_, rx⟩
      unfold st0 capt
      rw [List.getElem?_append_right (by simp), List.length_replicate, Nat.add_sub_cancel_left, List.getElem?_map, hp]
      show some ((σ[p.2]?).join) = _
      rw [hx]; rfl
  · rcases key i _ e with z | ⟨j, p, d', rfl, hp, hρ, z⟩ <;> cases z
  · rcases key i _ e with z | ⟨j, p, d', rfl, hp, hρ, z⟩ <;> cases z
theorem st_drop {own : List Str} {cap : List (Str × Nat)} : (st0 own σ cap).drop own.length = capt σ cap := by
  unfold st0
  rw [List.drop_append_of_le_length (by simp), List.drop_of_length_le (by simp)]
  rfl
theorem comp_ok {t : TG} {g : MG} {tt : TT} {nt : MB} {te : TE} {me : ME} {own : List Str} {cap : List (Str × Nat)} {J : It} {ds ys : List D} (r : Rep K mg F0 H0 F H σ ρ) (jo : ItOk K mg F J ds) (hg : SG K mg own.length t g) (ht : STt K mg E0 tt nt) (he : SE K mg E0 te me)
    (hl : ds.length ≤ LIM) (e0 : Dl.compGo g nt me (noA own.length (capD ρ (cap.map (·.2)))) ds = .ok ys) (Q : VK) (q : ∀ F' H' xs, Gr F H F' H' → Rps K mg F' xs ys → xs.length ≤ sizeLine → ∀ p, H' p = none → Q (.ref p) (upd H' p (.lst xs))) :
    compGoT J t tt te own cap σ Q H := by
  refine ⟨fun i k acc H' => k = ds.length - i ∧ i ≤ ds.length ∧ acc.length ≤ i ∧ ∃ F' zs rs, Gr F H F' H' ∧ Rps K mg F' acc zs ∧ Dl.compGo g nt me (noA own.length (capD ρ (cap.map (·.2)))) (ds.drop i) = .ok rs ∧ zs ++ rs = ys,
    ⟨ds.length, by simp, Nat.zero_le _, Nat.le_refl _, F, [], ys, .refl r.ss, .nil, e0, rfl⟩, ?_⟩
  rintro i k acc H' ⟨rfl, hi, ha, F', zs, rs, g1, r1, e1, e2⟩
  have la : acc.length ≤ LIM := Nat.le_trans ha (Nat.le_trans hi hl)
  refine ⟨lim_le la, ?_⟩
  by_cases hlt : i < ds.length
  · refine .inr ?_
    have hd : ds[i]? = some ds[i] := List.getElem?_eq_getElem hlt
    obtain ⟨go, yl⟩ := (jo F' H' g1.f g1.s i).1 _ hd
    rw [List.drop_eq_getElem_cons hlt] at e1
    refine ⟨go, fun x H2 y => ?_⟩
    obtain ⟨F2, g2, rx⟩ := yl x H2 y
    have rr := (r.gr (g1.trans g2)).inner (own := own) (cap := cap) (g1.trans g2)
    have hG := hg F H F2 H2 _ _ x _ rr rx
    have e' : (g ds[i] (noA own.length (capD ρ (cap.map (·.2))))).bind (fun ρ1 => (nt ρ1).bind fun b => if b = true then (me ρ1).bind fun y => (Dl.compGo g nt me (noA own.length (capD ρ (cap.map (·.2)))) (ds.drop (i + 1))).bind fun ys => .ok (y :: ys) else Dl.compGo g nt me (noA own.length (capD ρ (cap.map (·.2)))) (ds.drop (i + 1))) = .ok rs := e1
    cases eg : g ds[i] (noA own.length (capD ρ (cap.map (·.2)))) with
    | ok ρ1 =>
      rw [eg] at e' hG
      refine hG _ fun F3 H3 σ3 s3 r3 d3 => ⟨d3.trans st_drop, ?_⟩
      have hT := ht F H F3 H3 σ3 ρ1 r3
      have sF : Same F' F3 := g2.f.trans s3
      have e3 : (nt ρ1).bind (fun b => if b = true then (me ρ1).bind fun y => (Dl.compGo g nt me (noA own.length (capD ρ (cap.map (·.2)))) (ds.drop (i + 1))).bind fun ys => .ok (y :: ys) else Dl.compGo g nt me (noA own.length (capD ρ (cap.map (·.2)))) (ds.drop (i + 1))) = .ok rs := e'
      cases et : nt ρ1 with
      | ok b =>
        rw [et] at e3 hT
        refine hT _ fun F4 H4 b' g4 eb => ?_
        cases (show b' = b from eb)
        cases b with
        | true =>
          rw [if_pos rfl]
          have e4 : (me ρ1).bind (fun y => (Dl.compGo g nt me (noA own.length (capD ρ (cap.map (·.2)))) (ds.drop (i + 1))).bind fun ys => .ok (y :: ys)) = .ok rs := e3
          have hE := he F H F4 H4 σ3 ρ1 (r3.gr g4)
          cases em : me ρ1 with
          | ok y' =>
            rw [em] at e4 hE
            refine hE _ fun F5 H5 u g5 ru => ⟨Nat.lt_of_le_of_lt la (by decide), ds.length - (i + 1), by omega, rfl, hlt, by rw [List.length_append]; show acc.length + 1 ≤ i + 1; omega, ?_⟩
            have e5 : (Dl.compGo g nt me (noA own.length (capD ρ (cap.map (·.2)))) (ds.drop (i + 1))).bind (fun ys => .ok (y' :: ys)) = .ok rs := e4
            cases ec : Dl.compGo g nt me (noA own.length (capD ρ (cap.map (·.2)))) (ds.drop (i + 1)) with
            | ok rs' =>
              rw [ec] at e5
              have e6 : Res.ok (y' :: rs') = .ok rs := e5
              cases e6
              exact ⟨F5, zs ++ [y'], rs', r3.g.trans (g4.trans g5), Rps.app (.cons ru .nil) (r1.same (sF.trans (g4.f.trans g5.f))), rfl, by rw [List.append_assoc]; exact e2⟩
            | ex c => rw [ec] at e5; cases e5
            | bad => rw [ec] at e5; cases e5
          | ex c => rw [em] at e4; cases e4
          | bad => rw [em] at e4; cases e4
        | false =>
          rw [if_neg Bool.false_ne_true]
          have e4 : Dl.compGo g nt me (noA own.length (capD ρ (cap.map (·.2)))) (ds.drop (i + 1)) = .ok rs := e3
          exact ⟨ds.length - (i + 1), by omega, rfl, hlt, by omega, F4, zs, rs, r3.g.trans g4, r1.same (sF.trans g4.f), e4, e2⟩
      | ex c => rw [et] at e3; cases e3
      | bad => rw [et] at e3; cases e3
    | ex c => rw [eg] at e'; cases e'
    | bad => rw [eg] at e'; cases e'
  · have hi2 : i = ds.length := by omega
    subst hi2
    rw [List.drop_eq_nil_of_le (Nat.le_refl _)] at e1
    cases e1
    rw [List.append_nil] at e2
    subst e2
    exact .inl ⟨(jo F' H' g1.f g1.s _).2 (Nat.le_refl _), q F' H' acc g1 r1 (lim_le la)⟩
theorem se_comp {wi : TI} {mi : MI} {t : Fam TG} {g : MG} {tt : Fam TT} {nt : MB} {te : Fam TE} {me : ME} {own : List Str} {cap : List (Str × Nat)} (hi : SI K mg E wi mi) (hg : ∀ C s H fp pn, SG K mg own.length (t C s H fp pn) g) (ht : ∀ C s H fp pn, STt K mg E0 (tt C s H fp pn) nt) (he : ∀ C s H fp pn, SE K mg E0 (te C s H fp pn) me) :
    SE K mg E (tCompT wi t tt te own cap) (comp mi own.length (cap.map (·.2)) g nt me) := by
  intro F0 H0 F H σ ρ rr
  refine (hi F0 H0 F H σ ρ rr).bind (w' := fun J H1 Q => ∀ C s H2 fp pn, compGoT J (t C s H2 fp pn) (tt C s H2 fp pn) (te C s H2 fp pn) own cap σ Q H1) fun F1 H1 J ds g1 jo => ?_
  by_cases hl : ds.length ≤ LIM
  · rw [if_pos hl]
    cases e : Dl.compGo g nt me (noA own.length (capD ρ (cap.map (·.2)))) ds with
    | ok ys => exact fun Q q C s H2 fp pn => comp_ok (rr.gr g1) jo (hg C s H2 fp pn) (ht C s H2 fp pn) (he C s H2 fp pn) hl e Q fun F' H' xs g2 rs _ p hp => q _ _ _ (g2.trans (.new g2.s hp _)) (.lst (SqL.of upd_same) (rs.same (same_new (g2.s.free hp) _)))
    | ex c => trivial
    | bad => trivial
  · rw [if_neg hl]; trivial
end
end L2.Ds

namespace L2.Ds
open PySem PySem.Spec PyProof.Rows Dl
structure DE (X : Cx) (E : XK) (e : Expr) (t : TE) (m : ME) : Prop where
  p : PE X e t
  s : SE X.K X.mg E t m
structure DT (X : Cx) (E : XK) (e : Expr) (t : TT) (m : MB) : Prop where
  p : PT X e t
  s : STt X.K X.mg E t m
structure DW (X : Cx) (E : XK) (e : Expr) (t : TT) (m : MB) : Prop where
  p : PW X e t
  s : STt X.K X.mg E t m
structure DA (X : Cx) (E : XK) (n : Nat) (es : List Expr) (t : TA) (m : MA) : Prop where
  p : PA X es t
  s : SA X.K X.mg E t m
  n : SAn n m
structure DO (X : Cx) (E : XK) (e : Option Expr) (t : TO) (m : Ev → Res (Option Int)) : Prop where
  p : PO X e t
  s : SO X.K X.mg E t m
structure DS (X : Cx) (E : XK) (st : Stmt) (t : TS) (m : MS) : Prop where
  p : PS X st t
  s : SS X.K X.mg E t m
structure DSs (X : Cx) (E : XK) (st : List Stmt) (t : TS) (m : MS) : Prop where
  p : PSs X st t
  s : SS X.K X.mg E t m
structure DG (X : Cx) (n : Nat) (e : Expr) (t : TG) (g : MG) : Prop where
  p : PG X e t
  s : SG X.K X.mg n t g
  x : ∀ d ρ c, g d ρ ≠ .ex c
structure DGs (X : Cx) (n : Nat) (es : List Expr) (t : TGs) (g : MGs) : Prop where
  p : PGs X es t
  s : SGs X.K X.mg n t g
  x : ∀ d ρ c, g d ρ ≠ .ex c
structure DI (X : Cx) (E : XK) (tg e : Expr) (t : TI) (m : MI) : Prop where
  p : PI X tg e t
  s : SI X.K X.mg E t m
section
variable {X : Cx} {E : XK} {a b e c' : Expr} {es : List Expr} {ta tb tc te : TE} {ma mb mc me : ME} {sa sb : TT} {na nb : MB} {t : TA} {m : MA} {pos : Pos} {n : Nat}
theorem d_v (i : Nat) {x : Str} (hN : X.N[i]? = some x := by rfl) (hv : Vis X.env.scope x := by first | exact Or.inl rfl | exact Or.inr (Or.inl rfl) | exact Or.inr (Or.inr rfl)) (hd : (x == ("__debug__" : Str)) = false := by decide)
    (hcd : (x == ("__classdict__" : Str)) = false := by decide) : DE X E (.Name x pos) (tVar i) (v i) := ⟨pe_var hN hv hd hcd, se_v i⟩
theorem d_int {i j} : DE X E (.Constant (.int i) j pos) (tC (.int i)) (c (.int i)) := ⟨pe_int, se_c fun _ => .int _⟩
theorem d_bl {i j} : DE X E (.Constant (.bool i) j pos) (tC (.bl i)) (c (.bl i)) := ⟨pe_bl, se_c fun _ => .bl _⟩
theorem d_ty {k : String} {x : Str} (hg : Gl X x) (hm : X.mg x = none) (hv : bootBuiltins x = some (.type k)) (hn : x ≠ "__name__" := by decide) (hd : (x == ("__debug__" : Str)) = false := by decide) : DE X E (.Name x pos) (tC (.ty k)) (c (.ty k)) :=
  ⟨pe_tyn hg hm hv hn hd, se_c fun _ => .ty _⟩
theorem d_bin {op : Operator} {r : R2} {f : D → D → Res D} (ho : OpR X (binaryOp op) r) (hf : OpD X.K X.mg r f) (ha : DE X E a ta ma) (hb : DE X E b tb mb) : DE X E (.BinOp a op b pos) (tOp r ta tb) (o2 f ma mb) := ⟨pe_op ho ha.p hb.p, se_op hf ha.s hb.s⟩
theorem d_cmp {op : CmpOp} {r : R2} {f : D → D → Res D} (ho : OpR X (compareOp op) r) (hf : OpD X.K X.mg r f) (ha : DE X E a ta ma) (hb : DE X E b tb mb) (hm : behindInMarks op b = false) : DE X E (.Compare a [op] [b] pos) (tOp r ta tb) (o2 f ma mb) := ⟨pe_cmpR ho ha.p hb.p hm, se_op hf ha.s hb.s⟩
theorem dt_cmp {op : CmpOp} {r : R2} {f : D → D → Res D} (ho : OpR X (compareOp op) r) (hf : OpD X.K X.mg r f) (ha : DE X E a ta ma) (hb : DE X E b tb mb) (hm : behindInMarks op b = false) : DT X E (.Compare a [op] [b] pos) (tTest (tOp r ta tb)) (trb (o2 f ma mb)) := ⟨pt_cmpR ho ha.p hb.p hm, st_test (se_op hf ha.s hb.s)⟩
theorem OpR.or {f : Value → Value → Sem Value} {r r' : R2} (h : OpR X f r) (h' : OpR X f r') : OpR X f (fun x y H Q => r x y H Q ∨ r' x y H Q) := by
  intro pins s σ H x y v u Q I rx ry q
  rcases q with q | q
  · exact h pins s σ H x y v u Q I rx ry q
  · exact h' pins s σ H x y v u Q I rx ry q
theorem op_catL : OpR X (binaryOp .Add) (rCatL X.K) := by
  intro pins s σ H x y v u Q I rx ry h
  obtain ⟨l, b, xs, zs, rfl, rfl, hH, hB, hz, q⟩ := h
  cases rx
  cases ry
  exact op_catL0 I hH hB hz q
theorem op_catU : OpR X (binaryOp .Add) (rCatU X.K) := by
  intro pins s σ H x y v u Q I rx ry h
  obtain ⟨a, b, xs, ys, rfl, rfl, ha, hb, hz, q0, q1, q2⟩ := h
  cases rx
  cases ry
  exact op_catU0 I ha hb hz q0 q1 q2
theorem op_addD : OpR X (binaryOp .Add) (rAddD X.K) := OpR.or op_add (OpR.or op_catL (OpR.or op_catU op_add_str))
theorem d_add (ha : DE X E a ta ma) (hb : DE X E b tb mb) : DE X E (.BinOp a .Add b pos) (tOp (rAddD X.K) ta tb) (o2 dAdd ma mb) := d_bin op_addD opD_add ha hb
theorem d_sub (ha : DE X E a ta ma) (hb : DE X E b tb mb) : DE X E (.BinOp a .Sub b pos) (tOp (rI0 fun i j => V.int (i - j)) ta tb) (o2 dSub ma mb) := d_bin op_sub opD_sub ha hb
theorem mul_ok {a b : Int} (h : mulOk a b = true) : IntMulOk a b := by
  have h' : (a.natAbs < 2 ^ 64 ∨ b.natAbs < 2 ^ 64) ∨ a.natAbs.log2 + b.natAbs.log2 < 100000000 := by simpa [mulOk] using h
  rcases h' with (h' | h') | h'
  · exact .of_left (intBits_le_iff.mpr h')
  · exact .of_right (intBits_le_iff.mpr h')
  · have la : a.natAbs < 2 ^ (a.natAbs.log2 + 1) := Nat.lt_log2_self
    have lb : b.natAbs < 2 ^ (b.natAbs.log2 + 1) := Nat.lt_log2_self
    exact IntMulOk.of_le (intBits_le_iff.mpr la) (intBits_le_iff.mpr lb) (by omega)
theorem opD_mul {K : PySem.W.Frag} {mg : Str → Option Value} : OpD K mg (rI IntMulOk fun i j => .int (i * j)) dMul := opD_I fun a b => by
  unfold iMul
  by_cases h : mulOk a b = true
  · rw [if_pos h]; exact .inl ⟨_, rfl, mul_ok h, fun _ => .int _⟩
  · rw [if_neg h]; exact .inr rfl
theorem d_mul (ha : DE X E a ta ma) (hb : DE X E b tb mb) : DE X E (.BinOp a .Mult b pos) (tOp (rI IntMulOk fun i j => V.int (i * j)) ta tb) (o2 dMul ma mb) := d_bin op_mulR opD_mul ha hb
theorem d_mod (ha : DE X E a ta ma) (hb : DE X E b tb mb) : DE X E (.BinOp a .Mod b pos) (tOp (rI (fun _ j => j ≠ 0) fun i j => V.int (i.fmod j)) ta tb) (o2 dMod ma mb) := d_bin op_modN opD_mod ha hb
theorem d_div (ha : DE X E a ta ma) (hb : DE X E b tb mb) : DE X E (.BinOp a .FloorDiv b pos) (tOp (rI CDivG fun i j => V.int (i.fdiv j)) ta tb) (o2 dDiv ma mb) := d_bin op_fdivG opD_div ha hb
theorem d_shl (ha : DE X E a ta ma) (hb : DE X E b tb mb) : DE X E (.BinOp a .LShift b pos) (tOp (rI CPow fun i j => V.int (i * 2 ^ j.toNat)) ta tb) (o2 dShl ma mb) := d_bin op_shl opD_shl ha hb
theorem d_shr (ha : DE X E a ta ma) (hb : DE X E b tb mb) : DE X E (.BinOp a .RShift b pos) (tOp (rI (fun _ j => 0 ≤ j) fun i j => V.int (i / 2 ^ j.toNat)) ta tb) (o2 dShr ma mb) := d_bin op_shr opD_shr ha hb
theorem d_lt (ha : DE X E a ta ma) (hb : DE X E b tb mb) : DE X E (.Compare a [.Lt] [b] pos) (tOp (rI0 fun i j => V.bl (decide (i < j))) ta tb) (o2 dLt ma mb) := d_cmp op_lt opD_lt ha hb (nomark _)
theorem dt_lt (ha : DE X E a ta ma) (hb : DE X E b tb mb) : DT X E (.Compare a [.Lt] [b] pos) (tTest (tOp (rI0 fun i j => V.bl (decide (i < j))) ta tb)) (trb (o2 dLt ma mb)) := dt_cmp op_lt opD_lt ha hb (nomark _)
theorem dt_gt (ha : DE X E a ta ma) (hb : DE X E b tb mb) : DT X E (.Compare a [.Gt] [b] pos) (tTest (tOp (rI0 fun i j => V.bl (decide (j < i))) ta tb)) (trb (o2 dGt ma mb)) := dt_cmp op_gt opD_gt ha hb (nomark _)
theorem dt_ge (ha : DE X E a ta ma) (hb : DE X E b tb mb) : DT X E (.Compare a [.GtE] [b] pos) (tTest (tOp (rI0 fun i j => V.bl (decide (j ≤ i))) ta tb)) (trb (o2 dGe ma mb)) := dt_cmp op_ge opD_ge ha hb (nomark _)
mutual
noncomputable def pyD : D → PyData
  | .non => .none
  | .bl b => .bool b
  | .int i => .int i
  | .str x => .str x
  | .tup xs => .tuple (pyDs xs)
  | .lst xs => .list (pyDs xs)
  | _ => .none
noncomputable def pyDs : List D → List PyData
  | [] => []
  | x :: r => pyD x :: pyDs r
end
mutual
theorem eqD_py : ∀ x y : D, ∀ k l, Dl.plain k x = true → Dl.plain l y = true → eqD x y = PyData.eqv (pyD x) (pyD y)
  | .non, y, _, _, _, hy => by cases y <;> first | rfl | (simp [Dl.plain] at hy)
  | .bl _, y, _, _, _, hy => by cases y <;> first | rfl | (simp [Dl.plain] at hy)
  | .int _, y, _, _, _, hy => by cases y <;> first | rfl | (simp [Dl.plain] at hy)
  | .str _, y, _, _, _, hy => by cases y <;> first | rfl | (simp [Dl.plain] at hy)
  | .tup xs, y, k, l, hx, hy => by
    cases y <;> first | rfl | (simp [Dl.plain] at hy; done) | skip
    rename_i ys
    cases k with
    | zero => simp [Dl.plain] at hx
    | succ k =>
      cases l with
      | zero => simp [Dl.plain] at hy
      | succ l => exact eqDs_py xs ys k l (by simpa [Dl.plain] using hx) (by simpa [Dl.plain] using hy)
  | .lst xs, y, k, l, hx, hy => by
    cases y <;> first | rfl | (simp [Dl.plain] at hy; done) | skip
    rename_i ys
    cases k with
    | zero => simp [Dl.plain] at hx
    | succ k =>
      cases l with
      | zero => simp [Dl.plain] at hy
      | succ l => exact eqDs_py xs ys k l (by simpa [Dl.plain] using hx) (by simpa [Dl.plain] using hy)
  | .ty _, _, k, _, hx, _ => by cases k <;> simp [Dl.plain] at hx
  | .cls _, _, k, _, hx, _ => by cases k <;> simp [Dl.plain] at hx
  | .exc _, _, k, _, hx, _ => by cases k <;> simp [Dl.plain] at hx
  | .ins _ _ _, _, k, _, hx, _ => by cases k <;> simp [Dl.plain] at hx
theorem eqDs_py : ∀ xs ys : List D, ∀ k l, Dl.plains k xs = true → Dl.plains l ys = true → eqDs xs ys = PyData.eqvAll (pyDs xs) (pyDs ys)
  | [], [], _, _, _, _ => rfl
  | [], _ :: _, _, _, _, _ => rfl
  | _ :: _, [], _, _, _, _ => rfl
  | x :: xs, y :: ys, k, l, hx, hy => by
    have h1 : Dl.plain k x = true ∧ Dl.plains k xs = true := by simpa [Dl.plains] using hx
    have h2 : Dl.plain l y = true ∧ Dl.plains l ys = true := by simpa [Dl.plains] using hy
    show (eqD x y && eqDs xs ys) = (PyData.eqv (pyD x) (pyD y) && PyData.eqvAll (pyDs xs) (pyDs ys))
    rw [eqD_py x y k l h1.1 h2.1, eqDs_py xs ys k l h1.2 h2.2]
end
mutual
theorem plain_py : ∀ (x : D) (k : Nat), Dl.plain k x = true → (pyD x).canLay0 = true ∧ (pyD x).depth ≤ k
  | .non, _, _ => ⟨rfl, Nat.zero_le _⟩
  | .bl _, _, _ => ⟨rfl, Nat.zero_le _⟩
  | .int _, _, _ => ⟨rfl, Nat.zero_le _⟩
  | .str x, _, h => ⟨by simpa [Dl.plain, pyD, PyData.canLay0, PyData.strOk] using h, Nat.zero_le _⟩
  | .tup xs, 0, h => by simp [Dl.plain] at h
  | .lst xs, 0, h => by simp [Dl.plain] at h
  | .tup xs, k + 1, h => by
    obtain ⟨h1, h2⟩ := plains_py xs k (by simpa [Dl.plain] using h)
    exact ⟨h1, Nat.succ_le_succ h2⟩
  | .lst xs, k + 1, h => by
    obtain ⟨h1, h2⟩ := plains_py xs k (by simpa [Dl.plain] using h)
    exact ⟨h1, Nat.succ_le_succ h2⟩
  | .ty _, k, h => by cases k <;> simp [Dl.plain] at h
  | .cls _, k, h => by cases k <;> simp [Dl.plain] at h
  | .exc _, k, h => by cases k <;> simp [Dl.plain] at h
  | .ins _ _ _, k, h => by cases k <;> simp [Dl.plain] at h
theorem plains_py : ∀ (xs : List D) (k : Nat), Dl.plains k xs = true → PyData.canLayAll0 (pyDs xs) = true ∧ PyData.depthAll (pyDs xs) ≤ k
  | [], _, _ => ⟨rfl, Nat.zero_le _⟩
  | x :: xs, k, h => by
    have h' : Dl.plain k x = true ∧ Dl.plains k xs = true := by simpa [Dl.plains] using h
    obtain ⟨a1, a2⟩ := plain_py x k h'.1
    obtain ⟨b1, b2⟩ := plains_py xs k h'.2
    refine ⟨?_, Nat.max_le.mpr ⟨a2, b2⟩⟩
    show (PyData.canLay0 (pyD x) && PyData.canLayAll0 (pyDs xs)) = true
    rw [a1, b1]; rfl
end
mutual
theorem rp_dv {K : PySem.W.Frag} {mg : Str → Option Value} {F : Hp} : ∀ {x : V} {d : D} {k : Nat}, Rp K mg F x d → Dl.plain k d = true → DV K F x (pyD d)
  | _, _, _, .non, _ => .non
  | _, _, _, .bl b, _ => .bl b
  | _, _, _, .int b, _ => .int b
  | _, _, _, .str b, _ => .str b
  | _, _, 0, .tup h r, p => by simp [Dl.plain] at p
  | _, _, 0, .lst h r, p => by simp [Dl.plain] at p
  | _, _, k + 1, .tup h r, p => .tup h (rps_dvs r (by simpa [Dl.plain] using p))
  | _, _, k + 1, .lst h r, p => .lst h (rps_dvs r (by simpa [Dl.plain] using p))
  | _, _, k, .ty _, p => by cases k <;> simp [Dl.plain] at p
  | _, _, k, .cls _, p => by cases k <;> simp [Dl.plain] at p
  | _, _, k, .exc _ _, p => by cases k <;> simp [Dl.plain] at p
  | _, _, k, .ins _ _ _ _ _, p => by cases k <;> simp [Dl.plain] at p
theorem rps_dvs {K : PySem.W.Frag} {mg : Str → Option Value} {F : Hp} : ∀ {xs : List V} {ds : List D} {k : Nat}, Rps K mg F xs ds → Dl.plains k ds = true → DVs K F xs (pyDs ds)
  | _, _, _, .nil, _ => .nil
  | _, _, k, .cons h r, p => by
    have p' := (show Dl.plain k _ = true ∧ Dl.plains k _ = true by simpa [Dl.plains] using p)
    exact .cons (rp_dv h p'.1) (rps_dvs r p'.2)
end
mutual
theorem dv_same {K : PySem.W.Frag} {F H : Hp} (s : Same F H) : ∀ {x : V} {d : PyData}, DV K F x d → DV K H x d
  | _, _, .non => .non
  | _, _, .bl b => .bl b
  | _, _, .int b => .int b
  | _, _, .str b => .str b
  | _, _, .tup h r => .tup (seqT_same s h) (dvs_same s r)
  | _, _, .lst h r => .lst (s.seq h) (dvs_same s r)
theorem dvs_same {K : PySem.W.Frag} {F H : Hp} (s : Same F H) : ∀ {xs : List V} {ds : List PyData}, DVs K F xs ds → DVs K H xs ds
  | _, _, .nil => .nil
  | _, _, .cons h r => .cons (dv_same s h) (dvs_same s r)
end
theorem opD_eq {K : PySem.W.Frag} {mg : Str → Option Value} : OpD K mg (rEqD K id) dEq := by
  intro E F H x y dx dy s rx ry
  unfold dEq
  by_cases h : (Dl.plain 50 dx && Dl.plain 50 dy) = true
  · rw [if_pos h]
    have h' : Dl.plain 50 dx = true ∧ Dl.plain 50 dy = true := by simpa using h
    obtain ⟨a1, a2⟩ := plain_py dx 50 h'.1
    obtain ⟨b1, b2⟩ := plain_py dy 50 h'.2
    exact .ret s (.bl _) fun Q q => ⟨_, _, dv_same s (rp_dv rx h'.1), dv_same s (rp_dv ry h'.2), a1, b1, Nat.le_trans a2 (by decide), by rw [← eqD_py dx dy 50 50 h'.1 h'.2]; exact q⟩
  · rw [if_neg h]; trivial
theorem opD_ne {K : PySem.W.Frag} {mg : Str → Option Value} : OpD K mg (rEqD K not) dNe := by
  intro E F H x y dx dy s rx ry
  unfold dNe
  by_cases h : (Dl.plain 50 dx && Dl.plain 50 dy) = true
  · rw [if_pos h]
    have h' : Dl.plain 50 dx = true ∧ Dl.plain 50 dy = true := by simpa using h
    obtain ⟨a1, a2⟩ := plain_py dx 50 h'.1
    obtain ⟨b1, b2⟩ := plain_py dy 50 h'.2
    exact .ret s (.bl _) fun Q q => ⟨_, _, dv_same s (rp_dv rx h'.1), dv_same s (rp_dv ry h'.2), a1, b1, Nat.le_trans a2 (by decide), by rw [← eqD_py dx dy 50 50 h'.1 h'.2]; exact q⟩
  · rw [if_neg h]; trivial
theorem d_eq {k : Nat} (hr : Room k X.A) (ha : DE X E a ta ma) (hb : DE X E b tb mb) : DE X E (.Compare a [.Eq] [b] pos) (tOp (rEqD X.K id) ta tb) (o2 dEq ma mb) := d_cmp (op_eqD hr.units) opD_eq ha hb (nomark _)
theorem dt_eq {k : Nat} (hr : Room k X.A) (ha : DE X E a ta ma) (hb : DE X E b tb mb) : DT X E (.Compare a [.Eq] [b] pos) (tTest (tOp (rEqD X.K id) ta tb)) (trb (o2 dEq ma mb)) := dt_cmp (op_eqD hr.units) opD_eq ha hb (nomark _)
theorem dt_ne {k : Nat} (hr : Room k X.A) (ha : DE X E a ta ma) (hb : DE X E b tb mb) : DT X E (.Compare a [.NotEq] [b] pos) (tTest (tOp (rEqD X.K not) ta tb)) (trb (o2 dNe ma mb)) := dt_cmp (op_neD hr.units) opD_ne ha hb (nomark _)
theorem d_ix (ha : DE X E a ta ma) (hb : DE X E b tb mb) (hs : PlainIx b := by exact fun _ _ => rfl) : DE X E (.Subscript a b pos) (tOp (rIxD X.K) ta tb) (o2 dIx ma mb) := ⟨pe_ix (IxR.or ix_list ix_tup) ha.p hb.p hs, se_op opD_ix ha.s hb.s⟩
theorem dt_val (ha : DE X E a ta ma) (he : ∀ whole, isTrue a X.env whole = (do let v ← whole; standAt a.pos; holding [v] (truthy v)) := by intro _; rfl) : DT X E a (L2.tB ta) (trb ma) := ⟨pt_val ha.p he, st_b ha.s⟩
theorem dw_and1 (ha : DT X E a sa na) : DW X E (.BoolOp .And [a] pos) sa na := ⟨pw_and1 ha.p, ha.s⟩
theorem dw_or1 (ha : DT X E a sa na) : DW X E (.BoolOp .Or [a] pos) sa na := ⟨pw_or1 ha.p, ha.s⟩
theorem dw_and {rest : List Expr} (ha : DT X E a sa na) (hb : DW X E (.BoolOp .And (b :: rest) pos) sb nb) : DW X E (.BoolOp .And (a :: b :: rest) pos) (tAnd sa sb) (bAnd na nb) := ⟨pw_and ha.p hb.p, st_and ha.s hb.s⟩
theorem dw_or {rest : List Expr} (ha : DT X E a sa na) (hb : DW X E (.BoolOp .Or (b :: rest) pos) sb nb) : DW X E (.BoolOp .Or (a :: b :: rest) pos) (tOr sa sb) (bOr na nb) := ⟨pw_or ha.p hb.p, st_or ha.s hb.s⟩
theorem DW.dt (h : DW X E a sa na) : DT X E a sa na := ⟨h.p.pt, h.s⟩
theorem dt_not (ha : DT X E a sa na) : DT X E (.UnaryOp .Not a pos) (tNot sa) (bNot na) := ⟨pt_not ha.p, st_not ha.s⟩
theorem d_one {op} (ha : DE X E a ta ma) : DE X E (.BoolOp op [a] pos) ta ma := ⟨pe_one ha.p, ha.s⟩
theorem d_and {rest : List Expr} (ha : DE X E a ta ma) (hb : DE X E (.BoolOp .And (b :: rest) pos) tb mb) : DE X E (.BoolOp .And (a :: b :: rest) pos) (tAndV ta tb) (eAnd ma mb) := ⟨pe_and ha.p hb.p, se_and ha.s hb.s⟩
theorem da_nil : DA X E 0 [] tNil anil := ⟨pa_nil, sa_nil, san_nil⟩
theorem da_cons (ha : DE X E e te me) (hr : DA X E n es t m) (hs : starEach (e :: es) X.env = (false, eval e X.env) :: starEach es X.env := by rfl) : DA X E (n + 1) (e :: es) (tCons te t) (acons me m) := ⟨pa_cons ha.p hr.p hs, sa_cons ha.s hr.s, san_cons hr.n⟩
theorem d_tup {x1} (h : DA X E n es t m) (hn : n ≤ sizeLine := by decide) : DE X E (.Tuple es x1 pos) (tTup t) (mtp m) := ⟨pe_tup h.p, se_tup h.s h.n hn⟩
theorem d_lst (h : DA X E n es t m) (hn : n ≤ sizeLine := by decide) : DE X E (.List es pos) (tLst t) (mls m) := ⟨pe_lst h.p, se_lst h.s h.n hn⟩
theorem d_cb {id : String} {r : List V → Hp → VK → Prop} {f : List D → Res D} {x : Str} {p : Pos} (hc : CallR X (.builtin id) r) (hf : CallD X.K X.mg r f) (hg : Gl X x) (hm : X.mg x = none) (hv : bootBuiltins x = some (.builtin id)) (ha : DA X E n (e :: es) t m) (hn : x ≠ "__name__" := by decide) (hdb : (x == ("__debug__" : Str)) = false := by decide)
    (he : starEach (e :: es) X.env = (false, eval e X.env) :: starEach es X.env := by rfl) (hpl : (backTo pos (starEach es X.env)).any (·.1) = false := by rfl) : DE X E (.Call (.Name x p) (e :: es) [] pos) (tCB r t) (on f m) := ⟨pe_callB hc hg hm hv ha.p hn hdb he hpl, se_cb hf ha.s⟩
theorem d_ct {T : String} {r : List V → Hp → VK → Prop} {f : List D → Res D} {x : Str} {p : Pos} (hc : CallR X (.type T) r) (hf : CallD X.K X.mg r f) (hg : Gl X x) (hm : X.mg x = none) (hv : bootBuiltins x = some (.type T)) (ha : DA X E n (e :: es) t m) (hn : x ≠ "__name__" := by decide) (hdb : (x == ("__debug__" : Str)) = false := by decide)
    (he : starEach (e :: es) X.env = (false, eval e X.env) :: starEach es X.env := by rfl) (hpl : (backTo pos (starEach es X.env)).any (·.1) = false := by rfl) : DE X E (.Call (.Name x p) (e :: es) [] pos) (tCB r t) (on f m) := ⟨pe_callTy hc hg hm hv ha.p hn hdb he hpl, se_cb hf ha.s⟩
structure Cal (P : Program) (w : World) (K : PySem.W.Frag) (mg : Str → Option Value) (base : Heap) (n : Nat) (x : Str) (ps : List Str) (m : List D → Res D) : Prop where
  ex : ∃ (f : Addr) (fd : FuncData), FnOk P w K mg base (CXR P w) n f fd ps (spD K mg ps.length m) ∧ Binds K fd ps [] ∧ PySem.W.keepIn K (.ref f) = true ∧ mg x = some (.ref f)
theorem d_call {k l : Nat} {x : Str} {ps : List Str} {f : List D → Res D} {p : Pos} (C : Cal X.prog X.w X.K X.mg X.base k x ps f) (hr : Room l X.A) (hn : k ≤ l) (hg : Gl X x) (hx : Passes (CXR X.prog X.w) X E) (ha : DA X E n (e :: es) t m) (hps : ps.length = n := by rfl)
    (hdb : (x == ("__debug__" : Str)) = false := by decide) (he : starEach (e :: es) X.env = (false, eval e X.env) :: starEach es X.env := by rfl) (hpl : (backTo pos (starEach es X.env)).any (·.1) = false := by rfl) :
    DE X E (.Call (.Name x p) (e :: es) [] pos) (tCall (spD X.K X.mg ps.length f) [] E t) (on f m) := by
  obtain ⟨g, fd, F, b, kp, hm⟩ := C.ex
  exact ⟨pe_call F (hr.mono hn) hg hm kp b .nil hx ha.p hdb he hpl, by rw [hps]; exact se_call ha.s ha.n⟩
theorem pass_c {N : List Str} {scope : Scope} {cl : List (Str × Addr)} {C : Addr} {s : Shared} {H : Hp} {fp : List Addr} {pn : List (Addr × Obj)} : Passes (CXR X.prog X.w) (cxComp X N scope cl C s H fp pn) E0 := by
  intro pins σ H s e s' I h
  obtain ⟨_, _, _, _, _, q⟩ := h
  exact q.elim
end
end L2.Ds

namespace L2.Ds
open PySem PySem.Spec PyProof.Rows Dl
section
variable {X : Cx} {E : XK} {a b e c' tg : Expr} {es : List Expr} {ta tb tc te : TE} {ma mb mc me : ME} {sa sb : TT} {na nb : MB} {t : TA} {m : MA} {pos : Pos} {n : Nat}
theorem kit_tab {K : PySem.W.Frag} {d : D} {tn n : String} (ht : tyName d = some tn) (hn : tyList.contains n = true) : PySem.W.kitOne K (.type tn) (.type n) = some (isTy tn n) := by
  have hn' : n = "int" ∨ n = "bool" ∨ n = "str" ∨ n = "tuple" ∨ n = "list" ∨ n = "dict" := by
    simpa [tyList] using hn
  have ht' : tn = "NoneType" ∨ tn = "bool" ∨ tn = "int" ∨ tn = "str" ∨ tn = "tuple" ∨ tn = "list" := by
    cases d <;> simp [tyName] at ht <;> subst ht <;> simp
  rcases ht' with rfl | rfl | rfl | rfl | rfl | rfl <;> rcases hn' with rfl | rfl | rfl | rfl | rfl | rfl <;>
    first
    | exact kit_same K _
    | exact kit_ty K (by decide +kernel) (by decide +kernel) (by decide +kernel)
noncomputable def rIsi (K : PySem.W.Frag) : List V → Hp → VK → Prop := fun xs H Q => ∃ x n tn b, xs = [x, .ty n] ∧ PySem.W.kitOne K (.type tn) (.type n) = some b ∧ Q (.bl b) H ∧
  ((x = .non ∧ tn = "NoneType") ∨ (∃ y, x = .bl y ∧ tn = "bool") ∨ (∃ y, x = .int y ∧ tn = "int") ∨ (∃ y, x = .str y ∧ tn = "str") ∨ (∃ a xs, x = .ref a ∧ SqT K H a xs ∧ tn = "tuple") ∨ (∃ a xs, x = .ref a ∧ SqL K H a xs ∧ tn = "list"))
theorem call_isiD : CallR X (.builtin "isinstance") (rIsi X.K) := by
  intro pins s σ H xs us Q I r h
  obtain ⟨x, n, tn, bb, rfl, e, q, h⟩ := h
  obtain ⟨u, w', rfl, r1, r2⟩ := vals2 r
  cases r2
  have fin : ∀ tk, EP X pins σ Q (.bool bb) { s with toks := tk } := fun tk => ⟨.bl bb, H, I.tok _, rfl, q⟩
  rcases h with ⟨rfl, rfl⟩ | ⟨y, rfl, rfl⟩ | ⟨y, rfl, rfl⟩ | ⟨y, rfl, rfl⟩ | ⟨a, xs, rfl, hq, rfl⟩ | ⟨a, xs, rfl, hq, rfl⟩
  · exact isinst_ok I r1 .non e fin
  · exact isinst_ok I r1 (.bl y) e fin
  · exact isinst_ok I r1 (.int y) e fin
  · exact isinst_ok I r1 (.str y) e fin
  · cases r1
    obtain ⟨its, _, ⟨o, h1, h2, _⟩, _⟩ := I.tuple hq
    exact PySem.W.kia_one PySem.W.kitx_tuple I.kIn ⟨o, h1, h2⟩ e (fun z => nomatch z) fin
  · cases r1
    obtain ⟨its, _, ⟨o, _, h1, h2, _⟩, _⟩ := I.list hq
    exact PySem.W.kia_one PySem.W.kitx_list I.kIn ⟨o, h1, h2⟩ e (fun z => nomatch z) fin
theorem callD_isi {K : PySem.W.Frag} {mg : Str → Option Value} : CallD K mg (rIsi K) bIsi := by
  intro E F H xs ds s r
  unfold bIsi
  split
  · next d nm =>
    obtain ⟨x, y, rfl, rx, ry⟩ := r.two
    cases ry
    by_cases hn : tyList.contains nm = true
    · rw [if_pos hn]
      cases e : tyName d with
      | none => trivial
      | some tn =>
        have k := kit_tab (K := K) e hn
        show Ans mg E (Rp K mg) F H (.ok (.bl (isTy tn nm))) _
        refine .ret s (.bl _) fun Q q => ⟨x, nm, tn, _, rfl, k, q, ?_⟩
        cases rx with
        | non => cases e; exact .inl ⟨rfl, rfl⟩
        | bl y => cases e; exact .inr (.inl ⟨y, rfl, rfl⟩)
        | int y => cases e; exact .inr (.inr (.inl ⟨y, rfl, rfl⟩))
        | str y => cases e; exact .inr (.inr (.inr (.inl ⟨y, rfl, rfl⟩)))
        | ty y => cases e
        | cls y => cases e
        | exc y h => cases e
        | ins m h o q r => cases e
        | tup h r => cases e; exact .inr (.inr (.inr (.inr (.inl ⟨_, _, rfl, seqT_same s h, rfl⟩))))
        | lst h r => cases e; exact .inr (.inr (.inr (.inr (.inr ⟨_, _, rfl, s.seq h, rfl⟩))))
    · rw [if_neg hn]; trivial
  · trivial
theorem dg_name {i : Nat} {x : Str} (hN : X.N.Nodup) (hi : X.N[i]? = some x) (hx : Loc X.env.scope x) (hl : i < n) (hf : X.fn x = true ∨ X.env.scope.names.lookup x = some .local := by first | exact .inl rfl | exact .inr rfl | assumption) : DG X n (.Name x pos) (gName i) (gN i) :=
  ⟨pg_name hN hi hx hf, sg_name hl, fun _ _ _ h => by cases h⟩
theorem dgs_nil : DGs X n [] gNil gs0 := ⟨pgs_nil, sgs_nil, fun d ρ c h => by
  unfold gs0 at h
  split at h <;> cases h⟩
theorem dgs_cons {t : TG} {u : TGs} {g : MG} {gs : MGs} (h1 : DG X n e t g) (h2 : DGs X n es u gs) (hs : (assignEach (e :: es) X.env).map (·.2) = assign e X.env :: (assignEach es X.env).map (·.2) := by rfl) : DGs X n (e :: es) (gCons t u) (gs1 g gs) :=
  ⟨pgs_cons h1.p h2.p hs, sgs_cons h1.s h2.s, fun d ρ c h => by
    unfold gs1 at h
    split at h
    · next d' ds =>
      cases eg : g d' ρ with
      | ok ρ' =>
        rw [eg] at h
        exact h2.x ds ρ' c h
      | ex c' => exact h1.x d' ρ c' eg
      | bad => rw [eg] at h; cases h
    · cases h⟩
theorem dg_tup {k : Nat} {u : TGs} {g : MGs} {j : Nat} (hc : X.calm = true) (h : DGs X n es u g) (hn : (assignEach es X.env).length = j := by rfl) (hst : (assignEach es X.env).findIdx? (·.1) = none := by rfl) : DG X n (.Tuple es k pos) (gSeq X.K j u) (gU j g) := by
  refine ⟨?_, sg_seq h.s, fun d ρ c hh => ?_⟩
  · intro pins s σ H v w Q I r hw
    rcases hw with hw | hw
    · exact pg_tup hc h.p hn hst pins s σ H v w Q I r hw
    · obtain ⟨a, xs, e1, hq, hl, hw⟩ := hw
      subst e1
      cases r
      obtain ⟨its, rv, ht, hz⟩ := I.list hq
      refine assign_Tuple_list (I.ok.hd hc) ht.isList (by simp [hn, ← hl, rv.length]) hst fun h' hx => ?_
      have I1 : Inv X pins σ H { s with heap := h' } := I.kept (t' := s.toks) fun b o e => hx b o (Nat.ne_of_lt (Heap.lt_size e)) e
      exact h.p pins _ σ H xs _ Q I1 (by simpa using rv) hw
  · unfold gU at hh
    cases ei : items d with
    | ok xs =>
      rw [ei] at hh
      have hh' : (if xs.length = j then g xs ρ else .bad) = .ex c := hh
      split at hh'
      · exact h.x xs ρ c hh'
      · cases hh'
    | ex c' => unfold items at ei; split at ei <;> cases ei
    | bad => rw [ei] at hh; cases hh
theorem di_r1 {p : Pos} (hg : Gl X "range") (hm : X.mg "range" = none) (ha : DA X E n [a] t m) (hs : starEach [a] X.env = [(false, eval a X.env)] := by rfl) : DI X E tg (.Call (.Name "range" p) [a] [] pos) (iRng1 t) (r1 m) := ⟨pi_range1 hg hm ha.p hs, si_r1 ha.s⟩
theorem di_r2 {p : Pos} (hg : Gl X "range") (hm : X.mg "range" = none) (ha : DA X E n [a, b] t m) (hs : starEach [a, b] X.env = [(false, eval a X.env), (false, eval b X.env)] := by rfl) (hs2 : starEach [b] X.env = [(false, eval b X.env)] := by rfl) :
    DI X E tg (.Call (.Name "range" p) [a, b] [] pos) (iRng2 t) (r2 m) := ⟨pi_range2 hg hm ha.p hs hs2, si_r2 ha.s⟩
end
end L2.Ds

namespace L2.Ds
open PySem PySem.Spec PyProof.Rows Dl
structure DTs (X : Cx) (E : XK) (ts : List Expr) (t : TT) (m : MB) : Prop where
  p : PTs X ts t
  s : STt X.K X.mg E t m
section
variable {X : Cx} {E : XK} {a b e c' tg iter elt : Expr} {es ts : List Expr} {ta tb tc te : TE} {ma mb mc me : ME} {sa sb : TT} {na nb : MB} {t : TA} {m : MA} {pos spos pos' : Pos} {n i j : Nat} {x y : Str}
theorem st_yes {K : PySem.W.Frag} {mg : Str → Option Value} {E : XK} : STt K mg E tYes yes := fun _ _ _ _ _ _ r => Ans.ret (R := RB) r.ss rfl fun _ q => q
theorem dts_nil : DTs X E [] tYes yes := ⟨pts_nil, st_yes⟩
theorem d_comp {own : List Str} {cap : List (Str × Nat)} {scope : Scope} {cl : List (Str × Addr)} {wi : TI} {mi : MI} {g : Fam TG} {gm : MG} {tt : Fam TT} {tf : Fam TE} (hi : DI X E tg iter wi mi) (O : CompOk X own cap scope cl) (hc : X.calm = true)
    (hg : ∀ C s H fp pn, DG (cxComp X (own ++ cap.map (·.1)) scope cl C s H fp pn) own.length tg (g C s H fp pn) gm) (ht : ∀ C s H fp pn, DTs (cxComp X (own ++ cap.map (·.1)) scope cl C s H fp pn) E0 ts (tt C s H fp pn) na)
    (he : ∀ C s H fp pn, DE (cxComp X (own ++ cap.map (·.1)) scope cl C s H fp pn) E0 elt (tf C s H fp pn) me) (hts : ts.length ≤ 1 := by decide) (hs : ∀ x, foldedSetIterable iter X.env x = pure x := by intro _; rfl) :
    DE X E (.ListComp elt [⟨tg, iter, ts, 0⟩] scope pos) (tCompT wi g tt tf own cap) (comp mi own.length (cap.map (·.2)) gm na me) :=
  ⟨pe_comp hi.p O hc (fun C s H fp pn => (hg C s H fp pn).p) (fun C s H fp pn => (ht C s H fp pn).p) (fun C s H fp pn => (he C s H fp pn).p) hts hs,
   se_comp hi.s (fun C s H fp pn => (hg C s H fp pn).s) (fun C s H fp pn => (ht C s H fp pn).s) (fun C s H fp pn => (he C s H fp pn).s)⟩
theorem ds_set (hN : X.N.Nodup) (hi : X.N[i]? = some x) (hx : Loc X.env.scope x) (he : DE X E e te me) (hs : swapsWith e (some (.Name x pos')) spos.line X.env = pure false := by rfl) (hf : X.fn x = true ∨ X.env.scope.names.lookup x = some .local := by first | exact .inl rfl | exact .inr rfl | assumption) :
    DS X E (.Assign [.Name x pos'] e spos) (tAsg te (gName i)) (st i me) := ⟨ps_set hN hi hx he.p hs hf, ss_set he.s⟩
theorem ds_asg {g : TG} {gm : MG} (he : DE X E e te me) (hg : DG X 1000 tg g gm) (hs : swapsWithSole [tg] e spos.line X.env = pure false := by rfl) (hw : swappedStores [tg] e X.env = pure none := by rfl)
    (h1 : (assignEach [tg] X.env).map (·.2) = [assign tg X.env] := by rfl) : DS X E (.Assign [tg] e spos) (tAsg te g) (asg gm me) := ⟨ps_asg he.p hg.p hs hw h1, ss_asg he.s hg.s hg.x⟩
theorem ds_ret (he : DE X E e te me) : DS X E (.Return (some e) spos) (tRet te) (ret me) := ⟨ps_ret he.p, ss_ret he.s⟩
theorem ds_frz {st : Stmt} {u : TS} {k : MS} (h : DS X E st u k) : DS X E st u (frz i k) := ⟨h.p, ss_frz h.s⟩
theorem dss_nil : DSs X E [] tNext nop := ⟨pss_nil, ss_nop⟩
theorem dss_one {st : Stmt} {u : TS} {k : MS} (h : DS X E st u k) : DSs X E [st] u k := ⟨pss_one h.p, h.s⟩
theorem dss_cons {st : Stmt} {rest : List Stmt} {u u' : TS} {k k' : MS} (h : DS X E st u k) (h' : DSs X E rest u' k') : DSs X E (st :: rest) (tSeq u u') (sq k k') := ⟨pss_cons h.p h'.p, ss_seq h.s h'.s⟩
theorem ds_if {as bs : List Stmt} {u u' : TS} {k k' : MS} (hc : DT X E c' sa na) (ha : DSs X E as u k) (hb : DSs X E bs u' k') : DS X E (.If c' as bs spos) (tIfS sa u u') (ifs na k k') := ⟨ps_if hc.p ha.p hb.p, ss_if hc.s ha.s hb.s⟩
theorem ds_for {body : List Stmt} {wi : TI} {mi : MI} {g : TG} {gm : MG} {u : TS} {k : MS} (hp : PassesOwn (model X.prog X.w) X.A X.env X.xe) (hc : X.calm = true) (hi : DI X E tg iter wi mi) (hg : DG X 1000 tg g gm) (hb : DSs X E body u k)
    (hs : ∀ x, foldedSetIterable iter X.env x = pure x := by intro _; rfl) : DS X E (.For tg iter body [] spos) (tFor wi g u) (for_ mi gm k) := ⟨ps_for hp hc hi.p hg.p hb.p hs, ss_for hi.s hg.s hg.x hb.s⟩
end
section
variable {P : Program} {w : World} {K : PySem.W.Frag} {mg : Str → Option Value} {base : Heap} {N ps : List Str} {qual x : Str} {scope : Scope} {f : Addr} {cd : Value} {A : Around} {outer : List Env} {s₀ : Shared} {H₀ : Hp} {E : XK} {t : TA} {m : MA} {n : Nat}
theorem rep_start {F H : Hp} {vs : List V} {ds : List D} (s : Same F H) (r : Rps K mg F vs ds) : Rep K mg F H F H (start N vs) (ev0 N.length ds) := by
  have hl := r.length
  have key : ∀ (i : Nat) (c : Cl), (ev0 N.length ds)[i]? = some c → c = .no ∨ ∃ d, ds[i]? = some d ∧ c = .im d := by
    intro i c e
    rw [ev0_eq] at e
    by_cases hi : i < ds.length
    · rw [List.getElem?_append_left (by simpa using hi), List.getElem?_map, List.getElem?_eq_getElem hi] at e
      exact .inr ⟨ds[i], List.getElem?_eq_getElem hi, (Option.some.inj e).symm⟩
    · rw [List.getElem?_append_right (by simpa using hi), List.getElem?_replicate] at e
      split at e
      · exact .inl (Option.some.inj e).symm
      · cases e
  refine ⟨.refl s, ?_, fun i d e => ?_, fun i ds' e => ?_, fun i j ds' es' a e => ?_⟩
  · rw [ev0_eq]
    unfold start
    simp [hl]
  · rcases key i _ e with z | ⟨d', e1, z⟩
    · cases z
    · cases z
      obtain ⟨v, e2, rv⟩ := r.get e1
      refine ⟨v, ?_, rv⟩
      have hi : i < vs.length := (List.getElem?_eq_some_iff.mp e2).1
      unfold start
      rw [List.getElem?_append_left (by simpa using hi), List.getElem?_map, e2]
      rfl
  · rcases key i _ e with z | ⟨d', e1, z⟩ <;> cases z
  · rcases key i _ e with z | ⟨d', e1, z⟩ <;> cases z
theorem okD {st : Stmt} {fd : FuncData} {k : Nat} {mb : MS} (F : Fun K x x st f fd) (S : FnScope N ps (defScope st))
    (h : ∀ (cdv : Value) (A : Around) (outer : List Env) (s : Shared) (H : Hp) (E : XK), Room k (A.deeper (envOfC x (defScope st) s.heap.objs.size f cdv)) → ∃ t, DSs (cxOf (CXR P w) P w K mg base N x (defScope st) f cdv A outer s H E) E (defBody st) t mb) :
    FnOk P w K mg base (CXR P w) (k + 1) f fd ps (spD K mg ps.length (fn N.length mb)) := by
  obtain ⟨oc, od, kV, doc, pm, an, cdv, ct, osl, rfl, lk, hcd⟩ := F.ex
  refine fn_of lk hcd S (fun vs H Q E q => q.1) fun A outer s H vs Q E hr hsp => ?_
  obtain ⟨t, hd⟩ := h cdv A outer s H E hr
  refine ⟨t, hd.p, ?_⟩
  obtain ⟨_, F0, ds, s0, rs, hb, hok, hex⟩ := hsp
  have z := hd.s F0 H F0 H (start N vs) (ev0 N.length ds) (rep_start s0 rs)
  unfold fn at hb hok hex
  cases e : mb (ev0 N.length ds) with
  | ok fl =>
    rw [e] at z hb hok hex
    cases fl with
    | nx ρ => exact z _ fun F' H' σ' _ r' => hok .non rfl F' H' .non r'.g .non
    | rt d => exact z _ fun F' H' v g rv => hok d rfl F' H' v g rv
    | bk ρ => exact absurd rfl hb
    | ct ρ => exact absurd rfl hb
  | ex c =>
    rw [e] at z hex
    exact z _ fun F' H' C g hc => hex c rfl F' H' C g hc
  | bad => rw [e] at hb; exact absurd rfl hb
theorem _root_.L2.Def.cal {st : Stmt} {k : Nat} {mb : MS} (D : Def K mg x st ps) (S : FnScope N ps (defScope st))
    (h : ∀ (f : Addr) (cdv : Value) (A : Around) (outer : List Env) (s : Shared) (H : Hp) (E : XK), Room k (A.deeper (envOfC x (defScope st) s.heap.objs.size f cdv)) → ∃ t, DSs (cxOf (CXR P w) P w K mg base N x (defScope st) f cdv A outer s H E) E (defBody st) t mb) :
    Cal P w K mg base (k + 1) x ps (fn N.length mb) := by
  obtain ⟨f, fd, F, b, hm⟩ := D.ex
  exact ⟨f, fd, okD F S (h f), b, F.kp, hm⟩
end
theorem cxr_no {P : Program} {w : World} {l : List Env} {H : Hp} {s s' : Shared} {e : Value} (h : CXR P w l H s (fun _ _ _ => False) e s') : False := by
  obtain ⟨_, _, _, _, _, q⟩ := h
  exact q
noncomputable def spLaw (K : PySem.W.Frag) : Sp := fun vs H Q _ => ∃ (a : Addr) (ns : List Int), vs = [.ref a] ∧ SqL K H a (ns.map V.int) ∧ ns.length ≤ 63 ∧ ∀ H', Q (.bl true) H'
theorem rps_ints {K : PySem.W.Frag} {mg : Str → Option Value} {H : Hp} : ∀ ns : List Int, Rps K mg H (ns.map V.int) (ns.map D.int)
  | [] => .nil
  | n :: r => .cons (.int n) (rps_ints r)
theorem law_sp {K : PySem.W.Frag} {mg : Str → Option Value} {m : List D → Res D} (h : ∀ ns : List Int, ns.length ≤ 63 → m [.lst (ns.map .int)] = .ok (.bl true)) : ∀ vs H Q E, spLaw K vs H Q E → spD K mg 1 m vs H Q E := by
  rintro vs H Q E ⟨a, ns, rfl, hS, hl, q⟩
  have e := h ns hl
  refine ⟨rfl, H, _, Same.refl _, .cons (.lst hS (rps_ints ns)) .nil, fun z => ?_, fun d e' => ?_, fun c e' => ?_⟩
  · rw [e] at z; cases z
  · rw [e] at e'; cases e'
    intro F' H' x _ rx
    cases rx
    exact q H'
  · rw [e] at e'; cases e'
end L2.Ds
namespace L2.Ds
open PySem PySem.Spec PyProof.Rows Dl
theorem d_callC {X : Cx} {N : List Str} {scope : Scope} {cl : List (Str × Addr)} {C' : Addr} {s : Shared} {H : Hp} {fp : List Addr} {pn : List (Addr × Obj)} {e : Expr} {es : List Expr} {t : TA} {m : MA} {n k l : Nat} {x : Str} {ps : List Str} {f : List D → Res D} {p pos : Pos}
    (C : Cal X.prog X.w X.K X.mg X.base k x ps f) (hr : Room l X.A) (hn : k ≤ l) (hg : Gl (cxComp X N scope cl C' s H fp pn) x) (ha : DA (cxComp X N scope cl C' s H fp pn) E0 n (e :: es) t m) (hps : ps.length = n := by rfl)
    (hdb : (x == ("__debug__" : Str)) = false := by decide) (he : starEach (e :: es) (cxComp X N scope cl C' s H fp pn).env = (false, eval e (cxComp X N scope cl C' s H fp pn).env) :: starEach es (cxComp X N scope cl C' s H fp pn).env := by rfl)
    (hpl : (backTo pos (starEach es (cxComp X N scope cl C' s H fp pn).env)).any (·.1) = false := by rfl) :
    DE (cxComp X N scope cl C' s H fp pn) E0 (.Call (.Name x p) (e :: es) [] pos) (tCall (spD X.K X.mg ps.length f) [] E0 t) (on f m) :=
  d_call (X := cxComp X N scope cl C' s H fp pn) C hr hn hg pass_c ha hps hdb he hpl
end L2.Ds

namespace L2.Ds
open PySem PySem.Spec PyProof.Rows Dl
section
variable {X : Cx} {E : XK}
structure TabOk (K : PySem.W.Frag) (mg : Str → Option Value) (tc : List (Str × Str × Bool)) (tt : List (Str × String × Bool)) : Prop where
  c : ∀ e ∈ tc, ∃ D C, mg e.1 = some (.ref D) ∧ mg e.2.1 = some (.ref C) ∧ ClsOk K D ∧ PySem.W.kitOne K (.ref D) (.ref C) = some e.2.2
  t : ∀ e ∈ tt, ∃ D, mg e.1 = some (.ref D) ∧ ClsOk K D ∧ PySem.W.kitOne K (.ref D) (.type e.2.1) = some e.2.2
end
section
variable {K : PySem.W.Frag} {mg : Str → Option Value} {F0 H0 F H : Hp} {σ : St} {ρ : Ev}
end
section
variable {X : Cx} {E : XK} {k l i j : Nat} {x y n : Str} {Cy : Addr} {ps : List Str} {f : List D → Res D} {t : TA} {m : MA} {u : Addr → TS} {b : MS} {e : Expr} {es : List Expr} {p yp cpos epos hpos pos : Pos} {b₀ : Stmt} {suite : List Stmt} {hits : List Str}
end
end L2.Ds

namespace L2.Ds
open PySem PySem.Spec PyProof.Rows Dl
section
variable {X : Cx} {E : XK}
theorem vals_ints : ∀ (ns : List Int) (its : List Value), Vals (ns.map V.int) its → ∃ xs : List (Int × Tok), its = xs.map (fun p => Value.int p.1 p.2) ∧ xs.map (·.1) = ns
  | [], _, .nil => ⟨[], rfl, rfl⟩
  | n :: r, _, .cons h t => by
    obtain ⟨tk, rfl⟩ := h
    obtain ⟨xs, rfl, rfl⟩ := vals_ints r _ t
    exact ⟨(n, tk) :: xs, rfl, rfl⟩
end
section
variable {K : PySem.W.Frag} {mg : Str → Option Value} {E : XK} {i : Nat}
theorem ss_setO {t : TA} {m : MA} {n : Nat} (ha : SA K mg E t m) (hl : SAn n m) (hn : n ≤ sizeLine) : SS K mg E (tAsg (tLst t) (gName i)) (stO i (mls m)) := by
  intro F0 H0 F H σ ρ rr
  have h := ha F0 H0 F H σ ρ rr
  unfold stO mls
  cases e : m ρ with
  | ok ds =>
    rw [e] at h
    exact fun D q => h _ fun F' H' xs g rs => ⟨by rw [rs.length, hl ρ ds e]; exact hn, fun p hp => q F' _ _ g.f ((rr.gr g).own i hp rs)⟩
  | ex c =>
    rw [e] at h
    exact fun D q => h _ fun F' H' C g hC => q F' H' C (rr.g.trans g) hC
  | bad => trivial
end
section
variable {X : Cx} {E : XK} {a b e c' tg iter elt : Expr} {es ts : List Expr} {ta tb tc te : TE} {ma mb mc me : ME} {sa sb : TT} {na nb : MB} {t : TA} {m : MA} {pos spos pos' : Pos} {n i j : Nat} {x y : Str}
theorem ds_setO (hN : X.N.Nodup) (hi : X.N[i]? = some x) (hx : Loc X.env.scope x) (ha : DA X E n es t m) (hn : n ≤ sizeLine := by decide) (hs : swapsWith (.List es pos) (some (.Name x pos')) spos.line X.env = pure false := by rfl) (hf : X.fn x = true ∨ X.env.scope.names.lookup x = some .local := by first | exact .inl rfl | exact .inr rfl | assumption) :
    DS X E (.Assign [.Name x pos'] (.List es pos) spos) (tAsg (tLst t) (gName i)) (stO i (mls m)) := ⟨ps_set hN hi hx (pe_lst ha.p) hs hf, ss_setO ha.s ha.n hn⟩
theorem ds_app (i : Nat) {np apos cpos : Pos} (he : DE X E e te me) (hN : X.N[i]? = some x := by rfl) (hv : Vis X.env.scope x := by first | exact Or.inl rfl | exact Or.inr (Or.inl rfl) | exact Or.inr (Or.inr rfl)) (hd : (x == ("__debug__" : Str)) = false := by decide)
    (hcd : (x == ("__classdict__" : Str)) = false := by decide) (hbase : attributeBase (.Name x np) "append" X.env (eval (.Name x np) X.env) = eval (.Name x np) X.env := by rfl)
    (hfew : ((backTo cpos (starEach [e] X.env)).all (fun x => !x.1) && (backToKw cpos (keywordEach [] X.env)).all (fun x => x.1.isSome)
      && decide ([e].length + ([] : List Keyword).length + (if ([] : List Keyword).isEmpty then 0 else 1) < 30)) = true := by rfl)
    (hline : (apos.endLine == cpos.line) = true := by rfl) (hs : starEach [e] X.env = (false, eval e X.env) :: starEach [] X.env := by rfl) (hplain : (backTo cpos (starEach [] X.env)).any (·.1) = false := by rfl)
    (hsw : swapsWith (.Call (.Attribute (.Name x np) "append" apos) [e] [] cpos) none spos.line X.env = pure false := by rfl) :
    DS X E (.Expr (.Call (.Attribute (.Name x np) "append" apos) [e] [] cpos) spos) (tDrop (tBM X.K "list" rAppend (tVar i) (tCons te tNil))) (app i me) :=
  ⟨ps_expr (pe_bm PySem.F.plainAttrs_list PySem.F.slot_list_append PySem.F.type_list_append mt_append (pe_var hN hv hd hcd) (pa_cons he.p pa_nil hs) hbase hfew hline hs hplain) hsw,
   ss_app he.s fun H a xs h => .inl ⟨rfl, xs, SqL.of h⟩⟩
end
end L2.Ds

namespace L2
open PySem PySem.Spec PyProof.Rows PySem.Calls
section
variable {X : Cx} {k : Nat} {x y : Str} {Cy fa : Addr} {fd : FuncData} {ps : List Str} {sp : Sp} {t : TA} {u : Addr → TS} {e : Expr} {es : List Expr} {p yp cpos epos hpos pos : Pos} {b₀ : Stmt} {suite : List Stmt}
end
end L2
namespace L2.Ds
open PySem PySem.Spec PyProof.Rows Dl
section
variable {K : PySem.W.Frag} {mg : Str → Option Value}
noncomputable def del (F : Hp) (a : Addr) : Hp := fun b => if b = a then none else F b
theorem del_at {F : Hp} {a : Addr} : del F a a = none := if_pos rfl
theorem del_ne {F : Hp} {a b : Addr} (h : b ≠ a) : del F a b = F b := if_neg h
theorem Rep.look {F0 H0 F H : Hp} {σ : St} {ρ : Ev} {i : Nat} {ds : List D} (r : Rep K mg F0 H0 F H σ ρ) (e : ρ[i]? = some (.ow ds)) :
    ∃ F', Rep K mg F0 H0 F' H σ (ρ.set i (.im (.lst ds))) ∧ ∀ F1 H1, Gr F' H F1 H1 → ∃ F2, Gr F H F2 H1 := by
  obtain ⟨a, xs, e2, e4, e5, e3, hr⟩ := r.ow i ds e
  have sF : Same F (upd F a (.lst xs)) := same_new e5 _
  refine ⟨upd F a (.lst xs), ⟨⟨r.g.f.trans sF, fun b o q => ?_, fun b o q1 q2 => ?_⟩, by rw [List.length_set]; exact r.len, fun j u q => ?_, fun j es q => ?_, fun j k es ts b q1 q2 q3 q4 => ?_⟩, fun F1 H1 g => ⟨del F1 a, ⟨fun b o q => ?_, fun b o q => ?_, fun b o q1 q2 => ?_⟩⟩⟩
  · by_cases hb : b = a
    · subst hb; rw [upd_same] at q; cases q; exact e3
    · rw [upd_ne hb] at q; exact r.g.s b o q
  · rw [upd_ne (ne_of_none q2 e4)]; exact r.g.o b o q1 q2
  · rcases set_get q with ⟨rfl, z, _⟩ | ⟨_, q⟩
    · cases z
      exact ⟨.ref a, e2, .lst (SqL.of upd_same) (hr.same sF)⟩
    · obtain ⟨x, h1, h2⟩ := r.im j u q
      exact ⟨x, h1, h2.same sF⟩
  · rcases set_get q with ⟨_, z, _⟩ | ⟨hij, q⟩
    · cases z
    · obtain ⟨b, ys, h1, h2, h3, h4, h5⟩ := r.ow j es q
      have nb : b ≠ a := by
        rintro rfl
        exact hij (r.ne i j ds es b e q e2 h1)
      exact ⟨b, ys, h1, h2, by rw [upd_ne nb]; exact h3, h4, h5.same sF⟩
  · rcases set_get q1 with ⟨_, z, _⟩ | ⟨_, q1⟩
    · cases z
    · rcases set_get q2 with ⟨_, z, _⟩ | ⟨_, q2⟩
      · cases z
      · exact r.ne j k es ts b q1 q2 q3 q4
  · rw [del_ne (ne_of_none q e5)]; exact g.f b o (sF b o q)
  · by_cases hb : b = a
    · subst hb; rw [del_at] at q; cases q
    · rw [del_ne hb] at q; exact g.s b o q
  · by_cases hb : b = a
    · subst hb
      rw [e3] at q2; cases q2
      exact ⟨del_at, g.s _ _ (g.f _ _ upd_same)⟩
    · rw [del_ne hb]
      exact g.o b o (by rw [upd_ne hb]; exact q1) q2
theorem st_pk {E : XK} {t : TT} {m : MB} (i : Nat) (h : STt K mg E t m) : STt K mg E t (pkB i m) := by
  intro F0 H0 F H σ ρ rr
  unfold pkB getO
  split
  · next ds e =>
    obtain ⟨F', r', back⟩ := rr.look e
    have z := h F0 H0 F' H σ _ r'
    show Ans mg E RB F H (m (ρ.set i (.im (.lst ds)))) _
    cases em : m (ρ.set i (.im (.lst ds))) with
    | ok d =>
      rw [em] at z
      exact fun Q q => z Q fun F1 H1 b g1 rb => by
        obtain ⟨F2, g2⟩ := back F1 H1 g1
        exact q F2 H1 b g2 rb
    | ex c =>
      rw [em] at z
      exact fun Q q => z Q fun F1 H1 C g1 hC => by
        obtain ⟨F2, g2⟩ := back F1 H1 g1
        exact q F2 H1 C g2 hC
    | bad => trivial
  · trivial
end
section
variable {X : Cx} {E : XK} {k l i j : Nat} {x y : Str} {Cy : Addr} {ps : List Str} {f : List D → Res D} {t : TA} {m : MA} {u : Addr → TS} {b : MS} {e : Expr} {es : List Expr} {p yp cpos epos hpos pos : Pos} {b₀ : Stmt} {suite : List Stmt} {hits : List Str} {te : TE} {me : ME} {tt : TT} {mt : MB}
theorem dt_pk (i : Nat) (h : DT X E e tt mt) : DT X E e tt (pkB i mt) := ⟨h.p, st_pk i h.s⟩
end
end L2.Ds

namespace L2.Ds
open PySem PySem.Spec PyProof.Rows Dl
section
variable {X : Cx} {pins : List (Addr × Obj)} {σ : St} {H : Hp} {s : Shared}
end
section
variable {X : Cx} {E : XK}
variable {a b : Expr} {ta tb : TE} {ma mb : ME} {pos : Pos}
end
end L2.Ds

namespace L2.Ds
open PySem PySem.Spec PyProof.Rows Dl
noncomputable def AnsO (K : PySem.W.Frag) (mg : Str → Option Value) (E : XK) (F0 H0 : Hp) (r : Res (List D)) (w : Ends → Prop) : Prop :=
  match r with
  | .ok ds => ∀ D : Ends, (∀ F' H' a xs, Gr F0 H0 F' H' → H' a = none → Rps K mg F' xs ds → D.rt (.ref a) (upd H' a (.lst xs))) → w D
  | .ex c => ∀ D : Ends, (∀ F' H' C, Gr F0 H0 F' H' → mg c = some (.ref C) → E (.ref C) none H') → w D
  | .bad => True
structure DSo (X : Cx) (E : XK) (sts : List Stmt) (t : TS) (m : Ev → Res (List D)) : Prop where
  p : PSs X sts t
  s : ∀ F0 H0 F H σ ρ, Rep X.K X.mg F0 H0 F H σ ρ → AnsO X.K X.mg E F0 H0 (m ρ) (fun D => t D σ H)
theorem upd_del {H : Hp} {a : Addr} {o : HO} (h : H a = some o) : upd (del H a) a o = H := by
  funext b
  by_cases hb : b = a
  · subst hb; rw [upd_same, h]
  · rw [upd_ne hb, del_ne hb]
section
variable {X : Cx} {E : XK} {a b e c' tg iter elt : Expr} {es ts : List Expr} {ta tb tc te : TE} {ma mb mc me : ME} {sa sb : TT} {na nb : MB} {t : TA} {m : MA} {pos spos pos' : Pos} {n i j : Nat} {x y : Str}
theorem dso_v (i : Nat) (hN : X.N[i]? = some x := by rfl) (hv : Vis X.env.scope x := by first | exact Or.inl rfl | exact Or.inr (Or.inl rfl) | exact Or.inr (Or.inr rfl)) (hd : (x == ("__debug__" : Str)) = false := by decide)
    (hcd : (x == ("__classdict__" : Str)) = false := by decide) : DSo X E [.Return (some (.Name x pos)) spos] (tRet (tVar i)) (roV i) := by
  refine ⟨pss_one (ps_ret (pe_var hN hv hd hcd)), fun F0 H0 F H σ ρ rr => ?_⟩
  unfold roV getO
  split
  · next ds e =>
    obtain ⟨a, xs, e2, e4, e5, e3, hr⟩ := rr.ow i ds e
    refine fun D q => ⟨.ref a, e2, ?_⟩
    have g : Gr F0 H0 F (del H a) := ⟨rr.g.f, fun b o z => by rw [del_ne (ne_of_none z e5)]; exact rr.g.s b o z, fun b o z1 z2 => by
      rw [del_ne (ne_of_none z2 e4)]; exact rr.g.o b o z1 z2⟩
    have z := q F (del H a) a xs g del_at hr
    rw [upd_del e3] at z
    exact z
  · trivial
theorem dso_cons {st : Stmt} {rest : List Stmt} {u u' : TS} {k : MS} {k' : Ev → Res (List D)} (h : DS X E st u k) (h' : DSo X E rest u' k') : DSo X E (st :: rest) (tSeq u u') (soQ k k') := by
  refine ⟨pss_cons h.p h'.p, fun F0 H0 F H σ ρ rr => ?_⟩
  have z := h.s F0 H0 F H σ ρ rr
  unfold soQ
  cases e : k ρ with
  | ok f =>
    rw [e] at z
    cases f with
    | nx ρ' =>
      show AnsO X.K X.mg E F0 H0 (k' ρ') _
      have z' := fun F1 H1 σ1 r1 => h'.s F0 H0 F1 H1 σ1 ρ' r1
      generalize k' ρ' = r2 at z'
      cases r2 with
      | ok ds => exact fun D q => z _ fun F1 H1 σ1 _ r1 => z' F1 H1 σ1 r1 D q
      | ex c => exact fun D q => z _ fun F1 H1 σ1 _ r1 => z' F1 H1 σ1 r1 D q
      | bad => trivial
    | bk ρ' => trivial
    | ct ρ' => trivial
    | rt d => trivial
  | ex c => rw [e] at z; exact fun D q => z _ q
  | bad => trivial
end
noncomputable def spO (K : PySem.W.Frag) (mg : Str → Option Value) (n : Nat) (f : List D → Res D) : Sp := fun vs H Q E => vs.length = n ∧ ∃ F ds, Same F H ∧ Rps K mg F vs ds ∧ f ds ≠ .bad ∧
  (∀ d, f ds = .ok d → ∃ es, d = .lst es ∧ ∀ F' H' a xs, Gr F H F' H' → H' a = none → Rps K mg F' xs es → Q (.ref a) (upd H' a (.lst xs))) ∧ (∀ c, f ds = .ex c → ∀ F' H' C, Gr F H F' H' → mg c = some (.ref C) → E (.ref C) none H')
noncomputable def LstOnly (f : List D → Res D) : Prop := ∀ ds d, f ds = .ok d → ∃ es, d = .lst es
theorem fnO_lst {n : Nat} {m : Ev → Res (List D)} : LstOnly (fnO n m) := by
  intro ds d h
  unfold fnO at h
  cases e : m (ev0 n ds) with
  | ok es => rw [e] at h; cases h; exact ⟨es, rfl⟩
  | ex c => rw [e] at h; cases h
  | bad => rw [e] at h; cases h
theorem spO_of {K : PySem.W.Frag} {mg : Str → Option Value} {n : Nat} {f : List D → Res D} (l : LstOnly f) : ∀ vs H Q E, spD K mg n f vs H Q E → spO K mg n f vs H Q E := by
  rintro vs H Q E ⟨h1, F, ds, s, rs, nb, ok, ex⟩
  refine ⟨h1, F, ds, s, rs, nb, fun d e => ?_, ex⟩
  obtain ⟨es, rfl⟩ := l ds d e
  exact ⟨es, rfl, fun F' H' a xs g hn rx => ok _ e _ _ _ (g.trans (.new g.s hn _)) (.lst (SqL.of upd_same) (rx.same (same_new (g.s.free hn) _)))⟩
structure CalO (P : Program) (w : World) (K : PySem.W.Frag) (mg : Str → Option Value) (base : Heap) (n : Nat) (x : Str) (ps : List Str) (m : List D → Res D) : Prop where
  ex : ∃ (f : Addr) (fd : FuncData), FnOk P w K mg base (CXR P w) n f fd ps (spO K mg ps.length m) ∧ Binds K fd ps [] ∧ PySem.W.keepIn K (.ref f) = true ∧ mg x = some (.ref f)
  l : LstOnly m
theorem CalO.cal {P : Program} {w : World} {K : PySem.W.Frag} {mg : Str → Option Value} {base : Heap} {n : Nat} {x : Str} {ps : List Str} {m : List D → Res D} (C : CalO P w K mg base n x ps m) : Cal P w K mg base n x ps m := by
  obtain ⟨f, fd, F, b, k, h⟩ := C.ex
  exact ⟨f, fd, F.imp (spO_of C.l), b, k, h⟩
section
variable {P : Program} {w : World} {K : PySem.W.Frag} {mg : Str → Option Value} {base : Heap} {N ps : List Str} {x : Str}
theorem _root_.L2.Def.calO {st : Stmt} {k : Nat} {m : Ev → Res (List D)} (Df : Def K mg x st ps) (S : FnScope N ps (defScope st))
    (h : ∀ (f : Addr) (cdv : Value) (A : Around) (outer : List Env) (s : Shared) (H : Hp) (E : XK), Room k (A.deeper (envOfC x (defScope st) s.heap.objs.size f cdv)) → ∃ t, DSo (cxOf (CXR P w) P w K mg base N x (defScope st) f cdv A outer s H E) E (defBody st) t m) :
    CalO P w K mg base (k + 1) x ps (fnO N.length m) := by
  obtain ⟨f, fd, F, b, hm⟩ := Df.ex
  refine ⟨⟨f, fd, ?_, b, F.kp, hm⟩, fnO_lst⟩
  obtain ⟨oc, od, kV, doc, pm, an, cdv, ct, osl, rfl, lk, hcd⟩ := F.ex
  refine fn_of lk hcd S (fun vs H Q E q => q.1) fun A outer s H vs Q E hr hsp => ?_
  obtain ⟨t, hd⟩ := h f cdv A outer s H E hr
  refine ⟨t, hd.p, ?_⟩
  obtain ⟨_, F0, ds, s0, rs, hb, hok, hex⟩ := hsp
  have z := hd.s F0 H F0 H (start N vs) (ev0 N.length ds) (rep_start s0 rs)
  unfold fnO at hb hok hex
  cases e : m (ev0 N.length ds) with
  | ok es =>
    rw [e] at z hok
    obtain ⟨es', e', q⟩ := hok _ rfl
    cases e'
    exact z _ fun F' H' a xs g hn rx => q F' H' a xs g hn rx
  | ex c =>
    rw [e] at z hex
    exact z _ fun F' H' C g hc => hex c rfl F' H' C g hc
  | bad => rw [e] at hb; exact absurd rfl hb
end
section
variable {X : Cx} {E : XK} {k l n i : Nat} {x y : Str} {ps : List Str} {f : List D → Res D} {t : TA} {m : MA} {e : Expr} {es : List Expr} {p pos pos' spos : Pos}
theorem ds_setF (C : CalO X.prog X.w X.K X.mg X.base k x ps f) (hN : X.N.Nodup) (hi : X.N[i]? = some y) (hy : Loc X.env.scope y) (hr : Room l X.A) (hn : k ≤ l) (hg : Gl X x) (hx : Passes (CXR X.prog X.w) X E) (ha : DA X E n (e :: es) t m) (hps : ps.length = n := by rfl)
    (hdb : (x == ("__debug__" : Str)) = false := by decide) (he : starEach (e :: es) X.env = (false, eval e X.env) :: starEach es X.env := by rfl) (hpl : (backTo pos (starEach es X.env)).any (·.1) = false := by rfl)
    (hs : swapsWith (.Call (.Name x p) (e :: es) [] pos) (some (.Name y pos')) spos.line X.env = pure false := by rfl) (hf : X.fn y = true ∨ X.env.scope.names.lookup y = some .local := by first | exact .inl rfl | exact .inr rfl | assumption) :
    DS X E (.Assign [.Name y pos'] (.Call (.Name x p) (e :: es) [] pos) spos) (tAsg (tCall (spO X.K X.mg ps.length f) [] E t) (gName i)) (stO i (on f m)) := by
  obtain ⟨fa, fd, F, b, kp, hm⟩ := C.ex
  refine ⟨ps_set hN hi hy (pe_call (F.mono hn) hr hg hm kp b .nil hx ha.p hdb he hpl) hs hf, fun F0 H0 Ff H σ ρ rr => ?_⟩
  have h := ha.s F0 H0 Ff H σ ρ rr
  unfold stO on
  cases em : m ρ with
  | ex c =>
    rw [em] at h
    exact fun D q => h _ fun F' H' C g hC => q F' H' C (rr.g.trans g) hC
  | bad => trivial
  | ok ds =>
    rw [em] at h
    show AnsS X.K X.mg E F0 H0 Ff ((f ds).bind fun d => (lstO d).bind fun xs => .ok (.nx (ρ.set i (.ow xs)))) _
    cases ef : f ds with
    | bad => trivial
    | ex c =>
      exact fun D q => h _ fun F1 H1 vs g1 rs => by
        rw [List.append_nil]
        exact ⟨by rw [rs.length, hps]; exact ha.n ρ ds em, F1, ds, g1.s, rs, (by rw [ef]; intro z; cases z), (fun d z => by rw [ef] at z; cases z), fun c' z F' H' C g hC => by
          rw [ef] at z; cases z
          exact q F' H' C ((rr.g.trans g1).trans g) hC⟩
    | ok d =>
      obtain ⟨zs, rfl⟩ := C.l ds d ef
      exact fun D q => h _ fun F1 H1 vs g1 rs => by
        rw [List.append_nil]
        exact ⟨by rw [rs.length, hps]; exact ha.n ρ ds em, F1, ds, g1.s, rs, (by rw [ef]; intro z; cases z), (fun d z => by
          rw [ef] at z; cases z
          exact ⟨zs, rfl, fun F' H' a xs g hn rx => q F' _ _ (g1.f.trans g.f) (((rr.gr g1).gr g).own i hn rx)⟩), fun c' z => by rw [ef] at z; cases z⟩
end
end L2.Ds

namespace Dl
open PySem
noncomputable def mLst (f : List D → D → Res D) (a b : ME) : ME := fun ρ => (a ρ).bind fun x => (lstO x).bind fun xs => (b ρ).bind fun y => f xs y
noncomputable def ext (i : Nat) (e : ME) : MS := fun ρ => (getO ρ[i]?).bind fun xs => (e ρ).bind fun d => (lstO d).bind fun ys => if xs.length + ys.length ≤ LIM then .ok (.nx (ρ.set i (.ow (xs ++ ys)))) else .bad
noncomputable def trips : List D → List D → List D → List D
  | x :: xs, y :: ys, z :: zs => .tup [x, y, z] :: trips xs ys zs
  | _, _, _ => []
noncomputable def zip3 : List D → Res (List D)
  | [x, y, z] => (seqD x).bind fun xs => (seqD y).bind fun ys => (seqD z).bind fun zs => .ok (trips xs ys zs)
  | _ => .bad
noncomputable def iZip3 (a : MA) : MI := fun ρ => (a ρ).bind zip3
noncomputable def lz3 (ds : List D) : Res D := (zip3 ds).bind fun xs => .ok (.lst xs)
end Dl

namespace L2.Ds
open PySem PySem.Spec PyProof.Rows Dl
section
variable {X : Cx} {pins : List (Addr × Obj)} {σ : St} {H : Hp} {s : Shared}
end
section
variable {X : Cx} {E : XK}
end
section
variable {K : PySem.W.Frag} {mg : Str → Option Value} {E : XK} {ta tb te : TE} {ma mb me : ME} {F0 H0 F H : Hp}
theorem Rep.put {σ : St} {ρ : Ev} {i : Nat} {ds es : List D} {a : Addr} {xs ys : List V} (r : Rep K mg F0 H0 F H σ ρ) (e : ρ[i]? = some (.ow ds)) (e2 : σ[i]? = some (some (.ref a))) (e3 : H a = some (.lst xs)) (e4 : H0 a = none) (e5 : F a = none) (hr : Rps K mg F ys es) :
    Rep K mg F0 H0 F (upd H a (.lst ys)) σ (ρ.set i (.ow es)) := by
  refine ⟨⟨r.g.f, fun b o q => ?_, fun b o q1 q2 => ?_⟩, by rw [List.length_set]; exact r.len, fun j u q => ?_, fun j es q => ?_, fun j k es ts b q1 q2 q3 q4 => ?_⟩
  · rw [upd_ne (ne_of_none q e5)]; exact r.g.s b o q
  · rw [upd_ne (ne_of_none q2 e4)]; exact r.g.o b o q1 q2
  · rcases set_get q with ⟨_, z, _⟩ | ⟨_, q⟩
    · cases z
    · exact r.im j u q
  · rcases set_get q with ⟨rfl, z, l⟩ | ⟨hij, q⟩
    · cases z
      exact ⟨a, _, e2, e4, e5, upd_same, hr⟩
    · obtain ⟨b, ys, h1, h2, h3, h4, h5⟩ := r.ow j es q
      have nb : b ≠ a := by
        rintro rfl
        exact hij (r.ne i j ds es b e q e2 h1)
      exact ⟨b, ys, h1, h2, h3, by rw [upd_ne nb]; exact h4, h5⟩
  · have o1 : ∃ es', ρ[j]? = some (.ow es') := by
      rcases set_get q1 with ⟨rfl, _, _⟩ | ⟨_, q⟩
      · exact ⟨_, e⟩
      · exact ⟨_, q⟩
    have o2 : ∃ es', ρ[k]? = some (.ow es') := by
      rcases set_get q2 with ⟨rfl, _, _⟩ | ⟨_, q⟩
      · exact ⟨_, e⟩
      · exact ⟨_, q⟩
    obtain ⟨_, o1⟩ := o1
    obtain ⟨_, o2⟩ := o2
    exact r.ne j k _ _ b o1 o2 q3 q4
end
section
variable {X : Cx} {E : XK} {k i : Nat} {o e k' a b c' d' : Expr} {to te tk ta tb tc td : TE} {mo me mk ma mb mc md : ME} {x : Str} {np apos cpos spos pos spos' : Pos}
end
section
variable {X : Cx} {E : XK}
end
end L2.Ds

namespace L2
open PySem PySem.Spec PyProof.Rows
noncomputable abbrev Z3 (h : Heap) (z TI TO : Addr) (f0 f1 : Value) : Prop := h.get? z = some { cls := .type "zip", dict := none, data := .fields #[f0, f1, .bool false, .ref TI, .ref TO], slots := #[] }
noncomputable abbrev Tr (h : Heap) (T : Addr) (a b c : Value) : Prop := h.get? T = some { cls := .type "tuple", data := .seq #[a, b, c] }
noncomputable def Mk3 (f0 : Value) : Prop := f0 = .none ∨ ∃ T : Nat, f0 = rawInt T
structure Ap3 (z TI TO i1 i2 i3 l1 l2 l3 : Addr) : Prop where
  o1 : @LT.lt Nat _ i1 i2
  o2 : @LT.lt Nat _ i2 i3
  o3 : @LT.lt Nat _ i3 TI
  o4 : @LT.lt Nat _ TI TO
  o5 : @LT.lt Nat _ TO z
  a1 : @LT.lt Nat _ l1 i1
  a2 : @LT.lt Nat _ l2 i1
  a3 : @LT.lt Nat _ l3 i1
section
variable {prog : Program} {w : World} {A : Around} {E : Value → Shared → Prop} {s : Shared}
end
noncomputable abbrev j1 (p : Bool) (h : Heap) (l1 : Addr) : Heap := h.push (itObj p l1)
noncomputable abbrev j2 (p q : Bool) (h : Heap) (l1 l2 : Addr) : Heap := (j1 p h l1).push (itObj q l2)
noncomputable abbrev j3 (p q r : Bool) (h : Heap) (l1 l2 l3 : Addr) : Heap := (j2 p q h l1 l2).push (itObj r l3)
section
variable {prog : Program} {w : World} {A : Around} {E : Value → Shared → Prop} {s : Shared}
end
end L2

namespace L2
open PySem PySem.Spec PyProof.Rows
noncomputable def At3 (p q r : Bool) (z TI TO i1 i2 i3 a b c : Addr) (i : Nat) (h : Heap) : Prop :=
  ∃ f0 f1 u v w, Z3 h z TI TO f0 f1 ∧ Mk3 f0 ∧ Tr h TI (.ref i1) (.ref i2) (.ref i3) ∧ Tr h TO u v w ∧ ItK p h i1 a i ∧ ItK q h i2 b i ∧ ItK r h i3 c i
theorem At3.obj {p q r : Bool} {z TI TO i1 i2 i3 a b c : Addr} {i : Nat} {h : Heap} (st : At3 p q r z TI TO i1 i2 i3 a b c i h) {x : Addr} (hx : x ∈ [z, TI, TO, i1, i2, i3]) : ∃ o, h.get? x = some o ∧ ∀ v, o.data ≠ .cell v := by
  obtain ⟨f0, f1, u, v, w, kz, kf, kTI, kTO, m1, m2, m3⟩ := st
  obtain ⟨o1, _, e1, d1⟩ := m1.flds
  obtain ⟨o2, _, e2, d2⟩ := m2.flds
  obtain ⟨o3, _, e3, d3⟩ := m3.flds
  simp only [List.mem_cons, List.not_mem_nil, or_false] at hx
  rcases hx with rfl | rfl | rfl | rfl | rfl | rfl
  · exact ⟨_, kz, fun v z => by cases z⟩
  · exact ⟨_, kTI, fun v z => by cases z⟩
  · exact ⟨_, kTO, fun v z => by cases z⟩
  · exact ⟨_, e1, fun v z => by rw [d1] at z; cases z⟩
  · exact ⟨_, e2, fun v z => by rw [d2] at z; cases z⟩
  · exact ⟨_, e3, fun v z => by rw [d3] at z; cases z⟩
theorem At3.keep {p q r : Bool} {z TI TO i1 i2 i3 a b c : Addr} {i : Nat} {h h' : Heap} (st : At3 p q r z TI TO i1 i2 i3 a b c i h) (k : ∀ x ∈ [z, TI, TO, i1, i2, i3], ∀ o, h.get? x = some o → h'.get? x = some o) : At3 p q r z TI TO i1 i2 i3 a b c i h' := by
  obtain ⟨f0, f1, u, v, w, kz, kf, kTI, kTO, m1, m2, m3⟩ := st
  exact ⟨f0, f1, u, v, w, k z (by simp) _ kz, kf, k TI (by simp) _ kTI, k TO (by simp) _ kTO, m1.at fun o e => k i1 (by simp) o e, m2.at fun o e => k i2 (by simp) o e, m3.at fun o e => k i3 (by simp) o e⟩
section
variable {X : Cx} {B : Around} {pins : List (Addr × Obj)} {σ : St} {H : Hp} {s : Shared} {p q r : Bool} {z TI TO i1 i2 i3 a b c : Addr} {i : Nat}
end
end L2

namespace L2
open PySem PySem.Spec PyProof.Rows
inductive Lay3 (H : Hp) : List (V × V × V) → List Addr → Hp → Prop
  | nil : Lay3 H [] [] H
  | snoc {ts : List (V × V × V)} {as : List Addr} {H' : Hp} {T : Addr} {x y u : V} (h : Lay3 H ts as H') (hT : H' T = none) : Lay3 H (ts ++ [(x, y, u)]) (as ++ [T]) (upd H' T (.tup [x, y, u]))
theorem Lay3.same {H H' : Hp} {ts : List (V × V × V)} {as : List Addr} (h : Lay3 H ts as H') : Same H H' := by
  induction h with
  | nil => exact fun _ _ e => e
  | snoc h hT ih => exact fun b o e => (by
      have e' := ih b o e
      rw [upd_ne (fun q => by subst q; rw [hT] at e'; cases e')]
      exact e')
section
variable {X : Cx} {pins : List (Addr × Obj)} {σ : St} {H : Hp} {p q r : Bool} {z TI TO i1 i2 i3 a b c S : Addr} {xs ys us : List V}
end
section
variable {X : Cx}
end
end L2

namespace L2.Ds
open PySem PySem.Spec PyProof.Rows Dl
section
variable {K : PySem.W.Frag} {mg : Str → Option Value} {F : Hp}
end
section
variable {X : Cx} {E : XK} {a b c : Expr} {n : Nat} {t : TA} {m : MA} {pos pos' lp p : Pos}
end
end L2.Ds

namespace Dl
open PySem
end Dl

namespace L2
open PySem PySem.Spec PyProof.Rows PySem.Calls
noncomputable abbrev TB := St → Hp → (Hp → Prop) → (Value → Hp → Prop) → Prop
noncomputable def PB (X : Cx) (body : List Stmt) (t : TB) : Prop :=
  ∀ (pins : List (Addr × Obj)) (s : Shared) (σ : St) (H : Hp) (N : Hp → Prop) (XE : Value → Hp → Prop), Inv X pins σ H s → t σ H N XE → wpAny (model X.prog X.w) X.A (execs body X.env) (fun f s' => f = .next ∧ ∃ H2, Inv X pins σ H2 s' ∧ N H2) (fun ev s' => ∃ s1 H1 a cls H', ev = .ref a ∧ Inv X pins σ H1 s1 ∧ Fly X.prog X.w X.stack H1 H' s1 s' a cls ∧ XE cls H') s
section
variable {X : Cx} {k i : Nat} {x y n : Str} {Cy fa : Addr} {fd : FuncData} {ps : List Str} {sp : Sp} {t : TA} {tb tb' : TB} {tc : TT} {u : Addr → TS} {e c : Expr} {es : List Expr} {p yp cpos epos hpos pos : Pos} {b₀ : Stmt} {suite body bd be : List Stmt}
end
end L2
namespace L2.Ds
open PySem PySem.Spec PyProof.Rows PySem.Calls Dl
noncomputable def SB (K : PySem.W.Frag) (mg : Str → Option Value) (t : TB) (m : ME) : Prop := ∀ F0 H0 F H σ ρ, Rep K mg F0 H0 F H σ ρ → match m ρ with
  | .ok _ => ∀ (N : Hp → Prop) (XE : Value → Hp → Prop), (∀ F' H', Gr F H F' H' → N H') → t σ H N XE
  | .ex c => ∀ (N : Hp → Prop) (XE : Value → Hp → Prop), (∀ F' H' C, Gr F H F' H' → mg c = some (.ref C) → XE (.ref C) H') → t σ H N XE
  | .bad => True
structure DB (X : Cx) (body : List Stmt) (t : TB) (m : ME) : Prop where
  p : PB X body t
  s : SB X.K X.mg t m
section
variable {K : PySem.W.Frag} {mg : Str → Option Value}
end
section
variable {X : Cx} {E : XK} {k l i j : Nat} {x y n : Str} {Cy : Addr} {ps : List Str} {f : List D → Res D} {t : TA} {tb tb' : TB} {tc : TT} {nc : MB} {m : MA} {ma mb : ME} {u : Addr → TS} {b : MS} {e c : Expr} {es : List Expr} {p yp cpos epos hpos pos : Pos} {b₀ : Stmt} {suite body bd be : List Stmt} {hits : List Str}
end
end L2.Ds

namespace Dl
open PySem
noncomputable def rangeS (lo : Int) (n : Nat) : List D := (List.range n).map fun (k : Nat) => D.int (lo + (k : Int) * 2)
noncomputable def rng3 : List D → Res (List D)
  | [.int i, .int j, .int s] => if ((-1000000000 ≤ i ∧ i ≤ 1000000000) ∧ (-1000000000 ≤ j ∧ j ≤ 1000000000)) ∧ s = 2 then .ok (rangeS i ((j - i + 1) / 2).toNat) else .bad
  | _ => .bad
noncomputable def r3 (a : MA) : MI := fun ρ => (a ρ).bind rng3
end Dl

namespace L2
open PySem PySem.Spec PyProof.Rows
section
variable {X : Cx} {tg : Expr}
end
end L2
namespace L2.Ds
open PySem PySem.Spec PyProof.Rows PySem.Calls Dl
section
variable {K : PySem.W.Frag} {mg : Str → Option Value} {E : XK} {F : Hp}
end
section
variable {X : Cx} {E : XK} {a b c e tg : Expr} {es : List Expr} {t : TA} {m : MA} {n : Nat} {tb : TE} {mb : ME} {pos p lpos : Pos}
end
end L2.Ds

namespace Dl
open PySem
end Dl

namespace L2.Ds
open PySem PySem.Spec PyProof.Rows PySem.Calls Dl
noncomputable def AnsK (i : Nat) (σ : St) (K : PySem.W.Frag) (mg : Str → Option Value) (E : XK) (F0 H0 F : Hp) (r : Res Fl) (w : Ends → Prop) : Prop :=
  match r with
  | .ok (.nx ρ) => ∀ D : Ends, (∀ F' H' σ', Same F F' → Rep K mg F0 H0 F' H' σ' ρ → σ'[i]? = σ[i]? → D.nx σ' H') → w D
  | .ok (.bk ρ) => ∀ D : Ends, (∀ F' H' σ', Same F F' → Rep K mg F0 H0 F' H' σ' ρ → σ'[i]? = σ[i]? → D.bk σ' H') → w D
  | .ok (.ct ρ) => ∀ D : Ends, (∀ F' H' σ', Same F F' → Rep K mg F0 H0 F' H' σ' ρ → σ'[i]? = σ[i]? → D.ct σ' H') → w D
  | .ok (.rt d) => ∀ D : Ends, (∀ F' H' x, Gr F0 H0 F' H' → Rp K mg F' x d → D.rt x H') → w D
  | .ex c => ∀ D : Ends, (∀ F' H' C, Gr F0 H0 F' H' → mg c = some (.ref C) → E (.ref C) none H') → w D
  | .bad => True
noncomputable def SSk (i : Nat) (K : PySem.W.Frag) (mg : Str → Option Value) (E : XK) (t : TS) (m : MS) : Prop := ∀ F0 H0 F H σ ρ, Rep K mg F0 H0 F H σ ρ → AnsK i σ K mg E F0 H0 F (m ρ) (fun D => t D σ H)
section
variable {K : PySem.W.Frag} {mg : Str → Option Value} {E : XK} {F0 H0 F H : Hp} {i : Nat} {σ : St} {ta : TE} {ma : ME}
theorem AnsK.mono {F1 : Hp} {r : Res Fl} {w : Ends → Prop} (s : Same F F1) (h : AnsK i σ K mg E F0 H0 F1 r w) : AnsK i σ K mg E F0 H0 F r w := by
  cases r with
  | ok f =>
    cases f with
    | nx ρ => exact fun D q => h D fun F' H' σ' s' r' => q F' H' σ' (s.trans s') r'
    | bk ρ => exact fun D q => h D fun F' H' σ' s' r' => q F' H' σ' (s.trans s') r'
    | ct ρ => exact fun D q => h D fun F' H' σ' s' r' => q F' H' σ' (s.trans s') r'
    | rt d => exact h
  | ex c => exact h
  | bad => trivial
end
structure DSk (X : Cx) (i : Nat) (E : XK) (st : Stmt) (t : TS) (m : MS) : Prop where
  p : PS X st t
  s : SSk i X.K X.mg E t m
structure DSsk (X : Cx) (i : Nat) (E : XK) (st : List Stmt) (t : TS) (m : MS) : Prop where
  p : PSs X st t
  s : SSk i X.K X.mg E t m
section
variable {X : Cx} {E : XK} {i j : Nat} {c' e tg : Expr} {sa : TT} {na : MB} {te : TE} {me : ME} {x y : Str} {pos' spos pos ipos tpos : Pos}
end
section
variable {X : Cx} {E : XK} {a b c d o : Expr} {ta tb tc td to : TE} {ma mb mc md mo : ME} {pos apos cpos : Pos}
end
end L2.Ds

namespace Dl
open PySem
end Dl

namespace L2.Ds
open PySem PySem.Spec PyProof.Rows Dl
noncomputable def Nw (F F' : Hp) : Nat → V → Prop
  | 0, _ => True
  | n + 1, x => ∃ a xs, x = .ref a ∧ F a = none ∧ F' a = some (.lst xs) ∧ ∀ y ∈ xs, Nw F F' n y
theorem Nw.up {F F' F'' : Hp} (s : Same F' F'') : ∀ {n : Nat} {x : V}, Nw F F' n x → Nw F F'' n x
  | 0, _, _ => trivial
  | _ + 1, _, ⟨a, xs, e, h1, h2, h3⟩ => ⟨a, xs, e, h1, s _ _ h2, fun y hy => Nw.up s (h3 y hy)⟩
section
variable {K : PySem.W.Frag} {mg : Str → Option Value} {E : XK} {F0 H0 F H : Hp} {σ : St} {ρ : Ev}
noncomputable def Ln (F' : Hp) (x : V) (d : D) : Prop := ∀ a xs, x = .ref a → F' a = some (.lst xs) → ∃ ds, d = .lst ds ∧ xs.length = ds.length
noncomputable def SEn (K : PySem.W.Frag) (mg : Str → Option Value) (E : XK) (n : Nat) (t : TE) (m : ME) : Prop := ∀ Fb F0 H0 F H σ ρ, Rep K mg F0 H0 F H σ ρ → Same Fb F → Ans mg E (fun F' x d => Rp K mg F' x d ∧ Nw Fb F' n x ∧ Ln F' x d) F H (m ρ) (t σ H)
end
structure DEn (X : Cx) (E : XK) (n : Nat) (e : Expr) (t : TE) (m : ME) : Prop where
  p : PE X e t
  s : SEn X.K X.mg E n t m
noncomputable def spN (K : PySem.W.Frag) (mg : Str → Option Value) (k n : Nat) (f : List D → Res D) : Sp := fun vs H Q E => vs.length = k ∧ ∃ F ds, Same F H ∧ Rps K mg F vs ds ∧ f ds ≠ .bad ∧
  (∀ d, f ds = .ok d → ∃ es, d = .lst es ∧ ∀ F' H' a xs, Gr F H F' H' → H' a = none → Rps K mg F' xs es → (∀ y ∈ xs, Nw F F' n y) → Q (.ref a) (upd H' a (.lst xs))) ∧ (∀ c, f ds = .ex c → ∀ F' H' C, Gr F H F' H' → mg c = some (.ref C) → E (.ref C) none H')
structure CalN (P : Program) (w : World) (K : PySem.W.Frag) (mg : Str → Option Value) (base : Heap) (k n : Nat) (x : Str) (ps : List Str) (m : List D → Res D) : Prop where
  ex : ∃ (f : Addr) (fd : FuncData), FnOk P w K mg base (CXR P w) k f fd ps (spN K mg ps.length n m) ∧ Binds K fd ps [] ∧ PySem.W.keepIn K (.ref f) = true ∧ mg x = some (.ref f)
  l : LstOnly m
section
variable {P : Program} {w : World} {K : PySem.W.Frag} {mg : Str → Option Value} {base : Heap} {N ps : List Str} {x : Str} {k n : Nat} {m : List D → Res D}
theorem CalN.calO (C : CalN P w K mg base k n x ps m) : CalO P w K mg base k x ps m := by
  obtain ⟨f, fd, F, b, kp, h⟩ := C.ex
  refine ⟨⟨f, fd, F.imp ?_, b, kp, h⟩, C.l⟩
  rintro vs H Q E ⟨h1, F, ds, s, rs, nb, ok, ex⟩
  refine ⟨h1, F, ds, s, rs, nb, fun d e => ?_, ex⟩
  obtain ⟨es, e', q⟩ := ok d e
  exact ⟨es, e', fun F' H' a xs g hn rx _ => q F' H' a xs g hn rx⟩
theorem CalN.cal (C : CalN P w K mg base k n x ps m) : Cal P w K mg base k x ps m := C.calO.cal
theorem CalO.new (C : CalO P w K mg base k x ps m) : CalN P w K mg base k 0 x ps m := by
  obtain ⟨f, fd, F, b, kp, h⟩ := C.ex
  refine ⟨⟨f, fd, F.imp ?_, b, kp, h⟩, C.l⟩
  rintro vs H Q E ⟨h1, F, ds, s, rs, nb, ok, ex⟩
  refine ⟨h1, F, ds, s, rs, nb, fun d e => ?_, ex⟩
  obtain ⟨es, e', q⟩ := ok d e
  exact ⟨es, e', fun F' H' a xs g hn rx => q F' H' a xs g hn rx fun _ _ => trivial⟩
end
section
variable {X : Cx} {E : XK} {k l n i nn : Nat} {x y : Str} {ps : List Str} {f : List D → Res D} {t : TA} {m : MA} {e : Expr} {es : List Expr} {p pos pos' spos : Pos}
end
section
variable {K : PySem.W.Frag} {mg : Str → Option Value} {E : XK} {F0 H0 F H : Hp} {σ : St} {ρ : Ev}
noncomputable def AnsN (K : PySem.W.Frag) (mg : Str → Option Value) (E : XK) (n : Nat) (F0 H0 : Hp) (r : Res (List D)) (w : Ends → Prop) : Prop :=
  match r with
  | .ok ds => ∀ D : Ends, (∀ F' H' a xs, Gr F0 H0 F' H' → H' a = none → Rps K mg F' xs ds → (∀ y ∈ xs, Nw F0 F' n y) → D.rt (.ref a) (upd H' a (.lst xs))) → w D
  | .ex c => ∀ D : Ends, (∀ F' H' C, Gr F0 H0 F' H' → mg c = some (.ref C) → E (.ref C) none H') → w D
  | .bad => True
end
structure DSn (X : Cx) (E : XK) (n : Nat) (sts : List Stmt) (t : TS) (m : Ev → Res (List D)) : Prop where
  p : PSs X sts t
  s : ∀ F0 H0 F H σ ρ, Rep X.K X.mg F0 H0 F H σ ρ → AnsN X.K X.mg E n F0 H0 (m ρ) (fun D => t D σ H)
section
variable {X : Cx} {E : XK} {tg iter elt : Expr} {ts : List Expr} {me : ME} {na : MB} {pos spos : Pos} {n : Nat}
end
section
variable {P : Program} {w : World} {K : PySem.W.Frag} {mg : Str → Option Value} {base : Heap} {N ps : List Str} {x : Str}
end
section
variable {X : Cx} {E : XK} {i nn : Nat} {y : Str} {te : TE} {me : ME} {e c' : Expr} {sa : TT} {na : MB} {kb kr : MS} {ub ur : TS} {body rest : List Stmt} {pos pos' spos ip ipos np apos cpos spos' spos'' : Pos} {j : Nat}
theorem AnsS.same {K : PySem.W.Frag} {mg : Str → Option Value} {F0 H0 F F1 : Hp} {r : Res Fl} {w : Ends → Prop} (s : Same F F1) (h : AnsS K mg E F0 H0 F1 r w) : AnsS K mg E F0 H0 F r w := h.mono s
end
section
variable {X : Cx} {E : XK} {i nn : Nat} {y : Str} {te : TE} {me : ME} {e c' : Expr} {sa : TT} {na : MB} {kb kr : MS} {ub ur : TS} {body rest : List Stmt} {pos' spos ip np zp apos cpos spos' spos'' : Pos} {j : Nat}
end
end L2.Ds

namespace Dl
open PySem
end Dl

namespace L2
open PySem PySem.Spec PyProof.Rows
section
variable {M : Model} {A : Around} {E : Value → Shared → Prop} {s : Shared} {B : Heap} {env cenv : Env} {outer l : List Env} {L e : Addr} {cls a0 fl : Value}
end
section
variable {X : Cx} {E : XK} {pins : List (Addr × Obj)} {σ : St} {H : Hp} {s s7 : Shared} {fp : List Addr} {scope : Scope} {cells : List (Str × Addr)} {C : Addr} {e acc : Value} {use : Option (Value → Sem Unit)} {Q : Value → Shared → Prop}
end
section
variable {X : Cx} {own : List Str} {cap : List (Str × Nat)} {scope : Scope} {cl : List (Str × Addr)} {pins : List (Addr × Obj)} {σ : St} {H : Hp} {s : Shared} {fp : List Addr} {tg : Expr} {J : It} {it : Addr} {tn : Nat → Heap → Prop} {E : XK}
structure BodyX (X : Cx) (E : XK) : Prop where
  hst : X.stack = X.env :: X.outer
  hfr : X.env.frame = some X.env.locals
  hex : X.ex = []
  hxe : X.xe = fun e s' => wpAny (model X.prog X.w) X.A (leaving X.env e) (fun _ s'' => CXR X.prog X.w X.outer X.H₀ X.s₀ E e s'') (fun e' s'' => CXR X.prog X.w X.outer X.H₀ X.s₀ E e' s'') s'
end
end L2
namespace L2.Ds
open PySem PySem.Spec PyProof.Rows Dl
section
variable {K : PySem.W.Frag} {mg : Str → Option Value} {E : XK} {F0 H0 F H : Hp} {σ : St} {ρ : Ev}
end
section
variable {X : Cx} {E : XK} {tg iter elt : Expr} {ts : List Expr} {me : ME} {na : MB} {pos : Pos}
end
end L2.Ds

namespace Dl
open PySem
end Dl

namespace L2.Ds
open PySem PySem.Spec PyProof.Rows Dl
noncomputable def FldOk (K : PySem.W.Frag) (mg : Str → Option Value) (cs : List Str) (f : Str) : Prop := ∀ c, cs.contains c = true → ∀ C, mg c = some (.ref C) → Cls K C ∧ NoAttr K C f
section
variable {K : PySem.W.Frag} {mg : Str → Option Value}
end
end L2.Ds

namespace Dl
open PySem
mutual
/-- no list in it -/
noncomputable def noL : D → Bool
  | .lst _ => false
  | .ins _ _ _ => false
  | .tup xs => noLs xs
  | _ => true
noncomputable def noLs : List D → Bool
  | [] => true
  | x :: r => noL x && noLs r
end
noncomputable def cellsO : D → Option (List D)
  | .lst cs => if noLs cs = true then some cs else none
  | _ => none
noncomputable def rowsOk : List D → Bool
  | [] => true
  | d :: r => (cellsO d).isSome && rowsOk r
end Dl

namespace L2.Ds
open PySem PySem.Spec PyProof.Rows Dl
section
variable {K : PySem.W.Frag} {mg : Str → Option Value} {E : XK} {F0 H0 F H : Hp} {σ : St} {ρ : Ev}
mutual
theorem rp_noL {F F3 : Hp} (k : ∀ b o, F b = some o → (∀ xs, o ≠ .lst xs) → F3 b = some o) : ∀ {x : V} {d : D}, Rp K mg F x d → noL d = true → Rp K mg F3 x d
  | _, _, .non, _ => .non
  | _, _, .bl b, _ => .bl b
  | _, _, .int i, _ => .int i
  | _, _, .str x, _ => .str x
  | _, _, .ty n, _ => .ty n
  | _, _, .cls h, _ => .cls h
  | _, _, .tup h r, p => by
    refine .tup ?_ (rps_noL k r (by simpa [noL] using p))
    rcases h with (h | ⟨o, h⟩) | h
    · exact .inl (.inl (k _ _ h fun _ z => by cases z))
    · exact .inl (.inr ⟨o, k _ _ h fun _ z => by cases z⟩)
    · exact .inr h
  | _, _, .lst h r, p => by simp [noL] at p
  | _, _, .exc m h, _ => .exc m (k _ _ h fun _ z => by cases z)
  | _, _, .ins m h o q r, p => by simp [noL] at p
theorem rps_noL {F F3 : Hp} (k : ∀ b o, F b = some o → (∀ xs, o ≠ .lst xs) → F3 b = some o) : ∀ {xs : List V} {ds : List D}, Rps K mg F xs ds → noLs ds = true → Rps K mg F3 xs ds
  | _, _, .nil, _ => .nil
  | _, _, .cons h r, p => by
    rw [noLs, Bool.and_eq_true] at p
    exact .cons (rp_noL k h p.1) (rps_noL k r p.2)
end
noncomputable def RowR (K : PySem.W.Frag) (mg : Str → Option Value) (Fb F' : Hp) (x : V) (d : D) : Prop := ∃ q ys cs, x = .ref q ∧ d = .lst cs ∧ Fb q = none ∧ F' q = some (.lst ys) ∧ Rps K mg F' ys cs
theorem RowR.up {Fb F' F'' : Hp} {x : V} {d : D} (h : RowR K mg Fb F' x d) (s : Same F' F'') : RowR K mg Fb F'' x d := by
  obtain ⟨q, ys, cs, e1, e2, h1, h2, h3⟩ := h
  exact ⟨q, ys, cs, e1, e2, h1, s _ _ h2, h3.same s⟩
noncomputable def SEl (K : PySem.W.Frag) (mg : Str → Option Value) (E : XK) (t : TE) (m : ME) : Prop := ∀ F0 H0 F H σ ρ, Rep K mg F0 H0 F H σ ρ → Ans mg E (RowR K mg F) F H (m ρ) (t σ H)
theorem rowsOk_get : ∀ {rows : List D} {r : Nat} {d : D}, rowsOk rows = true → rows[r]? = some d → ∃ cs, d = .lst cs ∧ noLs cs = true
  | [], _, _, _, e => by simp at e
  | x :: rows, 0, d, h, e => by
    have e' : x = d := by simpa using e
    subst e'
    rw [rowsOk, Bool.and_eq_true] at h
    cases x with
    | lst cs =>
      refine ⟨cs, rfl, ?_⟩
      have h1 : (if noLs cs = true then some cs else none).isSome = true := h.1
      by_cases z : noLs cs = true
      · exact z
      · rw [if_neg z] at h1; cases h1
    | _ => exact absurd h.1 (by simp [cellsO])
  | x :: rows, r + 1, d, h, e => by
    rw [rowsOk, Bool.and_eq_true] at h
    exact rowsOk_get (r := r) h.2 (by simpa using e)
theorem rps_of : ∀ {xs : List V} {ds : List D} {G : Hp}, xs.length = ds.length → (∀ (k : Nat) (x : V) (d : D), xs[k]? = some x → ds[k]? = some d → Rp K mg G x d) → Rps K mg G xs ds
  | [], [], _, _, _ => .nil
  | [], _ :: _, _, l, _ => by cases l
  | _ :: _, [], _, l, _ => by cases l
  | x :: xs, d :: ds, G, l, h => .cons (h 0 x d rfl rfl) (rps_of (by simpa using l) fun k y e h1 h2 => h (k + 1) y e (by simpa using h1) (by simpa using h2))
end
structure DEl (X : Cx) (E : XK) (e : Expr) (t : TE) (m : ME) : Prop where
  p : PE X e t
  s : SEl X.K X.mg E t m
section
variable {X : Cx} {E : XK} {tg iter elt e e0 : Expr} {ts es : List Expr} {me mv : ME} {na : MB} {n i a b : Nat} {x xa xb : Str} {t : TA} {m : MA} {tv : TE} {ur : TS} {kr : MS} {rest : List Stmt} {pos pos' spos spos2 np nap nbp ip ip2 : Pos}
end
end L2.Ds

namespace Dl
open PySem
end Dl

namespace L2
open PySem PySem.Spec PyProof.Rows
section
variable {X : Cx}
end
end L2
namespace L2.Ds
open PySem PySem.Spec PyProof.Rows PySem.Calls Dl
section
variable {K : PySem.W.Frag} {mg : Str → Option Value}
end
section
variable {X : Cx} {E : XK} {a b : Expr} {ta tb : TE} {ma mb : ME} {pos : Pos}
end
end L2.Ds

namespace Dl
open PySem
noncomputable abbrev Fs := List (Str × D)
noncomputable abbrev MSi := Ev → Fs → Res Fs
end Dl

namespace L2.Ds
open PySem PySem.Spec PyProof.Rows Dl
theorem Ans.imp {α β : Type} {mg : Str → Option Value} {E : XK} {R : Hp → β → α → Prop} {F H : Hp} {r : Res α} {w w' : (β → Hp → Prop) → Prop} (h : Ans mg E R F H r w) (hw : ∀ Q, w Q → w' Q) : Ans mg E R F H r w' := by
  cases r with
  | ok a => exact fun Q q => hw Q (h Q q)
  | ex c => exact fun Q q => hw Q (h Q q)
  | bad => trivial
section
variable {X : Cx} {E : XK} {k : Nat} {m : Str} {e o : Expr} {es : List Expr} {ta : TE} {t : TA} {pos apos : Pos} {pl : Sem Bool}
end
noncomputable def MethOk (P : Program) (w : World) (K : PySem.W.Frag) (mg : Str → Option Value) (base : Heap) (k n : Nat) (m : Str) (tab : List (Str × (List D → Res D))) : Prop := ∀ c f, tab.lookup c = some f → ∀ C, mg c = some (.ref C) →
  Cls K C ∧ ∃ g fd ps, Meth K C m g ∧ FnOk P w K mg base (CXR P w) k g fd ps (spD K mg ps.length f) ∧ Binds K fd ps [] ∧ ps.length = n + 1
theorem MethOk.nil {P : Program} {w : World} {K : PySem.W.Frag} {mg : Str → Option Value} {base : Heap} {k n : Nat} {m : Str} : MethOk P w K mg base k n m [] := fun _ _ e => by cases e
theorem MethOk.cons {P : Program} {w : World} {K : PySem.W.Frag} {mg : Str → Option Value} {base : Heap} {k n : Nat} {m c : Str} {f : List D → Res D} {tab : List (Str × (List D → Res D))}
    (h : ∀ C, mg c = some (.ref C) → Cls K C ∧ ∃ g fd ps, Meth K C m g ∧ FnOk P w K mg base (CXR P w) k g fd ps (spD K mg ps.length f) ∧ Binds K fd ps [] ∧ ps.length = n + 1) (r : MethOk P w K mg base k n m tab) : MethOk P w K mg base k n m ((c, f) :: tab) := by
  intro c' f' e
  rw [List.lookup_cons] at e
  split at e
  · next q =>
    cases e
    rw [eq_of_beq q]
    exact h
  · exact r c' f' e
section
variable {P : Program} {w : World} {K : PySem.W.Frag} {mg : Str → Option Value} {base : Heap} {E : XK} {k n : Nat} {m : Str} {tab : List (Str × (List D → Res D))} {ta : TE} {mo : ME} {t : TA} {ma : MA}
end
section
variable {X : Cx} {E : XK} {k l n : Nat} {m : Str} {e o : Expr} {es : List Expr} {ta : TE} {mo : ME} {t : TA} {ma : MA} {pos apos : Pos} {pl : Sem Bool} {tab : List (Str × (List D → Res D))}
end
section
variable {X : Cx} {N : List Str} {scope : Scope} {cl : List (Str × Addr)} {C' : Addr} {s : Shared} {H : Hp} {fp : List Addr} {pn : List (Addr × Obj)} {e o : Expr} {es : List Expr} {ta : TE} {mo : ME} {t : TA} {ma : MA} {n k l : Nat} {m f : Str} {pos apos : Pos} {pl : Sem Bool} {tab : List (Str × (List D → Res D))} {cs : List Str}
end
theorem FldOk.nil {K : PySem.W.Frag} {mg : Str → Option Value} {f : Str} : FldOk K mg [] f := fun _ h => by cases h
theorem FldOk.cons {K : PySem.W.Frag} {mg : Str → Option Value} {c f : Str} {cs : List Str} (h : ∀ C, mg c = some (.ref C) → Cls K C ∧ NoAttr K C f) (r : FldOk K mg cs f) : FldOk K mg (c :: cs) f := fun c' hc => by
  rw [List.contains_cons] at hc
  cases z : c' == c with
  | true => rw [eq_of_beq z]; exact h
  | false =>
    rw [z, Bool.false_or] at hc
    exact r c' hc
structure FR (K : PySem.W.Frag) (mg : Str → Option Value) (F : Hp) (fs : List (Str × V)) (fl : Fs) : Prop where
  nm : fs.map (·.1) = fl.map (·.1)
  rv : Rps K mg F (fs.map (·.2)) (fl.map (·.2))
theorem FR.same {K : PySem.W.Frag} {mg : Str → Option Value} {F F' : Hp} {fs : List (Str × V)} {fl : Fs} (h : FR K mg F fs fl) (s : Same F F') : FR K mg F' fs fl := ⟨h.nm, h.rv.same s⟩
theorem FR.len {K : PySem.W.Frag} {mg : Str → Option Value} {F : Hp} {fs : List (Str × V)} {fl : Fs} (h : FR K mg F fs fl) : fs.length = fl.length := by
  have := congrArg List.length h.nm
  rwa [List.length_map, List.length_map] at this
theorem putF_new {f : Str} {y : V} : ∀ {fs : List (Str × V)}, ¬ (fs.map (·.1)).contains f = true → putF f y fs = fs ++ [(f, y)]
  | [], _ => rfl
  | (g, x) :: r, h => by
    rw [List.map_cons, List.contains_cons] at h
    have hg : g ≠ f := by
      rintro rfl
      exact h (by rw [show ((g, x).fst == g) = true from beq_self_eq_true g]; rfl)
    show (if g = f then (g, y) :: r else (g, x) :: putF f y r) = _
    rw [if_neg hg, putF_new fun q => h (by rw [q, Bool.or_true])]
    rfl
theorem FR.put {K : PySem.W.Frag} {mg : Str → Option Value} {F : Hp} {fs : List (Str × V)} {fl : Fs} {f : Str} {y : V} {d : D} (h : FR K mg F fs fl) (hn : ¬ (fl.map (·.1)).contains f = true) (ry : Rp K mg F y d) : FR K mg F (putF f y fs) (fl ++ [(f, d)]) := by
  rw [putF_new (by rw [h.nm]; exact hn)]
  refine ⟨by rw [List.map_append, List.map_append, h.nm]; rfl, ?_⟩
  rw [List.map_append, List.map_append]
  exact Rps.app (.cons ry .nil) h.rv
noncomputable def spI (K : PySem.W.Frag) (mg : Str → Option Value) (n : Nat) (cs : List Str) (m : List D → Fs → Res Fs) : Sp := fun vs H Q E => vs.length = n + 1 ∧ ∃ (x dx C : Addr) (c : Str) (ys : List V) (fs : List (Str × V)) (F : Hp) (ds : List D) (fl : Fs),
  vs = .ref x :: ys ∧ cs.contains c = true ∧ mg c = some (.ref C) ∧ H x = some (.ins C dx fs) ∧ F x = none ∧ Same F H ∧ Rps K mg F ys ds ∧ FR K mg F fs fl ∧ m ds fl ≠ .bad ∧
  (∀ fl', m ds fl = .ok fl' → ∀ F' H' fs', Gr F (del H x) F' H' → F' x = none → H' x = some (.ins C dx fs') → FR K mg F' fs' fl' → Q .non H') ∧
  (∀ e, m ds fl = .ex e → ∀ F' H' fs' Ce, Gr F (del H x) F' H' → F' x = none → H' x = some (.ins C dx fs') → mg e = some (.ref Ce) → E (.ref Ce) none H')
structure RepI (K : PySem.W.Frag) (mg : Str → Option Value) (x dx C : Addr) (F0 H0 F H : Hp) (σ : St) (ρ : Ev) (fs : List (Str × V)) (fl : Fs) : Prop where
  rep : Rep K mg F0 H0 F H σ ρ
  h0 : H0 x = none
  self : σ[0]? = some (some (.ref x))
  fx : F x = none
  hx : H x = some (.ins C dx fs)
  fr : FR K mg F fs fl
section
variable {K : PySem.W.Frag} {mg : Str → Option Value} {x dx C : Addr} {F0 H0 F H F' H' : Hp} {σ : St} {ρ : Ev} {fs fs' : List (Str × V)} {fl fl' : Fs}
theorem RepI.gr (r : RepI K mg x dx C F0 H0 F H σ ρ fs fl) (g : Gr F H F' H') : RepI K mg x dx C F0 H0 F' H' σ ρ fs fl := by
  obtain ⟨q1, q2⟩ := g.o x _ r.fx r.hx
  exact ⟨r.rep.gr g, r.h0, r.self, q1, q2, r.fr.same g.f⟩
theorem RepI.go (r : RepI K mg x dx C F0 H0 F H σ ρ fs fl) (g : Gr F (del H x) F' H') (fx : F' x = none) (hx : H' x = some (.ins C dx fs')) (fr : FR K mg F' fs' fl') : RepI K mg x dx C F0 H0 F' H' σ ρ fs' fl' := by
  refine ⟨⟨⟨r.rep.g.f.trans g.f, g.s, fun a o h1 h2 => ?_⟩, r.rep.len, fun i d e => ?_, fun i ds e => ?_, r.rep.ne⟩, r.h0, r.self, fx, hx, fr⟩
  · obtain ⟨q1, q2⟩ := r.rep.g.o a o h1 h2
    exact g.o a o q1 (by rw [del_ne (ne_of_none h2 r.h0)]; exact q2)
  · obtain ⟨y, h1, h2⟩ := r.rep.im i d e
    exact ⟨y, h1, h2.same g.f⟩
  · obtain ⟨a, xs, h1, h2, h3, h4, h5⟩ := r.rep.ow i ds e
    have ne : a ≠ x := by
      rintro rfl
      rw [r.hx] at h4
      cases h4
    obtain ⟨q1, q2⟩ := g.o a _ h3 (by rw [del_ne ne]; exact h4)
    exact ⟨a, xs, h1, h2, q1, q2, h5.same g.f⟩
theorem RepI.set {f : Str} {y : V} {d : D} (r : RepI K mg x dx C F0 H0 F H σ ρ fs fl) (hn : ¬ (fl.map (·.1)).contains f = true) (ry : Rp K mg F y d) : RepI K mg x dx C F0 H0 F (upd H x (.ins C dx (putF f y fs))) σ ρ (putF f y fs) (fl ++ [(f, d)]) := by
  refine r.go ⟨Same.refl _, fun a o e => ?_, fun a o h1 h2 => ⟨h1, ?_⟩⟩ r.fx upd_same (r.fr.put hn ry)
  · rw [upd_ne (ne_of_none e r.fx)]; exact r.rep.g.s a o e
  · have ne : a ≠ x := by
      rintro rfl
      rw [del_at] at h2
      cases h2
    rw [del_ne ne] at h2
    rw [upd_ne ne]; exact h2
end
noncomputable def AnsI (K : PySem.W.Frag) (mg : Str → Option Value) (E : XK) (x dx C : Addr) (F0 H0 : Hp) (r : Res Fs) (w : Ends → Prop) : Prop :=
  match r with
  | .ok fl => ∀ D : Ends, (∀ F' H' σ' fs, Gr F0 H0 F' H' → F' x = none → H' x = some (.ins C dx fs) → FR K mg F' fs fl → D.nx σ' H') → w D
  | .ex c => ∀ D : Ends, (∀ F' H' fs Ce, Gr F0 H0 F' H' → F' x = none → H' x = some (.ins C dx fs) → mg c = some (.ref Ce) → E (.ref Ce) none H') → w D
  | .bad => True
noncomputable def SSi (K : PySem.W.Frag) (mg : Str → Option Value) (E : XK) (cs : List Str) (t : TS) (m : MSi) : Prop := ∀ x dx C c F0 H0 F H σ ρ fs fl, cs.contains c = true → mg c = some (.ref C) → RepI K mg x dx C F0 H0 F H σ ρ fs fl → AnsI K mg E x dx C F0 H0 (m ρ fl) (fun D => t D σ H)
structure DSi (X : Cx) (E : XK) (cs : List Str) (sts : List Stmt) (t : TS) (m : MSi) : Prop where
  p : PSs X sts t
  s : SSi X.K X.mg E cs t m
section
variable {K : PySem.W.Frag} {mg : Str → Option Value} {E : XK} {x dx C : Addr} {F0 H0 F H : Hp} {α β : Type} {R : Hp → β → α → Prop} {σ : St} {ρ : Ev} {fs : List (Str × V)} {fl : Fs}
end
section
variable {X : Cx} {E : XK} {cs cs' : List Str} {rest : List Stmt} {u : TS} {k : MSi} {e o : Expr} {es : List Expr} {te : TE} {me : ME} {t : TA} {ma : MA} {spos pos apos p p' : Pos} {f x y m : Str} {n j l : Nat}
end
structure ClsM (K : PySem.W.Frag) (C : Addr) (m : Str) (f : Addr) : Prop where
  sg : PySem.W.specialIn K (.ref C) "__getattribute__" = some (some (.builtin "type.__getattribute__"))
  rd : ∃ mc, PySem.W.readsIn K C mc = true ∧ PySem.W.findCls K (.ref C) mc m = some (.val (.ref f))
  hh : PySem.W.handedIn (.ref f) = true
  kp : PySem.W.keepIn K (.ref f) = true
section
variable {X : Cx} {E : XK} {k : Nat} {y m : Str} {C f : Addr} {fd : FuncData} {ps : List Str} {sp : Sp} {e : Expr} {es : List Expr} {t : TA} {p pos apos : Pos} {pl : Sem Bool}
end
structure CalS (P : Program) (w : World) (K : PySem.W.Frag) (mg : Str → Option Value) (base : Heap) (k : Nat) (y m : Str) (n : Nat) (cs : List Str) (g : List D → Fs → Res Fs) : Prop where
  ex : ∃ (C f : Addr) (fd : FuncData) (ps : List Str), mg y = some (.ref C) ∧ ClsM K C m f ∧ FnOk P w K mg base (CXR P w) k f fd ps (spI K mg n cs g) ∧ Binds K fd ps []
section
variable {X : Cx} {E : XK} {cs cs' : List Str} {rest : List Stmt} {u : TS} {k : MSi} {e : Expr} {es : List Expr} {t : TA} {ma : MA} {spos pos apos p p' : Pos} {x y m : Str} {n j l : Nat} {g : List D → Fs → Res Fs} {pl : Sem Bool}
end
section
variable {P : Program} {w : World} {K : PySem.W.Frag} {mg : Str → Option Value} {base : Heap} {N ps : List Str} {x qual : Str} {f : Addr} {cs : List Str}
end
structure CalI (P : Program) (w : World) (K : PySem.W.Frag) (mg : Str → Option Value) (base : Heap) (k : Nat) (c : Str) (n : Nat) (cs : List Str) (g : List D → Fs → Res Fs) : Prop where
  ex : ∃ (C f : Addr) (fd : FuncData) (ps : List Str), mg c = some (.ref C) ∧ Mk K C f ∧ FnOk P w K mg base (CXR P w) k f fd ps (spI K mg n cs g) ∧ Binds K fd ps [] ∧ cs.contains c = true
section
variable {K : PySem.W.Frag} {mg : Str → Option Value} {E : XK} {c : Str} {n : Nat} {cs : List Str} {g : List D → Fs → Res Fs} {t : TA} {ma : MA}
end
section
variable {X : Cx} {E : XK} {k l n : Nat} {c : Str} {cs : List Str} {g : List D → Fs → Res Fs} {e : Expr} {es : List Expr} {t : TA} {ma : MA} {p pos : Pos}
end
section
variable {X : Cx} {N : List Str} {scope : Scope} {cl : List (Str × Addr)} {C' : Addr} {s : Shared} {H : Hp} {fp : List Addr} {pn : List (Addr × Obj)} {k l n : Nat} {c : Str} {cs : List Str} {g : List D → Fs → Res Fs} {e : Expr} {es : List Expr} {t : TA} {ma : MA} {p pos : Pos}
end
end L2.Ds

namespace Dl
open PySem
end Dl

namespace L2
open PySem PySem.Spec PyProof.Rows
end L2
namespace L2.Ds
open PySem PySem.Spec PyProof.Rows Dl
section
variable {K : PySem.W.Frag} {mg : Str → Option Value} {E : XK} {tk te : TE} {mk me : ME}
end
section
variable {X : Cx} {E : XK} {k' e : Expr} {tk te : TE} {mk me : ME} {x : Str} {np apos cpos spos : Pos}
end
end L2.Ds

namespace Dl
open PySem
end Dl

namespace L2
open PySem PySem.Spec PyProof.Rows
end L2
namespace L2.Ds
open PySem PySem.Spec PyProof.Rows PySem.Calls Dl
section
variable {X : Cx} {E : XK} {a b : Expr} {ta tb : TE} {ma mb : ME} {pos : Pos} {k : Nat}
end
end L2.Ds

namespace Dl
open PySem
end Dl

namespace L2
open PySem PySem.Spec PyProof.Rows PySem.Calls
section
variable {X : Cx} {k : Nat} {x : Str} {C f : Addr} {fd : FuncData} {ps : List Str} {sp : Sp} {t : TA} {e : Expr} {es : List Expr} {p cpos epos : Pos}
end
end L2
namespace L2.Ds
open PySem PySem.Spec PyProof.Rows PySem.Calls Dl
end L2.Ds

namespace L2
open PySem PySem.Spec PyProof.Rows
structure RoomH (k : Nat) (A : Around) : Prop where
  dp : A.depth + 3 * k + 5 < recursionLimit
  un : A.units + 16 * k + 200 < cLine
theorem Room.h {k : Nat} {A : Around} (r : Room k A) (v : Option Value) : RoomH k (A.mark v) := ⟨r.dp, r.un⟩
theorem RoomH.mono {j k : Nat} {A : Around} (r : RoomH k A) (h : j ≤ k) : RoomH j A := ⟨by have := r.dp; omega, by have := r.un; omega⟩
structure FnOkH (P : Program) (w : World) (K : PySem.W.Frag) (mg : Str → Option Value) (base : Heap) (CX : CXT) (k : Nat) (f : Addr) (fd : FuncData) (ps : List Str) (sp : Sp) : Prop where
  len : ∀ vs H Q E, sp vs H Q E → vs.length = ps.length
  run : ∀ (A : Around) (outer : List Env) (s : Shared) (H : Hp) (args : Args) (us : List Value) (vs : List V) (Q : VK) (E : XK), RoomH k A → Env0 P w K mg base A outer s H → BindsTo s fd args (ps.zip us) → Vals vs us → sp vs H Q E →
    codeAny (model P w) A (.call (.ref f) args) (CR CX outer P w H s Q E) s
section
variable {CX : CXT} {P : Program} {w : World} {K : PySem.W.Frag} {mg : Str → Option Value} {base : Heap} {N ps : List Str} {qual : Str} {scope : Scope} {f : Addr} {cd : Value} {A : Around} {outer : List Env} {s s1 : Shared} {H : Hp} {E : XK} {us : List Value} {vs : List V}
end
end L2
namespace L2.Ds
open PySem PySem.Spec PyProof.Rows PySem.Calls Dl
section
variable {P : Program} {w : World} {K : PySem.W.Frag} {mg : Str → Option Value} {base : Heap} {N ps : List Str} {x : Str} {f : Addr}
end
structure CalH (P : Program) (w : World) (K : PySem.W.Frag) (mg : Str → Option Value) (base : Heap) (n : Nat) (x : Str) (ps : List Str) (m : List D → Res D) : Prop where
  ex : ∃ (f : Addr) (fd : FuncData), FnOkH P w K mg base (CXR P w) n f fd ps (spD K mg ps.length m) ∧ Binds K fd ps [] ∧ PySem.W.keepIn K (.ref f) = true ∧ mg x = some (.ref f)
section
variable {X : Cx} {k l n : Nat} {x : Str} {ps : List Str} {f : List D → Res D} {p pos : Pos} {e : Expr} {es : List Expr} {t : TA} {m : MA} {a : Addr}
end
end L2.Ds

namespace Dl
open PySem
noncomputable def rowsD : D → Bool
  | .lst rows => rowsOk rows
  | _ => false
end Dl

namespace HT
open PySem PyProof.Rows
section
variable {prog : Program} {w : World} {A : Around} {E : Value → Shared → Prop} {s : Shared}
end
end HT
namespace L2
open PySem PySem.Spec PyProof.Rows
section
variable {X : Cx} {e st : Expr} {te ts : TE} {p2 pos : Pos}
end
end L2
namespace L2.Ds
open PySem PySem.Spec PyProof.Rows Dl
structure TabI (K : PySem.W.Frag) (mg : Str → Option Value) (tab : List (Str × Str × Bool)) : Prop where
  c : ∀ e ∈ tab, ∃ D C, mg e.1 = some (.ref D) ∧ mg e.2.1 = some (.ref C) ∧ Cls K D ∧ PySem.W.findIn K (.ref D) "__class__" = some (some (.builtin "object.__class__")) ∧
    PySem.W.specialIn K (.builtin "object.__class__") "__get__" = some (some (.builtin "getset_descriptor.__get__")) ∧ PySem.W.takesIn K (.builtin "object.__class__") = some true ∧ PySem.W.mroIn K D (.type "object") = some true ∧ PySem.W.kitOne K (.ref D) (.ref C) = some e.2.2
theorem TabI.nil {K : PySem.W.Frag} {mg : Str → Option Value} : TabI K mg [] := ⟨fun _ h => by cases h⟩
theorem TabI.cons {K : PySem.W.Frag} {mg : Str → Option Value} {a b : Str} {v : Bool} {tab : List (Str × Str × Bool)} {D C : Addr} (h1 : mg a = some (.ref D)) (h2 : mg b = some (.ref C)) (h3 : Cls K D) (h4 : PySem.W.findIn K (.ref D) "__class__" = some (some (.builtin "object.__class__")))
    (h5 : PySem.W.specialIn K (.builtin "object.__class__") "__get__" = some (some (.builtin "getset_descriptor.__get__"))) (h6 : PySem.W.takesIn K (.builtin "object.__class__") = some true) (h7 : PySem.W.mroIn K D (.type "object") = some true) (h8 : PySem.W.kitOne K (.ref D) (.ref C) = some v) (r : TabI K mg tab) : TabI K mg ((a, b, v) :: tab) :=
  ⟨fun e he => by
    rcases List.mem_cons.mp he with rfl | he
    · exact ⟨D, C, h1, h2, h3, h4, h5, h6, h7, h8⟩
    · exact r.c e he⟩
noncomputable def Fr (K : PySem.W.Frag) (mg : Str → Option Value) (G F : Hp) (x : V) (d : D) : Prop := ∀ G' : Hp, (∀ b o, F b = some o → (G b = none ∨ ∀ xs, o ≠ .lst xs) → G' b = some o) → Rp K mg G' x d
section
variable {K : PySem.W.Frag} {mg : Str → Option Value} {E : XK} {G Gb F F' F0 H0 H : Hp} {x : V} {d : D} {σ : St} {ρ : Ev}
theorem Fr.rp (h : Fr K mg G F x d) : Rp K mg F x d := h F fun _ _ e _ => e
theorem Fr.up (h : Fr K mg G F x d) (s : Same F F') : Fr K mg G F' x d := fun G' k => h G' fun b o e z => k b o (s b o e) z
theorem Fr.noL (h : Rp K mg F x d) (p : noL d = true) : Fr K mg G F x d := fun G' k => rp_noL (fun b o e z => k b o e (.inr z)) h p
noncomputable def RowsR (K : PySem.W.Frag) (mg : Str → Option Value) (Fb F' : Hp) (x : V) (d : D) : Prop := ∃ p xs rows, x = .ref p ∧ d = .lst rows ∧ Fb p = none ∧ F' p = some (.lst xs) ∧ xs.length = rows.length ∧ ∀ (k : Nat) (y : V) (d : D), xs[k]? = some y → rows[k]? = some d → RowR K mg Fb F' y d
theorem RowsR.fr (h : RowsR K mg G F x d) (hr : rowsD d = true) : Fr K mg G F x d := by
  obtain ⟨p, xs, rows, rfl, rfl, h1, h2, h3, h4⟩ := h
  intro G' k
  refine .lst (SqL.of (k p _ h2 (.inl h1))) (rps_of h3 fun m y e a b => ?_)
  obtain ⟨q, ys, cs, rfl, rfl, q1, q2, q3⟩ := h4 m y e a b
  obtain ⟨_, ec, hn⟩ := rowsOk_get (show rowsOk rows = true from hr) b
  cases ec
  exact .lst (SqL.of (k q _ q2 (.inl q1))) (rps_noL (fun b o e z => k b o e (.inr z)) q3 hn)
noncomputable def SEr (K : PySem.W.Frag) (mg : Str → Option Value) (E : XK) (t : TE) (m : ME) : Prop := ∀ Fb F0 H0 F H σ ρ, Rep K mg F0 H0 F H σ ρ → Same Fb F → Ans mg E (RowsR K mg Fb) F H (m ρ) (t σ H)
noncomputable def SEf (K : PySem.W.Frag) (mg : Str → Option Value) (E : XK) (t : TE) (m : ME) : Prop := ∀ F0 H0 F H σ ρ, Rep K mg F0 H0 F H σ ρ → Ans mg E (Fr K mg F) F H (m ρ) (t σ H)
noncomputable def spR (K : PySem.W.Frag) (mg : Str → Option Value) (k : Nat) (f : List D → Res D) : Sp := fun vs H Q E => vs.length = k ∧ ∃ F ds, Same F H ∧ Rps K mg F vs ds ∧ f ds ≠ .bad ∧
  (∀ d, f ds = .ok d → ∀ F' H' x, Gr F H F' H' → RowsR K mg F F' x d → Q x H') ∧ (∀ c, f ds = .ex c → ∀ F' H' C, Gr F H F' H' → mg c = some (.ref C) → E (.ref C) none H')
noncomputable def AnsR (K : PySem.W.Frag) (mg : Str → Option Value) (E : XK) (F0 H0 : Hp) (r : Res D) (w : Ends → Prop) : Prop :=
  match r with
  | .ok d => ∀ D : Ends, (∀ F' H' x, Gr F0 H0 F' H' → RowsR K mg F0 F' x d → D.rt x H') → w D
  | .ex c => ∀ D : Ends, (∀ F' H' C, Gr F0 H0 F' H' → mg c = some (.ref C) → E (.ref C) none H') → w D
  | .bad => True
end
structure DEr (X : Cx) (E : XK) (e : Expr) (t : TE) (m : ME) : Prop where
  p : PE X e t
  s : SEr X.K X.mg E t m
structure DEf (X : Cx) (E : XK) (e : Expr) (t : TE) (m : ME) : Prop where
  p : PE X e t
  s : SEf X.K X.mg E t m
structure CalR (P : Program) (w : World) (K : PySem.W.Frag) (mg : Str → Option Value) (base : Heap) (k : Nat) (x : Str) (ps : List Str) (m : List D → Res D) : Prop where
  ex : ∃ (f : Addr) (fd : FuncData), FnOk P w K mg base (CXR P w) k f fd ps (spR K mg ps.length m) ∧ Binds K fd ps [] ∧ PySem.W.keepIn K (.ref f) = true ∧ mg x = some (.ref f)
structure DSr (X : Cx) (E : XK) (sts : List Stmt) (t : TS) (m : ME) : Prop where
  p : PSs X sts t
  s : ∀ F0 H0 F H σ ρ, Rep X.K X.mg F0 H0 F H σ ρ → AnsR X.K X.mg E F0 H0 (m ρ) (fun D => t D σ H)
section
variable {X : Cx} {E : XK} {k l n i nn : Nat} {x y : Str} {ps : List Str} {f : List D → Res D} {t : TA} {m : MA} {e : Expr} {es : List Expr} {p pos pos' spos : Pos}
end
section
variable {X : Cx} {E : XK} {tg iter elt : Expr} {ts : List Expr} {me : ME} {na : MB} {pos spos : Pos}
end
section
variable {P : Program} {w : World} {K : PySem.W.Frag} {mg : Str → Option Value} {base : Heap} {N ps : List Str} {x : Str}
end
structure FRt (K : PySem.W.Frag) (mg : Str → Option Value) (G F : Hp) (fs : List (Str × V)) (fl : Fs) : Prop where
  nm : fs.map (·.1) = fl.map (·.1)
  rv : Rps K mg F (fs.map (·.2)) (fl.map (·.2))
  nw : ∀ (k : Nat) (x : V) (d : D), (fs.map (·.2))[k]? = some x → (fl.map (·.2))[k]? = some d → Fr K mg G F x d
theorem FRt.same {K : PySem.W.Frag} {mg : Str → Option Value} {G F F' : Hp} {fs : List (Str × V)} {fl : Fs} (h : FRt K mg G F fs fl) (s : Same F F') : FRt K mg G F' fs fl := ⟨h.nm, h.rv.same s, fun k x d h1 h2 => (h.nw k x d h1 h2).up s⟩
theorem FRt.len {K : PySem.W.Frag} {mg : Str → Option Value} {G F : Hp} {fs : List (Str × V)} {fl : Fs} (h : FRt K mg G F fs fl) : fs.length = fl.length := by
  have := congrArg List.length h.nm
  rwa [List.length_map, List.length_map] at this
theorem FRt.put {K : PySem.W.Frag} {mg : Str → Option Value} {G F : Hp} {fs : List (Str × V)} {fl : Fs} {f : Str} {y : V} {d : D} (h : FRt K mg G F fs fl) (hn : ¬ (fl.map (·.1)).contains f = true) (ry : Fr K mg G F y d) : FRt K mg G F (putF f y fs) (fl ++ [(f, d)]) := by
  rw [putF_new (by rw [h.nm]; exact hn)]
  have hl : (fs.map (·.2)).length = (fl.map (·.2)).length := by rw [List.length_map, List.length_map]; exact h.len
  refine ⟨by rw [List.map_append, List.map_append, h.nm]; rfl, ?_, fun k x e h1 h2 => ?_⟩
  · rw [List.map_append, List.map_append]
    exact Rps.app (.cons ry.rp .nil) h.rv
  · rw [List.map_append] at h1 h2
    by_cases hk : k < (fs.map (·.2)).length
    · rw [List.getElem?_append_left hk] at h1
      rw [List.getElem?_append_left (by omega)] at h2
      exact h.nw k x e h1 h2
    · rw [List.getElem?_append_right (by omega)] at h1
      rw [List.getElem?_append_right (by omega)] at h2
      have hk0 : k - (fs.map (·.2)).length = 0 := by
        have := (List.getElem?_eq_some_iff.mp h1).1
        simp at this ⊢
        omega
      rw [hk0] at h1
      rw [show k - (fl.map (·.2)).length = 0 by omega] at h2
      cases h1
      cases h2
      exact ry
noncomputable def spJ (K : PySem.W.Frag) (mg : Str → Option Value) (n : Nat) (cs : List Str) (m : List D → Fs → Res Fs) : Sp := fun vs H Q E => vs.length = n + 1 ∧ ∃ (x dx C : Addr) (c : Str) (ys : List V) (fs : List (Str × V)) (G F : Hp) (ds : List D) (fl : Fs), Same G F ∧
  vs = .ref x :: ys ∧ cs.contains c = true ∧ mg c = some (.ref C) ∧ H x = some (.ins C dx fs) ∧ F x = none ∧ Same F H ∧ Rps K mg F ys ds ∧ FRt K mg G F fs fl ∧ m ds fl ≠ .bad ∧
  (∀ fl', m ds fl = .ok fl' → ∀ F' H' fs', Gr F (del H x) F' H' → F' x = none → H' x = some (.ins C dx fs') → FRt K mg G F' fs' fl' → Q .non H') ∧
  (∀ e, m ds fl = .ex e → ∀ F' H' fs' Ce, Gr F (del H x) F' H' → F' x = none → H' x = some (.ins C dx fs') → mg e = some (.ref Ce) → E (.ref Ce) none H')
structure RepJ (K : PySem.W.Frag) (mg : Str → Option Value) (G : Hp) (x dx C : Addr) (F0 H0 F H : Hp) (σ : St) (ρ : Ev) (fs : List (Str × V)) (fl : Fs) : Prop where
  rep : Rep K mg F0 H0 F H σ ρ
  h0 : H0 x = none
  self : σ[0]? = some (some (.ref x))
  fx : F x = none
  hx : H x = some (.ins C dx fs)
  fr : FRt K mg G F fs fl
  sg : Same G F
section
variable {K : PySem.W.Frag} {mg : Str → Option Value} {x dx C : Addr} {G F0 H0 F H F' H' : Hp} {σ : St} {ρ : Ev} {fs fs' : List (Str × V)} {fl fl' : Fs}
theorem RepJ.gr (r : RepJ K mg G x dx C F0 H0 F H σ ρ fs fl) (g : Gr F H F' H') : RepJ K mg G x dx C F0 H0 F' H' σ ρ fs fl := by
  obtain ⟨q1, q2⟩ := g.o x _ r.fx r.hx
  exact ⟨r.rep.gr g, r.h0, r.self, q1, q2, r.fr.same g.f, r.sg.trans g.f⟩
theorem RepJ.go (r : RepJ K mg G x dx C F0 H0 F H σ ρ fs fl) (g : Gr F (del H x) F' H') (fx : F' x = none) (hx : H' x = some (.ins C dx fs')) (fr : FRt K mg G F' fs' fl') : RepJ K mg G x dx C F0 H0 F' H' σ ρ fs' fl' := by
  refine ⟨⟨⟨r.rep.g.f.trans g.f, g.s, fun a o h1 h2 => ?_⟩, r.rep.len, fun i d e => ?_, fun i ds e => ?_, r.rep.ne⟩, r.h0, r.self, fx, hx, fr, r.sg.trans g.f⟩
  · obtain ⟨q1, q2⟩ := r.rep.g.o a o h1 h2
    exact g.o a o q1 (by rw [del_ne (ne_of_none h2 r.h0)]; exact q2)
  · obtain ⟨y, h1, h2⟩ := r.rep.im i d e
    exact ⟨y, h1, h2.same g.f⟩
  · obtain ⟨a, xs, h1, h2, h3, h4, h5⟩ := r.rep.ow i ds e
    have ne : a ≠ x := by
      rintro rfl
      rw [r.hx] at h4
      cases h4
    obtain ⟨q1, q2⟩ := g.o a _ h3 (by rw [del_ne ne]; exact h4)
    exact ⟨a, xs, h1, h2, q1, q2, h5.same g.f⟩
theorem RepJ.set {f : Str} {y : V} {d : D} (r : RepJ K mg G x dx C F0 H0 F H σ ρ fs fl) (hn : ¬ (fl.map (·.1)).contains f = true) (ry : Fr K mg G F y d) : RepJ K mg G x dx C F0 H0 F (upd H x (.ins C dx (putF f y fs))) σ ρ (putF f y fs) (fl ++ [(f, d)]) := by
  refine r.go ⟨Same.refl _, fun a o e => ?_, fun a o h1 h2 => ⟨h1, ?_⟩⟩ r.fx upd_same (r.fr.put hn ry)
  · rw [upd_ne (ne_of_none e r.fx)]; exact r.rep.g.s a o e
  · have ne : a ≠ x := by
      rintro rfl
      rw [del_at] at h2
      cases h2
    rw [del_ne ne] at h2
    rw [upd_ne ne]; exact h2
end
noncomputable def AnsJ (K : PySem.W.Frag) (mg : Str → Option Value) (E : XK) (G : Hp) (x dx C : Addr) (F0 H0 : Hp) (r : Res Fs) (w : Ends → Prop) : Prop :=
  match r with
  | .ok fl => ∀ D : Ends, (∀ F' H' σ' fs, Gr F0 H0 F' H' → F' x = none → H' x = some (.ins C dx fs) → FRt K mg G F' fs fl → D.nx σ' H') → w D
  | .ex c => ∀ D : Ends, (∀ F' H' fs Ce, Gr F0 H0 F' H' → F' x = none → H' x = some (.ins C dx fs) → mg c = some (.ref Ce) → E (.ref Ce) none H') → w D
  | .bad => True
noncomputable def SSj (K : PySem.W.Frag) (mg : Str → Option Value) (E : XK) (cs : List Str) (t : TS) (m : MSi) : Prop := ∀ G x dx C c F0 H0 F H σ ρ fs fl, cs.contains c = true → mg c = some (.ref C) → RepJ K mg G x dx C F0 H0 F H σ ρ fs fl → AnsJ K mg E G x dx C F0 H0 (m ρ fl) (fun D => t D σ H)
structure DSj (X : Cx) (E : XK) (cs : List Str) (sts : List Stmt) (t : TS) (m : MSi) : Prop where
  p : PSs X sts t
  s : SSj X.K X.mg E cs t m
section
variable {K : PySem.W.Frag} {mg : Str → Option Value} {E : XK} {G : Hp} {x dx C : Addr} {F0 H0 F H : Hp} {α β : Type} {R : Hp → β → α → Prop} {σ : St} {ρ : Ev} {fs : List (Str × V)} {fl : Fs}
end
section
variable {X : Cx} {E : XK} {cs cs' : List Str} {rest : List Stmt} {u : TS} {k : MSi} {e o : Expr} {es : List Expr} {te : TE} {me : ME} {t : TA} {ma : MA} {spos pos apos p p' : Pos} {f x y m : Str} {n j l : Nat}
end
structure CalSJ (P : Program) (w : World) (K : PySem.W.Frag) (mg : Str → Option Value) (base : Heap) (k : Nat) (y m : Str) (n : Nat) (cs : List Str) (g : List D → Fs → Res Fs) : Prop where
  ex : ∃ (C f : Addr) (fd : FuncData) (ps : List Str), mg y = some (.ref C) ∧ ClsM K C m f ∧ FnOk P w K mg base (CXR P w) k f fd ps (spJ K mg n cs g) ∧ Binds K fd ps []
section
variable {X : Cx} {E : XK} {cs cs' : List Str} {rest : List Stmt} {u : TS} {k : MSi} {e : Expr} {es : List Expr} {t : TA} {ma : MA} {spos pos apos p p' : Pos} {x y m : Str} {n j l : Nat} {g : List D → Fs → Res Fs} {pl : Sem Bool}
end
section
variable {P : Program} {w : World} {K : PySem.W.Frag} {mg : Str → Option Value} {base : Heap} {N ps : List Str} {x qual : Str} {f : Addr} {cs : List Str}
end
structure CalJ (P : Program) (w : World) (K : PySem.W.Frag) (mg : Str → Option Value) (base : Heap) (k : Nat) (c : Str) (n : Nat) (cs : List Str) (g : List D → Fs → Res Fs) : Prop where
  ex : ∃ (C f : Addr) (fd : FuncData) (ps : List Str), mg c = some (.ref C) ∧ Mk K C f ∧ FnOk P w K mg base (CXR P w) k f fd ps (spJ K mg n cs g) ∧ Binds K fd ps [] ∧ cs.contains c = true
section
variable {K : PySem.W.Frag} {mg : Str → Option Value} {E : XK} {c : Str} {n : Nat} {cs : List Str} {g : List D → Fs → Res Fs} {t : TA} {ma : MA}
end
section
variable {X : Cx} {E : XK} {k l n : Nat} {c : Str} {cs : List Str} {g : List D → Fs → Res Fs} {e : Expr} {es : List Expr} {t : TA} {ma : MA} {p pos : Pos}
end
end L2.Ds

namespace Dl
open PySem
end Dl

namespace L2.Ds
open PySem PySem.Spec PyProof.Rows Dl
section
variable {K : PySem.W.Frag} {mg : Str → Option Value} {E : XK} {G Gb F F' F0 H0 H : Hp} {x : V} {d : D} {σ : St} {ρ : Ev}
theorem RowsR.up (h : RowsR K mg G F x d) (s : Same F F') : RowsR K mg G F' x d := by
  obtain ⟨p, xs, rows, e1, e2, h1, h2, h3, h4⟩ := h
  exact ⟨p, xs, rows, e1, e2, h1, s _ _ h2, h3, fun k y d a b => (h4 k y d a b).up s⟩
theorem RowsR.del {a : Addr} {xs : List V} (h : RowsR K mg G F x d) (hr : rowsD d = true) (ha : G a = some (.lst xs)) (hf : F a = some (.lst xs)) : RowsR K mg G (del F a) x d := by
  obtain ⟨p, zs, rows, rfl, rfl, h1, h2, h3, h4⟩ := h
  have np : ∀ {b : Addr}, G b = none → b ≠ a := fun {b} z e => by rw [e, ha] at z; cases z
  refine ⟨p, zs, rows, rfl, rfl, h1, by rw [del_ne (np h1)]; exact h2, h3, fun m y e z1 z2 => ?_⟩
  obtain ⟨q, ys, cs, rfl, rfl, q1, q2, q3⟩ := h4 m y e z1 z2
  obtain ⟨_, ec, hn⟩ := rowsOk_get (show rowsOk rows = true from hr) z2
  cases ec
  refine ⟨q, ys, cs, rfl, rfl, q1, by rw [del_ne (np q1)]; exact q2, rps_noL (fun b o e z => ?_) q3 hn⟩
  rw [del_ne]
  · exact e
  · rintro rfl
    rw [hf] at e
    cases e
    exact z _ rfl
theorem RowsR.rp (h : RowsR K mg G F x d) : Rp K mg F x d := by
  obtain ⟨p, xs, rows, rfl, rfl, h1, h2, h3, h4⟩ := h
  refine .lst (SqL.of h2) (rps_of h3 fun m y e a b => ?_)
  obtain ⟨q, ys, cs, rfl, rfl, q1, q2, q3⟩ := h4 m y e a b
  exact .lst (SqL.of q2) q3
noncomputable def ChR (K : PySem.W.Frag) (mg : Str → Option Value) (Fb F' : Hp) (x : V) (d : D) : Prop := ∃ p xs ds, x = .ref p ∧ d = .lst ds ∧ Fb p = none ∧ F' p = some (.lst xs) ∧ xs.length = ds.length ∧ ∀ (k : Nat) (y : V) (e : D), xs[k]? = some y → ds[k]? = some e → RowsR K mg Fb F' y e
theorem ChR.rp (h : ChR K mg G F x d) : Rp K mg F x d := by
  obtain ⟨p, xs, ds, rfl, rfl, h1, h2, h3, h4⟩ := h
  exact .lst (SqL.of h2) (rps_of h3 fun m y e a b => (h4 m y e a b).rp)
noncomputable def spC (K : PySem.W.Frag) (mg : Str → Option Value) (k : Nat) (f : List D → Res D) : Sp := fun vs H Q E => vs.length = k ∧ ∃ F ds, Same F H ∧ Rps K mg F vs ds ∧ f ds ≠ .bad ∧
  (∀ d, f ds = .ok d → ∀ F' H' x, Gr F H F' H' → ChR K mg F F' x d → Q x H') ∧ (∀ c, f ds = .ex c → ∀ F' H' C, Gr F H F' H' → mg c = some (.ref C) → E (.ref C) none H')
noncomputable def AnsC (K : PySem.W.Frag) (mg : Str → Option Value) (E : XK) (F0 H0 : Hp) (r : Res D) (w : Ends → Prop) : Prop :=
  match r with
  | .ok d => ∀ D : Ends, (∀ F' H' x, Gr F0 H0 F' H' → ChR K mg F0 F' x d → D.rt x H') → w D
  | .ex c => ∀ D : Ends, (∀ F' H' C, Gr F0 H0 F' H' → mg c = some (.ref C) → E (.ref C) none H') → w D
  | .bad => True
noncomputable def SEc (K : PySem.W.Frag) (mg : Str → Option Value) (E : XK) (t : TE) (m : ME) : Prop := ∀ Fb F0 H0 F H σ ρ, Rep K mg F0 H0 F H σ ρ → Same Fb F → Ans mg E (ChR K mg Fb) F H (m ρ) (t σ H)
end
structure DEc (X : Cx) (E : XK) (e : Expr) (t : TE) (m : ME) : Prop where
  p : PE X e t
  s : SEc X.K X.mg E t m
structure CalC (P : Program) (w : World) (K : PySem.W.Frag) (mg : Str → Option Value) (base : Heap) (k : Nat) (x : Str) (ps : List Str) (m : List D → Res D) : Prop where
  ex : ∃ (f : Addr) (fd : FuncData), FnOk P w K mg base (CXR P w) k f fd ps (spC K mg ps.length m) ∧ Binds K fd ps [] ∧ PySem.W.keepIn K (.ref f) = true ∧ mg x = some (.ref f)
structure DSc (X : Cx) (E : XK) (sts : List Stmt) (t : TS) (m : ME) : Prop where
  p : PSs X sts t
  s : ∀ F0 H0 F H σ ρ, Rep X.K X.mg F0 H0 F H σ ρ → AnsC X.K X.mg E F0 H0 (m ρ) (fun D => t D σ H)
section
variable {X : Cx} {E : XK} {k l n i nn : Nat} {x y : Str} {ps : List Str} {f : List D → Res D} {t : TA} {m : MA} {e : Expr} {es : List Expr} {p pos pos' spos : Pos}
end
section
variable {P : Program} {w : World} {K : PySem.W.Frag} {mg : Str → Option Value} {base : Heap} {N ps : List Str} {x : Str}
end
section
variable {X : Cx} {E : XK} {i : Nat} {y : Str} {te tv : TE} {me mv : ME} {e c' ev : Expr} {sa : TT} {na : MB} {kb kr : MS} {ub ur : TS} {body rest : List Stmt}
end
end L2.Ds

namespace Dl
open PySem
end Dl
namespace Dl
open PySem
end Dl

namespace L2.Ds
open PySem PySem.Spec PyProof.Rows Dl
section
variable {K : PySem.W.Frag} {mg : Str → Option Value} {E : XK} {F0 H0 F H : Hp} {σ : St} {ρ : Ev}
end
end L2.Ds

namespace L2.Ds
open PySem PySem.Spec PyProof.Rows Dl
section
variable {K : PySem.W.Frag} {mg : Str → Option Value} {E : XK} {G Gb F F' F0 H0 H : Hp} {x : V} {d : D} {σ : St} {ρ : Ev}
noncomputable def TwoR (K : PySem.W.Frag) (mg : Str → Option Value) (Fb F' : Hp) (x : V) (d : D) : Prop := ∃ p q0 q1 xs ys as bs, x = .ref p ∧ d = .tup [.lst as, .lst bs] ∧ F' p = some (.tup [.ref q0, .ref q1]) ∧ q0 ≠ q1 ∧ Fb q0 = none ∧ Fb q1 = none ∧ F' q0 = some (.lst xs) ∧ F' q1 = some (.lst ys) ∧ Rps K mg F' xs as ∧ Rps K mg F' ys bs
theorem TwoR.rp (h : TwoR K mg G F x d) : Rp K mg F x d := by
  obtain ⟨p, q0, q1, xs, ys, as, bs, rfl, rfl, h1, h2, h3, h4, h5, h6, h7, h8⟩ := h
  exact .tup (SqT.of h1) (.cons (.lst (SqL.of h5) h7) (.cons (.lst (SqL.of h6) h8) .nil))
noncomputable def spT (K : PySem.W.Frag) (mg : Str → Option Value) (k : Nat) (f : List D → Res D) : Sp := fun vs H Q E => vs.length = k ∧ ∃ F ds, Same F H ∧ Rps K mg F vs ds ∧ f ds ≠ .bad ∧
  (∀ d, f ds = .ok d → ∀ F' H' x, Gr F H F' H' → TwoR K mg F F' x d → Q x H') ∧ (∀ c, f ds = .ex c → ∀ F' H' C, Gr F H F' H' → mg c = some (.ref C) → E (.ref C) none H')
noncomputable def AnsT (K : PySem.W.Frag) (mg : Str → Option Value) (E : XK) (F0 H0 : Hp) (r : Res D) (w : Ends → Prop) : Prop :=
  match r with
  | .ok d => ∀ D : Ends, (∀ F' H' x, Gr F0 H0 F' H' → TwoR K mg F0 F' x d → D.rt x H') → w D
  | .ex c => ∀ D : Ends, (∀ F' H' C, Gr F0 H0 F' H' → mg c = some (.ref C) → E (.ref C) none H') → w D
  | .bad => True
noncomputable def SEt (K : PySem.W.Frag) (mg : Str → Option Value) (E : XK) (t : TE) (m : ME) : Prop := ∀ Fb F0 H0 F H σ ρ, Rep K mg F0 H0 F H σ ρ → Same Fb F → Ans mg E (TwoR K mg Fb) F H (m ρ) (t σ H)
end
structure DEt (X : Cx) (E : XK) (e : Expr) (t : TE) (m : ME) : Prop where
  p : PE X e t
  s : SEt X.K X.mg E t m
structure CalT (P : Program) (w : World) (K : PySem.W.Frag) (mg : Str → Option Value) (base : Heap) (k : Nat) (x : Str) (ps : List Str) (m : List D → Res D) : Prop where
  ex : ∃ (f : Addr) (fd : FuncData), FnOk P w K mg base (CXR P w) k f fd ps (spT K mg ps.length m) ∧ Binds K fd ps [] ∧ PySem.W.keepIn K (.ref f) = true ∧ mg x = some (.ref f)
structure DSt2 (X : Cx) (E : XK) (sts : List Stmt) (t : TS) (m : ME) : Prop where
  p : PSs X sts t
  s : ∀ F0 H0 F H σ ρ, Rep X.K X.mg F0 H0 F H σ ρ → AnsT X.K X.mg E F0 H0 (m ρ) (fun D => t D σ H)
section
variable {X : Cx} {E : XK} {k l n i nn : Nat} {x y : Str} {ps : List Str} {f : List D → Res D} {t : TA} {m : MA} {e : Expr} {es : List Expr} {p pos pos' spos : Pos}
end
section
variable {P : Program} {w : World} {K : PySem.W.Frag} {mg : Str → Option Value} {base : Heap} {N ps : List Str} {x : Str}
end
end L2.Ds
namespace L2.Ds
open PySem PySem.Spec PyProof.Rows Dl
section
variable {X : Cx} {E : XK} {i : Nat} {c c' : Int} {y : Str} {te : TE} {me : ME} {e : Expr} {kr : MS} {ur : TS} {rest : List Stmt}
end
noncomputable def spW (K : PySem.W.Frag) (mg : Str → Option Value) (k : Nat) (f : List D → List D → Res D) : Sp := fun vs H Q E => vs.length = k ∧ ∃ F us ds a xs es, vs = us ++ [.ref a] ∧ Same F H ∧ F a = none ∧ H a = some (.lst xs) ∧ Rps K mg F us ds ∧ Rps K mg F xs es ∧ f ds es ≠ .bad ∧
  (∀ d, f ds es = .ok d → ∀ F' H' v, Gr F (del H a) F' H' → Rp K mg F' v d → Q v H') ∧ (∀ c, f ds es = .ex c → ∀ F' H' C, Gr F (del H a) F' H' → mg c = some (.ref C) → E (.ref C) none H')
structure CalW (P : Program) (w : World) (K : PySem.W.Frag) (mg : Str → Option Value) (base : Heap) (k : Nat) (x : Str) (ps : List Str) (m : List D → List D → Res D) : Prop where
  ex : ∃ (f : Addr) (fd : FuncData), FnOk P w K mg base (CXR P w) k f fd ps (spW K mg ps.length m) ∧ Binds K fd ps [] ∧ PySem.W.keepIn K (.ref f) = true ∧ mg x = some (.ref f)
section
variable {P : Program} {w : World} {K : PySem.W.Frag} {mg : Str → Option Value} {base : Heap} {N ps : List Str} {x : Str}
end
section
variable {K : PySem.W.Frag} {mg : Str → Option Value} {E : XK} {F0 H0 F H : Hp} {σ : St} {ρ : Ev}
end
section
variable {X : Cx} {E : XK} {i k l n : Nat} {f : List D → List D → Res D} {t1 t2 : TE} {m1 m2 : ME} {ub ur : TS} {kb kr : MS} {e1 e2 : Expr} {x y : Str} {ps : List Str} {body rest : List Stmt} {p pos npos spos upos : Pos}
end
section
variable {X : Cx} {E : XK} {k l n : Nat} {f : List D → Res D} {t : TA} {m : MA} {te : TE} {me : ME} {e ev : Expr} {es : List Expr} {x : Str} {ps : List Str} {p pos apos cpos spos : Pos}
end
section
variable {X : Cx} {E : XK} {i jk jw jq jv : Nat} {te tE : TE} {m0 mE : ME} {e0 eE : Expr} {xp xk xw xq xv : Str} {a1 a2 a3 a4 a5 a6 a7 a8 a9 b1 b2 b3 b4 b5 b6 b7 b8 b9 c1 c2 c3 c4 c5 c6 : Pos}
end
end L2.Ds
namespace L2.Ds
open PySem PySem.Spec PyProof.Rows Dl
section
variable {K : PySem.W.Frag} {mg : Str → Option Value} {E : XK}
end
section
variable {X : Cx} {E : XK} {i j : Nat} {iter : Expr} {x : Str} {tpos spos : Pos}
end
end L2.Ds

namespace L2.Ds
open PySem PySem.Spec PyProof.Rows Dl
section
variable {F F1 F3 : Hp} {b : Addr} {o u : HO}
end
section
variable {K : PySem.W.Frag} {mg : Str → Option Value} {E : XK}
end
end L2.Ds
namespace L2.Ds
open PySem PySem.Spec PyProof.Rows Dl
section
variable {X : Cx} {E : XK} {i j : Nat} {x y : Str} {tg iter elt m e : Expr} {ts : List Expr} {rest : List Stmt} {na : MB} {me mm mv : ME} {tm tv : TE} {ur : TS} {kr : MS}
end
end L2.Ds
namespace L2.Ds
open PySem PySem.Spec PyProof.Rows Dl
end L2.Ds

namespace L2.Ts
open PySem PyProof.Rows
noncomputable def gallop' : Bool → Keyed → Array Keyed → Nat → Nat → Nat → StateT SortSt Sem (Option Nat) := sortPriv% PySem.Builtin.gallop
noncomputable def mergeLo' : Array Keyed → Array Keyed → StateT SortSt Sem (Array Keyed) := sortPriv% PySem.Builtin.mergeLo
noncomputable def mergeHi' : Array Keyed → Array Keyed → StateT SortSt Sem (Array Keyed) := sortPriv% PySem.Builtin.mergeHi
noncomputable def setMinGallop' : Nat → StateT SortSt Sem Unit := sortPriv% PySem.Builtin.setMinGallop
theorem gallop'_eq (left : Bool) (key : Keyed) (arr : Array Keyed) (base n hint : Nat) : gallop' left key arr base n hint = (do
  let beyond (i : Nat) : StateT SortSt Sem (Option Bool) := do
    let x ← elem' arr (base + i)
    if left then lt' x key else return (← lt' key x).map (!·)
  let mut lastofs := 0
  let mut ofs := 1
  let mut lo := 0
  let mut hi := 0
  let some right ← beyond hint | return none
  if right then
    let maxofs := n - hint
    for _ in [0:n] do
      if ofs ≥ maxofs then break
      let some more ← beyond (hint + ofs) | return none
      if !more then break
      lastofs := ofs
      ofs := 2 * ofs + 1
    lo := hint + lastofs + 1
    hi := hint + min ofs maxofs
  else
    let maxofs := hint + 1
    for _ in [0:n] do
      if ofs ≥ maxofs then break
      let some found ← beyond (hint - ofs) | return none
      if found then break
      lastofs := ofs
      ofs := 2 * ofs + 1
    lo := hint + 1 - min ofs maxofs
    hi := hint - lastofs
  for _ in [0:n] do
    if lo ≥ hi then break
    let m := lo + (hi - lo) / 2
    let some more ← beyond m | return none
    if more then lo := m + 1 else hi := m
  return some hi) := rfl
section
variable {prog : Program} {w : World} {A : Around} {E : Value → Shared → Prop} {s : Shared} {κ : SortKind} {kf : Keyed → Int} {good : Keyed → Prop}
noncomputable def HL (prog : Program) (w : World) (A : Around) (s : Shared) (κ : SortKind) (kf : Keyed → Int) (good : Keyed → Prop) : Prop :=
  ∀ x y, good x → good y → wpAny (model prog w) A (keyLt' κ x.1 y.1) (fun b s' => s' = s ∧ b = decide (kf x < kf y)) (fun _ _ => False) s
theorem wpS_lt (H : HL prog w A s κ kf good) {st : SortSt} {x y : Keyed} {Q : Option Bool → SortSt → Prop} (hk : kindOf st = κ) (gx : good x) (gy : good y) (h : Q (some (decide (kf x < kf y))) st) : wpS (model prog w) A E s (lt' x y) Q st := by
  rw [lt'_eq]
  refine wpS_bind (wpS_get ?_)
  rw [hk]
  refine wpS_bind (wpS_lift (wpAny_attempt (wpAny_mono (H x y gx gy) (fun b s' hb => ?_) fun _ _ hF => hF.elim)))
  obtain ⟨rfl, rfl⟩ := hb
  exact ⟨rfl, wpS_pure h⟩
theorem wpS_elem {arr : Array Keyed} {i : Nat} {x : Keyed} {Q : Keyed → SortSt → Prop} {st : SortSt} (hx : arr[i]? = some x) (h : Q x st) : wpS (model prog w) A E s (elem' arr i) Q st := by
  rw [elem'_eq, hx]
  exact wpS_pure h
theorem wpS_gallop (H : HL prog w A s κ kf good) {st : SortSt} (hk : kindOf st = κ) {left : Bool} {key : Keyed} {arr : Array Keyed} {base n hint : Nat} {Q : Option Nat → SortSt → Prop} (gk : good key) (X : Nat → Keyed) (hX : ∀ i, i < n → arr[base + i]? = some (X i) ∧ good (X i)) (hs : ∀ i j, i ≤ j → j < n → kf (X i) ≤ kf (X j)) (hh : hint < n)
    (h : ∀ k, k ≤ n → (∀ i, i < k → if left = true then kf (X i) < kf key else kf (X i) ≤ kf key) → (∀ i, k ≤ i → i < n → if left = true then kf key ≤ kf (X i) else kf key < kf (X i)) → Q (some k) st) : wpS (model prog w) A E s (gallop' left key arr base n hint) Q st := by
  obtain ⟨f, hf⟩ : ∃ f : Nat → Bool, ∀ i, f i = if left = true then decide (kf (X i) < kf key) else !decide (kf key < kf (X i)) := ⟨_, fun _ => rfl⟩
  have mono : ∀ i j, i ≤ j → j < n → f j = true → f i = true := by
    intro i j hij hj
    have := hs i j hij hj
    rw [hf, hf]
    cases left
    · simp
      omega
    · simp
      omega
  have beyond : ∀ {i : Nat} {Q : Option Bool → SortSt → Prop}, i < n → Q (some (f i)) st → wpS (model prog w) A E s (do
      let x ← elem' arr (base + i)
      if left = true then lt' x key else do
        let r ← lt' key x
        pure (r.map (!·))) Q st := by
    intro i Q hi hq
    obtain ⟨hx, gx⟩ := hX i hi
    refine wpS_bind (wpS_elem hx ?_)
    rw [hf] at hq
    cases left
    · simp only [Bool.false_eq_true, if_false] at hq ⊢
      exact wpS_bind (wpS_lt H hk gk gx (wpS_pure hq))
    · simp only [if_true] at hq ⊢
      exact wpS_lt H hk gx gk hq
  have fin : ∀ k, k ≤ n → (∀ i, i < k → f i = true) → (∀ i, k ≤ i → i < n → f i = false) → Q (some k) st := by
    intro k hkn h1 h2
    refine h k hkn (fun i hi => ?_) (fun i hi hn => ?_)
    · have := h1 i hi
      rw [hf] at this
      cases left
      · simp at this ⊢; omega
      · simp at this ⊢; omega
    · have := h2 i hi hn
      rw [hf] at this
      cases left
      · simp at this ⊢; omega
      · simp at this ⊢; omega
  rw [gallop'_eq]
  dsimp only
  refine wpS_bind (beyond hh ?_)
  dsimp only
  cases e0 : f hint
  case' true =>
    simp only [if_true]
    refine wpS_bind (wpS_mono (wpS_forRange (I := fun x c st' => st' = st ∧ ∃ lastofs ofs, c = (none, lastofs, ofs) ∧ lastofs < ofs ∧ hint + lastofs < n ∧ f (hint + lastofs) = true ∧ x + 1 ≤ ofs) (Q := fun c st' => st' = st ∧ ∃ lastofs ofs, c = (none, lastofs, ofs) ∧ lastofs < ofs ∧ hint + lastofs < n ∧ f (hint + lastofs) = true ∧ (n - hint ≤ ofs ∨ (hint + ofs < n ∧ f (hint + ofs) = false))) ?step ?fin ⟨rfl, 0, 1, rfl, by omega, by omega, e0, by omega⟩) ?post)
    case fin =>
      rintro c st' ⟨rfl, la, of, rfl, k1, k2, k3, k4⟩
      exact ⟨rfl, la, of, rfl, k1, k2, k3, .inl (by omega)⟩
    case step =>
      rintro x c st' _ hx ⟨rfl, la, of, rfl, k1, k2, k3, k4⟩
      dsimp only
      by_cases c1 : of ≥ n - hint
      · rw [if_pos c1]
        exact wpS_pure ⟨rfl, la, of, rfl, k1, k2, k3, .inl c1⟩
      · rw [if_neg c1]
        refine wpS_bind (beyond (by omega) ?_)
        dsimp only
        cases e : f (hint + of) with
        | true =>
          simp only [Bool.not_true, Bool.false_eq_true, if_false]
          exact wpS_pure ⟨rfl, of, 2 * of + 1, rfl, by omega, by omega, e, by omega⟩
        | false =>
          simp only [Bool.not_false, if_true]
          exact wpS_pure ⟨rfl, la, of, rfl, k1, k2, k3, .inr ⟨by omega, e⟩⟩
    rintro c st' ⟨hst, la, of, rfl, k1, k2, k3, k4⟩
    rw [hst]
    clear hst st'
    dsimp only
    have h3 : (hint + la + 1 = 0 ∨ f (hint + la + 1 - 1) = true) := .inr (by rw [Nat.add_sub_cancel]; exact k3)
    have h4 : (hint + min of (n - hint) = n ∨ f (hint + min of (n - hint)) = false) := by
      rcases k4 with z | ⟨z1, z2⟩
      · left; omega
      · right; rw [Nat.min_eq_left (by omega)]; exact z2
    have h1 : hint + la + 1 ≤ hint + min of (n - hint) := by omega
    have h2 : hint + min of (n - hint) ≤ n := by omega
    generalize hint + la + 1 = lo at *
    generalize hint + min of (n - hint) = hi at *
    clear k1 k2 k3 k4 e0
  case' false =>
    simp only [Bool.false_eq_true, if_false]
    refine wpS_bind (wpS_mono (wpS_forRange (I := fun x c st' => st' = st ∧ ∃ lastofs ofs, c = (none, lastofs, ofs) ∧ lastofs < ofs ∧ lastofs ≤ hint ∧ f (hint - lastofs) = false ∧ x + 1 ≤ ofs) (Q := fun c st' => st' = st ∧ ∃ lastofs ofs, c = (none, lastofs, ofs) ∧ lastofs < ofs ∧ lastofs ≤ hint ∧ f (hint - lastofs) = false ∧ (hint + 1 ≤ ofs ∨ (ofs ≤ hint ∧ f (hint - ofs) = true))) ?step ?fin ⟨rfl, 0, 1, rfl, by omega, by omega, e0, by omega⟩) ?post)
    case fin =>
      rintro c st' ⟨rfl, la, of, rfl, k1, k2, k3, k4⟩
      exact ⟨rfl, la, of, rfl, k1, k2, k3, .inl (by omega)⟩
    case step =>
      rintro x c st' _ hx ⟨rfl, la, of, rfl, k1, k2, k3, k4⟩
      dsimp only
      by_cases c1 : of ≥ hint + 1
      · rw [if_pos c1]
        exact wpS_pure ⟨rfl, la, of, rfl, k1, k2, k3, .inl c1⟩
      · rw [if_neg c1]
        refine wpS_bind (beyond (by omega) ?_)
        dsimp only
        cases e : f (hint - of) with
        | true =>
          simp only [if_true]
          exact wpS_pure ⟨rfl, la, of, rfl, k1, k2, k3, .inr ⟨by omega, e⟩⟩
        | false =>
          simp only [Bool.false_eq_true, if_false]
          exact wpS_pure ⟨rfl, of, 2 * of + 1, rfl, by omega, by omega, e, by omega⟩
    rintro c st' ⟨hst, la, of, rfl, k1, k2, k3, k4⟩
    rw [hst]
    clear hst st'
    dsimp only
    have h4 : (hint - la = n ∨ f (hint - la) = false) := .inr k3
    have h3 : (hint + 1 - min of (hint + 1) = 0 ∨ f (hint + 1 - min of (hint + 1) - 1) = true) := by
      rcases k4 with z | ⟨z1, z2⟩
      · left; omega
      · right; rw [Nat.min_eq_left (by omega), show hint + 1 - of - 1 = hint - of by omega]; exact z2
    have h1 : hint + 1 - min of (hint + 1) ≤ hint - la := by omega
    have h2 : hint - la ≤ n := by omega
    generalize hint + 1 - min of (hint + 1) = lo at *
    generalize hint - la = hi at *
    clear k1 k2 k3 k4 e0
  all_goals
      refine wpS_bind (wpS_mono (wpS_forRange (I := fun x c st' => st' = st ∧ ∃ lo hi, c = (none, lo, hi) ∧ lo ≤ hi ∧ hi ≤ n ∧ (lo = 0 ∨ f (lo - 1) = true) ∧ (hi = n ∨ f hi = false) ∧ hi - lo ≤ n - x) (Q := fun c st' => st' = st ∧ ∃ hi lo, c = (none, lo, hi) ∧ hi ≤ n ∧ (hi = 0 ∨ f (hi - 1) = true) ∧ (hi = n ∨ f hi = false)) ?step ?fin ⟨rfl, lo, hi, rfl, h1, h2, h3, h4, by omega⟩) ?post)
      case fin =>
        rintro c st' ⟨rfl, lo, hi, rfl, k1, k2, k3, k4, k5⟩
        have : lo = hi := by omega
        subst this
        exact ⟨rfl, lo, lo, rfl, k2, k3, k4⟩
      case step =>
        rintro x c st' _ hx ⟨rfl, lo, hi, rfl, k1, k2, k3, k4, k5⟩
        dsimp only
        by_cases c1 : lo ≥ hi
        · rw [if_pos c1]
          have : lo = hi := by omega
          subst this
          exact wpS_pure ⟨rfl, lo, lo, rfl, k2, k3, k4⟩
        · rw [if_neg c1]
          refine wpS_bind (beyond (by omega) ?_)
          dsimp only
          cases e : f (lo + (hi - lo) / 2) with
          | true =>
            simp only [if_true]
            exact wpS_pure ⟨rfl, _, _, rfl, by omega, k2, .inr (by rw [Nat.add_sub_cancel]; exact e), k4, by omega⟩
          | false =>
            simp only [Bool.false_eq_true, if_false]
            exact wpS_pure ⟨rfl, _, _, rfl, by omega, by omega, k3, .inr e, by omega⟩
      case post =>
        rintro c st' ⟨rfl, hi, lo, rfl, k1, k2, k3⟩
        refine wpS_pure (fin hi k1 (fun i hi' => ?_) fun i hi' hn => ?_)
        · rcases k2 with z | z
          · omega
          · exact mono i (hi - 1) (by omega) (by omega) z
        · rcases k3 with z | z
          · omega
          · cases e : f i with
            | false => rfl
            | true => rw [mono hi i hi' hn e] at z; cases z
end
end L2.Ts
namespace L2.Ts
open PySem PyProof.Rows

noncomputable def Srt (kf : Keyed → Int) (l : List Keyed) : Prop := l.Pairwise fun x y => kf x ≤ kf y
structure Mi (kf : Keyed → Int) (T out A B : List Keyed) : Prop where
  perm : (out ++ (A ++ B)).Perm T
  srt : Srt kf out
  le : ∀ x ∈ out, ∀ y, y ∈ A ∨ y ∈ B → kf x ≤ kf y
  sA : Srt kf A
  sB : Srt kf B
section
variable {kf : Keyed → Int} {T out A B l A' B' : List Keyed}
theorem Mi.swap (M : Mi kf T out A B) : Mi kf T out B A :=
  ⟨(List.perm_append_comm.append_left out).trans M.perm, M.srt, fun x hx y hy => M.le x hx y hy.symm, M.sB, M.sA⟩
theorem Mi.takeA (M : Mi kf T out (l ++ A') B) (h : ∀ x ∈ l, ∀ y ∈ B, kf x ≤ kf y) : Mi kf T (out ++ l) A' B := by
  have s := List.pairwise_append.mp M.sA
  refine ⟨?_, ?_, fun x hx y hy => ?_, s.2.1, M.sB⟩
  · have p := M.perm
    rw [List.append_assoc] at p ⊢
    exact p
  · exact List.pairwise_append.mpr ⟨M.srt, s.1, fun x hx y hy => M.le x hx y (.inl (List.mem_append_left _ hy))⟩
  · rcases List.mem_append.mp hx with hx | hx
    · exact M.le x hx y (hy.imp (List.mem_append_right _) id)
    · rcases hy with hy | hy
      · exact s.2.2 x hx y hy
      · exact h x hx y hy
theorem Mi.takeB (M : Mi kf T out A (l ++ B')) (h : ∀ x ∈ l, ∀ y ∈ A, kf x ≤ kf y) : Mi kf T (out ++ l) A B' := (M.swap.takeA h).swap
theorem Mi.fin (M : Mi kf T out A B) (h : A = [] ∨ B = []) : (out ++ A ++ B).Perm T ∧ Srt kf (out ++ A ++ B) := by
  refine ⟨by rw [List.append_assoc]; exact M.perm, ?_⟩
  rcases h with rfl | rfl
  · rw [List.append_nil]
    exact List.pairwise_append.mpr ⟨M.srt, M.sB, fun x hx y hy => M.le x hx y (.inr hy)⟩
  · rw [List.append_nil]
    exact List.pairwise_append.mpr ⟨M.srt, M.sA, fun x hx y hy => M.le x hx y (.inl hy)⟩
theorem Mi.last (M : Mi kf T out A B) (h : ∀ x ∈ A, ∀ y ∈ B, kf y ≤ kf x) : (out ++ B ++ A).Perm T ∧ Srt kf (out ++ B ++ A) := by
  have N := Mi.takeA (l := B) (A' := []) (B := A) (by rw [List.append_nil]; exact M.swap) (fun x hx y hy => h y hy x hx)
  have F := N.fin (.inl rfl)
  rwa [List.append_nil] at F
end
end L2.Ts
namespace L2.Ts
open PySem PyProof.Rows
theorem mergeLo'_eq (a b : Array Keyed) : mergeLo' a b = (do
  rule "list.sort.merge-lo"
  let total := a.size + b.size
  let done (out : Array Keyed) (ia ib : Nat) := out ++ a.extract ia a.size ++ b.extract ib b.size
  let lastOfA (out : Array Keyed) (ia ib : Nat) := out ++ b.extract ib b.size ++ a.extract ia a.size
  let mut out : Array Keyed := #[← elem' b 0]
  let mut ia := 0
  let mut ib := 1
  if ib == b.size then return done out ia ib
  if ia + 1 == a.size then return lastOfA out ia ib
  let mut minGallop := gallopOf (← get)
  for _ in [0:total] do
    let mut acount := 0
    let mut bcount := 0
    for _ in [0:total] do
      let some bWins ← lt' (← elem' b ib) (← elem' a ia) | return done out ia ib
      if bWins then
        out := out.push (← elem' b ib); ib := ib + 1; bcount := bcount + 1; acount := 0
        if ib == b.size then return done out ia ib
        if bcount ≥ minGallop then break
      else
        out := out.push (← elem' a ia); ia := ia + 1; acount := acount + 1; bcount := 0
        if ia + 1 == a.size then return lastOfA out ia ib
        if acount ≥ minGallop then break
    rule "list.sort.gallop"
    minGallop := minGallop + 1
    for _ in [0:total] do
      if minGallop > 1 then minGallop := minGallop - 1
      setMinGallop' minGallop
      let some k ← gallop' false (← elem' b ib) a ia (a.size - ia) 0 | return done out ia ib
      acount := k
      if k > 0 then
        out := out ++ a.extract ia (ia + k); ia := ia + k
        if ia + 1 == a.size then return lastOfA out ia ib
        if ia == a.size then return done out ia ib
      out := out.push (← elem' b ib); ib := ib + 1
      if ib == b.size then return done out ia ib
      let some k ← gallop' true (← elem' a ia) b ib (b.size - ib) 0 | return done out ia ib
      bcount := k
      if k > 0 then
        out := out ++ b.extract ib (ib + k); ib := ib + k
        if ib == b.size then return done out ia ib
      out := out.push (← elem' a ia); ia := ia + 1
      if ia + 1 == a.size then return lastOfA out ia ib
      if acount < 7 && bcount < 7 then break
    minGallop := minGallop + 1
    setMinGallop' minGallop
  unsupported "internal:list.sort.merge-bound") := rfl

structure Sm (st st' : SortSt) : Prop where
  k : kindOf st' = kindOf st
  a : arrOf st' = arrOf st
  p : pendingOf st' = pendingOf st
  f : failedOf st' = failedOf st
theorem Sm.refl (st : SortSt) : Sm st st := ⟨rfl, rfl, rfl, rfl⟩
theorem setMin_eq (g : Nat) : setMinGallop' g = modify fun s => SortSt.mk' (kindOf s) (arrOf s) (pendingOf s) g (failedOf s) := rfl
section
variable {kf : Keyed → Int} {T : List Keyed} {a b : Array Keyed}
theorem drop_cons {i : Nat} {x : Keyed} (h : a[i]? = some x) : a.toList.drop i = x :: a.toList.drop (i + 1) := by
  obtain ⟨hi, rfl⟩ := Array.getElem?_eq_some_iff.mp h
  rw [← Array.getElem_toList hi, List.drop_eq_getElem_cons]
theorem ext_k (i k : Nat) : (a.extract i (i + k)).toList = (a.toList.drop i).take k := by
  rw [Array.toList_extract, List.extract_eq_take_drop, Nat.add_sub_cancel_left]
theorem ext_end (i : Nat) : (a.extract i a.size).toList = a.toList.drop i := by
  rw [Array.toList_extract, List.extract_eq_take_drop]
  exact List.take_of_length_le (by simp)
theorem srt_ge {l : List Keyed} {x : Keyed} (s : Srt kf (x :: l)) {y : Keyed} (hy : y ∈ x :: l) : kf x ≤ kf y := by
  rcases List.mem_cons.mp hy with rfl | hy
  · exact Int.le_refl _
  · exact (List.pairwise_cons.mp s).1 y hy
noncomputable abbrev R (kf : Keyed → Int) (T : List Keyed) (a b out : Array Keyed) (ia ib : Nat) : Prop := Mi kf T out.toList (a.toList.drop ia) (b.toList.drop ib)
theorem R.pB {out : Array Keyed} {ia ib : Nat} {x : Keyed} (M : R kf T a b out ia ib) (hx : b[ib]? = some x) (h : ∀ y, a[ia]? = some y → kf x ≤ kf y) : R kf T a b (out.push x) ia (ib + 1) := by
  unfold R at M ⊢
  rw [drop_cons hx] at M
  rw [Array.toList_push]
  refine Mi.takeB (l := [x]) M fun z hz y hy => ?_
  rw [List.mem_singleton.mp hz]
  cases e : a[ia]? with
  | none =>
    have := Array.getElem?_eq_none_iff.mp e
    rw [List.drop_of_length_le (by simpa using this)] at hy
    cases hy
  | some u =>
    have s := M.sA
    rw [drop_cons e] at hy s
    exact Int.le_trans (h u e) (srt_ge s hy)
theorem R.swap {out : Array Keyed} {ia ib : Nat} (M : R kf T a b out ia ib) : R kf T b a out ib ia := Mi.swap M
theorem R.pA {out : Array Keyed} {ia ib : Nat} {x : Keyed} (M : R kf T a b out ia ib) (hx : a[ia]? = some x) (h : ∀ y, b[ib]? = some y → kf x ≤ kf y) : R kf T a b (out.push x) (ia + 1) ib := (M.swap.pB hx h).swap
theorem R.eA {out : Array Keyed} {ia ib k : Nat} (M : R kf T a b out ia ib) (h : ∀ i, i < k → ∀ x y, a[ia + i]? = some x → b[ib]? = some y → kf x ≤ kf y) : R kf T a b (out ++ a.extract ia (ia + k)) (ia + k) ib := by
  unfold R at M ⊢
  rw [Array.toList_append, ext_k]
  have e : a.toList.drop ia = (a.toList.drop ia).take k ++ a.toList.drop (ia + k) := by
    rw [← List.drop_drop, List.take_append_drop]
  have M' := M
  rw [e] at M'
  refine Mi.takeA M' fun z hz y hy => ?_
  obtain ⟨i, hi, rfl⟩ := List.mem_iff_getElem.mp hz
  rw [List.length_take] at hi
  have hz' : a[ia + i]? = some (((a.toList.drop ia).take k)[i]) := by
    rw [← Array.getElem?_toList, List.getElem_take, List.getElem_drop, List.getElem?_eq_getElem]
  cases eb : b[ib]? with
  | none =>
    have := Array.getElem?_eq_none_iff.mp eb
    rw [List.drop_of_length_le (by simpa using this)] at hy
    cases hy
  | some u =>
    have s := M.sB
    rw [drop_cons eb] at hy s
    exact Int.le_trans (h i (by omega) _ u hz' eb) (srt_ge s hy)
theorem R.eB {out : Array Keyed} {ia ib k : Nat} (M : R kf T a b out ia ib) (h : ∀ i, i < k → ∀ x y, b[ib + i]? = some x → a[ia]? = some y → kf x ≤ kf y) : R kf T a b (out ++ b.extract ib (ib + k)) ia (ib + k) := (M.swap.eA h).swap
theorem R.fin {out : Array Keyed} {ia ib : Nat} (M : R kf T a b out ia ib) (h : ia = a.size ∨ ib = b.size) : (out ++ a.extract ia a.size ++ b.extract ib b.size).toList.Perm T ∧ Srt kf (out ++ a.extract ia a.size ++ b.extract ib b.size).toList := by
  rw [Array.toList_append, Array.toList_append, ext_end, ext_end]
  refine Mi.fin M ?_
  rcases h with rfl | rfl
  · exact .inl (List.drop_of_length_le (by simp))
  · exact .inr (List.drop_of_length_le (by simp))
theorem R.last {out : Array Keyed} {ia ib : Nat} (M : R kf T a b out ia ib) (h : ia + 1 = a.size) (h2 : ∀ y ∈ b.toList, ∀ x, a[a.size - 1]? = some x → kf y ≤ kf x) : (out ++ b.extract ib b.size ++ a.extract ia a.size).toList.Perm T ∧ Srt kf (out ++ b.extract ib b.size ++ a.extract ia a.size).toList := by
  rw [Array.toList_append, Array.toList_append, ext_end, ext_end]
  refine Mi.last M fun x hx y hy => ?_
  have e : a[ia]? = some (a[ia]'(by omega)) := Array.getElem?_eq_getElem _
  rw [drop_cons e, List.drop_of_length_le (by simp; omega), List.mem_singleton] at hx
  subst hx
  exact h2 y (List.mem_of_mem_drop hy) _ (by rw [show a.size - 1 = ia by omega]; exact e)
end
section
variable {prog : Program} {w : World} {A : Around} {E : Value → Shared → Prop} {s : Shared} {κ : SortKind} {kf : Keyed → Int} {good : Keyed → Prop}
theorem wpS_setMin {g : Nat} {st : SortSt} {Q : Unit → SortSt → Prop} (h : ∀ st', Sm st st' → Q () st') : wpS (model prog w) A E s (setMinGallop' g) Q st := by
  rw [setMin_eq]
  exact wpS_modify (h _ ⟨rfl, rfl, rfl, rfl⟩)
theorem Sm.trans {a b c : SortSt} (h : Sm a b) (k : Sm b c) : Sm a c := ⟨k.k.trans h.k, k.a.trans h.a, k.p.trans h.p, k.f.trans h.f⟩
theorem mem_of {a : Array Keyed} {i : Nat} {x : Keyed} (h : a[i]? = some x) : x ∈ a.toList := by
  obtain ⟨hi, rfl⟩ := Array.getElem?_eq_some_iff.mp h
  exact Array.getElem_mem_toList hi
theorem srt_at {a : Array Keyed} (h : Srt kf a.toList) {i j : Nat} {x y : Keyed} (hij : i ≤ j) (hx : a[i]? = some x) (hy : a[j]? = some y) : kf x ≤ kf y := by
  obtain ⟨hi, rfl⟩ := Array.getElem?_eq_some_iff.mp hx
  obtain ⟨hj, rfl⟩ := Array.getElem?_eq_some_iff.mp hy
  by_cases e : i = j
  · subst e; exact Int.le_refl _
  · have := List.pairwise_iff_getElem.mp h i j (by simpa using hi) (by simpa using hj) (by omega)
    simpa using this
theorem wpS_gal (H : HL prog w A s κ kf good) {st : SortSt} (hk : kindOf st = κ) {left : Bool} {key : Keyed} {a : Array Keyed} {i n hint : Nat} {Q : Option Nat → SortSt → Prop} (gk : good key) (ga : ∀ x ∈ a.toList, good x) (sa : ∀ u v x y, i ≤ u → u ≤ v → v < i + n → a[u]? = some x → a[v]? = some y → kf x ≤ kf y) (hn : i + n ≤ a.size) (hh : hint < n)
    (h : ∀ k, k ≤ n → (∀ j, j < k → ∀ x, a[i + j]? = some x → if left = true then kf x < kf key else kf x ≤ kf key) → (∀ j, k ≤ j → j < n → ∀ x, a[i + j]? = some x → if left = true then kf key ≤ kf x else kf key < kf x) → Q (some k) st) : wpS (model prog w) A E s (gallop' left key a i n hint) Q st := by
  have e : ∀ j, j < n → a[i + j]? = some (a.getD (i + j) (Value.none, Value.none)) := fun j hj => by
    rw [Array.getD_eq_getD_getElem?, Array.getElem?_eq_getElem (by omega)]
    rfl
  refine wpS_gallop H hk gk (fun j => a.getD (i + j) (Value.none, Value.none)) (fun j hj => ⟨e j hj, ga _ (mem_of (e j hj))⟩) (fun u v huv hv => sa (i + u) (i + v) _ _ (by omega) (by omega) (by omega) (e u (by omega)) (e v hv)) hh fun k hkn k1 k2 => h k hkn (fun j hj x hx => ?_) fun j hj hjn x hx => ?_
  · have := e j (by omega)
    rw [hx] at this
    cases this
    exact k1 j hj
  · have := e j hjn
    rw [hx] at this
    cases this
    exact k2 j hj hjn
theorem wpS_mergeLo (H : HL prog w A s κ kf good) {st : SortSt} (hk : kindOf st = κ) {a b : Array Keyed} {Q : Array Keyed → SortSt → Prop} (ga : ∀ x ∈ a.toList, good x) (gb : ∀ x ∈ b.toList, good x) (sa : Srt kf a.toList) (sb : Srt kf b.toList) (a1 : 1 ≤ a.size) (b1 : 1 ≤ b.size) (h1 : ∀ x ∈ a.toList, ∀ y, b[0]? = some y → kf y ≤ kf x) (h2 : ∀ y ∈ b.toList, ∀ x, a[a.size - 1]? = some x → kf y ≤ kf x)
    (h : ∀ m st', Sm st st' → m.toList.Perm (a.toList ++ b.toList) → Srt kf m.toList → Q m st') : wpS (model prog w) A E s (mergeLo' a b) Q st := by
  have fin : ∀ {out : Array Keyed} {ia ib : Nat} {st' : SortSt}, Sm st st' → R kf (a.toList ++ b.toList) a b out ia ib → (ia = a.size ∨ ib = b.size) → Q (out ++ a.extract ia a.size ++ b.extract ib b.size) st' := fun S M z => h _ _ S (M.fin z).1 (M.fin z).2
  have last : ∀ {out : Array Keyed} {ia ib : Nat} {st' : SortSt}, Sm st st' → R kf (a.toList ++ b.toList) a b out ia ib → ia + 1 = a.size → Q (out ++ b.extract ib b.size ++ a.extract ia a.size) st' := fun S M z => h _ _ S (M.last z h2).1 (M.last z h2).2
  have aA : ∀ {i : Nat}, i < a.size → ∃ x, a[i]? = some x := fun {i} hi => ⟨_, Array.getElem?_eq_getElem hi⟩
  have aB : ∀ {i : Nat}, i < b.size → ∃ x, b[i]? = some x := fun {i} hi => ⟨_, Array.getElem?_eq_getElem hi⟩
  rw [mergeLo'_eq]
  dsimp only
  refine wpS_bind (wpS_lift (wpAny_rule ⟨rfl, ?_⟩))
  obtain ⟨y0, e0⟩ := aB b1
  refine wpS_bind (wpS_elem e0 ?_)
  have M0 : R kf (a.toList ++ b.toList) a b #[] 0 0 := ⟨List.Perm.refl _, List.Pairwise.nil, (fun x hx => by cases hx), sa, sb⟩
  have M1 : R kf (a.toList ++ b.toList) a b #[y0] 0 1 := M0.pB e0 fun y hy => h1 y (mem_of hy) y0 e0
  by_cases c1 : 1 = b.size
  · rw [if_pos (by simpa using c1)]
    exact wpS_pure (fin (Sm.refl _) M1 (.inr c1))
  rw [if_neg (by simpa using c1)]
  by_cases c2 : 0 + 1 = a.size
  · rw [if_pos (by simpa using c2)]
    exact wpS_pure (last (Sm.refl _) M1 c2)
  rw [if_neg (by simpa using c2)]
  refine wpS_bind (wpS_get ?_)
  refine wpS_bind (wpS_mono (wpS_forRange (I := fun x c st' => Sm st st' ∧ ∃ out ia ib mg, c = (none, out, ia, ib, mg) ∧ R kf (a.toList ++ b.toList) a b out ia ib ∧ ia + 1 < a.size ∧ ib < b.size ∧ x + 1 ≤ ia + ib) (Q := fun c st' => ∃ r rest, c = (some r, rest) ∧ Q r st') ?step ?fin ⟨Sm.refl _, _, _, _, _, rfl, M1, by omega, by omega, by omega⟩) ?post)
  case fin =>
    rintro c st' ⟨S, out, ia, ib, mg, rfl, M, k1, k2, k3⟩
    omega
  case post =>
    rintro c st' ⟨r, rest, rfl, q⟩
    exact wpS_pure q
  case step =>
    rintro x c st' _ hx ⟨S, out, ia, ib, mg, rfl, M, k1, k2, k3⟩
    dsimp only
    refine wpS_bind (wpS_mono (wpS_forRange (I := fun x' c st'' => st'' = st' ∧ ∃ out ia' ib' ac bc, c = (none, out, ia', ib', ac, bc) ∧ R kf (a.toList ++ b.toList) a b out ia' ib' ∧ ia' + 1 < a.size ∧ ib' < b.size ∧ ia + ib + x' ≤ ia' + ib') (Q := fun c st'' => st'' = st' ∧ ((∃ r rest, c = (some r, rest) ∧ Q r st') ∨ ∃ out ia' ib' ac bc, c = (none, out, ia', ib', ac, bc) ∧ R kf (a.toList ++ b.toList) a b out ia' ib' ∧ ia' + 1 < a.size ∧ ib' < b.size ∧ ia + ib + 1 ≤ ia' + ib')) ?step1 ?fin1 ⟨rfl, _, _, _, _, _, rfl, M, k1, k2, by omega⟩) ?post1)
    case fin1 =>
      rintro c st'' ⟨rfl, out, ia', ib', ac, bc, rfl, M, j1, j2, j3⟩
      omega
    case step1 =>
      rintro x' c st'' _ hx' ⟨rfl, out, ia', ib', ac, bc, rfl, M, j1, j2, j3⟩
      dsimp only
      obtain ⟨xb, eb⟩ := aB j2
      obtain ⟨xa, ea⟩ := aA (show ia' < a.size by omega)
      refine wpS_bind (wpS_elem eb (wpS_bind (wpS_elem ea (wpS_bind (wpS_lt H (S.k.trans hk) (gb _ (mem_of eb)) (ga _ (mem_of ea)) ?_)))))
      dsimp only
      by_cases d : kf xb < kf xa
      · rw [if_pos (decide_eq_true d)]
        refine wpS_bind (wpS_elem eb ?_)
        have M' := M.pB eb fun y hy => by rw [ea] at hy; cases hy; omega
        by_cases c3 : ib' + 1 = b.size
        · rw [if_pos (by simpa using c3)]
          exact wpS_pure ⟨rfl, .inl ⟨_, _, rfl, fin S M' (.inr c3)⟩⟩
        rw [if_neg (by simpa using c3)]
        split
        · exact wpS_pure ⟨rfl, .inr ⟨_, _, _, _, _, rfl, M', by omega, by omega, by omega⟩⟩
        · exact wpS_pure ⟨rfl, _, _, _, _, _, rfl, M', by omega, by omega, by omega⟩
      · rw [if_neg (by rw [decide_eq_false d]; exact Bool.false_ne_true)]
        refine wpS_bind (wpS_elem ea ?_)
        have M' := M.pA ea fun y hy => by rw [eb] at hy; cases hy; omega
        by_cases c3 : ia' + 1 + 1 = a.size
        · rw [if_pos (by simpa using c3)]
          exact wpS_pure ⟨rfl, .inl ⟨_, _, rfl, last S M' c3⟩⟩
        rw [if_neg (by simpa using c3)]
        split
        · exact wpS_pure ⟨rfl, .inr ⟨_, _, _, _, _, rfl, M', by omega, by omega, by omega⟩⟩
        · exact wpS_pure ⟨rfl, _, _, _, _, _, rfl, M', by omega, by omega, by omega⟩
    case post1 =>
      rintro c st'' ⟨rfl, z⟩
      rcases z with ⟨r, rest, rfl, q⟩ | ⟨out, ia', ib', ac, bc, rfl, M, j1, j2, j3⟩
      · exact wpS_pure ⟨_, _, rfl, q⟩
      dsimp only
      refine wpS_bind (wpS_lift (wpAny_rule ⟨rfl, ?_⟩))
      refine wpS_bind (wpS_mono (wpS_forRange (I := fun x'' c st2 => Sm st st2 ∧ ∃ out ia2 ib2 mg ac bc, c = (none, out, ia2, ib2, mg, ac, bc) ∧ R kf (a.toList ++ b.toList) a b out ia2 ib2 ∧ ia2 + 1 < a.size ∧ ib2 < b.size ∧ ia' + ib' + x'' ≤ ia2 + ib2) (Q := fun c st2 => (∃ r rest, c = (some r, rest) ∧ Q r st2) ∨ (Sm st st2 ∧ ∃ out ia2 ib2 mg ac bc, c = (none, out, ia2, ib2, mg, ac, bc) ∧ R kf (a.toList ++ b.toList) a b out ia2 ib2 ∧ ia2 + 1 < a.size ∧ ib2 < b.size ∧ ia' + ib' ≤ ia2 + ib2)) ?step2 ?fin2 ⟨S, _, _, _, _, _, _, rfl, M, j1, j2, by omega⟩) ?post2)
      case fin2 =>
        rintro c st2 ⟨S, out, ia2, ib2, mg, ac, bc, rfl, M, i1, i2, i3⟩
        omega
      case post2 =>
        rintro c st2 z
        rcases z with ⟨r, rest, rfl, q⟩ | ⟨S, out, ia2, ib2, mg, ac, bc, rfl, M, i1, i2, i3⟩
        · exact wpS_pure ⟨_, _, rfl, q⟩
        dsimp only
        refine wpS_bind (wpS_setMin fun st3 S3 => ?_)
        exact wpS_pure ⟨S.trans S3, _, _, _, _, rfl, M, i1, i2, by omega⟩
      case step2 =>
        rintro x'' c st2 _ hx'' ⟨S, out, ia2, ib2, mg, ac, bc, rfl, M, i1, i2, i3⟩
        clear M0 M1 k1 k2 k3 j1 j2 j3 hx hx'' c1 c2
        dsimp only
        obtain ⟨xb, eb⟩ := aB i2
        by_cases c5 : mg > 1
        case' pos => rw [if_pos c5]
        case' neg => rw [if_neg c5]
        all_goals
          refine wpS_bind (wpS_setMin fun st3 S3 => ?_)
          have S' := S.trans S3
          clear S S3
          refine wpS_bind (wpS_elem eb ?_)
          refine wpS_bind (wpS_gal H (S'.k.trans hk) (gb _ (mem_of eb)) ga (fun u v x y _ huv _ hx hy => srt_at sa huv hx hy) (by omega) (by omega) fun k hkn g1 g2 => ?_)
          simp only [Bool.false_eq_true, if_false] at g1 g2
          dsimp only
          by_cases k0 : k > 0
          case' pos =>
            have N := M.eA (k := k) fun i hi x y hx hy => by rw [eb] at hy; cases hy; exact g1 i hi x hx
            rw [if_pos k0]
            by_cases c3 : ia2 + k + 1 = a.size
            · rw [if_pos (by simpa using c3)]
              exact wpS_pure (.inl ⟨_, _, rfl, last S' N c3⟩)
            rw [if_neg (by simpa using c3)]
            by_cases c4 : ia2 + k = a.size
            · rw [if_pos (by simpa using c4)]
              exact wpS_pure (.inl ⟨_, _, rfl, fin S' N (.inl c4)⟩)
            rw [if_neg (by simpa using c4)]
            have hi : ia2 + k + 1 < a.size := by omega
            have hg : ∀ y, a[ia2 + k]? = some y → kf xb ≤ kf y := fun y hy => Int.le_of_lt (g2 k (Nat.le_refl _) (by omega) y hy)
            have hm : ia' + ib' + x'' ≤ ia2 + k + ib2 := by omega
            clear g1 g2 c3 c4 i3 i1 M hkn
            generalize out ++ a.extract ia2 (ia2 + k) = o at *
            generalize ia2 + k = i at *
          case' neg =>
            have N := M
            rw [if_neg k0]
            have hi := i1
            have hg : ∀ y, a[ia2]? = some y → kf xb ≤ kf y := fun y hy => Int.le_of_lt (g2 0 (by omega) (by omega) y hy)
            have hm := i3
            clear g1 g2 i3 i1 M hkn
            generalize out = o at *
            generalize ia2 = i at *
          all_goals
            refine wpS_bind (wpS_elem eb ?_)
            have N' := N.pB eb hg
            by_cases c6 : ib2 + 1 = b.size
            · rw [if_pos (by simpa using c6)]
              exact wpS_pure (.inl ⟨_, _, rfl, fin S' N' (.inr c6)⟩)
            rw [if_neg (by simpa using c6)]
            obtain ⟨xa, ea⟩ := aA (show i < a.size by omega)
            refine wpS_bind (wpS_elem ea ?_)
            refine wpS_bind (wpS_gal H (S'.k.trans hk) (ga _ (mem_of ea)) gb (fun u v x y _ huv _ hx hy => srt_at sb huv hx hy) (by omega) (by omega) fun k1 hk1 g3 g4 => ?_)
            simp only [if_true] at g3 g4
            dsimp only
            by_cases k10 : k1 > 0
            case' pos =>
              have P := N'.eB (k := k1) fun j hj x y hx hy => by rw [ea] at hy; cases hy; exact Int.le_of_lt (g3 j hj x hx)
              rw [if_pos k10]
              by_cases c7 : ib2 + 1 + k1 = b.size
              · rw [if_pos (by simpa using c7)]
                exact wpS_pure (.inl ⟨_, _, rfl, fin S' P (.inr c7)⟩)
              rw [if_neg (by simpa using c7)]
              have hb : ib2 + 1 + k1 < b.size := by omega
              have hg2 : ∀ y, b[ib2 + 1 + k1]? = some y → kf xa ≤ kf y := fun y hy => g4 k1 (Nat.le_refl _) (by omega) y hy
              have hm2 : ia' + ib' + x'' + 1 ≤ i + (ib2 + 1 + k1) := by omega
              clear g3 g4 c7 hm N N' hg c6 hk1
              generalize o.push xb ++ b.extract (ib2 + 1) (ib2 + 1 + k1) = o2 at *
              generalize ib2 + 1 + k1 = i4 at *
            case' neg =>
              have P := N'
              rw [if_neg k10]
              have hb : ib2 + 1 < b.size := by omega
              have hg2 : ∀ y, b[ib2 + 1]? = some y → kf xa ≤ kf y := fun y hy => g4 0 (by omega) (by omega) y hy
              have hm2 : ia' + ib' + x'' + 1 ≤ i + (ib2 + 1) := by omega
              clear g3 g4 hm N N' hg c6 hk1
              generalize o.push xb = o2 at *
              generalize ib2 + 1 = i4 at *
            all_goals
              refine wpS_bind (wpS_elem ea ?_)
              have P' := P.pA ea hg2
              by_cases c8 : i + 1 + 1 = a.size
              · rw [if_pos (by simpa using c8)]
                exact wpS_pure (.inl ⟨_, _, rfl, last S' P' c8⟩)
              rw [if_neg (by simpa using c8)]
              by_cases c9 : (decide (k < 7) && decide (k1 < 7)) = true
              · rw [if_pos c9]
                exact wpS_pure (.inr ⟨S', _, _, _, _, _, _, rfl, P', by omega, by omega, by omega⟩)
              · rw [if_neg c9]
                exact wpS_pure ⟨S', _, _, _, _, _, _, rfl, P', by omega, by omega, by omega⟩
end
end L2.Ts
namespace L2.Ts
open PySem PyProof.Rows
theorem mergeHi'_eq (a b : Array Keyed) : mergeHi' a b = (do
  rule "list.sort.merge-hi"
  let total := a.size + b.size
  let done (out : Array Keyed) (na nb : Nat) := a.extract 0 na ++ b.extract 0 nb ++ out.reverse
  let firstOfB (out : Array Keyed) (na nb : Nat) := b.extract 0 nb ++ a.extract 0 na ++ out.reverse
  let mut na := a.size - 1
  let mut nb := b.size
  let mut out : Array Keyed := #[← elem' a na]
  if na == 0 then return done out na nb
  if nb == 1 then return firstOfB out na nb
  let mut minGallop := gallopOf (← get)
  for _ in [0:total] do
    let mut acount := 0
    let mut bcount := 0
    for _ in [0:total] do
      let some aWins ← lt' (← elem' b (nb - 1)) (← elem' a (na - 1)) | return done out na nb
      if aWins then
        na := na - 1; out := out.push (← elem' a na); acount := acount + 1; bcount := 0
        if na == 0 then return done out na nb
        if acount ≥ minGallop then break
      else
        nb := nb - 1; out := out.push (← elem' b nb); bcount := bcount + 1; acount := 0
        if nb == 1 then return firstOfB out na nb
        if bcount ≥ minGallop then break
    rule "list.sort.gallop"
    minGallop := minGallop + 1
    for _ in [0:total] do
      if minGallop > 1 then minGallop := minGallop - 1
      setMinGallop' minGallop
      let some at_ ← gallop' false (← elem' b (nb - 1)) a 0 na (na - 1) | return done out na nb
      let k := na - at_
      acount := k
      if k > 0 then
        out := out ++ (a.extract at_ na).reverse; na := at_
        if na == 0 then return done out na nb
      nb := nb - 1; out := out.push (← elem' b nb)
      if nb == 1 then return firstOfB out na nb
      let some at_ ← gallop' true (← elem' a (na - 1)) b 0 nb (nb - 1) | return done out na nb
      let k := nb - at_
      bcount := k
      if k > 0 then
        out := out ++ (b.extract at_ nb).reverse; nb := at_
        if nb == 1 then return firstOfB out na nb
        if nb == 0 then return done out na nb
      na := na - 1; out := out.push (← elem' a na)
      if na == 0 then return done out na nb
      if acount < 7 && bcount < 7 then break
    minGallop := minGallop + 1
    setMinGallop' minGallop
  unsupported "internal:list.sort.merge-bound") := rfl
section
variable {kf : Keyed → Int} {T : List Keyed} {a b : Array Keyed}
noncomputable abbrev kn (kf : Keyed → Int) : Keyed → Int := fun x => -kf x
theorem srt_rev {l : List Keyed} (h : Srt (kn kf) l) : Srt kf l.reverse := List.pairwise_reverse.mpr (h.imp fun {x y} (z : -kf x ≤ -kf y) => by omega)
theorem rev_srt {l : List Keyed} (h : Srt kf l) : Srt (kn kf) l.reverse := List.pairwise_reverse.mpr (h.imp fun {x y} z => by show -kf y ≤ -kf x; omega)
theorem take_snoc {i : Nat} {x : Keyed} (h : a[i]? = some x) : (a.toList.take (i + 1)).reverse = x :: (a.toList.take i).reverse := by
  obtain ⟨hi, rfl⟩ := Array.getElem?_eq_some_iff.mp h
  rw [List.take_succ_eq_append_getElem (by simpa using hi), List.reverse_append]
  simp
noncomputable abbrev Rh (kf : Keyed → Int) (T : List Keyed) (a b out : Array Keyed) (na nb : Nat) : Prop := Mi (kn kf) T out.toList (a.toList.take na).reverse (b.toList.take nb).reverse
theorem Rh.swap {out : Array Keyed} {na nb : Nat} (M : Rh kf T a b out na nb) : Rh kf T b a out nb na := Mi.swap M
theorem le_take {i : Nat} {x y : Keyed} (s : Srt kf a.toList) (hi : i ≤ a.size) (hy : y ∈ (a.toList.take i).reverse) (h : ∀ u, a[i - 1]? = some u → kf u ≤ kf x) : kf y ≤ kf x := by
  rw [List.mem_reverse] at hy
  obtain ⟨j, hj, rfl⟩ := List.mem_iff_getElem.mp hy
  rw [List.length_take, Array.length_toList] at hj
  have e : a[i - 1]? = some (a[i - 1]'(by omega)) := Array.getElem?_eq_getElem _
  refine Int.le_trans (srt_at (i := j) (j := i - 1) s (by omega) ?_ e) (h _ e)
  rw [List.getElem_take, Array.getElem_toList]
  exact Array.getElem?_eq_getElem _
theorem Rh.pA {out : Array Keyed} {na nb : Nat} {x : Keyed} (M : Rh kf T a b out na nb) (n1 : 1 ≤ na) (hx : a[na - 1]? = some x) (sb : Srt kf b.toList) (hb : nb ≤ b.size) (h : ∀ u, b[nb - 1]? = some u → kf u ≤ kf x) : Rh kf T a b (out.push x) (na - 1) nb := by
  unfold Rh at M ⊢
  rw [show na = na - 1 + 1 by omega, take_snoc hx] at M
  rw [Array.toList_push]
  refine Mi.takeA (l := [x]) M fun z hz y hy => ?_
  rw [List.mem_singleton.mp hz]
  have := le_take sb hb hy h
  show -kf x ≤ -kf y
  omega
theorem Rh.pB {out : Array Keyed} {na nb : Nat} {x : Keyed} (M : Rh kf T a b out na nb) (n1 : 1 ≤ nb) (hx : b[nb - 1]? = some x) (sa : Srt kf a.toList) (ha : na ≤ a.size) (h : ∀ u, a[na - 1]? = some u → kf u ≤ kf x) : Rh kf T a b (out.push x) na (nb - 1) := (M.swap.pA n1 hx sa ha h).swap
theorem Rh.eA {out : Array Keyed} {na nb at_ : Nat} (M : Rh kf T a b out na nb) (h1 : at_ ≤ na) (ha : na ≤ a.size) (sb : Srt kf b.toList) (hb : nb ≤ b.size) (h : ∀ j, at_ ≤ j → j < na → ∀ x, a[j]? = some x → ∀ u, b[nb - 1]? = some u → kf u ≤ kf x) : Rh kf T a b (out ++ (a.extract at_ na).reverse) at_ nb := by
  unfold Rh at M ⊢
  rw [Array.toList_append, Array.toList_reverse, Array.toList_extract, List.extract_eq_take_drop]
  have e : (a.toList.take na).reverse = ((a.toList.drop at_).take (na - at_)).reverse ++ (a.toList.take at_).reverse := by
    rw [← List.reverse_append]
    congr 1
    have := List.take_append_drop at_ (a.toList.take na)
    rw [List.take_take, Nat.min_eq_left h1, List.drop_take] at this
    exact this.symm
  rw [e] at M
  refine Mi.takeA M fun z hz y hy => ?_
  rw [List.mem_reverse] at hz
  obtain ⟨j, hj, rfl⟩ := List.mem_iff_getElem.mp hz
  rw [List.length_take, List.length_drop, Array.length_toList] at hj
  have hz' : a[at_ + j]? = some (((a.toList.drop at_).take (na - at_))[j]'(by rw [List.length_take, List.length_drop, Array.length_toList]; exact hj)) := by
    rw [← Array.getElem?_toList, List.getElem_take, List.getElem_drop, List.getElem?_eq_getElem]
  have := le_take sb hb hy (h (at_ + j) (by omega) (by omega) _ hz')
  show -kf _ ≤ -kf y
  omega
theorem Rh.eB {out : Array Keyed} {na nb at_ : Nat} (M : Rh kf T a b out na nb) (h1 : at_ ≤ nb) (hb : nb ≤ b.size) (sa : Srt kf a.toList) (ha : na ≤ a.size) (h : ∀ j, at_ ≤ j → j < nb → ∀ x, b[j]? = some x → ∀ u, a[na - 1]? = some u → kf u ≤ kf x) : Rh kf T a b (out ++ (b.extract at_ nb).reverse) na at_ := (M.swap.eA h1 hb sa ha h).swap
theorem ext_0 (i : Nat) : (a.extract 0 i).toList = a.toList.take i := by
  rw [Array.toList_extract, List.extract_eq_take_drop, List.drop_zero, Nat.sub_zero]
theorem Rh.fin {out : Array Keyed} {na nb : Nat} (M : Rh kf T a b out na nb) (h : na = 0 ∨ nb = 0) : (a.extract 0 na ++ b.extract 0 nb ++ out.reverse).toList.Perm T ∧ Srt kf (a.extract 0 na ++ b.extract 0 nb ++ out.reverse).toList := by
  have e : (a.extract 0 na ++ b.extract 0 nb ++ out.reverse).toList = (out.toList ++ (b.toList.take nb).reverse ++ (a.toList.take na).reverse).reverse := by
    rw [Array.toList_append, Array.toList_append, ext_0, ext_0, Array.toList_reverse]
    simp
  rw [e]
  have F := Mi.fin M.swap (by
    rcases h with rfl | rfl
    · exact .inr (by simp)
    · exact .inl (by simp))
  exact ⟨(List.reverse_perm _).trans F.1, srt_rev F.2⟩
theorem Rh.last {out : Array Keyed} {na nb : Nat} (M : Rh kf T a b out na nb) (h : nb = 1) (hb : 1 ≤ b.size) (h1 : ∀ x ∈ a.toList, ∀ y, b[0]? = some y → kf y ≤ kf x) : (b.extract 0 nb ++ a.extract 0 na ++ out.reverse).toList.Perm T ∧ Srt kf (b.extract 0 nb ++ a.extract 0 na ++ out.reverse).toList := by
  have e : (b.extract 0 nb ++ a.extract 0 na ++ out.reverse).toList = (out.toList ++ (a.toList.take na).reverse ++ (b.toList.take nb).reverse).reverse := by
    rw [Array.toList_append, Array.toList_append, ext_0, ext_0, Array.toList_reverse]
    simp
  rw [e]
  have F := Mi.last M.swap fun x hx y hy => by
    have e0 : b[0]? = some (b[0]'(by omega)) := Array.getElem?_eq_getElem _
    rw [h, show 1 = 0 + 1 from rfl, take_snoc e0, List.take_zero, List.reverse_nil, List.mem_singleton] at hx
    subst hx
    have := h1 y (List.mem_of_mem_take (List.mem_reverse.mp hy)) _ e0
    show -kf y ≤ -kf _
    omega
  exact ⟨(List.reverse_perm _).trans F.1, srt_rev F.2⟩
end
section
variable {prog : Program} {w : World} {A : Around} {E : Value → Shared → Prop} {s : Shared} {κ : SortKind} {kf : Keyed → Int} {good : Keyed → Prop}
theorem wpS_mergeHi (H : HL prog w A s κ kf good) {st : SortSt} (hk : kindOf st = κ) {a b : Array Keyed} {Q : Array Keyed → SortSt → Prop} (ga : ∀ x ∈ a.toList, good x) (gb : ∀ x ∈ b.toList, good x) (sa : Srt kf a.toList) (sb : Srt kf b.toList) (a1 : 1 ≤ a.size) (b1 : 1 ≤ b.size) (h1 : ∀ x ∈ a.toList, ∀ y, b[0]? = some y → kf y ≤ kf x) (h2 : ∀ y ∈ b.toList, ∀ x, a[a.size - 1]? = some x → kf y ≤ kf x)
    (h : ∀ m st', Sm st st' → m.toList.Perm (a.toList ++ b.toList) → Srt kf m.toList → Q m st') : wpS (model prog w) A E s (mergeHi' a b) Q st := by
  have fin : ∀ {out : Array Keyed} {na nb : Nat} {st' : SortSt}, Sm st st' → Rh kf (a.toList ++ b.toList) a b out na nb → (na = 0 ∨ nb = 0) → Q (a.extract 0 na ++ b.extract 0 nb ++ out.reverse) st' := fun S M z => h _ _ S (M.fin z).1 (M.fin z).2
  have last : ∀ {out : Array Keyed} {na nb : Nat} {st' : SortSt}, Sm st st' → Rh kf (a.toList ++ b.toList) a b out na nb → nb = 1 → Q (b.extract 0 nb ++ a.extract 0 na ++ out.reverse) st' := fun S M z => h _ _ S (M.last z b1 h1).1 (M.last z b1 h1).2
  have aA : ∀ {i : Nat}, i < a.size → ∃ x, a[i]? = some x := fun {i} hi => ⟨_, Array.getElem?_eq_getElem hi⟩
  have aB : ∀ {i : Nat}, i < b.size → ∃ x, b[i]? = some x := fun {i} hi => ⟨_, Array.getElem?_eq_getElem hi⟩
  rw [mergeHi'_eq]
  dsimp only
  refine wpS_bind (wpS_lift (wpAny_rule ⟨rfl, ?_⟩))
  obtain ⟨y0, e0⟩ := aA (show a.size - 1 < a.size by omega)
  refine wpS_bind (wpS_elem e0 ?_)
  have M0 : Rh kf (a.toList ++ b.toList) a b #[] a.size b.size := by
    unfold Rh
    rw [List.take_of_length_le (by simp), List.take_of_length_le (by simp)]
    exact ⟨((List.reverse_perm _).append (List.reverse_perm _)), List.Pairwise.nil, (fun x hx => by cases hx), rev_srt sa, rev_srt sb⟩
  have M1 : Rh kf (a.toList ++ b.toList) a b #[y0] (a.size - 1) b.size := M0.pA a1 e0 sb (Nat.le_refl _) fun u hu => h2 u (mem_of hu) y0 e0
  by_cases c1 : a.size - 1 = 0
  · rw [if_pos (by simpa using c1)]
    exact wpS_pure (fin (Sm.refl _) M1 (.inl c1))
  rw [if_neg (by simpa using c1)]
  by_cases c2 : b.size = 1
  · rw [if_pos (by simpa using c2)]
    exact wpS_pure (last (Sm.refl _) M1 c2)
  rw [if_neg (by simpa using c2)]
  refine wpS_bind (wpS_get ?_)
  refine wpS_bind (wpS_mono (wpS_forRange (I := fun x c st' => Sm st st' ∧ ∃ out na nb mg, c = (none, na, nb, out, mg) ∧ Rh kf (a.toList ++ b.toList) a b out na nb ∧ (1 ≤ na ∧ na ≤ a.size) ∧ (2 ≤ nb ∧ nb ≤ b.size) ∧ na + nb + x + 1 ≤ a.size + b.size) (Q := fun c st' => ∃ r rest, c = (some r, rest) ∧ Q r st') ?step ?fin ⟨Sm.refl _, _, _, _, _, rfl, M1, by omega, by omega, by omega⟩) ?post)
  case fin =>
    rintro c st' ⟨S, out, na, nb, mg, rfl, M, k1, k2, k3⟩
    omega
  case post =>
    rintro c st' ⟨r, rest, rfl, q⟩
    exact wpS_pure q
  case step =>
    rintro x c st' _ hx ⟨S, out, na, nb, mg, rfl, M, k1, k2, k3⟩
    dsimp only
    refine wpS_bind (wpS_mono (wpS_forRange (I := fun x' c st'' => st'' = st' ∧ ∃ out na' nb' ac bc, c = (none, na', nb', out, ac, bc) ∧ Rh kf (a.toList ++ b.toList) a b out na' nb' ∧ (1 ≤ na' ∧ na' ≤ a.size) ∧ (2 ≤ nb' ∧ nb' ≤ b.size) ∧ na' + nb' + x' ≤ na + nb) (Q := fun c st'' => st'' = st' ∧ ((∃ r rest, c = (some r, rest) ∧ Q r st') ∨ ∃ out na' nb' ac bc, c = (none, na', nb', out, ac, bc) ∧ Rh kf (a.toList ++ b.toList) a b out na' nb' ∧ (1 ≤ na' ∧ na' ≤ a.size) ∧ (2 ≤ nb' ∧ nb' ≤ b.size) ∧ na' + nb' + 1 ≤ na + nb)) ?step1 ?fin1 ⟨rfl, _, _, _, _, _, rfl, M, k1, k2, by omega⟩) ?post1)
    case fin1 =>
      rintro c st'' ⟨rfl, out, na', nb', ac, bc, rfl, M, j1, j2, j3⟩
      omega
    case step1 =>
      rintro x' c st'' _ hx' ⟨rfl, out, na', nb', ac, bc, rfl, M, j1, j2, j3⟩
      dsimp only
      obtain ⟨xb, eb⟩ := aB (show nb' - 1 < b.size by omega)
      obtain ⟨xa, ea⟩ := aA (show na' - 1 < a.size by omega)
      refine wpS_bind (wpS_elem eb (wpS_bind (wpS_elem ea (wpS_bind (wpS_lt H (S.k.trans hk) (gb _ (mem_of eb)) (ga _ (mem_of ea)) ?_)))))
      dsimp only
      by_cases d : kf xb < kf xa
      · rw [if_pos (decide_eq_true d)]
        refine wpS_bind (wpS_elem ea ?_)
        have M' := M.pA j1.1 ea sb j2.2 fun y hy => by rw [eb] at hy; cases hy; omega
        by_cases c3 : na' - 1 = 0
        · rw [if_pos (by simpa using c3)]
          exact wpS_pure ⟨rfl, .inl ⟨_, _, rfl, fin S M' (.inl c3)⟩⟩
        rw [if_neg (by simpa using c3)]
        split
        · exact wpS_pure ⟨rfl, .inr ⟨_, _, _, _, _, rfl, M', by omega, by omega, by omega⟩⟩
        · exact wpS_pure ⟨rfl, _, _, _, _, _, rfl, M', by omega, by omega, by omega⟩
      · rw [if_neg (by rw [decide_eq_false d]; exact Bool.false_ne_true)]
        refine wpS_bind (wpS_elem eb ?_)
        have M' := M.pB (by omega) eb sa j1.2 fun y hy => by rw [ea] at hy; cases hy; omega
        by_cases c3 : nb' - 1 = 1
        · rw [if_pos (by simpa using c3)]
          exact wpS_pure ⟨rfl, .inl ⟨_, _, rfl, last S M' c3⟩⟩
        rw [if_neg (by simpa using c3)]
        split
        · exact wpS_pure ⟨rfl, .inr ⟨_, _, _, _, _, rfl, M', by omega, by omega, by omega⟩⟩
        · exact wpS_pure ⟨rfl, _, _, _, _, _, rfl, M', by omega, by omega, by omega⟩
    case post1 =>
      rintro c st'' ⟨rfl, z⟩
      rcases z with ⟨r, rest, rfl, q⟩ | ⟨out, na', nb', ac, bc, rfl, M, j1, j2, j3⟩
      · exact wpS_pure ⟨_, _, rfl, q⟩
      dsimp only
      refine wpS_bind (wpS_lift (wpAny_rule ⟨rfl, ?_⟩))
      refine wpS_bind (wpS_mono (wpS_forRange (I := fun x'' c st2 => Sm st st2 ∧ ∃ out na2 nb2 mg ac bc, c = (none, na2, nb2, out, mg, ac, bc) ∧ Rh kf (a.toList ++ b.toList) a b out na2 nb2 ∧ (1 ≤ na2 ∧ na2 ≤ a.size) ∧ (2 ≤ nb2 ∧ nb2 ≤ b.size) ∧ na2 + nb2 + x'' ≤ na' + nb') (Q := fun c st2 => (∃ r rest, c = (some r, rest) ∧ Q r st2) ∨ (Sm st st2 ∧ ∃ out na2 nb2 mg ac bc, c = (none, na2, nb2, out, mg, ac, bc) ∧ Rh kf (a.toList ++ b.toList) a b out na2 nb2 ∧ (1 ≤ na2 ∧ na2 ≤ a.size) ∧ (2 ≤ nb2 ∧ nb2 ≤ b.size) ∧ na2 + nb2 ≤ na' + nb')) ?step2 ?fin2 ⟨S, _, _, _, _, _, _, rfl, M, j1, j2, by omega⟩) ?post2)
      case fin2 =>
        rintro c st2 ⟨S, out, na2, nb2, mg, ac, bc, rfl, M, i1, i2, i3⟩
        omega
      case post2 =>
        rintro c st2 z
        rcases z with ⟨r, rest, rfl, q⟩ | ⟨S, out, na2, nb2, mg, ac, bc, rfl, M, i1, i2, i3⟩
        · exact wpS_pure ⟨_, _, rfl, q⟩
        dsimp only
        refine wpS_bind (wpS_setMin fun st3 S3 => ?_)
        exact wpS_pure ⟨S.trans S3, _, _, _, _, rfl, M, i1, i2, by omega⟩
      case step2 =>
        rintro x'' c st2 _ hx'' ⟨S, out, na2, nb2, mg, ac, bc, rfl, M, i1, i2, i3⟩
        clear M0 M1 k1 k2 k3 j1 j2 j3 hx hx'' c1 c2
        dsimp only
        obtain ⟨xb, eb⟩ := aB (show nb2 - 1 < b.size by omega)
        by_cases c5 : mg > 1
        case' pos => rw [if_pos c5]
        case' neg => rw [if_neg c5]
        all_goals
          refine wpS_bind (wpS_setMin fun st3 S3 => ?_)
          have S' := S.trans S3
          clear S S3
          refine wpS_bind (wpS_elem eb ?_)
          refine wpS_bind (wpS_gal H (S'.k.trans hk) (gb _ (mem_of eb)) ga (fun u v x y _ huv _ hx hy => srt_at sa huv hx hy) (by omega) (by omega) fun k hkn g1 g2 => ?_)
          simp only [Bool.false_eq_true, if_false, Nat.zero_add] at g1 g2
          dsimp only
          by_cases k0 : na2 - k > 0
          case' pos =>
            have N := M.eA (at_ := k) hkn i1.2 sb i2.2 fun j h1 h2 x hx u hu => by rw [eb] at hu; cases hu; exact Int.le_of_lt (g2 j h1 h2 x hx)
            rw [if_pos k0]
            by_cases c3 : k = 0
            · rw [if_pos (by simpa using c3)]
              exact wpS_pure (.inl ⟨_, _, rfl, fin S' N (.inl c3)⟩)
            rw [if_neg (by simpa using c3)]
            have hi : 1 ≤ k ∧ k ≤ a.size := by omega
            have hg : ∀ y, a[k - 1]? = some y → kf y ≤ kf xb := fun y hy => g1 (k - 1) (by omega) y hy
            have hm : k + nb2 + x'' ≤ na' + nb' := by omega
            generalize na2 - k = d at *
            clear g1 g2 c3 i3 M hkn
            generalize out ++ (a.extract k na2).reverse = o at *
            clear i1
            generalize k = i at *
          case' neg =>
            have N := M
            rw [if_neg k0]
            have hi := i1
            have hg : ∀ y, a[na2 - 1]? = some y → kf y ≤ kf xb := fun y hy => g1 (na2 - 1) (by omega) y hy
            have hm := i3
            generalize na2 - k = d at *
            clear g1 g2 i3 M hkn k0
            generalize out = o at *
            clear i1
            generalize na2 = i at *
          all_goals
            refine wpS_bind (wpS_elem eb ?_)
            have N' := N.pB (by omega) eb sa hi.2 hg
            by_cases c6 : nb2 - 1 = 1
            · rw [if_pos (by simpa using c6)]
              exact wpS_pure (.inl ⟨_, _, rfl, last S' N' c6⟩)
            rw [if_neg (by simpa using c6)]
            obtain ⟨xa, ea⟩ := aA (show i - 1 < a.size by omega)
            refine wpS_bind (wpS_elem ea ?_)
            refine wpS_bind (wpS_gal H (S'.k.trans hk) (ga _ (mem_of ea)) gb (fun u v x y _ huv _ hx hy => srt_at sb huv hx hy) (by omega) (by omega) fun k1 hk1 g3 g4 => ?_)
            simp only [if_true, Nat.zero_add] at g3 g4
            dsimp only
            by_cases k10 : nb2 - 1 - k1 > 0
            case' pos =>
              have P := N'.eB (at_ := k1) hk1 (by omega) sa hi.2 fun j h1 h2 x hx u hu => by rw [ea] at hu; cases hu; exact g4 j h1 h2 x hx
              rw [if_pos k10]
              by_cases c7 : k1 = 1
              · rw [if_pos (by simpa using c7)]
                exact wpS_pure (.inl ⟨_, _, rfl, last S' P c7⟩)
              rw [if_neg (by simpa using c7)]
              by_cases c8 : k1 = 0
              · rw [if_pos (by simpa using c8)]
                exact wpS_pure (.inl ⟨_, _, rfl, fin S' P (.inr c8)⟩)
              rw [if_neg (by simpa using c8)]
              have hb : 2 ≤ k1 ∧ k1 ≤ b.size := by omega
              have hg2 : ∀ y, b[k1 - 1]? = some y → kf y ≤ kf xa := fun y hy => Int.le_of_lt (g3 (k1 - 1) (by omega) y hy)
              have hm2 : i + k1 + x'' + 1 ≤ na' + nb' := by omega
              generalize nb2 - 1 - k1 = d1 at *
              clear g3 g4 c7 c8 hm N N' hg c6
              generalize o.push xb ++ (b.extract k1 (nb2 - 1)).reverse = o2 at *
              clear hk1
              generalize k1 = i4 at *
            case' neg =>
              have P := N'
              rw [if_neg k10]
              have hb : 2 ≤ nb2 - 1 ∧ nb2 - 1 ≤ b.size := by omega
              have hg2 : ∀ y, b[nb2 - 1 - 1]? = some y → kf y ≤ kf xa := fun y hy => Int.le_of_lt (g3 (nb2 - 1 - 1) (by omega) y hy)
              have hm2 : i + (nb2 - 1) + x'' + 1 ≤ na' + nb' := by omega
              generalize nb2 - 1 - k1 = d1 at *
              clear g3 g4 hm N N' hg c6 hk1 k10
              generalize o.push xb = o2 at *
              generalize nb2 - 1 = i4 at *
            all_goals
              refine wpS_bind (wpS_elem ea ?_)
              have P' := P.pA hi.1 ea sb hb.2 hg2
              by_cases c8 : i - 1 = 0
              · rw [if_pos (by simpa using c8)]
                exact wpS_pure (.inl ⟨_, _, rfl, fin S' P' (.inl c8)⟩)
              rw [if_neg (by simpa using c8)]
              by_cases c9 : (decide (d < 7) && decide (d1 < 7)) = true
              · rw [if_pos c9]
                exact wpS_pure (.inr ⟨S', _, _, _, _, _, _, rfl, P', by omega, by omega, by omega⟩)
              · rw [if_neg c9]
                exact wpS_pure ⟨S', _, _, _, _, _, _, rfl, P', by omega, by omega, by omega⟩
end
end L2.Ts
namespace L2.Ts
open PySem PyProof.Rows
structure Ch (lo hi : Nat) (st st' : SortSt) : Prop where
  k : kindOf st' = kindOf st
  p : pendingOf st' = pendingOf st
  f : failedOf st' = failedOf st
  perm : (arrOf st').Perm (arrOf st)
  out : ∀ i, i < lo ∨ hi ≤ i → (arrOf st')[i]? = (arrOf st)[i]?
theorem Ch.refl (lo hi : Nat) (st : SortSt) : Ch lo hi st st := ⟨rfl, rfl, rfl, Array.Perm.refl _, fun _ _ => rfl⟩
theorem Ch.trans {lo hi : Nat} {a b c : SortSt} (h : Ch lo hi a b) (k : Ch lo hi b c) : Ch lo hi a c := ⟨k.k.trans h.k, k.p.trans h.p, k.f.trans h.f, k.perm.trans h.perm, fun i hi => (k.out i hi).trans (h.out i hi)⟩
theorem Ch.mono {lo hi lo' hi' : Nat} {a b : SortSt} (h : Ch lo hi a b) (h1 : lo' ≤ lo) (h2 : hi ≤ hi') : Ch lo' hi' a b := ⟨h.k, h.p, h.f, h.perm, fun i z => h.out i (by omega)⟩
theorem Ch.size {lo hi : Nat} {a b : SortSt} (h : Ch lo hi a b) : (arrOf b).size = (arrOf a).size := h.perm.size_eq
noncomputable def kK (kf : Keyed → Int) (xs : Array Keyed) (i : Nat) : Int := match xs[i]? with
  | some p => kf p
  | none => 0
theorem kK_congr {kf : Keyed → Int} {xs ys : Array Keyed} {i j : Nat} (h : xs[i]? = ys[j]?) : kK kf xs i = kK kf ys j := by unfold kK; rw [h]
theorem kK_at {kf : Keyed → Int} {xs : Array Keyed} {i : Nat} {x : Keyed} (h : xs[i]? = some x) : kK kf xs i = kf x := by unfold kK; rw [h]
noncomputable def SL (kf : Keyed → Int) (xs : Array Keyed) (lo hi : Nat) : Prop := ∀ i j, lo ≤ i → i ≤ j → j < hi → kK kf xs i ≤ kK kf xs j
noncomputable def DL (kf : Keyed → Int) (xs : Array Keyed) (lo hi : Nat) : Prop := ∀ i j, lo ≤ i → i ≤ j → j < hi → kK kf xs j ≤ kK kf xs i
theorem kK_mirror {kf : Keyed → Int} {xs : Array Keyed} {i j : Nat} (hj : j ≤ xs.size) (k : Nat) :
    kK kf (mirror xs i j ((j - i) / 2)) k = if i ≤ k ∧ k < j then kK kf xs (i + j - 1 - k) else kK kf xs k := by
  have e := getElem?_mirror_all (i := i) hj k
  by_cases h1 : i ≤ k ∧ k < j
  · rw [if_pos h1] at e ⊢; exact kK_congr e
  · rw [if_neg h1] at e ⊢; exact kK_congr e
theorem kK_mirror_eq {kf : Keyed → Int} {xs : Array Keyed} {i j : Nat} (hj : j ≤ xs.size) (he : ∀ k, i ≤ k → k < j → kK kf xs k = kK kf xs (j - 1)) (k : Nat) :
    kK kf (mirror xs i j ((j - i) / 2)) k = kK kf xs k := by
  rw [kK_mirror hj]
  split
  · rw [he _ (by omega) (by omega), he k (by omega) (by omega)]
  · rfl
theorem kK_bubble {kf : Keyed → Int} {xs : Array Keyed} {src d : Nat} (hs : src < xs.size) (hd : d ≤ src) (k : Nat) :
    kK kf (bubble xs src d) k = if k = src - d then kK kf xs src else if src - d < k ∧ k ≤ src then kK kf xs (k - 1) else kK kf xs k := by
  have e := getElem?_bubble hs d hd k
  by_cases h1 : k = src - d
  · rw [if_pos h1] at e ⊢; exact kK_congr e
  · rw [if_neg h1] at e ⊢
    by_cases h2 : src - d < k ∧ k ≤ src
    · rw [if_pos h2] at e ⊢; exact kK_congr e
    · rw [if_neg h2] at e ⊢; exact kK_congr e
theorem ch_mirror {st : SortSt} {i j : Nat} (hj : j ≤ (arrOf st).size) : Ch i j st (setArr st (mirror (arrOf st) i j ((j - i) / 2))) :=
  ⟨rfl, rfl, rfl, mirror_perm _ _ _ _, fun k hk => by
    show (mirror (arrOf st) i j ((j - i) / 2))[k]? = _
    rw [getElem?_mirror_all hj, if_neg (by omega)]⟩
theorem ch_bubble {st : SortSt} {k l lo hi : Nat} (hk : k < (arrOf st).size) (h1 : lo ≤ l) (h2 : k < hi) (h3 : l ≤ k) : Ch lo hi st (setArr st (bubble (arrOf st) k (k - l))) :=
  ⟨rfl, rfl, rfl, bubble_perm _ _ _, fun i hi => by
    show (bubble (arrOf st) k (k - l))[i]? = _
    rw [getElem?_bubble hk _ (by omega), if_neg (by omega), if_neg (by omega)]⟩
section
variable {prog : Program} {w : World} {A : Around} {E : Value → Shared → Prop} {s : Shared} {κ : SortKind} {kf : Keyed → Int} {good : Keyed → Prop}
structure Gd (κ : SortKind) (good : Keyed → Prop) (st : SortSt) : Prop where
  k : kindOf st = κ
  g : ∀ x ∈ (arrOf st).toList, good x
theorem Gd.ch {lo hi : Nat} {st st' : SortSt} (h : Gd κ good st) (c : Ch lo hi st st') : Gd κ good st' := ⟨c.k.trans h.k, fun x hx => h.g x ((Array.perm_iff_toList_perm.mp c.perm).mem_iff.mp hx)⟩
theorem wpS_ltAt (H : HL prog w A s κ kf good) {st : SortSt} (G : Gd κ good st) {i j : Nat} {Q : Option Bool → SortSt → Prop} (hi : i < (arrOf st).size) (hj : j < (arrOf st).size) (h : Q (some (decide (kK kf (arrOf st) i < kK kf (arrOf st) j))) st) : wpS (model prog w) A E s (ltAt' i j) Q st := by
  have ei : (arrOf st)[i]? = some (arrOf st)[i] := Array.getElem?_eq_getElem hi
  have ej : (arrOf st)[j]? = some (arrOf st)[j] := Array.getElem?_eq_getElem hj
  rw [kK_at ei, kK_at ej] at h
  rw [ltAt'_eq]
  refine wpS_bind (wpS_get ?_)
  exact wpS_bind (wpS_elem ei (wpS_bind (wpS_elem ej (wpS_lt H G.k (G.g _ (mem_of ei)) (G.g _ (mem_of ej)) h))))
theorem wpS_rev {st : SortSt} {i j : Nat} {Q : Unit → SortSt → Prop} (h : Q () (setArr st (mirror (arrOf st) i j ((j - i) / 2)))) : wpS (model prog w) A E s (reverseSlice' i j) Q st := by
  rw [reverseSlice'_eq]
  exact wpS_modify h
theorem SL.snoc {xs : Array Keyed} {lo hi : Nat} (h : SL kf xs lo hi) (h1 : lo < hi) (h2 : ¬ kK kf xs hi < kK kf xs (hi - 1)) : SL kf xs lo (hi + 1) := fun i j a b c => by
  by_cases e : j < hi
  · exact h i j a b e
  · have ej : j = hi := by omega
    subst ej
    by_cases ei : i = j
    · subst ei; exact Int.le_refl _
    · have := h i (j - 1) a (by omega) (by omega)
      omega
theorem DL.snoc {xs : Array Keyed} {lo hi : Nat} (h : DL kf xs lo hi) (h1 : lo < hi) (h2 : kK kf xs hi ≤ kK kf xs (hi - 1)) : DL kf xs lo (hi + 1) := fun i j a b c => by
  by_cases e : j < hi
  · exact h i j a b e
  · have ej : j = hi := by omega
    subst ej
    by_cases ei : i = j
    · subst ei; exact Int.le_refl _
    · have := h i (j - 1) a (by omega) (by omega)
      omega
theorem DL.same {xs ys : Array Keyed} {lo hi : Nat} (h : DL kf xs lo hi) (e : ∀ k, kK kf ys k = kK kf xs k) : DL kf ys lo hi := fun i j a b c => by
  rw [e, e]
  exact h i j a b c
theorem DL.rev {xs : Array Keyed} {lo hi : Nat} (h : DL kf xs lo hi) (hh : hi ≤ xs.size) : SL kf (mirror xs lo hi ((hi - lo) / 2)) lo hi := fun i j a b c => by
  rw [kK_mirror hh, kK_mirror hh, if_pos (by omega), if_pos (by omega)]
  exact h _ _ (by omega) (by omega) (by omega)
theorem sl_one (kf : Keyed → Int) (xs : Array Keyed) (lo : Nat) : SL kf xs lo (lo + 1) := fun i j a b c => by
  have : i = j := by omega
  subst this
  exact Int.le_refl _
theorem wpS_countRun (H : HL prog w A s κ kf good) {st : SortSt} (G : Gd κ good st) {lo nrem : Nat} {Q : Option Nat → SortSt → Prop} (hn : lo + nrem ≤ (arrOf st).size) (h1 : 1 ≤ nrem)
    (h : ∀ m st', Ch lo (lo + nrem) st st' → 1 ≤ m → m ≤ nrem → SL kf (arrOf st') lo (lo + m) → Q (some m) st') : wpS (model prog w) A E s (countRun' lo nrem) Q st := by
  rw [countRun'_eq]
  dsimp only
  refine wpS_bind (wpS_mono (wpS_forRange (I := fun x c st' => st' = st ∧ c = (none, x) ∧ x ≤ nrem ∧ SL kf (arrOf st) lo (lo + x)) (Q := fun c st' => st' = st ∧ ∃ n, c = (none, n) ∧ 1 ≤ n ∧ n ≤ nrem ∧ SL kf (arrOf st) lo (lo + n) ∧ (n = nrem ∨ kK kf (arrOf st) (lo + n) < kK kf (arrOf st) (lo + n - 1))) ?s1 ?f1 ⟨rfl, rfl, h1, sl_one kf _ lo⟩) ?p1)
  case f1 =>
    rintro c st' ⟨rfl, rfl, k1, k2⟩
    exact ⟨rfl, _, rfl, by omega, k1, k2, .inl (by omega)⟩
  case s1 =>
    rintro x c st' hx1 hx ⟨rfl, rfl, k1, k2⟩
    dsimp only
    refine wpS_bind (wpS_ltAt H G (by omega) (by omega) ?_)
    dsimp only
    by_cases d : kK kf (arrOf st') (lo + x) < kK kf (arrOf st') (lo + x - 1)
    · rw [if_pos (decide_eq_true d)]
      exact wpS_pure ⟨rfl, x, rfl, hx1, k1, k2, .inr d⟩
    · rw [if_neg (by rw [decide_eq_false d]; exact Bool.false_ne_true)]
      exact wpS_pure ⟨rfl, rfl, by omega, k2.snoc (by omega) d⟩
  rintro c st' ⟨hst, n, rfl, n1, n2, hs, hor⟩
  rw [hst]
  clear hst st'
  dsimp only
  by_cases c1 : n = nrem
  · rw [if_pos (by simpa using c1)]
    exact wpS_pure (h n st (Ch.refl _ _ _) n1 n2 hs)
  rw [if_neg (by simpa using c1)]
  have hlt := hor.resolve_left c1
  by_cases c2 : n > 1
  case' pos =>
    rw [if_pos c2]
    refine wpS_bind (wpS_ltAt H G (by omega) (by omega) ?_)
    dsimp only
    by_cases d : kK kf (arrOf st) lo < kK kf (arrOf st) (lo + n - 1)
    · rw [if_pos (decide_eq_true d)]
      exact wpS_pure (h n st (Ch.refl _ _ _) n1 n2 hs)
    rw [if_neg (by rw [decide_eq_false d]; exact Bool.false_ne_true)]
    refine wpS_bind (wpS_rev ?_)
    have hall : ∀ k, lo ≤ k → k < lo + n → kK kf (arrOf st) k = kK kf (arrOf st) (lo + n - 1) := by
      intro k a b
      have z1 := hs lo k (Nat.le_refl _) a b
      have z2 := hs k (lo + n - 1) a (by omega) (by omega)
      omega
    have C1 : Ch lo (lo + nrem) st (setArr st (mirror (arrOf st) lo (lo + n) ((lo + n - lo) / 2))) := (ch_mirror (by omega)).mono (Nat.le_refl _) (by omega)
    have D1 : DL kf (arrOf (setArr st (mirror (arrOf st) lo (lo + n) ((lo + n - lo) / 2)))) lo (lo + n + 1) := by
      refine DL.same (xs := arrOf st) (DL.snoc (fun i j a b c => ?_) (by omega) (Int.le_of_lt hlt)) fun k => kK_mirror_eq (by omega) hall k
      rw [hall i a (by omega), hall j (by omega) c]
      exact Int.le_refl _
    generalize setArr st (mirror (arrOf st) lo (lo + n) ((lo + n - lo) / 2)) = st1 at *
  case' neg =>
    rw [if_neg c2]
    have C1 : Ch lo (lo + nrem) st st := Ch.refl _ _ _
    have D1 : DL kf (arrOf st) lo (lo + n + 1) := DL.snoc (fun i j a b c => by
      have : i = j := by omega
      subst this
      exact Int.le_refl _) (by omega) (Int.le_of_lt hlt)
    obtain ⟨st1, e1⟩ : ∃ st1, st1 = st := ⟨_, rfl⟩
    rw [← e1]
    rw [← e1] at D1
    have C1 : Ch lo (lo + nrem) st st1 := e1 ▸ Ch.refl _ _ _
    clear e1
  all_goals
    refine wpS_bind (wpS_lift (wpAny_rule ⟨rfl, ?_⟩))
    refine wpS_bind (wpS_mono (wpS_forRange (I := fun x c st' => Ch lo (lo + nrem) st st' ∧ ∃ neq, c = (none, x, neq) ∧ x ≤ nrem ∧ DL kf (arrOf st') lo (lo + x) ∧ neq + 1 ≤ x ∧ ∀ k, lo + x - (neq + 1) ≤ k → k < lo + x → kK kf (arrOf st') k = kK kf (arrOf st') (lo + x - 1)) (Q := fun c st' => Ch lo (lo + nrem) st st' ∧ ∃ m neq, c = (none, m, neq) ∧ n + 1 ≤ m ∧ m ≤ nrem ∧ DL kf (arrOf st') lo (lo + m) ∧ neq + 1 ≤ m ∧ ∀ k, lo + m - (neq + 1) ≤ k → k < lo + m → kK kf (arrOf st') k = kK kf (arrOf st') (lo + m - 1)) ?_ ?_ ⟨C1, 0, rfl, by omega, D1, by omega, fun k a b => by congr 1; omega⟩) ?_)
    · rintro x c st' hx1 hx ⟨C, neq, rfl, k1, k2, k3, k4⟩
      have sz := C.size
      have G' := G.ch C
      dsimp only
      refine wpS_bind (wpS_ltAt H G' (by omega) (by omega) ?_)
      dsimp only
      by_cases d : kK kf (arrOf st') (lo + x) < kK kf (arrOf st') (lo + x - 1)
      · rw [if_pos (decide_eq_true d)]
        by_cases e : neq > 0
        · rw [if_pos e]
          refine wpS_bind (wpS_rev ?_)
          refine wpS_pure ⟨C.trans ((ch_mirror (by omega)).mono (by omega) (by omega)), 0, rfl, by omega, ?_, by omega, fun k a b => by congr 1; omega⟩
          exact DL.same (xs := arrOf st') (k2.snoc (by omega) (Int.le_of_lt d)) fun k => kK_mirror_eq (by omega) k4 k
        · rw [if_neg e]
          exact wpS_pure ⟨C, 0, rfl, by omega, k2.snoc (by omega) (Int.le_of_lt d), by omega, fun k a b => by congr 1; omega⟩
      · rw [if_neg (by rw [decide_eq_false d]; exact Bool.false_ne_true)]
        refine wpS_bind (wpS_ltAt H G' (by omega) (by omega) ?_)
        dsimp only
        by_cases e : kK kf (arrOf st') (lo + x - 1) < kK kf (arrOf st') (lo + x)
        · rw [if_pos (decide_eq_true e)]
          exact wpS_pure ⟨C, x, neq, rfl, hx1, k1, k2, k3, k4⟩
        · rw [if_neg (by rw [decide_eq_false e]; exact Bool.false_ne_true)]
          refine wpS_pure ⟨C, neq + 1, rfl, by omega, k2.snoc (by omega) (by omega), by omega, fun k a b => ?_⟩
          rw [show lo + (x + 1) - 1 = lo + x by omega]
          by_cases z : k = lo + x
          · rw [z]
          · have := k4 k (by omega) (by omega)
            omega
    · rintro c st' ⟨C, neq, rfl, k1, k2, k3, k4⟩
      exact ⟨C, _, neq, rfl, by omega, k1, k2, k3, k4⟩
    rintro c st' ⟨C, m, neq, rfl, m1, m2, D, q1, q2⟩
    have sz := C.size
    dsimp only
    by_cases e : neq > 0
    case' pos =>
      rw [if_pos e]
      refine wpS_bind (wpS_rev ?_)
      have C2 := C.trans ((ch_mirror (st := st') (i := lo + m - (neq + 1)) (j := lo + m) (by omega)).mono (lo' := lo) (hi' := lo + nrem) (by omega) (by omega))
      have D2 : DL kf (arrOf (setArr st' (mirror (arrOf st') (lo + m - (neq + 1)) (lo + m) ((lo + m - (lo + m - (neq + 1))) / 2)))) lo (lo + m) := DL.same (xs := arrOf st') D fun k => kK_mirror_eq (by omega) q2 k
      generalize setArr st' (mirror (arrOf st') (lo + m - (neq + 1)) (lo + m) ((lo + m - (lo + m - (neq + 1))) / 2)) = st2 at *
    case' neg =>
      rw [if_neg e]
      have C2 := C
      have D2 := D
      clear C D q2 sz
      generalize st' = st2 at *
    all_goals
      have sz2 := C2.size
      refine wpS_bind (wpS_rev ?_)
      have C3 := C2.trans ((ch_mirror (st := st2) (i := lo) (j := lo + m) (by omega)).mono (lo' := lo) (hi' := lo + nrem) (by omega) (by omega))
      have S3 : SL kf (arrOf (setArr st2 (mirror (arrOf st2) lo (lo + m) ((lo + m - lo) / 2)))) lo (lo + m) := D2.rev (by omega)
      generalize setArr st2 (mirror (arrOf st2) lo (lo + m) ((lo + m - lo) / 2)) = st3 at *
      have sz3 := C3.size
      have G3 := G.ch C3
      refine wpS_bind (wpS_mono (wpS_forRange (I := fun x c st' => st' = st3 ∧ c = (none, x) ∧ x ≤ nrem ∧ SL kf (arrOf st3) lo (lo + x)) (Q := fun c st' => st' = st3 ∧ ∃ n, c = (none, n) ∧ 1 ≤ n ∧ n ≤ nrem ∧ SL kf (arrOf st3) lo (lo + n)) ?_ ?_ ⟨rfl, rfl, m2, S3⟩) ?_)
      · rintro x c st' hx1 hx ⟨rfl, rfl, k1, k2⟩
        dsimp only
        refine wpS_bind (wpS_ltAt H G3 (by omega) (by omega) ?_)
        dsimp only
        by_cases d : kK kf (arrOf st') (lo + x) < kK kf (arrOf st') (lo + x - 1)
        · rw [if_pos (decide_eq_true d)]
          exact wpS_pure ⟨rfl, x, rfl, by omega, k1, k2⟩
        · rw [if_neg (by rw [decide_eq_false d]; exact Bool.false_ne_true)]
          exact wpS_pure ⟨rfl, rfl, by omega, k2.snoc (by omega) d⟩
      · rintro c st' ⟨rfl, rfl, k1, k2⟩
        exact ⟨rfl, _, rfl, by omega, k1, k2⟩
      · rintro c st' ⟨rfl, n', rfl, a, b, d⟩
        exact wpS_pure (h n' _ C3 a b d)
end
end L2.Ts
namespace L2.Ts
open PySem PyProof.Rows
theorem mergeAt'_eq (i : Nat) : mergeAt' i = (do
  let s ← get
  let (some (sa, na, power), some (sb, nb, _)) := ((pendingOf s)[i]?, (pendingOf s)[i + 1]?) | unsupported "internal:list.sort.pending"
  set (setPending s (((pendingOf s).setIfInBounds i (sa, na + nb, power)).eraseIdxIfInBounds (i + 1)))
  let some k ← gallop' false (← elem' (arrOf s) sb) (arrOf s) sa na 0 | return false
  let (sa, na) := (sa + k, na - k)
  if na == 0 then return true
  let some nb ← gallop' true (← elem' (arrOf s) (sa + na - 1)) (arrOf s) sb nb (nb - 1) | return false
  if nb == 0 then return true
  let x := (arrOf s).extract sa sb
  let y := (arrOf s).extract sb (sb + nb)
  let merged ← if na ≤ nb then mergeLo' x y else mergeHi' x y
  modify fun s => setArr s (merged.toList.zipIdx.foldl (fun a (p, j) => a.setIfInBounds (sa + j) p) (arrOf s))
  return (failedOf (← get)).isNone) := rfl
section
variable {prog : Program} {w : World} {A : Around} {E : Value → Shared → Prop} {s : Shared} {κ : SortKind} {kf : Keyed → Int} {good : Keyed → Prop}
theorem wpS_binarySort (H : HL prog w A s κ kf good) {st : SortSt} (G : Gd κ good st) {lo n ok : Nat} {Q : Bool → SortSt → Prop} (hn : lo + n ≤ (arrOf st).size) (hok : ok ≤ n) (h1 : 1 ≤ ok) (hs : SL kf (arrOf st) lo (lo + ok))
    (h : ∀ st', Ch lo (lo + n) st st' → SL kf (arrOf st') lo (lo + n) → Q true st') : wpS (model prog w) A E s (binarySort' lo n ok) Q st := by
  rw [binarySort'_eq]
  dsimp only
  refine wpS_bind (wpS_mono (wpS_forRange (I := fun k c st' => Ch lo (lo + n) st st' ∧ c = (none, ()) ∧ SL kf (arrOf st') lo (lo + min k n)) (Q := fun c st' => Ch lo (lo + n) st st' ∧ c = (none, ()) ∧ SL kf (arrOf st') lo (lo + n)) ?step ?fin ?init) ?post)
  case init =>
    rw [show max ok 1 = ok by omega, show min ok n = ok by omega]
    exact ⟨Ch.refl _ _ _, rfl, hs⟩
  case fin =>
    rintro c st' ⟨C, rfl, k1⟩
    rw [show min (max (max ok 1) n) n = n by omega] at k1
    exact ⟨C, rfl, k1⟩
  case post =>
    rintro c st' ⟨C, rfl, k1⟩
    exact wpS_pure (h st' C k1)
  case step =>
    rintro k c st' hk1 hk ⟨C, rfl, k1⟩
    rw [show min k n = k by omega] at k1
    have sz := C.size
    have G' := G.ch C
    refine wpS_bind (wpS_mono (wpS_forRange (I := fun x c st'' => st'' = st' ∧ ∃ l r, c = (none, l, r) ∧ l ≤ r ∧ r ≤ k ∧ r - l ≤ k - x ∧ (∀ i, lo ≤ i → i < lo + l → kK kf (arrOf st') i ≤ kK kf (arrOf st') (lo + k)) ∧ (∀ i, lo + r ≤ i → i < lo + k → kK kf (arrOf st') (lo + k) < kK kf (arrOf st') i)) (Q := fun c st'' => st'' = st' ∧ ∃ l r, c = (none, l, r) ∧ l ≤ k ∧ (∀ i, lo ≤ i → i < lo + l → kK kf (arrOf st') i ≤ kK kf (arrOf st') (lo + k)) ∧ (∀ i, lo + l ≤ i → i < lo + k → kK kf (arrOf st') (lo + k) < kK kf (arrOf st') i)) ?istep ?ifin ⟨rfl, 0, k, rfl, by omega, by omega, by omega, fun i a b => by omega, fun i a b => by omega⟩) ?ipost)
    case ifin =>
      rintro c st'' ⟨rfl, l, r, rfl, a1, a2, a3, a4, a5⟩
      have : l = r := by omega
      subst this
      exact ⟨rfl, l, l, rfl, a2, a4, a5⟩
    case istep =>
      rintro x c st'' _ hx ⟨rfl, l, r, rfl, a1, a2, a3, a4, a5⟩
      dsimp only
      by_cases hge : l ≥ r
      · rw [if_pos hge]
        have : l = r := by omega
        subst this
        exact wpS_pure ⟨rfl, l, l, rfl, a2, a4, a5⟩
      · rw [if_neg hge]
        refine wpS_bind (wpS_ltAt H G' (by omega) (by omega) ?_)
        dsimp only
        by_cases d : kK kf (arrOf st'') (lo + k) < kK kf (arrOf st'') (lo + (l + r) / 2)
        · rw [if_pos (decide_eq_true d)]
          refine wpS_pure ⟨rfl, l, (l + r) / 2, rfl, by omega, by omega, by omega, a4, fun i b1 b2 => ?_⟩
          exact Int.lt_of_lt_of_le d (k1 _ _ (by omega) b1 b2)
        · rw [if_neg (by rw [decide_eq_false d]; exact Bool.false_ne_true)]
          refine wpS_pure ⟨rfl, (l + r) / 2 + 1, r, rfl, by omega, by omega, by omega, fun i b1 b2 => ?_, a5⟩
          exact Int.le_trans (k1 i (lo + (l + r) / 2) b1 (by omega) (by omega)) (Int.not_lt.mp d)
    case ipost =>
      rintro c st'' ⟨rfl, l, r, rfl, a1, a4, a5⟩
      dsimp only
      rw [moveDown'_eq]
      refine wpS_bind (wpS_modify (wpS_pure ⟨C.trans ?_, rfl, ?_⟩))
      · exact ch_bubble (by omega) (by omega) (by omega) (by omega)
      · rw [show min (k + 1) n = k + 1 by omega]
        intro i j b1 b2 b3
        show kK kf (bubble (arrOf st'') (lo + k) (lo + k - (lo + l))) i ≤ kK kf (bubble (arrOf st'') (lo + k) (lo + k - (lo + l))) j
        rw [kK_bubble (by omega) (by omega), kK_bubble (by omega) (by omega), show lo + k - (lo + k - (lo + l)) = lo + l by omega]
        repeat' split
        all_goals first
          | (exfalso; omega)
          | exact Int.le_refl _
          | exact a4 _ (by omega) (by omega)
          | exact Int.le_of_lt (a5 _ (by omega) (by omega))
          | exact k1 _ _ (by omega) (by omega) (by omega)
end
end L2.Ts
namespace L2.Ts
open PySem PyProof.Rows
noncomputable def put (off : Nat) (l : List Keyed) (n : Nat) (arr : Array Keyed) : Array Keyed := (l.zipIdx n).foldl (fun a (p, j) => a.setIfInBounds (off + j) p) arr
theorem put_get {off : Nat} : ∀ (l : List Keyed) (n : Nat) (arr : Array Keyed), off + n + l.length ≤ arr.size → ∀ k, (put off l n arr)[k]? = if off + n ≤ k ∧ k < off + n + l.length then l[k - (off + n)]? else arr[k]?
  | [], n, arr, h, k => by
    rw [if_neg (by simp)]
    rfl
  | p :: r, n, arr, h, k => by
    rw [List.length_cons] at h
    have e : put off (p :: r) n arr = put off r (n + 1) (arr.setIfInBounds (off + n) p) := rfl
    rw [e, put_get r (n + 1) _ (by rw [Array.size_setIfInBounds]; omega) k, List.length_cons]
    by_cases c : off + (n + 1) ≤ k ∧ k < off + (n + 1) + r.length
    · rw [if_pos c, if_pos (by omega), show k - (off + n) = k - (off + (n + 1)) + 1 by omega, List.getElem?_cons_succ]
    · rw [if_neg c, Array.getElem?_setIfInBounds]
      by_cases d : off + n = k
      · rw [if_pos d, if_pos (by omega), if_pos (by omega), show k - (off + n) = 0 by omega]
        rfl
      · rw [if_neg d, if_neg (by omega)]
theorem put_list {off : Nat} {l : List Keyed} {arr : Array Keyed} (h : off + l.length ≤ arr.size) : (put off l 0 arr).toList = arr.toList.take off ++ (l ++ arr.toList.drop (off + l.length)) := by
  apply List.ext_getElem?
  intro k
  rw [Array.getElem?_toList, put_get l 0 arr (by omega), Nat.add_zero, ← Array.getElem?_toList]
  have hL : arr.toList.length = arr.size := Array.length_toList
  generalize arr.toList = L at *
  by_cases c1 : k < off
  · rw [if_neg (by omega), List.getElem?_append_left (by rw [List.length_take]; omega), List.getElem?_take_of_lt c1]
  · rw [List.getElem?_append_right (by rw [List.length_take]; omega), List.length_take, Nat.min_eq_left (by omega)]
    by_cases c2 : k < off + l.length
    · rw [if_pos (by omega), List.getElem?_append_left (by omega)]
    · rw [if_neg (by omega), List.getElem?_append_right (by omega), List.getElem?_drop]
      congr 1
      omega
section
variable {prog : Program} {w : World} {A : Around} {E : Value → Shared → Prop} {s : Shared} {κ : SortKind} {kf : Keyed → Int} {good : Keyed → Prop}
theorem SL.at {xs : Array Keyed} {lo hi i j : Nat} {x y : Keyed} (h : SL kf xs lo hi) (h1 : lo ≤ i) (h2 : i ≤ j) (h3 : j < hi) (hx : xs[i]? = some x) (hy : xs[j]? = some y) : kf x ≤ kf y := by
  have := h i j h1 h2 h3
  rwa [kK_at hx, kK_at hy] at this
theorem ext_get {xs : Array Keyed} {lo hi j : Nat} (h : hi ≤ xs.size) (hj : j < hi - lo) : (xs.extract lo hi)[j]? = xs[lo + j]? := by
  rw [Array.getElem?_extract, if_pos (by omega)]
theorem srt_ext {xs : Array Keyed} {lo hi : Nat} (h : SL kf xs lo hi) (hh : hi ≤ xs.size) : Srt kf (xs.extract lo hi).toList := by
  refine List.pairwise_iff_getElem.mpr fun i j hi' hj' hij => ?_
  have sz : (xs.extract lo hi).size = hi - lo := by rw [Array.size_extract]; omega
  rw [Array.length_toList, sz] at hi' hj'
  have e : ∀ u (hu : u < (xs.extract lo hi).toList.length), u < hi - lo → xs[lo + u]? = some ((xs.extract lo hi).toList[u]) := fun u hu hu' => by
    rw [← ext_get hh hu', ← Array.getElem?_toList, List.getElem?_eq_getElem hu]
  exact h.at (by omega) (by omega) (by omega) (e i _ hi') (e j _ hj')
theorem SL.join {xs : Array Keyed} {lo mid hi : Nat} (h1 : SL kf xs lo mid) (h2 : SL kf xs mid hi) (h : lo < mid → mid < hi → kK kf xs (mid - 1) ≤ kK kf xs mid) : SL kf xs lo hi := fun i j a b c => by
  by_cases ci : i < mid
  · by_cases cj : j < mid
    · exact h1 i j a b cj
    · exact Int.le_trans (h1 i (mid - 1) a (by omega) (by omega)) (Int.le_trans (h (by omega) (by omega)) (h2 mid j (Nat.le_refl _) (by omega) c))
  · exact h2 i j (by omega) b c
structure Mg (lo hi : Nat) (P : Array (Nat × Nat × Nat)) (st st' : SortSt) : Prop where
  k : kindOf st' = kindOf st
  p : pendingOf st' = P
  f : failedOf st' = failedOf st
  perm : (arrOf st').Perm (arrOf st)
  out : ∀ i, i < lo ∨ hi ≤ i → (arrOf st')[i]? = (arrOf st)[i]?
theorem wpS_mergeAt (H : HL prog w A s κ kf good) {st : SortSt} (G : Gd κ good st) (hf : failedOf st = none) {i sa na nb p1 p2 : Nat} {Q : Bool → SortSt → Prop} (hp : (pendingOf st)[i]? = some (sa, na, p1)) (hq : (pendingOf st)[i + 1]? = some (sa + na, nb, p2)) (ha : 1 ≤ na) (hb : 1 ≤ nb) (hs : sa + na + nb ≤ (arrOf st).size) (s1 : SL kf (arrOf st) sa (sa + na)) (s2 : SL kf (arrOf st) (sa + na) (sa + na + nb))
    (h : ∀ st', Mg sa (sa + na + nb) (((pendingOf st).setIfInBounds i (sa, na + nb, p1)).eraseIdxIfInBounds (i + 1)) st st' → SL kf (arrOf st') sa (sa + na + nb) → Q true st') : wpS (model prog w) A E s (mergeAt' i) Q st := by
  rw [mergeAt'_eq]
  refine wpS_bind (wpS_get ?_)
  rw [hp, hq]
  dsimp only
  refine wpS_bind (wpS_modify (f := fun _ => setPending st (((pendingOf st).setIfInBounds i (sa, na + nb, p1)).eraseIdxIfInBounds (i + 1))) ?_)
  obtain ⟨y0, e0⟩ : ∃ y0, (arrOf st)[sa + na]? = some y0 := ⟨_, Array.getElem?_eq_getElem (by omega)⟩
  refine wpS_bind (wpS_elem e0 ?_)
  have M0 : Mg sa (sa + na + nb) (((pendingOf st).setIfInBounds i (sa, na + nb, p1)).eraseIdxIfInBounds (i + 1)) st (setPending st (((pendingOf st).setIfInBounds i (sa, na + nb, p1)).eraseIdxIfInBounds (i + 1))) := ⟨rfl, rfl, rfl, Array.Perm.refl _, fun _ _ => rfl⟩
  have hk1 : kindOf (setPending st (((pendingOf st).setIfInBounds i (sa, na + nb, p1)).eraseIdxIfInBounds (i + 1))) = κ := G.k
  have ha1 : arrOf (setPending st (((pendingOf st).setIfInBounds i (sa, na + nb, p1)).eraseIdxIfInBounds (i + 1))) = arrOf st := rfl
  have hf1 : failedOf (setPending st (((pendingOf st).setIfInBounds i (sa, na + nb, p1)).eraseIdxIfInBounds (i + 1))) = none := hf
  have hpd : pendingOf (setPending st (((pendingOf st).setIfInBounds i (sa, na + nb, p1)).eraseIdxIfInBounds (i + 1))) = ((pendingOf st).setIfInBounds i (sa, na + nb, p1)).eraseIdxIfInBounds (i + 1) := rfl
  generalize setPending st (((pendingOf st).setIfInBounds i (sa, na + nb, p1)).eraseIdxIfInBounds (i + 1)) = st1 at *
  generalize ((pendingOf st).setIfInBounds i (sa, na + nb, p1)).eraseIdxIfInBounds (i + 1) = P at *
  refine wpS_bind (wpS_gal H hk1 (G.g _ (mem_of e0)) G.g (fun u v x y a b c hx hy => s1.at a b c hx hy) (by omega) (by omega) fun k hkn g1 g2 => ?_)
  simp only [Bool.false_eq_true, if_false] at g1 g2
  dsimp only
  by_cases c1 : na - k = 0
  · rw [if_pos (by simpa using c1)]
    refine wpS_pure (h st1 M0 ?_)
    rw [ha1]
    refine s1.join s2 fun _ _ => ?_
    have e : (arrOf st)[sa + (na - 1)]? = some ((arrOf st)[sa + (na - 1)]'(by omega)) := Array.getElem?_eq_getElem _
    have := g1 (na - 1) (by omega) _ e
    rw [kK_at e0, show sa + na - 1 = sa + (na - 1) by omega, kK_at e]
    exact this
  rw [if_neg (by simpa using c1)]
  obtain ⟨x1, e1⟩ : ∃ x1, (arrOf st)[sa + na - 1]? = some x1 := ⟨_, Array.getElem?_eq_getElem (by omega)⟩
  have e1' : (arrOf st)[sa + k + (na - k) - 1]? = some x1 := by rw [show sa + k + (na - k) - 1 = sa + na - 1 by omega]; exact e1
  refine wpS_bind (wpS_elem e1' ?_)
  refine wpS_bind (wpS_gal H hk1 (G.g _ (mem_of e1)) G.g (fun u v x y a b c hx hy => s2.at a b c hx hy) (by omega) (by omega) fun k2 hk2 g3 g4 => ?_)
  simp only [if_true] at g3 g4
  dsimp only
  by_cases c2 : k2 = 0
  · rw [if_pos (by simpa using c2)]
    refine wpS_pure (h st1 M0 ?_)
    rw [ha1]
    refine s1.join s2 fun _ _ => ?_
    rw [kK_at e0, kK_at e1]
    exact g4 0 (by omega) (by omega) y0 e0
  rw [if_neg (by simpa using c2)]
  have szX : ((arrOf st).extract (sa + k) (sa + na)).size = na - k := by rw [Array.size_extract]; omega
  have szY : ((arrOf st).extract (sa + na) (sa + na + k2)).size = k2 := by rw [Array.size_extract]; omega
  have gX : ∀ {l r : Nat}, ∀ x ∈ ((arrOf st).extract l r).toList, x ∈ (arrOf st).toList := fun {l r} x hx => by
    rw [Array.toList_extract, List.extract_eq_take_drop] at hx
    exact List.mem_of_mem_drop (List.mem_of_mem_take hx)
  have sX : Srt kf ((arrOf st).extract (sa + k) (sa + na)).toList := srt_ext (fun i j a b c => s1 i j (by omega) b c) (by omega)
  have sY : Srt kf ((arrOf st).extract (sa + na) (sa + na + k2)).toList := srt_ext (fun i j a b c => s2 i j a b (by omega)) (by omega)
  have atX : ∀ x ∈ ((arrOf st).extract (sa + k) (sa + na)).toList, ∃ j, k ≤ j ∧ j < na ∧ (arrOf st)[sa + j]? = some x := fun x hx => by
    obtain ⟨j, hj, rfl⟩ := List.mem_iff_getElem.mp hx
    have hj' : j < na - k := by rw [Array.length_toList, szX] at hj; exact hj
    refine ⟨k + j, by omega, by omega, ?_⟩
    rw [← Nat.add_assoc, ← ext_get (show sa + na ≤ (arrOf st).size by omega) (show j < sa + na - (sa + k) by omega), ← Array.getElem?_toList, List.getElem?_eq_getElem hj]
  have atY : ∀ x ∈ ((arrOf st).extract (sa + na) (sa + na + k2)).toList, ∃ j, j < k2 ∧ (arrOf st)[sa + na + j]? = some x := fun x hx => by
    obtain ⟨j, hj, rfl⟩ := List.mem_iff_getElem.mp hx
    have hj' : j < k2 := by rw [Array.length_toList, szY] at hj; exact hj
    refine ⟨j, hj', ?_⟩
    rw [← ext_get (show sa + na + k2 ≤ (arrOf st).size by omega) (show j < sa + na + k2 - (sa + na) by omega), ← Array.getElem?_toList, List.getElem?_eq_getElem hj]
  have y0X : ((arrOf st).extract (sa + na) (sa + na + k2))[0]? = some y0 := by rw [ext_get (by omega) (by omega)]; exact e0
  have x1X : ((arrOf st).extract (sa + k) (sa + na))[((arrOf st).extract (sa + k) (sa + na)).size - 1]? = some x1 := by
    rw [szX, ext_get (by omega) (by omega), show sa + k + (na - k - 1) = sa + na - 1 by omega]
    exact e1
  have q1 : ∀ x ∈ ((arrOf st).extract (sa + k) (sa + na)).toList, kf y0 ≤ kf x ∧ kf x ≤ kf x1 := fun x hx => by
    obtain ⟨j, a, b, e⟩ := atX x hx
    exact ⟨Int.le_of_lt (g2 j a b x e), s1.at (by omega) (by omega) (by omega) e e1⟩
  have q2 : ∀ y ∈ ((arrOf st).extract (sa + na) (sa + na + k2)).toList, kf y0 ≤ kf y ∧ kf y ≤ kf x1 := fun y hy => by
    obtain ⟨j, a, e⟩ := atY y hy
    exact ⟨s2.at (by omega) (by omega) (by omega) e0 e, Int.le_of_lt (g3 j a y e)⟩
  have fin : ∀ (m : Array Keyed) (st' : SortSt), Sm st1 st' → m.toList.Perm (((arrOf st).extract (sa + k) (sa + na)).toList ++ ((arrOf st).extract (sa + na) (sa + na + k2)).toList) → Srt kf m.toList → wpS (model prog w) A E s (do
      modify fun s => setArr s (m.toList.zipIdx.foldl (fun a (p, j) => a.setIfInBounds (sa + k + j) p) (arrOf s))
      let s ← get
      pure (failedOf s).isNone) Q st' := by
    intro m st' S pm sm
    have lm : m.toList.length = na - k + k2 := by
      rw [pm.length_eq, List.length_append, Array.length_toList, Array.length_toList, szX, szY]
    refine wpS_bind (wpS_modify (wpS_bind (wpS_get (wpS_pure ?_))))
    have ea : arrOf st' = arrOf st := S.a.trans ha1
    have ef : (failedOf (setArr st' (m.toList.zipIdx.foldl (fun a (p, j) => a.setIfInBounds (sa + k + j) p) (arrOf st')))).isNone = true := by
      show (failedOf st').isNone = true
      rw [S.f, hf1]
      rfl
    rw [ef]
    have get : ∀ u, (put (sa + k) m.toList 0 (arrOf st))[u]? = if sa + k ≤ u ∧ u < sa + na + k2 then m.toList[u - (sa + k)]? else (arrOf st)[u]? := fun u => by
      rw [put_get m.toList 0 _ (by omega), Nat.add_zero, lm, show sa + k + (na - k + k2) = sa + na + k2 by omega]
    have earr : arrOf (setArr st' (m.toList.zipIdx.foldl (fun a (p, j) => a.setIfInBounds (sa + k + j) p) (arrOf st'))) = put (sa + k) m.toList 0 (arrOf st) := by
      show m.toList.zipIdx.foldl _ (arrOf st') = _
      rw [ea]
      rfl
    refine h _ ⟨S.k.trans M0.k, S.p.trans hpd, S.f.trans M0.f, ?_, fun u hu => ?_⟩ ?_
    · rw [earr]
      refine Array.perm_iff_toList_perm.mpr ?_
      rw [put_list (by omega)]
      have e : (arrOf st).toList = (arrOf st).toList.take (sa + k) ++ ((((arrOf st).extract (sa + k) (sa + na)).toList ++ ((arrOf st).extract (sa + na) (sa + na + k2)).toList) ++ (arrOf st).toList.drop (sa + k + m.toList.length)) := by
        rw [Array.toList_extract, Array.toList_extract, List.extract_eq_take_drop, List.extract_eq_take_drop, lm, show sa + k + (na - k + k2) = sa + na + k2 by omega, show sa + na - (sa + k) = na - k by omega, Nat.add_sub_cancel_left]
        have z1 := (List.take_append_drop (sa + k) (arrOf st).toList).symm
        have z2 := (List.take_append_drop (na - k) ((arrOf st).toList.drop (sa + k))).symm
        rw [List.drop_drop, show sa + k + (na - k) = sa + na by omega] at z2
        have z3 := (List.take_append_drop k2 ((arrOf st).toList.drop (sa + na))).symm
        rw [List.drop_drop] at z3
        rw [List.append_assoc, ← z3, ← z2]
        exact z1
      have e' : (arrOf st).toList.Perm ((arrOf st).toList.take (sa + k) ++ (m.toList ++ (arrOf st).toList.drop (sa + k + m.toList.length))) := by
        refine (List.Perm.of_eq e).trans (List.Perm.append_left _ (List.Perm.append_right _ pm.symm))
      exact e'.symm
    · rw [earr, get, if_neg (by omega)]
    · rw [earr]
      have hm : ∀ u, sa + k ≤ u → u < sa + na + k2 → ∃ z, (put (sa + k) m.toList 0 (arrOf st))[u]? = some z ∧ z ∈ m.toList ∧ kf y0 ≤ kf z ∧ kf z ≤ kf x1 := fun u a b => by
        refine ⟨m.toList[u - (sa + k)]'(by omega), by rw [get, if_pos ⟨a, b⟩, List.getElem?_eq_getElem], List.getElem_mem _, ?_⟩
        rcases List.mem_append.mp (pm.mem_iff.mp (List.getElem_mem (show u - (sa + k) < m.toList.length by omega))) with z | z
        · exact q1 _ z
        · exact q2 _ z
      have ho : ∀ u, ¬ (sa + k ≤ u ∧ u < sa + na + k2) → kK kf (put (sa + k) m.toList 0 (arrOf st)) u = kK kf (arrOf st) u := fun u a => kK_congr (by rw [get, if_neg a])
      intro u v a b c
      by_cases mu : sa + k ≤ u ∧ u < sa + na + k2
      · obtain ⟨zu, eu, mmu, z1, z2⟩ := hm u mu.1 mu.2
        rw [kK_at eu]
        by_cases mv : sa + k ≤ v ∧ v < sa + na + k2
        · obtain ⟨zv, ev, _⟩ := hm v mv.1 mv.2
          rw [kK_at ev]
          rw [get, if_pos mu] at eu
          rw [get, if_pos mv] at ev
          by_cases euv : u = v
          · subst euv
            rw [eu] at ev
            cases ev
            exact Int.le_refl _
          · obtain ⟨hu, rfl⟩ := List.getElem?_eq_some_iff.mp eu
            obtain ⟨hv, rfl⟩ := List.getElem?_eq_some_iff.mp ev
            exact List.pairwise_iff_getElem.mp sm _ _ hu hv (by omega)
        · rw [ho v mv]
          have e : (arrOf st)[sa + na + (v - (sa + na))]? = some ((arrOf st)[v]'(by omega)) := by rw [show sa + na + (v - (sa + na)) = v by omega]; exact Array.getElem?_eq_getElem _
          have := g4 (v - (sa + na)) (by omega) (by omega) _ e
          rw [show v = sa + na + (v - (sa + na)) by omega, kK_at e]
          omega
      · rw [ho u mu]
        by_cases cu : u < sa + k
        · have eu : (arrOf st)[sa + (u - sa)]? = some ((arrOf st)[u]'(by omega)) := by rw [show sa + (u - sa) = u by omega]; exact Array.getElem?_eq_getElem _
          have z0 := g1 (u - sa) (by omega) _ eu
          rw [show u = sa + (u - sa) by omega, kK_at eu]
          by_cases mv : sa + k ≤ v ∧ v < sa + na + k2
          · obtain ⟨zv, ev, _, z1, z2⟩ := hm v mv.1 mv.2
            rw [kK_at ev]
            omega
          · rw [ho v mv]
            by_cases cv : v < sa + k
            · have := s1 u v a b (by omega)
              rw [show u = sa + (u - sa) by omega, kK_at eu] at this
              exact this
            · have := s2 (sa + na) v (Nat.le_refl _) (by omega) c
              rw [kK_at e0] at this
              omega
        · rw [ho v (by omega)]
          exact s2 u v (by omega) b c
  by_cases c3 : na - k ≤ k2
  · rw [if_pos c3]
    exact wpS_bind (wpS_mergeLo H hk1 (fun x hx => G.g x (gX x hx)) (fun x hx => G.g x (gX x hx)) sX sY (by omega) (by omega) (fun x hx y hy => by rw [y0X] at hy; cases hy; exact (q1 x hx).1) (fun y hy x hx => by rw [x1X] at hx; cases hx; exact (q2 y hy).2) fin)
  · rw [if_neg c3]
    exact wpS_bind (wpS_mergeHi H hk1 (fun x hx => G.g x (gX x hx)) (fun x hx => G.g x (gX x hx)) sX sY (by omega) (by omega) (fun x hx y hy => by rw [y0X] at hy; cases hy; exact (q1 x hx).1) (fun y hy x hx => by rw [x1X] at hx; cases hx; exact (q2 y hy).2) fin)
end
end L2.Ts
namespace L2.Ts
open PySem PyProof.Rows
noncomputable def Runs (kf : Keyed → Int) (arr : Array Keyed) : List (Nat × Nat × Nat) → Nat → Nat → Prop
  | [], lo, hi => lo = hi
  | t :: r, lo, hi => t.1 = lo ∧ 1 ≤ t.2.1 ∧ SL kf arr lo (lo + t.2.1) ∧ Runs kf arr r (lo + t.2.1) hi
section
variable {kf : Keyed → Int} {arr arr' : Array Keyed}
theorem runs_le : ∀ {L : List (Nat × Nat × Nat)} {lo hi : Nat}, Runs kf arr L lo hi → lo + L.length ≤ hi
  | [], lo, hi, h => by have : lo = hi := h; simp; omega
  | t :: r, lo, hi, h => by
    have := runs_le h.2.2.2
    have := h.2.1
    rw [List.length_cons]
    omega
theorem runs_app : ∀ {L M : List (Nat × Nat × Nat)} {lo hi : Nat}, Runs kf arr (L ++ M) lo hi ↔ ∃ mid, Runs kf arr L lo mid ∧ Runs kf arr M mid hi
  | [], M, lo, hi => ⟨fun h => ⟨lo, rfl, h⟩, fun ⟨mid, e, h⟩ => by have e : lo = mid := e; subst e; exact h⟩
  | t :: r, M, lo, hi => by
    constructor
    · rintro ⟨a, b, c, d⟩
      obtain ⟨mid, x, y⟩ := runs_app.mp d
      exact ⟨mid, ⟨a, b, c, x⟩, y⟩
    · rintro ⟨mid, ⟨a, b, c, x⟩, y⟩
      exact ⟨a, b, c, runs_app.mpr ⟨mid, x, y⟩⟩
theorem runs_same : ∀ {L : List (Nat × Nat × Nat)} {lo hi : Nat}, Runs kf arr L lo hi → (∀ k, lo ≤ k → k < hi → kK kf arr' k = kK kf arr k) → Runs kf arr' L lo hi
  | [], _, _, h, _ => h
  | t :: r, lo, hi, ⟨a, b, c, d⟩, e => by
    have := runs_le d
    exact ⟨a, b, fun i j p q z => by rw [e i p (by omega), e j (by omega) (by omega)]; exact c i j p q z, runs_same d fun k p q => e k (by omega) q⟩
theorem runs_pw : ∀ {L M : List (Nat × Nat × Nat)} {lo hi : Nat}, Runs kf arr L lo hi → M.map (fun t => (t.1, t.2.1)) = L.map (fun t => (t.1, t.2.1)) → Runs kf arr M lo hi
  | [], [], _, _, h, _ => h
  | [], _ :: _, _, _, _, e => by simp at e
  | _ :: _, [], _, _, _, e => by simp at e
  | t :: r, u :: s, lo, hi, ⟨a, b, c, d⟩, e => by
    rw [List.map_cons, List.map_cons] at e
    injection e with e1 e2
    injection e1 with e1 e3
    refine ⟨e1.trans a, by rw [e3]; exact b, by rw [e3]; exact c, ?_⟩
    rw [e3]
    exact runs_pw d e2
theorem runs_at {L : List (Nat × Nat × Nat)} {lo hi i : Nat} {t u : Nat × Nat × Nat} (h : Runs kf arr L lo hi) (ht : L[i]? = some t) (hu : L[i + 1]? = some u) :
    ∃ l r, L = l ++ t :: u :: r ∧ l.length = i ∧ u.1 = t.1 + t.2.1 ∧ 1 ≤ t.2.1 ∧ 1 ≤ u.2.1 ∧ lo ≤ t.1 ∧ t.1 + t.2.1 + u.2.1 ≤ hi ∧ SL kf arr t.1 (t.1 + t.2.1) ∧ SL kf arr (t.1 + t.2.1) (t.1 + t.2.1 + u.2.1) := by
  obtain ⟨hi1, rfl⟩ := List.getElem?_eq_some_iff.mp ht
  obtain ⟨hi2, rfl⟩ := List.getElem?_eq_some_iff.mp hu
  have e : L = L.take i ++ L[i] :: L[i + 1] :: L.drop (i + 2) := by
    rw [List.getElem_cons_drop, List.getElem_cons_drop, List.take_append_drop]
  refine ⟨L.take i, L.drop (i + 2), e, by rw [List.length_take]; omega, ?_⟩
  rw [e] at h
  obtain ⟨mid, h1, a, b, c, d, f, g, k⟩ := runs_app.mp h
  have l1 := runs_le h1
  have l2 := runs_le k
  rw [a]
  exact ⟨d, b, f, by omega, by omega, c, g⟩
theorem runs_merge {l r : List (Nat × Nat × Nat)} {t u : Nat × Nat × Nat} {hi p : Nat} (h : Runs kf arr (l ++ t :: u :: r) 0 hi) (s : SL kf arr' t.1 (t.1 + t.2.1 + u.2.1)) (o : ∀ i, i < t.1 ∨ t.1 + t.2.1 + u.2.1 ≤ i → arr'[i]? = arr[i]?) : Runs kf arr' (l ++ (t.1, t.2.1 + u.2.1, p) :: r) 0 hi := by
  obtain ⟨mid, h1, a, b, c, d, f, g, k⟩ := runs_app.mp h
  refine runs_app.mpr ⟨mid, runs_same h1 fun i _ z => kK_congr (o i (by omega)), a, by show 1 ≤ t.2.1 + u.2.1; omega, ?_, ?_⟩
  · show SL kf arr' mid (mid + (t.2.1 + u.2.1))
    rw [← Nat.add_assoc, ← a]
    exact s
  · show Runs kf arr' r (mid + (t.2.1 + u.2.1)) hi
    rw [← Nat.add_assoc]
    exact runs_same k fun i z _ => kK_congr (o i (by omega))
end
section
variable {prog : Program} {w : World} {A : Around} {E : Value → Shared → Prop} {s : Shared} {κ : SortKind} {kf : Keyed → Int} {good : Keyed → Prop}
structure Wh (κ : SortKind) (kf : Keyed → Int) (good : Keyed → Prop) (a₀ : Array Keyed) (lo : Nat) (st : SortSt) : Prop where
  perm : (arrOf st).Perm a₀
  g : Gd κ good st
  f : failedOf st = none
  r : Runs kf (arrOf st) (pendingOf st).toList 0 lo
theorem erase_set (l r : List (Nat × Nat × Nat)) (t u v : Nat × Nat × Nat) {P : Array (Nat × Nat × Nat)} (e : P.toList = l ++ t :: u :: r) : ((P.setIfInBounds l.length v).eraseIdxIfInBounds (l.length + 1)).toList = l ++ v :: r := by
  have sz : P.size = l.length + (r.length + 2) := by
    rw [← Array.length_toList, e]
    simp
  rw [Array.eraseIdxIfInBounds, dif_pos (by rw [Array.size_setIfInBounds]; omega), Array.toList_eraseIdx, Array.toList_setIfInBounds, e, List.set_append_right _ _ (Nat.le_refl _), Nat.sub_self, List.eraseIdx_append_of_length_le (by omega), Nat.add_sub_cancel_left]
  rfl
theorem wh_merge (H : HL prog w A s κ kf good) {a₀ : Array Keyed} {lo : Nat} {st : SortSt} (W : Wh κ kf good a₀ lo st) (hl : lo ≤ a₀.size) {i : Nat} (hi : i + 1 < (pendingOf st).size) {Q : Bool → SortSt → Prop} (h : ∀ st', Wh κ kf good a₀ lo st' → (pendingOf st').size + 1 = (pendingOf st).size → (∀ k, lo ≤ k → (arrOf st')[k]? = (arrOf st)[k]?) → Q true st') : wpS (model prog w) A E s (mergeAt' i) Q st := by
  obtain ⟨t, et⟩ : ∃ t, (pendingOf st)[i]? = some t := ⟨_, Array.getElem?_eq_getElem (by omega)⟩
  obtain ⟨u, eu⟩ : ∃ u, (pendingOf st)[i + 1]? = some u := ⟨_, Array.getElem?_eq_getElem hi⟩
  obtain ⟨l, r, e, el, a1, a2, a3, a4, a5, a6, a7⟩ := runs_at W.r (by rw [Array.getElem?_toList]; exact et) (by rw [Array.getElem?_toList]; exact eu)
  have sz := W.perm.size_eq
  have ht : t = (t.1, t.2.1, t.2.2) := rfl
  have hu : u = (t.1 + t.2.1, u.2.1, u.2.2) := by rw [← a1]
  refine wpS_mergeAt H W.g W.f (by rw [et, ht]) (by rw [eu, hu]) a2 a3 (by omega) a6 a7 fun st' M S => ?_
  have ep : (pendingOf st').toList = l ++ (t.1, t.2.1 + u.2.1, t.2.2) :: r := by
    rw [M.p, ← el]
    exact erase_set l r t u _ e
  refine h st' ⟨M.perm.trans W.perm, ⟨M.k.trans W.g.k, fun x hx => W.g.g x ((Array.perm_iff_toList_perm.mp M.perm).mem_iff.mp hx)⟩, M.f.trans W.f, ?_⟩ ?_ fun k hk => M.out k (by omega)
  · rw [ep]
    have R := W.r
    rw [e] at R
    exact runs_merge R S M.out
  · rw [← Array.length_toList, ← Array.length_toList, ep, e]
    simp
    omega
theorem mod_map {P : Array (Nat × Nat × Nat)} {i : Nat} {f : Nat × Nat × Nat → Nat × Nat × Nat} (h : ∀ t, ((f t).1, (f t).2.1) = (t.1, t.2.1)) : (P.modify i f).toList.map (fun t => (t.1, t.2.1)) = P.toList.map (fun t => (t.1, t.2.1)) := by
  apply List.ext_getElem?
  intro k
  rw [List.getElem?_map, List.getElem?_map, Array.getElem?_toList, Array.getElem?_toList, Array.getElem?_modify]
  split
  · cases P[k]? with
    | none => rfl
    | some t => exact congrArg some (h t)
  · rfl
theorem Wh.ch {a₀ : Array Keyed} {lo hi : Nat} {st st' : SortSt} (W : Wh κ kf good a₀ lo st) (C : Ch lo hi st st') : Wh κ kf good a₀ lo st' := ⟨C.perm.trans W.perm, W.g.ch C, C.f.trans W.f, by rw [C.p]; exact runs_same W.r fun k _ z => kK_congr (C.out k (.inl z))⟩
theorem Wh.push {a₀ : Array Keyed} {lo n : Nat} {st : SortSt} (W : Wh κ kf good a₀ lo st) (S : SL kf (arrOf st) lo (lo + n)) (h : 1 ≤ n) : Wh κ kf good a₀ (lo + n) (setPending st ((pendingOf st).push (lo, n, 0))) := ⟨W.perm, ⟨W.g.k, W.g.g⟩, W.f, by
  show Runs kf (arrOf st) ((pendingOf st).push (lo, n, 0)).toList 0 (lo + n)
  rw [Array.toList_push]
  exact runs_app.mpr ⟨lo, W.r, rfl, h, S, rfl⟩⟩
theorem Wh.pw {a₀ : Array Keyed} {lo i q : Nat} {st : SortSt} (W : Wh κ kf good a₀ lo st) : Wh κ kf good a₀ lo (setPending st ((pendingOf st).modify i fun x => (x.1, x.2.1, q))) := ⟨W.perm, ⟨W.g.k, W.g.g⟩, W.f, runs_pw W.r (mod_map fun _ => rfl)⟩
theorem wpS_sortRuns (H : HL prog w A s κ kf good) {st : SortSt} {a₀ : Array Keyed} (W : Wh κ kf good a₀ 0 st) (hp : pendingOf st = #[]) (h1 : 1 ≤ a₀.size) {Q : Unit → SortSt → Prop}
    (h : ∀ st', (arrOf st').Perm a₀ → failedOf st' = none → SL kf (arrOf st') 0 a₀.size → Q () st') : wpS (model prog w) A E s sortRuns' Q st := by
  rw [sortRuns'_eq]
  refine wpS_bind (wpS_get ?_)
  rw [show (arrOf st).size = a₀.size from W.perm.size_eq]
  dsimp only
  refine wpS_bind (wpS_mono (wpS_forRange (I := fun x c st' => ∃ lo, c = (none, lo) ∧ lo ≤ a₀.size ∧ x ≤ lo ∧ Wh κ kf good a₀ lo st') (Q := fun c st' => c = (none, a₀.size) ∧ Wh κ kf good a₀ a₀.size st') ?step ?fin ⟨0, rfl, by omega, by omega, W⟩) ?post)
  case fin =>
    rintro c st' ⟨lo, rfl, k1, k2, W⟩
    have : lo = a₀.size := by omega
    subst this
    exact ⟨rfl, W⟩
  case post =>
    rintro c st' ⟨rfl, W⟩
    dsimp only
    have l1 := runs_le W.r
    rw [Array.length_toList] at l1
    refine wpS_bind (wpS_mono (wpS_forRange (I := fun x c st' => c = (none, ()) ∧ Wh κ kf good a₀ a₀.size st' ∧ (pendingOf st').size ≤ max 1 (a₀.size - x)) (Q := fun c st' => c = (none, ()) ∧ Wh κ kf good a₀ a₀.size st' ∧ (pendingOf st').size ≤ 1) ?s2 ?f2 ⟨rfl, W, by omega⟩) ?p2)
    case f2 =>
      rintro c st' ⟨rfl, W, k⟩
      exact ⟨rfl, W, by omega⟩
    case s2 =>
      rintro x c st' _ hx ⟨rfl, W, k⟩
      refine wpS_bind (wpS_get ?_)
      by_cases c1 : (pendingOf st').size ≤ 1
      · rw [if_pos c1]
        exact wpS_pure ⟨rfl, W, c1⟩
      rw [if_neg c1]
      refine wpS_bind (wh_merge H W (Nat.le_refl _) ?_ fun st2 W2 e2 _ => ?_)
      · have hi : ∀ (b : Bool), (if b = true then (pendingOf st').size - 2 - 1 else (pendingOf st').size - 2) + 1 < (pendingOf st').size := fun b => by cases b <;> simp <;> omega
        exact hi _
      · simp only [Bool.not_true, Bool.false_eq_true, if_false]
        exact wpS_pure ⟨rfl, W2, by omega⟩
    case p2 =>
      rintro c st' ⟨rfl, W, k⟩
      refine wpS_pure (h st' W.perm W.f ?_)
      have R := W.r
      rw [← Array.length_toList] at k
      generalize (pendingOf st').toList = L at *
      match L, k, R with
      | [], _, R =>
        have : 0 = a₀.size := R
        omega
      | [t], _, R =>
        obtain ⟨a, b, c, d⟩ := R
        have d : 0 + t.2.1 = a₀.size := d
        rw [d] at c
        exact c
  case step =>
    rintro x c st' _ hx ⟨lo, rfl, k1, k2, W⟩
    dsimp only
    by_cases c1 : lo ≥ a₀.size
    · rw [if_pos c1]
      have : lo = a₀.size := by omega
      subst this
      exact wpS_pure ⟨rfl, W⟩
    rw [if_neg c1]
    have sz := W.perm.size_eq
    refine wpS_bind (wpS_countRun H W.g (by omega) (by omega) fun m st2 C m1 m2 S2 => ?_)
    have W2 := W.ch C
    have sz2 := W2.perm.size_eq
    dsimp only
    by_cases c2 : m < minRun' a₀.size a₀.size 0
    case' pos =>
      rw [if_pos c2]
      refine wpS_bind (wpS_lift (wpAny_rule ⟨rfl, ?_⟩))
      refine wpS_bind (wpS_binarySort H W2.g (by omega) (by omega) m1 S2 fun st3 C3 S3 => ?_)
      simp only [Bool.not_true, Bool.false_eq_true, if_false]
      have W3 := W2.ch C3
      have n1 : 1 ≤ min (a₀.size - lo) (minRun' a₀.size a₀.size 0) := by omega
      have n2 : lo + min (a₀.size - lo) (minRun' a₀.size a₀.size 0) ≤ a₀.size := by omega
      clear C3
      generalize min (a₀.size - lo) (minRun' a₀.size a₀.size 0) = n at *
    case' neg =>
      rw [if_neg c2]
      have W3 := W2
      have S3 := S2
      have n1 := m1
      have n2 : lo + m ≤ a₀.size := by omega
      clear C S2 W2 sz2
      generalize st2 = st3 at *
      clear c2 m1 m2
      generalize m = n at *
    all_goals
      refine wpS_bind (wpS_get ?_)
      cases eb : (pendingOf st3).back? with
      | none =>
        dsimp only
        exact wpS_bind (wpS_modify (wpS_pure ⟨_, rfl, n2, by omega, W3.push S3 n1⟩))
      | some b =>
        obtain ⟨s1, n1', q⟩ := b
        dsimp only
        refine wpS_bind (wpS_mono (wpS_forRange (I := fun _ c st' => c = (none, ()) ∧ Wh κ kf good a₀ lo st' ∧ SL kf (arrOf st') lo (lo + n)) (Q := fun c st' => c = (none, ()) ∧ Wh κ kf good a₀ lo st' ∧ SL kf (arrOf st') lo (lo + n)) ?_ (fun _ _ z => z) ⟨rfl, W3, S3⟩) ?_)
        · rintro x c st' _ hx ⟨rfl, W, S⟩
          refine wpS_bind (wpS_get ?_)
          by_cases d1 : (pendingOf st').size > 1
          · rw [if_pos d1, Array.getElem?_eq_getElem (show (pendingOf st').size - 2 < (pendingOf st').size by omega)]
            dsimp only
            split
            · exact wpS_pure ⟨rfl, W, S⟩
            · refine wpS_bind (wh_merge H W k1 (by omega) fun st2 W2 e2 o2 => ?_)
              simp only [Bool.not_true, Bool.false_eq_true, if_false]
              refine wpS_pure ⟨rfl, W2, fun i j a b c => ?_⟩
              rw [kK_congr (o2 i (by omega)), kK_congr (o2 j (by omega))]
              exact S i j a b c
          · rw [if_neg d1]
            exact wpS_pure ⟨rfl, W, S⟩
        · rintro c st' ⟨rfl, W, S⟩
          dsimp only
          exact wpS_bind (wpS_modify (wpS_bind (wpS_modify (wpS_pure ⟨_, rfl, n2, by omega, (W.pw).push S n1⟩))))
end
end L2.Ts
namespace L2.Ts
open PySem PySem.W PySem.Calls PyProof.Rows
structure P2 (h : Heap) (v : Value) (c r : Int) : Prop where
  ex : ∃ a o n t1 t2, v = .ref a ∧ h.get? a = some o ∧ o.cls = .type "tuple" ∧ o.data = .seq #[.int c t1, .int r t2] n
  b : 0 ≤ r ∧ r < 1000000
theorem P2.kept {h h' : Heap} {v : Value} {c r : Int} (p : P2 h v c r) (k : ∀ b o, h.get? b = some o → h'.get? b = some o) : P2 h' v c r := by
  obtain ⟨⟨a, o, n, t1, t2, e1, e2, e3, e4⟩, b⟩ := p
  exact ⟨⟨a, o, n, t1, t2, e1, k a o e2, e3, e4⟩, b⟩
section
variable {prog : Program} {w : World} {A : Around} {E : Value → Shared → Prop} {s : Shared}
theorem lt_pairs {x y : Value} {c r c' r' : Int} (hx : P2 s.heap x c r) (hy : P2 s.heap y c' r') : wpAny (model prog w) A (keyLt' (tuples' true) x y) (fun b s' => s' = s ∧ b = decide (c * 1000000 + r < c' * 1000000 + r')) E s := by
  obtain ⟨⟨a, o, n, t1, t2, rfl, e2, e3, e4⟩, b⟩ := hx
  obtain ⟨⟨a', o', n', t1', t2', rfl, e2', e3', e4'⟩, b'⟩ := hy
  refine kat_lt e2 e4 e2' e4' ?_
  show KatLex prog w A true _ _ [(.int c t1, .int c' t1'), (.int r t2, .int r' t2')] 0 s
  refine kat_cons (wpAny_eqBool_int ?_)
  by_cases h1 : c = c'
  · subst h1
    rw [show (c == c) = true by simp]
    refine kat_yes (kat_cons (wpAny_eqBool_int ?_))
    by_cases h2 : r = r'
    · subst h2
      rw [show (r == r) = true by simp]
      refine kat_yes (kat_nil ⟨rfl, ?_⟩)
      simp
    · rw [show (r == r') = false by simp [h2]]
      refine kat_no ?_
      show wpAny _ _ (oneLt' false _ _) _ _ _
      refine kat_one _ _ (wpAny_lt_int (show _ ∧ _ from ⟨rfl, ?_⟩))
      rw [decide_eq_decide]
      omega
  · rw [show (c == c') = false by simp [h1]]
    refine kat_no ?_
    show wpAny _ _ (oneLt' true _ _) _ _ _
    refine oneLt_int ⟨rfl, ?_⟩
    rw [decide_eq_decide]
    omega
theorem zip_self (vs : List Value) : (vs.toArray.zip vs.toArray).toList = vs.map fun v => (v, v) := by
  apply List.ext_getElem
  · simp
  · intro i h1 h2
    simp
theorem pairs_sort {a : Addr} {vs : List Value} {kc kr : Value → Int} {n : Nat} {P : Fin → Shared → Prop} (ho : s.heap.get? a = some (seqObj "list" vs.toArray n)) (hI : ∀ v ∈ vs, P2 s.heap v (kc v) (kr v) ∧ v ≠ .ref a) (hl : vs.length ≤ 100000)
    (h : ∀ out : List Value, out.Perm vs → (out.Pairwise fun x y => kc x * 1000000 + kr x ≤ kc y * 1000000 + kr y) → P (.done (.ret .none)) { s with heap := sortedHeap s.heap a vs out.toArray }) :
    wpAny (model prog w) A (Builtin.«list.sort» ⟨[.ref a], []⟩) P E s := by
  rw [list_sort_plain]
  have ha : a < s.heap.objs.size := Heap.lt_size ho
  refine wpAny_bind (listItems_at ho rfl ?_)
  refine wpAny_bind (listUpdate_at ho rfl ?_ (by rw [List.size_toArray, sizeLine_eq]; omega) (Nat.zero_le _))
  obtain ⟨e1, ho1⟩ : ∃ e1, (s.heap.update a (Obj.mapSeq fun _ => #[])).get? a = some (seqObj "list" #[] e1) := ⟨_, get?_update_seq ho (fun _ => #[])⟩
  refine wpAny_bind (seqEpoch_at ho1 rfl ?_)
  refine wpAny_bind (wpAny_newTuple ?_ (by show vs.length ≤ _; rw [sizeLine_eq]; omega))
  refine wpAny_bind (wpAny_newList ?_ (Nat.zero_le _))
  refine wpAny_holding ?_
  have hne : ∀ {b : Addr}, b < s.heap.objs.size → b ≠ a → ∀ o, s.heap.get? b = some o → (((s.heap.update a (Obj.mapSeq fun _ => #[])).push (seqObj "tuple" vs.toArray 0)).push (seqObj "list" #[] 0)).get? b = some o := fun {b} hb hba o e => by
    rw [Heap.get?_push_ne _ _ _ (by rw [size_push', Heap.size_update]; exact Nat.ne_of_lt (Nat.lt_succ_of_lt hb)), Heap.get?_push_ne _ _ _ (by rw [Heap.size_update]; exact Nat.ne_of_lt hb), Heap.get?_update_ne _ _ _ _ hba]
    exact e
  have ho6 : (((s.heap.update a (Obj.mapSeq fun _ => #[])).push (seqObj "tuple" vs.toArray 0)).push (seqObj "list" #[] 0)).get? a = some (seqObj "list" #[] e1) := by
    rw [Heap.get?_push_ne _ _ _ (by rw [size_push', Heap.size_update]; exact Nat.ne_of_lt (Nat.lt_succ_of_lt ha)), Heap.get?_push_ne _ _ _ (by rw [Heap.size_update]; exact Nat.ne_of_lt ha)]
    exact ho1
  show wpAny (model prog w) A _ P E { s with heap := ((s.heap.update a (Obj.mapSeq fun _ => #[])).push (seqObj "tuple" vs.toArray 0)).push (seqObj "list" #[] 0) }
  have hJ : ∀ v ∈ vs, P2 (((s.heap.update a (Obj.mapSeq fun _ => #[])).push (seqObj "tuple" vs.toArray 0)).push (seqObj "list" #[] 0)) v (kc v) (kr v) := fun v hv => by
    obtain ⟨⟨⟨b, o, m, t1, t2, rfl, p2, p3, p4⟩, pb⟩, q⟩ := hI v hv
    exact ⟨⟨b, o, m, t1, t2, rfl, hne (Heap.lt_size p2) (fun z => q (by rw [z])) o p2, p3, p4⟩, pb⟩
  dsimp only
  by_cases h2 : vs.toArray.size < 2
  · rw [if_pos h2, if_pos h2]
    refine wpAny_bind (wpAny_pure ?_)
    rw [StateT.run_pure]
    refine wpAny_bind (wpAny_pure ?_)
    dsimp only
    have em : (vs.toArray.zip vs.toArray).map (·.2) = vs.toArray := by
      apply Array.toList_inj.mp
      rw [Array.toList_map, zip_self, List.map_map]
      exact List.map_id _
    refine wpAny_bind (seqEpoch_at ho6 rfl ?_)
    refine wpAny_bind (listUpdate_at ho6 rfl ?_ (Nat.zero_le _) (by show ((vs.toArray.zip vs.toArray).map (·.2)).size ≤ _; rw [em, List.size_toArray, sizeLine_eq]; omega))
    simp only [bne_self_eq_false, Bool.false_eq_true, if_false]
    refine wpAny_pure ?_
    have z := h vs (List.Perm.refl _) (by
      refine List.pairwise_iff_getElem.mpr fun i j hi hj hij => ?_
      rw [List.size_toArray] at h2
      omega)
    show P _ { s with heap := sortedHeap s.heap a vs ((vs.toArray.zip vs.toArray).map (·.2)) }
    rw [em]
    exact z
  · rw [if_neg h2, if_neg h2]
    have l2 : 2 ≤ vs.length := by rw [List.size_toArray] at h2; omega
    refine wpAny_bind (kat_kind (vs := vs) (fs := vs.map fun v => (match v with
      | .ref b => (match (((s.heap.update a (Obj.mapSeq fun _ => #[])).push (seqObj "tuple" vs.toArray 0)).push (seqObj "list" #[] 0)).get? b with
        | some o => (match o.data with
          | .seq xs _ => xs.getD 0 .none
          | _ => .none)
        | none => .none)
      | _ => .none)) (T := .type "int") ?_ (by rw [List.length_map]; omega) (fun f hf => ?_) (by decide) ?_)
    · have key : ∀ (us : List Value), (∀ v ∈ us, v ∈ vs) → KatTups (((s.heap.update a (Obj.mapSeq fun _ => #[])).push (seqObj "tuple" vs.toArray 0)).push (seqObj "list" #[] 0)) us (us.map fun v => (match v with
        | .ref b => (match (((s.heap.update a (Obj.mapSeq fun _ => #[])).push (seqObj "tuple" vs.toArray 0)).push (seqObj "list" #[] 0)).get? b with
          | some o => (match o.data with
            | .seq xs _ => xs.getD 0 .none
            | _ => .none)
          | none => .none)
        | _ => .none)) := by
        intro us
        induction us with
        | nil => exact fun _ => KatTups.nil
        | cons v r ih =>
          intro hm
          obtain ⟨⟨b, o, m, t1, t2, rfl, p2, p3, p4⟩, pb⟩ := hJ v (hm v List.mem_cons_self)
          rw [List.map_cons]
          refine KatTups.cons p2 p3 p4 ?_ (ih fun u hu => hm u (List.mem_cons_of_mem _ hu))
          dsimp only
          rw [p2]
          dsimp only
          rw [p4]
          rfl
      exact key vs fun _ h => h
    · obtain ⟨v, hv, rfl⟩ := List.mem_map.mp hf
      obtain ⟨⟨b, o, m, t1, t2, rfl, p2, p3, p4⟩, pb⟩ := hJ v hv
      dsimp only
      rw [p2]
      dsimp only
      rw [p4]
      exact Looks.now
    · have H : HL prog w A { s with heap := ((s.heap.update a (Obj.mapSeq fun _ => #[])).push (seqObj "tuple" vs.toArray 0)).push (seqObj "list" #[] 0) } (tuples' true) (fun p => kc p.1 * 1000000 + kr p.1) (fun p => p.1 ∈ vs ∧ p.2 = p.1) := fun x y gx gy => lt_pairs (s := { s with heap := ((s.heap.update a (Obj.mapSeq fun _ => #[])).push (seqObj "tuple" vs.toArray 0)).push (seqObj "list" #[] 0) }) (hJ _ gx.1) (hJ _ gy.1)
      have gz : ∀ p ∈ (vs.toArray.zip vs.toArray).toList, p.1 ∈ vs ∧ p.2 = p.1 := fun p hp => by
        rw [zip_self] at hp
        obtain ⟨v, hv, rfl⟩ := List.mem_map.mp hp
        exact ⟨hv, rfl⟩
      have sz : (vs.toArray.zip vs.toArray).size = vs.length := by simp
      have W : Wh (tuples' true) (fun p => kc p.1 * 1000000 + kr p.1) (fun p => p.1 ∈ vs ∧ p.2 = p.1) (vs.toArray.zip vs.toArray) 0 (SortSt.mk' (tuples' true) (vs.toArray.zip vs.toArray) #[] 7 none) := ⟨Array.Perm.refl _, ⟨rfl, gz⟩, rfl, rfl⟩
      refine wpAny_bind (wpAny_mono (wpS_sortRuns (st := SortSt.mk' (tuples' true) (vs.toArray.zip vs.toArray) #[] 7 none) (Q := fun _ st' => (arrOf st').Perm (vs.toArray.zip vs.toArray) ∧ failedOf st' = none ∧ SL (fun p => kc p.1 * 1000000 + kr p.1) (arrOf st') 0 (vs.toArray.zip vs.toArray).size) H W rfl (by omega) fun st' a1 a2 a3 => ⟨a1, a2, a3⟩) ?_ fun _ _ e => e)
      rintro ⟨⟨⟩, st'⟩ s' ⟨rfl, hp, hf, hs⟩
      dsimp only
      have gp : ∀ p ∈ (arrOf st').toList, p.1 ∈ vs ∧ p.2 = p.1 := fun p hp' => gz p ((Array.perm_iff_toList_perm.mp hp).mem_iff.mp hp')
      refine wpAny_bind (seqEpoch_at ho6 rfl ?_)
      refine wpAny_bind (listUpdate_at ho6 rfl ?_ (Nat.zero_le _) (by refine Nat.le_trans (Nat.le_of_eq ((Array.size_map ..).trans (hp.size_eq.trans sz))) ?_; rw [sizeLine_eq]; omega))
      rw [hf]
      simp only [bne_self_eq_false, Bool.false_eq_true, if_false]
      refine wpAny_pure ?_
      have z := h ((arrOf st').toList.map (·.2)) ?_ ?_
      · unfold sortedHeap at z
        have ez : ((arrOf st').toList.map (·.2)).toArray = (arrOf st').map (·.2) := by
          apply Array.toList_inj.mp
          rw [Array.toList_map]
        rw [ez] at z
        exact z
      · have := (Array.perm_iff_toList_perm.mp hp).map (·.2)
        rw [zip_self, List.map_map] at this
        exact this.trans (List.Perm.of_eq (List.map_id _))
      · rw [List.pairwise_map]
        refine List.pairwise_iff_getElem.mpr fun i j hi hj hij => ?_
        rw [Array.length_toList] at hi hj
        have e1 := (gp _ (List.getElem_mem (show i < (arrOf st').toList.length by rw [Array.length_toList]; exact hi))).2
        have e2 := (gp _ (List.getElem_mem (show j < (arrOf st').toList.length by rw [Array.length_toList]; exact hj))).2
        rw [e1, e2]
        exact SL.at (kf := fun p => kc p.1 * 1000000 + kr p.1) hs (Nat.zero_le _) (Nat.le_of_lt hij) (by rw [← hp.size_eq]; exact hj) (by rw [Array.getElem_toList]; exact Array.getElem?_eq_getElem hi) (by rw [Array.getElem_toList]; exact Array.getElem?_eq_getElem hj)
theorem sorted_pairs {l : Addr} {vs : List Value} {kc kr : Value → Int} {Q : Value → Shared → Prop} (hl : s.heap.IsList l vs.toArray) (hI : ∀ v ∈ vs, P2 s.heap v (kc v) (kr v)) (hn : vs.length ≤ 100000)
    (h : ∀ out : List Value, out.Perm vs → (out.Pairwise fun x y => kc x * 1000000 + kr x ≤ kc y * 1000000 + kr y) → Q (.ref (s.heap.objs.size + 1)) { s with heap := sortedAll s.heap vs out.toArray }) :
    wpAny (model prog w) A (call (.builtin "sorted") [.ref l]) Q E s := by
  refine Calls.call_function_entry kind_sorted plain_sorted entry_sorted (args_sorted1 _) ?_
  unfold Builtin.«sorted»
  refine wpAny_bind (m := checkCount "sorted" 1 1 _) (wpAny_pure ?_)
  refine wpAny_bind (collect_list hl ?_ (by rw [sizeLine_eq]; omega))
  refine wpAny_bind (wpAny_newList ?_ (by rw [sizeLine_eq]; omega))
  have hsz : ((s.heap.push (seqObj "list" #[] 0)).update s.heap.objs.size (Obj.mapSeq (· ++ vs.toArray))).objs.size = s.heap.objs.size + 1 := by
    rw [Heap.size_update, size_push']
  have hoL : (((s.heap.push (seqObj "list" #[] 0)).update s.heap.objs.size (Obj.mapSeq (· ++ vs.toArray))).push (seqObj "list" vs.toArray 0)).get? (s.heap.objs.size + 1) = some (seqObj "list" vs.toArray 0) := by
    rw [← hsz]; exact Heap.get?_push_size _ rfl
  have keep : ∀ b o, s.heap.get? b = some o → (((s.heap.push (seqObj "list" #[] 0)).update s.heap.objs.size (Obj.mapSeq (· ++ vs.toArray))).push (seqObj "list" vs.toArray 0)).get? b = some o := fun b o q => by
    have hlt : b < s.heap.objs.size := Heap.lt_size q
    rw [Heap.get?_push_ne _ _ _ (by rw [hsz]; exact Nat.ne_of_lt (Nat.lt_succ_of_lt hlt)), Heap.get?_update_ne _ _ _ _ (Nat.ne_of_lt hlt), Heap.get?_push_ne _ _ _ (Nat.ne_of_lt hlt)]
    exact q
  show wpAny _ _ _ _ _ { s with heap := ((s.heap.push (seqObj "list" #[] 0)).update s.heap.objs.size (Obj.mapSeq (· ++ vs.toArray))).push (seqObj "list" vs.toArray 0) }
  rw [hsz]
  refine wpAny_bind (wpAny_holding (wpAny_call_entry slot_list_sort ⟨_, hoL, rfl⟩ entry_list_sort (pairs_sort (s := { s with heap := ((s.heap.push (seqObj "list" #[] 0)).update s.heap.objs.size (Obj.mapSeq (· ++ vs.toArray))).push (seqObj "list" vs.toArray 0) }) hoL (fun v hv => ⟨(hI v hv).kept keep, fun z => ?_⟩) hn fun out a1 a2 => ⟨_, rfl, ?_⟩) (args_list_sort _)))
  · obtain ⟨⟨b, o, m, t1, t2, e, p2, p3, p4⟩, pb⟩ := hI v hv
    rw [e] at z
    injection z with z
    have := Heap.lt_size p2
    rw [z] at this
    exact absurd this (Nat.not_lt.mpr (Nat.le_succ _))
  · exact wpAny_pure ⟨_, rfl, h out a1 a2⟩
end
end L2.Ts

namespace Dl
open PySem
noncomputable def prD : D → Option (Int × Int)
  | .tup [.int c, .int r] => if 0 ≤ r ∧ r < 1000000 then some (c, r) else none
  | _ => none
noncomputable def prsD : List D → Option (List (Int × Int))
  | [] => some []
  | d :: ds => match prD d, prsD ds with
    | some p, some ps => some (p :: ps)
    | _, _ => none
noncomputable def keyP (p : Int × Int) : Int := p.1 * 1000000 + p.2
noncomputable def insP (p : Int × Int) : List (Int × Int) → List (Int × Int)
  | [] => [p]
  | q :: r => if keyP p ≤ keyP q then p :: q :: r else q :: insP p r
noncomputable def sortP : List (Int × Int) → List (Int × Int)
  | [] => []
  | p :: r => insP p (sortP r)
noncomputable def encPr (p : Int × Int) : D := .tup [.int p.1, .int p.2]
noncomputable def bSort : List D → Res D
  | [.lst ds] => match prsD ds with
    | some ps => if ds.length ≤ 1000 then .ok (.lst ((sortP ps).map encPr)) else .bad
    | none => .bad
  | _ => .bad
noncomputable def addOw (j : Nat) (m : ME) : ME := fun ρ => (getO ρ[j]?).bind fun ds => (m ρ).bind fun d => match d with
  | .lst as => dAdd (.lst as) (.lst ds)
  | _ => .bad
theorem insP_perm (p : Int × Int) : ∀ l, (insP p l).Perm (p :: l)
  | [] => .refl _
  | q :: r => by
    unfold insP
    split
    · exact .refl _
    · exact ((insP_perm p r).cons q).trans (.swap p q r)
theorem sortP_perm : ∀ l, (sortP l).Perm l
  | [] => .refl _
  | p :: r => (insP_perm p _).trans ((sortP_perm r).cons p)
theorem insP_asc {p : Int × Int} : ∀ {l}, (l.Pairwise fun a b => keyP a ≤ keyP b) → (insP p l).Pairwise fun a b => keyP a ≤ keyP b
  | [], _ => List.pairwise_singleton _ _
  | q :: r, h => by
    have h' := List.pairwise_cons.mp h
    unfold insP
    split
    · next c =>
      refine List.pairwise_cons.mpr ⟨fun x hx => ?_, h⟩
      rcases List.mem_cons.mp hx with rfl | hx
      · exact c
      · exact Int.le_trans c (h'.1 x hx)
    · next c =>
      refine List.pairwise_cons.mpr ⟨fun x hx => ?_, insP_asc h'.2⟩
      rcases List.mem_cons.mp ((insP_perm p r).mem_iff.mp hx) with rfl | hx
      · omega
      · exact h'.1 x hx
theorem sortP_asc : ∀ l, (sortP l).Pairwise fun a b => keyP a ≤ keyP b
  | [] => List.Pairwise.nil
  | _ :: r => insP_asc (sortP_asc r)
noncomputable def okP (p : Int × Int) : Prop := 0 ≤ p.2 ∧ p.2 < 1000000
theorem keyP_inj {p q : Int × Int} (hp : okP p) (hq : okP q) (h : keyP p = keyP q) : p = q := by
  unfold keyP at h
  unfold okP at hp hq
  exact Prod.ext (by omega) (by omega)
theorem asc_one : ∀ {l m : List (Int × Int)}, l.Perm m → (∀ p ∈ l, okP p) → (l.Pairwise fun a b => keyP a ≤ keyP b) → (m.Pairwise fun a b => keyP a ≤ keyP b) → l = m
  | [], m, hp, _, _, _ => (List.Perm.eq_nil hp.symm).symm
  | a :: r, [], hp, _, _, _ => absurd hp.length_eq (by simp)
  | a :: r, b :: t, hp, ok, h1, h2 => by
    have g1 := List.pairwise_cons.mp h1
    have g2 := List.pairwise_cons.mp h2
    have e : a = b := by
      have ha : a ∈ b :: t := hp.mem_iff.mp List.mem_cons_self
      have hb : b ∈ a :: r := hp.mem_iff.mpr List.mem_cons_self
      rcases List.mem_cons.mp ha with e | ha
      · exact e
      · rcases List.mem_cons.mp hb with e | hb'
        · exact e.symm
        · have z1 := g1.1 b hb'
          have z2 := g2.1 a ha
          exact keyP_inj (ok a List.mem_cons_self) (ok b hb) (by omega)
    subst e
    rw [asc_one (List.Perm.cons_inv hp) (fun p h => ok p (List.mem_cons_of_mem _ h)) g1.2 g2.2]
end Dl

namespace L2
open PySem PySem.Spec PyProof.Rows
noncomputable def rSort (K : PySem.W.Frag) : List V → Hp → VK → Prop := fun vs H Q => ∃ (l : Addr) (xs : List V) (ps : List (Int × Int)), vs = [.ref l] ∧ SqL K H l xs ∧ (ps.length = xs.length ∧ ∀ (i : Nat) (x : V), xs[i]? = some x → ∃ a p, ps[i]? = some p ∧ x = V.ref a ∧ SqT K H a [.int p.1, .int p.2] ∧ Dl.okP p) ∧ xs.length ≤ 1000 ∧
  ∀ D (zs : List (V × (Int × Int))), H D = none → zs.Perm (xs.zip ps) → (zs.Pairwise fun x y => Dl.keyP x.2 ≤ Dl.keyP y.2) → Q (.ref D) (upd H D (.lst (zs.map (·.1))))
noncomputable def rdP (h : Heap) : Value → Int × Int
  | .ref a => (match h.get? a with
    | some o => (match o.data with
      | .seq xs _ => (match xs.toList with
        | [.int c _, .int r _] => (c, r)
        | _ => (0, 0))
      | _ => (0, 0))
    | none => (0, 0))
  | _ => (0, 0)
noncomputable def bkV : Value → V
  | .ref a => .ref a
  | _ => .non
theorem sortedAll_get {h : Heap} {vs : List Value} {out : Array Value} : ∃ n, (sortedAll h vs out).get? (h.objs.size + 1) = some { cls := .type "list", data := .seq out n } := by
  have hsz : ((h.push (seqObj "list" #[] 0)).update h.objs.size (Obj.mapSeq (· ++ vs.toArray))).objs.size = h.objs.size + 1 := by
    rw [Heap.size_update, size_push']
  have hoL : (((h.push (seqObj "list" #[] 0)).update h.objs.size (Obj.mapSeq (· ++ vs.toArray))).push (seqObj "list" vs.toArray 0)).get? (h.objs.size + 1) = some (seqObj "list" vs.toArray 0) := by
    rw [← hsz]; exact Heap.get?_push_size _ rfl
  have ha := Heap.lt_size hoL
  unfold sortedAll sortedHeap
  generalize ((h.push (seqObj "list" #[] 0)).update h.objs.size (Obj.mapSeq (· ++ vs.toArray))).push (seqObj "list" vs.toArray 0) = g at *
  generalize h.objs.size + 1 = a at *
  obtain ⟨e1, ho1⟩ : ∃ e1, (g.update a (Obj.mapSeq fun _ => #[])).get? a = some (seqObj "list" #[] e1) := ⟨_, get?_update_seq hoL (fun _ => #[])⟩
  have ho6 : (((g.update a (Obj.mapSeq fun _ => #[])).push (seqObj "tuple" vs.toArray 0)).push (seqObj "list" #[] 0)).get? a = some (seqObj "list" #[] e1) := by
    rw [Heap.get?_push_ne _ _ _ (by rw [size_push', Heap.size_update]; exact Nat.ne_of_lt (Nat.lt_succ_of_lt ha)), Heap.get?_push_ne _ _ _ (by rw [Heap.size_update]; exact Nat.ne_of_lt ha)]
    exact ho1
  exact ⟨_, get?_update_seq ho6 (fun _ => out)⟩
theorem sortedAll_kept {h : Heap} {vs : List Value} {out : Array Value} {b : Addr} {o : Obj} (q : h.get? b = some o) : (sortedAll h vs out).get? b = some o := by
  have hb := Heap.lt_size q
  have hsz : ((h.push (seqObj "list" #[] 0)).update h.objs.size (Obj.mapSeq (· ++ vs.toArray))).objs.size = h.objs.size + 1 := by
    rw [Heap.size_update, size_push']
  have n1 : b ≠ h.objs.size := Nat.ne_of_lt hb
  have n2 : b ≠ h.objs.size + 1 := Nat.ne_of_lt (Nat.lt_succ_of_lt hb)
  unfold sortedAll sortedHeap
  rw [Heap.get?_update_ne _ _ _ _ n2, Heap.get?_push_ne _ _ _ (by rw [size_push', Heap.size_update, size_push', hsz]; exact Nat.ne_of_lt (Nat.lt_succ_of_lt (Nat.lt_succ_of_lt (Nat.lt_succ_of_lt hb)))), Heap.get?_push_ne _ _ _ (by rw [Heap.size_update, size_push', hsz]; exact Nat.ne_of_lt (Nat.lt_succ_of_lt (Nat.lt_succ_of_lt hb))), Heap.get?_update_ne _ _ _ _ n2, Heap.get?_push_ne _ _ _ (by rw [hsz]; exact n2), Heap.get?_update_ne _ _ _ _ n1, Heap.get?_push_ne _ _ _ n1]
  exact q
theorem vals_atS : ∀ {xs : List V} {us : List Value}, Vals xs us → ∀ {i : Nat} {u : Value}, us[i]? = some u → ∃ x, xs[i]? = some x ∧ RelV x u
  | _, _, .cons h _, 0, _, e => ⟨_, rfl, by cases e; exact h⟩
  | _, _, .cons _ t, i + 1, _, e => vals_atS t (by simpa using e)
  | _, _, .nil, i, _, e => by simp at e
section
variable {X : Cx} {k : Nat}
theorem call_sortR : CallR X (.builtin "sorted") (rSort X.K) := by
  intro pins s σ H vs us Q I rv ⟨l, xs, ps, e, hl, ⟨hlp, hk⟩, hn, hq⟩
  subst e
  cases rv with
  | cons r1 rr =>
    cases rr
    cases r1
    obtain ⟨its, r, ⟨o, n, e1, e2, _, e3⟩, _⟩ := I.list hl
    have hlen := r.length
    have hit : ∀ i u, its[i]? = some u → ∃ (a : Addr) (p : Int × Int), xs[i]? = some (V.ref a) ∧ ps[i]? = some p ∧ u = Value.ref a ∧ rdP s.heap u = p ∧ Ts.P2 s.heap u p.1 p.2 := fun i u hu => by
      obtain ⟨x, hx, rx⟩ := vals_atS r hu
      obtain ⟨a, p, ep, rfl, hT, hb⟩ := hk i x hx
      cases rx
      obtain ⟨is, ri, ⟨o', p1, p2, m, p3⟩, _⟩ := I.tuple hT
      cases ri with
      | cons q1 ri =>
        cases ri with
        | cons q2 ri =>
          cases ri
          obtain ⟨t1, rfl⟩ := q1
          obtain ⟨t2, rfl⟩ := q2
          refine ⟨a, p, hx, ep, rfl, ?_, ⟨a, o', m, t1, t2, rfl, p1, p2, p3⟩, hb⟩
          unfold rdP
          dsimp only
          rw [p1]
          dsimp only
          rw [p3]
    have hz : its.map (fun u => (bkV u, rdP s.heap u)) = xs.zip ps := by
      apply List.ext_getElem?
      intro i
      rw [List.getElem?_map]
      cases eu : its[i]? with
      | none =>
        have := List.getElem?_eq_none_iff.mp eu
        rw [List.getElem?_eq_none (by rw [List.length_zip]; omega)]
        rfl
      | some u =>
        obtain ⟨a, p, hx, hp, rfl, hr, _⟩ := hit i u eu
        rw [List.getElem?_zip_eq_some (z := (V.ref a, p)) |>.mpr ⟨hx, hp⟩]
        show some (V.ref a, rdP s.heap (.ref a)) = _
        rw [hr]
    refine Ts.sorted_pairs (vs := its) (kc := fun u => (rdP s.heap u).1) (kr := fun u => (rdP s.heap u).2) ⟨o, e1, e2, n, e3⟩ (fun v hv => ?_) (by omega) fun out hp hs => ?_
    · obtain ⟨i, hi, rfl⟩ := List.mem_iff_getElem.mp hv
      obtain ⟨a, p, hx, _, hu, hr, hP⟩ := hit i _ (List.getElem?_eq_getElem hi)
      rw [hr]
      exact hP
    · obtain ⟨c, hc⟩ := sortedAll_get (h := s.heap) (vs := its) (out := out.toArray)
      have hv : Vals (out.map bkV) out := by
        have key : ∀ us : List Value, (∀ u ∈ us, u ∈ its) → Vals (us.map bkV) us := by
          intro us
          induction us with
          | nil => exact fun _ => .nil
          | cons u r ih =>
            intro hm
            refine .cons ?_ (ih fun v hv => hm v (List.mem_cons_of_mem _ hv))
            obtain ⟨i, hi, rfl⟩ := List.mem_iff_getElem.mp (hm u List.mem_cons_self)
            obtain ⟨a, p, hx, _, hu, _⟩ := hit i _ (List.getElem?_eq_getElem hi)
            rw [hu]
            rfl
        exact key out fun u hu => hp.mem_iff.mp hu
      have hl2 : (out.map bkV).length ≤ sizeLine := by rw [List.length_map, hp.length_eq, sizeLine_eq]; omega
      have I' := I.laid (a := s.heap.objs.size + 1) (t' := s.toks) (o := .lst (out.map bkV)) (h' := sortedAll s.heap its out.toArray) (fun b u e => sortedAll_kept e) (Nat.le_succ _) ⟨hl2, out, c, hv, hc⟩
      have q := hq _ (out.map fun u => (bkV u, rdP s.heap u)) (I.hok.fresh (Nat.le_succ _)) (by rw [← hz]; exact hp.map _) (by rw [List.pairwise_map]; exact hs)
      rw [List.map_map] at q
      exact ⟨.ref (s.heap.objs.size + 1), _, I', rfl, q⟩
end
end L2
namespace L2.Ds
open PySem PySem.Spec PyProof.Rows Dl
section
variable {K : PySem.W.Frag} {mg : Str → Option Value}
theorem prs_at {F : Hp} : ∀ {xs : List V} {ds : List D} {ps : List (Int × Int)}, Rps K mg F xs ds → prsD ds = some ps → ps.length = xs.length ∧ ∀ (i : Nat) (x : V), xs[i]? = some x → ∃ a p, ps[i]? = some p ∧ x = V.ref a ∧ SqT K F a [.int p.1, .int p.2] ∧ okP p
  | _, [], _, .nil, e => by
    cases e
    exact ⟨rfl, fun i x h => by simp at h⟩
  | _, d :: ds, ps, .cons h r, e => by
    unfold prsD at e
    cases q : prD d with
    | none => rw [q] at e; cases e
    | some p =>
      cases q2 : prsD ds with
      | none => rw [q, q2] at e; cases e
      | some pr =>
        rw [q, q2] at e
        cases e
        obtain ⟨l, g⟩ := prs_at r q2
        refine ⟨by simp [l], fun i x hx => ?_⟩
        cases i with
        | succ i => exact g i x (by simpa using hx)
        | zero =>
          cases hx
          unfold prD at q
          split at q
          · next c' r' =>
            split at q
            · next hb =>
              cases q
              cases h with
              | tup ht rt =>
                cases rt with
                | cons h1 rt =>
                  cases rt with
                  | cons h2 rt =>
                    cases rt
                    cases h1
                    cases h2
                    exact ⟨_, _, rfl, rfl, ht, hb⟩
            · cases q
          · cases q
theorem callD_sort : CallD K mg (rSort K) bSort := by
  intro E F H xs ds s r
  unfold bSort
  split
  · obtain ⟨x, rfl, rx⟩ := r.one
    rename_i es
    cases rx with
    | lst h q =>
      rename_i l vs
      cases e : prsD es with
      | none => trivial
      | some ps =>
        show Ans mg E (Rp K mg) F H (if es.length ≤ 1000 then .ok (.lst ((sortP ps).map encPr)) else .bad) _
        split
        · next hl =>
          obtain ⟨lp, g⟩ := prs_at q e
          intro Q z
          refine ⟨l, vs, ps, rfl, s.seq h, ⟨lp, fun i x hx => ?_⟩, by have := q.length; omega, fun D zs hD hp hs => ?_⟩
          · obtain ⟨a, p, e1, e2, e3, e4⟩ := g i x hx
            exact ⟨a, p, e1, e2, seqT_same s e3, e4⟩
          · have mz : ∀ y ∈ zs, ∃ a, y.1 = .ref a ∧ SqT K F a [.int y.2.1, .int y.2.2] ∧ okP y.2 := fun y hy => by
              obtain ⟨i, hi, ey⟩ := List.mem_iff_getElem.mp (hp.mem_iff.mp hy)
              have ey' : (vs.zip ps)[i]? = some y := by rw [List.getElem?_eq_getElem hi, ey]
              obtain ⟨w1, w2⟩ := List.getElem?_zip_eq_some.mp ey'
              obtain ⟨a, p, e1, e2, e3, e4⟩ := g i _ w1
              rw [w2] at e1
              cases e1
              exact ⟨a, e2, e3, e4⟩
            have ez : zs.map (·.2) = sortP ps := by
              have p1 : (zs.map (·.2)).Perm ps := by
                have := hp.map (·.2)
                rwa [List.map_snd_zip (by omega)] at this
              refine asc_one (p1.trans (sortP_perm ps).symm) (fun p h => ?_) (by rw [List.pairwise_map]; exact hs) (sortP_asc ps)
              obtain ⟨y, hy, rfl⟩ := List.mem_map.mp h
              obtain ⟨_, _, _, ok⟩ := mz y hy
              exact ok
            have rz : ∀ ys : List (V × (Int × Int)), (∀ y ∈ ys, y ∈ zs) → Rps K mg F (ys.map (·.1)) ((ys.map (·.2)).map encPr) := by
              intro ys
              induction ys with
              | nil => exact fun _ => .nil
              | cons y r ih =>
                intro hm
                refine .cons ?_ (ih fun u hu => hm u (List.mem_cons_of_mem _ hu))
                obtain ⟨a, e1, e2, _⟩ := mz y (hm y List.mem_cons_self)
                show Rp K mg F y.1 (encPr y.2)
                rw [e1]
                exact .tup e2 (.cons (.int _) (.cons (.int _) .nil))
            have R := rz zs fun _ h => h
            rw [ez] at R
            exact z (upd F D (.lst (zs.map (·.1)))) _ _ (.new s hD _) (.lst (SqL.of upd_same) (R.same (same_new (s.free hD) _)))
        · trivial
  · trivial
end
section
variable {X : Cx} {E : XK} {a : Expr} {ta : TE} {ma : ME} {p pos : Pos}
theorem d_addO (j : Nat) {x : Str} (ha : DE X E a ta ma) (hN : X.N[j]? = some x := by rfl) (hv : Vis X.env.scope x := by first | exact Or.inl rfl | exact Or.inr (Or.inl rfl) | exact Or.inr (Or.inr rfl)) (hd : (x == ("__debug__" : Str)) = false := by decide) (hcd : (x == ("__classdict__" : Str)) = false := by decide) : DE X E (.BinOp a .Add (.Name x p) pos) (tOp (rAddD X.K) ta (tVar j)) (addOw j ma) := by
  refine ⟨pe_op op_addD ha.p (d_v (E := E) j hN hv hd hcd).p, ?_⟩
  intro F0 H0 F H σ ρ rr
  unfold addOw getO
  split
  · next ds e =>
    show Ans X.mg E (Rp X.K X.mg) F H ((ma ρ).bind _) _
    refine (ha.s F0 H0 F H σ ρ rr).bind fun F1 H1 y dy g1 ry => ?_
    obtain ⟨q, ys, h1, h2, h3, h4, h5⟩ := (rr.gr g1).ow j ds e
    cases dy with
    | lst as =>
      cases ry with
      | lst hl rl =>
        rename_i l xs
        show Ans X.mg E (Rp X.K X.mg) F1 H1 (dAdd (.lst as) (.lst ds)) _
        show Ans X.mg E (Rp X.K X.mg) F1 H1 (if as.length + ds.length ≤ LIM then .ok (.lst (as ++ ds)) else .bad) _
        by_cases h : as.length + ds.length ≤ LIM
        · rw [if_pos h]
          refine ans_new g1.s (o := .lst (xs ++ ys)) (fun p hp => .lst (SqL.of upd_same) ((Rps.app h5 rl).same (same_new (g1.s.free hp) _))) fun Q z => ⟨.ref q, h1, .inr (.inl ⟨l, q, xs, ys, rfl, rfl, g1.s.seq hl, SqL.of h4, ?_, z⟩)⟩
          rw [rl.length, h5.length]; exact lim_le h
        · rw [if_neg h]; trivial
    | _ => trivial
  · trivial
end
end L2.Ds

namespace Dl
open PySem
noncomputable def Sm (k : Nat) (x : Int) : Prop := x.natAbs < 2 ^ k
theorem Sm.mono {k n : Nat} {x : Int} (h : Sm k x) (hn : k ≤ n) : Sm n x := Nat.lt_of_lt_of_le h (Nat.pow_le_pow_right (by decide) hn)
theorem Sm.mul {m n : Nat} {x y : Int} (h : Sm m x) (g : Sm n y) : Sm (m + n) (x * y) := by
  unfold Sm at *
  rw [Int.natAbs_mul, Nat.pow_add]
  rcases Nat.eq_zero_or_pos x.natAbs with z | z
  · rw [z, Nat.zero_mul]; exact Nat.mul_pos (Nat.two_pow_pos _) (Nat.two_pow_pos _)
  · exact Nat.lt_of_le_of_lt (Nat.mul_le_mul_left _ (Nat.le_of_lt g)) (Nat.mul_lt_mul_of_pos_right h (Nat.two_pow_pos _))
theorem Sm.add {m n : Nat} {x y : Int} (h : Sm m x) (g : Sm n y) : Sm (max m n + 1) (x + y) := by
  have h' := h.mono (Nat.le_max_left m n)
  have g' := g.mono (Nat.le_max_right m n)
  unfold Sm at *
  rw [Nat.pow_succ]
  have := Int.natAbs_add_le x y
  omega
theorem Sm.neg {m : Nat} {x : Int} (h : Sm m x) : Sm m (-x) := by
  unfold Sm at *
  rw [Int.natAbs_neg]
  exact h
theorem Sm.sub {m n : Nat} {x y : Int} (h : Sm m x) (g : Sm n y) : Sm (max m n + 1) (x - y) := by
  rw [Int.sub_eq_add_neg]; exact h.add g.neg
theorem Sm.min {m n : Nat} {x y : Int} (h : Sm m x) (g : Sm n y) : Sm (max m n) (min x y) := by
  rcases Int.le_total x y with z | z
  · rw [Int.min_eq_left z]; exact h.mono (Nat.le_max_left m n)
  · rw [Int.min_eq_right z]; exact g.mono (Nat.le_max_right m n)
theorem Sm.max {m n : Nat} {x y : Int} (h : Sm m x) (g : Sm n y) : Sm (max m n) (max x y) := by
  rcases Int.le_total x y with z | z
  · rw [Int.max_eq_right z]; exact g.mono (Nat.le_max_right m n)
  · rw [Int.max_eq_left z]; exact h.mono (Nat.le_max_left m n)
theorem Sm.le {m : Nat} {x y : Int} (h : Sm m x) (e : y.natAbs ≤ x.natAbs) : Sm m y := Nat.lt_of_le_of_lt e h
theorem Sm.of64 {x : Int} (h1 : -18446744073709551616 < x) (h2 : x < 18446744073709551616) : Sm 64 x := by
  unfold Sm
  have : (2 : Nat) ^ 64 = 18446744073709551616 := by decide
  omega
theorem log_lt {n k : Nat} (h : n < 2 ^ k) (hk : 0 < k) : n.log2 < k := by
  rcases Nat.eq_zero_or_pos n with z | z
  · rw [z]; simpa using hk
  · exact (Nat.log2_lt (Nat.ne_of_gt z)).mpr h
theorem Sm.log {m : Nat} {x : Int} (h : Sm m x) (hm : m < 9000) : x.natAbs.log2 < 9000 := log_lt (h.mono (Nat.le_of_lt hm)) (by decide)
theorem mulOk_l {a b : Int} (h : Sm 64 a) : mulOk a b = true := by
  unfold mulOk
  rw [decide_eq_true (show a.natAbs < 2 ^ 64 from h)]; rfl
theorem mulOk_r {a b : Int} (h : Sm 64 b) : mulOk a b = true := by
  unfold mulOk
  rw [decide_eq_true (show b.natAbs < 2 ^ 64 from h)]
  simp
theorem mulOk_s {a b : Int} {m n : Nat} (h : Sm m a) (g : Sm n b) (hk : m + n < 99999990) : mulOk a b = true := by
  have h1 := log_lt (h.mono (Nat.le_succ m)) (Nat.succ_pos _)
  have h2 := log_lt (g.mono (Nat.le_succ n)) (Nat.succ_pos _)
  unfold mulOk
  rw [decide_eq_true (show a.natAbs.log2 + b.natAbs.log2 < 100000000 by omega)]
  simp
theorem iMul_ok {a b : Int} (h : mulOk a b = true) : iMul a b = .ok (.int (a * b)) := by unfold iMul; rw [if_pos h]
theorem iMod_pos {a b : Int} (h : 0 < b) : iMod a b = .ok (.int (a % b)) := by unfold iMod; rw [if_pos h]
theorem iDiv_pos {a b : Int} (h : 0 < b) (hl : b.natAbs.log2 < 9000) : iDiv a b = .ok (.int (a / b)) := by unfold iDiv; rw [if_pos hl, if_pos h]
theorem iPow_ok {a b : Int} (h0 : 0 ≤ b) (h1 : b ≤ 1000000) (h2 : a.natAbs < 2 ^ 64) : iPow a b = .ok (.int (a ^ b.toNat)) := by unfold iPow; rw [if_pos ⟨h0, h1, h2⟩]
theorem iShl_ok {a b : Int} (h0 : 0 ≤ b) (h1 : b ≤ 1000000) (h2 : a.natAbs < 2 ^ 64) : iShl a b = .ok (.int (a * 2 ^ b.toNat)) := by unfold iShl; rw [if_pos ⟨h0, h1, h2⟩]
theorem iShr_ok {a b : Int} (h0 : 0 ≤ b) : iShr a b = .ok (.int (a / 2 ^ b.toNat)) := by unfold iShr; rw [if_pos h0]
theorem dEq_int (a b : Int) : dEq (.int a) (.int b) = .ok (.bl (decide (a = b))) := by
  show Res.ok (D.bl (a == b)) = _
  rw [Bool.beq_eq_decide_eq]
theorem dNe_int (a b : Int) : dNe (.int a) (.int b) = .ok (.bl (!decide (a = b))) := by
  show Res.ok (D.bl (!(a == b))) = _
  rw [Bool.beq_eq_decide_eq]
theorem dAdd_lst {a b : List D} (h : a.length + b.length ≤ 1000000) : dAdd (.lst a) (.lst b) = .ok (.lst (a ++ b)) := by
  show (if a.length + b.length ≤ LIM then Res.ok (D.lst (a ++ b)) else .bad) = _
  rw [if_pos (show a.length + b.length ≤ LIM from h)]
theorem dIx_lst (xs : List D) (i : Int) : dIx (.lst xs) (.int i) = ofO (at_ xs i) := rfl
theorem bLen_lst (xs : List D) : bLen [.lst xs] = .ok (.int xs.length) := rfl
theorem bLen_tup (xs : List D) : bLen [.tup xs] = .ok (.int xs.length) := rfl
theorem bAbs_int (i : Int) : bAbs [.int i] = .ok (.int i.natAbs) := by
  show Res.ok (D.int (if i < 0 then -i else i)) = _
  have : (if i < 0 then -i else i) = (i.natAbs : Int) := by split <;> omega
  rw [this]
theorem bMax_int (i j : Int) : bMax [.int i, .int j] = .ok (.int (max i j)) := by
  show Res.ok (D.int (if j > i then j else i)) = _
  have : (if j > i then j else i) = max i j := by split <;> omega
  rw [this]
theorem bMin_int (i j : Int) : bMin [.int i, .int j] = .ok (.int (min i j)) := by
  show Res.ok (D.int (if j < i then j else i)) = _
  have : (if j < i then j else i) = min i j := by split <;> omega
  rw [this]
theorem rng1_ok {j : Int} (h0 : -1000000000 ≤ j) (h1 : j ≤ 1000000000) : rng1 [.int j] = .ok (rangeD 0 j.toNat) := by
  show (if -1000000000 ≤ j ∧ j ≤ 1000000000 then Res.ok (rangeD 0 j.toNat) else .bad) = _
  rw [if_pos ⟨h0, h1⟩]
theorem for_inv_pre {g : MG} {b : MS} (I : List D → Ev → Prop) : ∀ (xs pre : List D), (∀ p x r, xs = p ++ x :: r → ∀ ρ, I (pre ++ p) ρ → ∃ ρ1 ρ2, g x ρ = .ok ρ1 ∧ b ρ1 = .ok (.nx ρ2) ∧ I (pre ++ p ++ [x]) ρ2) → ∀ ρ, I pre ρ → ∃ ρ', forGo g b xs ρ = .ok (.nx ρ') ∧ I (pre ++ xs) ρ'
  | [], pre, _, ρ, i => ⟨ρ, rfl, by rw [List.append_nil]; exact i⟩
  | x :: r, pre, h, ρ, i => by
    obtain ⟨ρ1, ρ2, h1, h2, i2⟩ := h [] x r rfl ρ (by rw [List.append_nil]; exact i)
    rw [List.append_nil] at i2
    obtain ⟨ρ', h3, i3⟩ := for_inv_pre I r (pre ++ [x]) (fun p y s e ρ i => by
      have z := h (x :: p) y s (by rw [e]; rfl) ρ (by simpa using i)
      simpa using z) ρ2 i2
    refine ⟨ρ', ?_, by simpa using i3⟩
    show (g x ρ).bind (fun ρ1 => (b ρ1).bind (turn (forGo g b r))) = _
    rw [h1]
    show (b ρ1).bind (turn (forGo g b r)) = _
    rw [h2]
    exact h3
theorem compGo_cons (g : MG) (t : MB) (e : ME) (ρ : Ev) (x : D) (r : List D) : compGo g t e ρ (x :: r) = (g x ρ).bind fun ρ1 => (t ρ1).bind fun b => if b = true then (e ρ1).bind fun y => (compGo g t e ρ r).bind fun ys => .ok (y :: ys) else compGo g t e ρ r := rfl
theorem comp_all {g : MG} {e : ME} {ρ : Ev} (P : D → D → Prop) : ∀ xs : List D, (∀ x ∈ xs, ∃ ρ1 y, g x ρ = .ok ρ1 ∧ e ρ1 = .ok y ∧ P x y) → ∃ ys, compGo g yes e ρ xs = .ok ys ∧ ys.length = xs.length ∧ ∀ (i : Nat) x y, xs[i]? = some x → ys[i]? = some y → P x y
  | [], _ => ⟨[], rfl, rfl, fun i x y h => by simp at h⟩
  | x :: r, h => by
    obtain ⟨ρ1, y, h1, h2, hp⟩ := h x List.mem_cons_self
    obtain ⟨ys, e1, l1, q⟩ := comp_all P r fun z hz => h z (List.mem_cons_of_mem _ hz)
    refine ⟨y :: ys, ?_, congrArg (· + 1) l1, fun i a b ha hb => ?_⟩
    · rw [compGo_cons, h1, ok_bind]
      unfold yes at e1 ⊢
      rw [ok_bind, if_pos rfl, h2, ok_bind, e1]
      rfl
    · cases i with
      | zero => simp at ha hb; subst ha hb; exact hp
      | succ i => exact q i a b (by simpa using ha) (by simpa using hb)
end Dl

namespace Dl
open PySem
noncomputable def Tl {α : Type} (r : Res α) (Φ : α → Prop) : Prop := ∃ a, r = .ok a ∧ Φ a
section
variable {α β : Type} {Φ : α → Prop} {ρ : Ev} {a b d : ME} {s t : MB} {i j : Nat}
theorem tl_of {r : Res α} {x : α} (e : r = .ok x) (h : Φ x) : Tl r Φ := ⟨x, e, h⟩
theorem tl_ok {x : α} (h : Φ x) : Tl (.ok x) Φ := ⟨x, rfl, h⟩
theorem tl_bind {r : Res β} {f : β → Res α} (h : Tl r fun x => Tl (f x) Φ) : Tl (r.bind f) Φ := by
  obtain ⟨x, rfl, y, e, q⟩ := h
  exact ⟨y, e, q⟩
theorem Tl.mono {r : Res α} {Ψ : α → Prop} (h : Tl r Ψ) (k : ∀ x, Ψ x → Φ x) : Tl r Φ := by
  obtain ⟨x, e, q⟩ := h
  exact ⟨x, e, k x q⟩
theorem Tl.eq {r : Res α} {x : α} (h : Tl r (· = x)) : r = .ok x := by
  obtain ⟨y, e, rfl⟩ := h
  exact e
theorem w_iteT {c : Bool} {A B : Res α} (hc : c = true) (h : Tl A Φ) : Tl (if c = true then A else B) Φ := by rw [if_pos hc]; exact h
theorem w_iteF {c : Bool} {A B : Res α} (hc : c = false) (h : Tl B Φ) : Tl (if c = true then A else B) Φ := by rw [if_neg (by rw [hc]; exact Bool.false_ne_true)]; exact h
theorem w_dT {P : Prop} [Decidable P] {A B : Res α} (hc : P) (h : Tl A Φ) : Tl (if decide P = true then A else B) Φ := w_iteT (decide_eq_true hc) h
theorem w_dF {P : Prop} [Decidable P] {A B : Res α} (hc : ¬ P) (h : Tl B Φ) : Tl (if decide P = true then A else B) Φ := w_iteF (decide_eq_false hc) h
theorem w_nT {P : Prop} [Decidable P] {A B : Res α} (hc : ¬ P) (h : Tl A Φ) : Tl (if (!decide P) = true then A else B) Φ := w_iteT (by rw [decide_eq_false hc]; rfl) h
theorem w_nF {P : Prop} [Decidable P] {A B : Res α} (hc : P) (h : Tl B Φ) : Tl (if (!decide P) = true then A else B) Φ := w_iteF (by rw [decide_eq_true hc]; rfl) h
theorem w_dec {P : Prop} [Decidable P] {A B : Res α} (h1 : P → Tl A Φ) (h2 : ¬ P → Tl B Φ) : Tl (if decide P = true then A else B) Φ := by
  by_cases h : P
  · exact w_dT h (h1 h)
  · exact w_dF h (h2 h)
theorem w_ndec {P : Prop} [Decidable P] {A B : Res α} (h1 : ¬ P → Tl A Φ) (h2 : P → Tl B Φ) : Tl (if (!decide P) = true then A else B) Φ := by
  by_cases h : P
  · exact w_nF h (h2 h)
  · exact w_nT h (h1 h)
end
section
variable {Φ : D → Prop} {ρ : Ev} {a b d : ME} {s t : MB} {i j n : Nat} {m : MA}
theorem w_v' (h : Tl (getC ρ[i]?) Φ) : Tl (v i ρ) Φ := h
theorem w_gC {o : Option Cl} {x : D} (e : o = some (.im x)) (h : Φ x) : Tl (getC o) Φ := tl_of (by rw [e]; rfl) h
theorem w_c {x : D} (h : Φ x) : Tl (c x ρ) Φ := tl_ok h
theorem w_o1 {f : D → Res D} (h : Tl (a ρ) fun x => Tl (f x) Φ) : Tl (o1 f a ρ) Φ := tl_bind h
theorem w_o2 {f : D → D → Res D} (h : Tl (a ρ) fun x => Tl (b ρ) fun y => Tl (f x y) Φ) : Tl (o2 f a b ρ) Φ := tl_bind (h.mono fun _ q => tl_bind q)
theorem w_on {f : List D → Res D} (h : Tl (m ρ) fun xs => Tl (f xs) Φ) : Tl (on f m ρ) Φ := tl_bind h
theorem w_mtp (h : Tl (m ρ) fun xs => Φ (.tup xs)) : Tl (mtp m ρ) Φ := tl_bind (h.mono fun _ q => tl_ok q)
theorem w_mls (h : Tl (m ρ) fun xs => Φ (.lst xs)) : Tl (mls m ρ) Φ := tl_bind (h.mono fun _ q => tl_ok q)
theorem w_eAnd (h : Tl (trb a ρ) fun x => Tl (if x = true then b ρ else .ok (.bl false)) Φ) : Tl (eAnd a b ρ) Φ := tl_bind h
theorem w_eOr (h : Tl (trb a ρ) fun x => Tl (if x = true then .ok (.bl true) else b ρ) Φ) : Tl (eOr a b ρ) Φ := tl_bind h
theorem w_eNot (h : Tl (trb a ρ) fun x => Φ (.bl (!x))) : Tl (eNot a ρ) Φ := tl_bind (h.mono fun _ q => tl_ok q)
theorem w_ife (h : Tl (t ρ) fun x => Tl (if x = true then a ρ else b ρ) Φ) : Tl (ife t a b ρ) Φ := tl_bind h
theorem w_chain {f g : D → D → Res D} (h : Tl (a ρ) fun x => Tl (b ρ) fun y => Tl (f x y) fun z => Tl (tru z) fun k => Tl (if k = true then (d ρ).bind fun u => g y u else .ok (.bl false)) Φ) : Tl (chain f g a b d ρ) Φ :=
  tl_bind (h.mono fun _ q => tl_bind (q.mono fun _ q => tl_bind (q.mono fun _ q => tl_bind q)))
theorem w_cut {lo hi : Ev → Res (Option Int)} (h : Tl (a ρ) fun x => Tl (lo ρ) fun l => Tl (hi ρ) fun u => Tl (dCut x l u) Φ) : Tl (cut a lo hi ρ) Φ := tl_bind (h.mono fun _ q => tl_bind (q.mono fun _ q => tl_bind q))
theorem w_comp {it : MI} {own : Nat} {cap : List Nat} {g : MG} {e : ME} (h : Tl (it ρ) fun xs => xs.length ≤ 1000000 ∧ Tl (compGo g t e (noA own (capD ρ cap)) xs) fun ys => Φ (.lst ys)) : Tl (comp it own cap g t e ρ) Φ := by
  refine tl_bind (h.mono fun xs q => ?_)
  rw [if_pos (show xs.length ≤ LIM from q.1)]
  obtain ⟨ys, e1, q2⟩ := q.2
  rw [e1]
  exact tl_ok q2
theorem w_fn {k : MS} {ds : List D} (h : Tl (k (ev0 n ds)) fun f => Tl (endOf f) Φ) : Tl (fn n k ds) Φ := tl_bind h
theorem w_addI {x y : Int} (h : Φ (.int (x + y))) : Tl (dAdd (.int x) (.int y)) Φ := tl_ok h
theorem w_addL {x y : List D} (hl : x.length + y.length ≤ 1000000) (h : Φ (.lst (x ++ y))) : Tl (dAdd (.lst x) (.lst y)) Φ := tl_of (dAdd_lst hl) h
theorem w_sub {x y : Int} (h : Φ (.int (x - y))) : Tl (dSub (.int x) (.int y)) Φ := tl_ok h
theorem w_mul {x y : Int} (hm : mulOk x y = true) (h : Φ (.int (x * y))) : Tl (dMul (.int x) (.int y)) Φ := tl_of (iMul_ok hm) h
theorem w_mod {x y : Int} (hy : 0 < y) (h : Φ (.int (x % y))) : Tl (dMod (.int x) (.int y)) Φ := tl_of (iMod_pos hy) h
theorem w_div {x y : Int} (hy : 0 < y) (hl : y.natAbs.log2 < 9000) (h : Φ (.int (x / y))) : Tl (dDiv (.int x) (.int y)) Φ := tl_of (iDiv_pos hy hl) h
theorem w_pow {x y : Int} (h0 : 0 ≤ y) (h1 : y ≤ 1000000) (h2 : x.natAbs < 2 ^ 64) (h : Φ (.int (x ^ y.toNat))) : Tl (dPow (.int x) (.int y)) Φ := tl_of (iPow_ok h0 h1 h2) h
theorem w_shl {x y : Int} (h0 : 0 ≤ y) (h1 : y ≤ 1000000) (h2 : x.natAbs < 2 ^ 64) (h : Φ (.int (x * 2 ^ y.toNat))) : Tl (dShl (.int x) (.int y)) Φ := tl_of (iShl_ok h0 h1 h2) h
theorem w_shr {x y : Int} (h0 : 0 ≤ y) (h : Φ (.int (x / 2 ^ y.toNat))) : Tl (dShr (.int x) (.int y)) Φ := tl_of (iShr_ok h0) h
theorem w_neg {x : Int} (h : Φ (.int (-x))) : Tl (dNeg (.int x)) Φ := tl_ok h
theorem w_lt {x y : Int} (h : Φ (.bl (decide (x < y)))) : Tl (dLt (.int x) (.int y)) Φ := tl_ok h
theorem w_le {x y : Int} (h : Φ (.bl (decide (x ≤ y)))) : Tl (dLe (.int x) (.int y)) Φ := tl_ok h
theorem w_gt {x y : Int} (h : Φ (.bl (decide (y < x)))) : Tl (dGt (.int x) (.int y)) Φ := tl_ok h
theorem w_ge {x y : Int} (h : Φ (.bl (decide (y ≤ x)))) : Tl (dGe (.int x) (.int y)) Φ := tl_ok h
theorem w_eqI {x y : Int} (h : Φ (.bl (decide (x = y)))) : Tl (dEq (.int x) (.int y)) Φ := tl_of (dEq_int x y) h
theorem w_neI {x y : Int} (h : Φ (.bl (!decide (x = y)))) : Tl (dNe (.int x) (.int y)) Φ := tl_of (dNe_int x y) h
theorem w_isN {x : D} (h : Φ (.bl (isNon x))) : Tl (dIsN x) Φ := tl_ok h
theorem w_notN {x : D} (h : Φ (.bl (!isNon x))) : Tl (dNotN x) Φ := tl_ok h
theorem w_lenL {xs : List D} (h : Φ (.int xs.length)) : Tl (bLen [.lst xs]) Φ := tl_ok h
theorem w_lenT {xs : List D} (h : Φ (.int xs.length)) : Tl (bLen [.tup xs]) Φ := tl_ok h
theorem w_lenMT {ns : List Int} (h : Φ (.int ns.length)) : Tl (bLen [.tup (ns.map .int)]) Φ := tl_of (by rw [bLen_tup, List.length_map]) h
theorem w_lenML {ns : List Int} (h : Φ (.int ns.length)) : Tl (bLen [.lst (ns.map .int)]) Φ := tl_of (by rw [bLen_lst, List.length_map]) h
theorem w_abs {x : Int} (h : Φ (.int x.natAbs)) : Tl (bAbs [.int x]) Φ := tl_of (bAbs_int x) h
theorem w_max {x y : Int} (h : Φ (.int (max x y))) : Tl (bMax [.int x, .int y]) Φ := tl_of (bMax_int x y) h
theorem w_min {x y : Int} (h : Φ (.int (min x y))) : Tl (bMin [.int x, .int y]) Φ := tl_of (bMin_int x y) h
theorem w_tupL {xs : List D} (h : Φ (.tup xs)) : Tl (bTup [.lst xs]) Φ := tl_ok h
theorem w_tupT {xs : List D} (h : Φ (.tup xs)) : Tl (bTup [.tup xs]) Φ := tl_ok h
theorem w_lstL {xs : List D} (h : Φ (.lst xs)) : Tl (bLst [.lst xs]) Φ := tl_ok h
theorem w_lstT {xs : List D} (h : Φ (.lst xs)) : Tl (bLst [.tup xs]) Φ := tl_ok h
theorem w_cutL {xs : List D} {lo hi : Option Int} (h : Φ (.lst (cutL xs lo hi))) : Tl (dCut (.lst xs) lo hi) Φ := tl_ok h
theorem w_cutT {xs : List D} {lo hi : Option Int} (h : Φ (.tup (cutL xs lo hi))) : Tl (dCut (.tup xs) lo hi) Φ := tl_ok h
end
section
variable {Φ : Bool → Prop} {ρ : Ev} {a : ME} {s t : MB}
theorem w_trb (h : Tl (a ρ) fun x => Tl (tru x) Φ) : Tl (trb a ρ) Φ := tl_bind h
theorem w_tru {b : Bool} (h : Φ b) : Tl (tru (.bl b)) Φ := tl_ok h
theorem w_bAnd (h : Tl (s ρ) fun x => Tl (if x = true then t ρ else .ok false) Φ) : Tl (bAnd s t ρ) Φ := tl_bind h
theorem w_bOr (h : Tl (s ρ) fun x => Tl (if x = true then .ok true else t ρ) Φ) : Tl (bOr s t ρ) Φ := tl_bind h
theorem w_bNot (h : Tl (s ρ) fun x => Φ (!x)) : Tl (bNot s ρ) Φ := tl_bind (h.mono fun _ q => tl_ok q)
theorem w_yes (h : Φ true) : Tl (yes ρ) Φ := tl_ok h
end
section
variable {Φ : List D → Prop} {ρ : Ev} {a : ME} {m : MA}
theorem w_anil (h : Φ []) : Tl (anil ρ) Φ := tl_ok h
theorem w_acons (h : Tl (a ρ) fun x => Tl (m ρ) fun xs => Φ (x :: xs)) : Tl (acons a m ρ) Φ := tl_bind (h.mono fun _ q => tl_bind (q.mono fun _ q => tl_ok q))
theorem w_iv (h : Tl (a ρ) fun x => Tl (items x) Φ) : Tl (iv a ρ) Φ := tl_bind h
theorem w_itL {xs : List D} (h : Φ xs) : Tl (items (.lst xs)) Φ := tl_ok h
theorem w_itT {xs : List D} (h : Φ xs) : Tl (items (.tup xs)) Φ := tl_ok h
theorem w_r1 (h : Tl (m ρ) fun xs => Tl (rng1 xs) Φ) : Tl (r1 m ρ) Φ := tl_bind h
theorem w_r2 (h : Tl (m ρ) fun xs => Tl (rng2 xs) Φ) : Tl (r2 m ρ) Φ := tl_bind h
theorem w_rng1 {j : Int} (h0 : -1000000000 ≤ j ∧ j ≤ 1000000000) (h : Φ (rangeD 0 j.toNat)) : Tl (rng1 [.int j]) Φ := tl_of (rng1_ok h0.1 h0.2) h
theorem w_zip (h : Tl (m ρ) fun xs => Tl (zip2 xs) Φ) : Tl (iZip m ρ) Φ := tl_bind h
theorem w_zip2 {xs ys : List D} (h : Φ (pairs xs ys)) : Tl (zip2 [.lst xs, .lst ys]) Φ := tl_ok h
theorem w_zipTL {xs ys : List D} (h : Φ (pairs xs ys)) : Tl (zip2 [.tup xs, .lst ys]) Φ := tl_ok h
theorem w_zipLT {xs ys : List D} (h : Φ (pairs xs ys)) : Tl (zip2 [.lst xs, .tup ys]) Φ := tl_ok h
theorem w_zipTT {xs ys : List D} (h : Φ (pairs xs ys)) : Tl (zip2 [.tup xs, .tup ys]) Φ := tl_ok h
theorem w_enum (h : Tl (m ρ) fun xs => Tl (enum1 xs) Φ) : Tl (iEnumerate m ρ) Φ := tl_bind h
theorem w_enum1 {xs : List D} (h : Φ (numbered 0 xs)) : Tl (enum1 [.lst xs]) Φ := tl_ok h
end
section
variable {Φ : Option Int → Prop} {ρ : Ev} {a : ME}
theorem w_pno (h : Φ none) : Tl (pno ρ) Φ := tl_ok h
theorem w_pso (h : Tl (a ρ) fun x => Tl (optI x) Φ) : Tl (pso a ρ) Φ := tl_bind h
theorem w_optI {i : Int} (h : Φ (some i)) : Tl (optI (.int i)) Φ := tl_ok h
end
section
variable {Φ : Ev → Prop} {ρ : Ev} {i n : Nat} {x : D}
theorem w_gN (h : Φ (ρ.set i (.im x))) : Tl (gN i x ρ) Φ := tl_ok h
theorem w_gs0 (h : Φ ρ) : Tl (gs0 [] ρ) Φ := tl_ok h
theorem w_gs1 {g : MG} {r : MGs} {ds : List D} (h : Tl (g x ρ) fun ρ' => Tl (r ds ρ') Φ) : Tl (gs1 g r (x :: ds) ρ) Φ := tl_bind h
theorem w_gUL {g : MGs} {xs : List D} (hl : xs.length = n) (h : Tl (g xs ρ) Φ) : Tl (gU n g (.lst xs) ρ) Φ := by
  show Tl (if xs.length = n then g xs ρ else .bad) Φ
  rw [if_pos hl]; exact h
theorem w_gUT {g : MGs} {xs : List D} (hl : xs.length = n) (h : Tl (g xs ρ) Φ) : Tl (gU n g (.tup xs) ρ) Φ := by
  show Tl (if xs.length = n then g xs ρ else .bad) Φ
  rw [if_pos hl]; exact h
end
section
variable {Φ : Fl → Prop} {ρ : Ev} {a b : ME} {k l : MS} {t : MB} {i j : Nat}
theorem w_sq (h : Tl (k ρ) fun f => Tl (goOn l f) Φ) : Tl (sq k l ρ) Φ := tl_bind h
theorem w_gx (h : Tl (l ρ) Φ) : Tl (goOn l (.nx ρ)) Φ := h
theorem w_gr {x : D} (h : Φ (.rt x)) : Tl (goOn l (.rt x)) Φ := tl_ok h
theorem w_gb (h : Φ (.bk ρ)) : Tl (goOn l (.bk ρ)) Φ := tl_ok h
theorem w_gc (h : Φ (.ct ρ)) : Tl (goOn l (.ct ρ)) Φ := tl_ok h
theorem w_st (h : Tl (a ρ) fun x => Φ (.nx (ρ.set i (.im x)))) : Tl (st i a ρ) Φ := tl_bind (h.mono fun _ q => tl_ok q)
theorem w_ret (h : Tl (a ρ) fun x => Φ (.rt x)) : Tl (ret a ρ) Φ := tl_bind (h.mono fun _ q => tl_ok q)
theorem w_retN (h : Φ (.rt .non)) : Tl (retN ρ) Φ := tl_ok h
theorem w_nop (h : Φ (.nx ρ)) : Tl (nop ρ) Φ := tl_ok h
theorem w_brk (h : Φ (.bk ρ)) : Tl (brk ρ) Φ := tl_ok h
theorem w_cnt (h : Φ (.ct ρ)) : Tl (cnt ρ) Φ := tl_ok h
theorem w_drp (h : Tl (a ρ) fun _ => Φ (.nx ρ)) : Tl (drp a ρ) Φ := tl_bind (h.mono fun _ q => tl_ok q)
theorem w_asg {g : MG} (h : Tl (a ρ) fun x => Tl (g x ρ) fun ρ' => Φ (.nx ρ')) : Tl (asg g a ρ) Φ := tl_bind (h.mono fun _ q => tl_bind (q.mono fun _ q => tl_ok q))
theorem w_par (h : Tl (a ρ) fun x => Tl (b ρ) fun y => Φ (.nx ((ρ.set i (.im x)).set j (.im y)))) : Tl (par i j a b ρ) Φ := tl_bind (h.mono fun _ q => tl_bind (q.mono fun _ q => tl_ok q))
theorem w_ifs (h : Tl (t ρ) fun x => Tl (if x = true then k ρ else l ρ) Φ) : Tl (ifs t k l ρ) Φ := tl_bind h
theorem w_for {it : MI} {g : MG} (h : Tl (it ρ) fun xs => Tl (forGo g k xs ρ) Φ) : Tl (for_ it g k ρ) Φ := tl_bind h
theorem w_whl {fu : Ev → Nat} (h : Tl (whGo t k (fu ρ) ρ) Φ) : Tl (whl fu t k ρ) Φ := h
theorem w_stO (h : Tl (a ρ) fun x => Tl (lstO x) fun xs => Φ (.nx (ρ.set i (.ow xs)))) : Tl (stO i a ρ) Φ := tl_bind (h.mono fun _ q => tl_bind (q.mono fun _ q => tl_ok q))
theorem w_lstO {Ψ : List D → Prop} {xs : List D} (h : Ψ xs) : Tl (lstO (.lst xs)) Ψ := tl_ok h
theorem w_frz' (h : Tl (getO ρ[i]?) fun xs => Tl (k (ρ.set i (.im (.lst xs)))) Φ) : Tl (frz i k ρ) Φ := tl_bind h
theorem w_app' (h : Tl (getO ρ[i]?) fun xs => Tl (a ρ) fun d => xs.length < 1000000 ∧ Φ (.nx (ρ.set i (.ow (xs ++ [d]))))) : Tl (app i a ρ) Φ := by
  refine tl_bind (h.mono fun xs q => tl_bind (q.mono fun d q => ?_))
  rw [if_pos (show xs.length < LIM from q.1)]
  exact tl_ok q.2
theorem w_gO {Ψ : List D → Prop} {o : Option Cl} {xs : List D} (e : o = some (.ow xs)) (h : Ψ xs) : Tl (getO o) Ψ := tl_of (by rw [e]; rfl) h
theorem w_eR {Ψ : D → Prop} {x : D} (h : Ψ x) : Tl (endOf (.rt x)) Ψ := tl_ok h
theorem w_eN {Ψ : D → Prop} (h : Ψ .non) : Tl (endOf (.nx ρ)) Ψ := tl_ok h
theorem w_tx (h : Tl (k ρ) Φ) : Tl (turn k (.nx ρ)) Φ := h
theorem w_tc (h : Tl (k ρ) Φ) : Tl (turn k (.ct ρ)) Φ := h
theorem w_tb (h : Φ (.nx ρ)) : Tl (turn k (.bk ρ)) Φ := tl_ok h
theorem w_tr {x : D} (h : Φ (.rt x)) : Tl (turn k (.rt x)) Φ := tl_ok h
theorem w_invP {g : MG} {xs : List D} (I : List D → Ev → Prop) (h0 : I [] ρ) (h : ∀ p x r, xs = p ++ x :: r → ∀ ρ, I p ρ → Tl (g x ρ) fun ρ1 => Tl (k ρ1) fun f => ∃ ρ2, f = .nx ρ2 ∧ I (p ++ [x]) ρ2) (hd : ∀ ρ, I xs ρ → Φ (.nx ρ)) : Tl (forGo g k xs ρ) Φ := by
  obtain ⟨ρ', e, i⟩ := for_inv_pre (g := g) (b := k) I xs [] (fun p x r hx ρ i => by
    obtain ⟨ρ1, e1, f, e2, ρ2, rfl, i2⟩ := h p x r hx ρ i
    exact ⟨ρ1, ρ2, e1, e2, i2⟩) ρ h0
  exact ⟨_, e, hd ρ' i⟩
end
theorem w_mapP {α : Type} {Φ : List D → Prop} {g : MG} {e : ME} {ρ : Ev} {enc : α → D} (f : α → D) : ∀ {l : List α}, (∀ a ∈ l, Tl (g (enc a) ρ) fun ρ1 => Tl (e ρ1) fun y => y = f a) → Φ (l.map f) → Tl (compGo g yes e ρ (l.map enc)) Φ := by
  intro l h q
  have key : ∀ l : List α, (∀ a ∈ l, Tl (g (enc a) ρ) fun ρ1 => Tl (e ρ1) fun y => y = f a) → compGo g yes e ρ (l.map enc) = .ok (l.map f) := by
    intro l
    induction l with
    | nil => exact fun _ => rfl
    | cons a r ih =>
      intro h
      obtain ⟨ρ1, e1, y, e2, rfl⟩ := h a List.mem_cons_self
      have z := ih fun b hb => h b (List.mem_cons_of_mem _ hb)
      rw [List.map_cons, compGo_cons, e1, ok_bind]
      unfold yes at z ⊢
      rw [ok_bind, if_pos rfl, e2, ok_bind, z]
      rfl
  exact tl_of (key l h) q
theorem w_all {Φ : List D → Prop} {g : MG} {e : ME} {ρ : Ev} {xs : List D} (P : D → D → Prop) (h : ∀ x ∈ xs, Tl (g x ρ) fun ρ1 => Tl (e ρ1) fun y => P x y) (q : ∀ ys : List D, ys.length = xs.length → (∀ (i : Nat) x y, xs[i]? = some x → ys[i]? = some y → P x y) → Φ ys) : Tl (compGo g yes e ρ xs) Φ := by
  obtain ⟨ys, e1, l, hp⟩ := comp_all (g := g) (e := e) (ρ := ρ) P xs fun x hx => by
    obtain ⟨ρ1, e1, y, e2, hp⟩ := h x hx
    exact ⟨ρ1, y, e1, e2, hp⟩
  exact ⟨ys, e1, q ys l hp⟩
end Dl
namespace Dl
open PySem
section
variable {Φ : D → Prop}
theorem w_ixr {x y : D} (h : Tl (dIx x y) Φ) : Tl (dIx x y) Φ := h
theorem w_lenr {xs : List D} (h : Tl (bLen xs) Φ) : Tl (bLen xs) Φ := h
theorem w_isi {xs : List D} (h : Tl (bIsi xs) Φ) : Tl (bIsi xs) Φ := h
theorem at_nat {α : Type} {xs : List α} {i : Nat} : at_ xs (i : Int) = xs[i]? := by
  unfold at_
  rw [if_pos (Int.natCast_nonneg i), Int.toNat_natCast]
theorem w_ixL {xs : List D} {i : Int} (h : 0 ≤ i ∧ i < xs.length) (q : ∀ x ∈ xs, Φ x) : Tl (dIx (.lst xs) (.int i)) Φ := by
  obtain ⟨n, rfl⟩ := Int.eq_ofNat_of_zero_le h.1
  have hn : n < xs.length := by omega
  rw [dIx_lst, at_nat, List.getElem?_eq_getElem hn]
  exact tl_ok (q _ (List.getElem_mem hn))
theorem w_ixI {ns : List Int} {i : Int} (h : -(ns.length : Int) ≤ i ∧ i < ns.length) (q : ∀ n ∈ ns, Φ (.int n)) : Tl (dIx (.lst (ns.map .int)) (.int i)) Φ := by
  rw [dIx_lst]
  unfold at_
  rw [List.length_map]
  by_cases h0 : 0 ≤ i
  · have hn : i.toNat < ns.length := by omega
    rw [if_pos h0, List.getElem?_map, List.getElem?_eq_getElem hn]
    exact tl_ok (q _ (List.getElem_mem hn))
  · have hn : (i + ns.length).toNat < ns.length := by omega
    rw [if_neg h0, if_pos h.1, List.getElem?_map, List.getElem?_eq_getElem hn]
    exact tl_ok (q _ (List.getElem_mem hn))
end
mutual
theorem eqD_refl : ∀ (x : D) (k : Nat), plain k x = true → eqD x x = true
  | .non, _, _ => rfl
  | .bl b, _, _ => by show (b == b) = true; simp
  | .int b, _, _ => by show (b == b) = true; simp
  | .str b, _, _ => by show (b == b) = true; simp
  | .tup xs, 0, h => by simp [plain] at h
  | .lst xs, 0, h => by simp [plain] at h
  | .tup xs, k + 1, h => eqDs_refl xs k (by simpa [plain] using h)
  | .lst xs, k + 1, h => eqDs_refl xs k (by simpa [plain] using h)
  | .ty _, k, h => by cases k <;> simp [plain] at h
  | .cls _, k, h => by cases k <;> simp [plain] at h
  | .exc _, k, h => by cases k <;> simp [plain] at h
theorem eqDs_refl : ∀ (xs : List D) (k : Nat), plains k xs = true → eqDs xs xs = true
  | [], _, _ => rfl
  | x :: xs, k, h => by
    have h' : plain k x = true ∧ plains k xs = true := by simpa [plains] using h
    show (eqD x x && eqDs xs xs) = true
    rw [eqD_refl x k h'.1, eqDs_refl xs k h'.2]; rfl
end
theorem w_eqR {Φ : D → Prop} {x : D} (h : plain 50 x = true) (q : Φ (.bl true)) : Tl (dEq x x) Φ := by
  unfold dEq
  rw [h, Bool.and_self, if_pos rfl, eqD_refl x 50 h]
  exact tl_ok q
theorem w_neR {Φ : D → Prop} {x : D} (h : plain 50 x = true) (q : Φ (.bl false)) : Tl (dNe x x) Φ := by
  unfold dNe
  rw [h, Bool.and_self, if_pos rfl, eqD_refl x 50 h]
  exact tl_ok q
theorem mem_range {n : Nat} {x : D} (h : x ∈ rangeD 0 n) : ∃ k : Nat, k < n ∧ x = .int (k : Int) := by
  unfold rangeD at h
  obtain ⟨k, hk, rfl⟩ := List.mem_map.mp h
  exact ⟨k, List.mem_range.mp hk, by rw [Int.zero_add]⟩
end Dl
namespace Dl
open PySem
section
variable {α β : Type} {c : Str} {ρ : Ev} {i n : Nat} {k l : MS} {m : MA}
theorem w_endT {Φ : Fl → Prop} (h : Φ (.nx (ρ.set i .no))) : Tl (endT i (.ok (.nx ρ))) Φ := tl_ok h
end
theorem w_max3 {Φ : D → Prop} {i j k : Int} (h : Φ (.int (max (max i j) k))) : Tl (bMax3 [.int i, .int j, .int k]) Φ := by
  refine tl_of (x := .int (max (max i j) k)) ?_ h
  show Res.ok (D.int (if j > i then (if k > j then k else j) else (if k > i then k else i))) = _
  have e : (if j > i then (if k > j then k else j) else (if k > i then k else i)) = max (max i j) k := by omega
  rw [e]
end Dl
namespace Dl
open PySem
section
variable {Φ : D → Prop} {ρ : Ev} {i : Nat}
theorem w_pk {m : ME} (h : Tl (getO ρ[i]?) fun xs => Tl (m (ρ.set i (.im (.lst xs)))) fun d => Tl (scalD d) Φ) : Tl (pk i m ρ) Φ := tl_bind (h.mono fun _ q => tl_bind q)
theorem w_pkB {Ψ : Bool → Prop} {m : MB} (h : Tl (getO ρ[i]?) fun xs => Tl (m (ρ.set i (.im (.lst xs)))) Ψ) : Tl (pkB i m ρ) Ψ := tl_bind h
theorem w_scI {n : Int} (h : Φ (.int n)) : Tl (scalD (.int n)) Φ := tl_ok h
theorem w_scB {n : Bool} (h : Φ (.bl n)) : Tl (scalD (.bl n)) Φ := tl_ok h
theorem ints_map : ∀ ns : List Int, intsD (ns.map .int) = .ok ns
  | [] => rfl
  | n :: r => by show (intsD (r.map .int)).bind _ = _; rw [ints_map r]; rfl
theorem w_sum {ns : List Int} (h : Φ (.int ns.sum)) : Tl (bSum [.lst (ns.map .int)]) Φ := by
  refine tl_of (x := .int ns.sum) ?_ h
  show (intsD (ns.map .int)).bind _ = _
  rw [ints_map]; rfl
theorem w_rev {xs : List D} (h : Φ (.lst xs.reverse)) : Tl (dRev (.lst xs)) Φ := tl_ok h
end
section
variable {c : Str} {ρ : Ev} {m : MA}
end
end Dl
namespace Dl
section
variable {Φ : D → Prop}
theorem w_p6 (h : Φ (.int 1000000)) : Tl (dPow (.int 10) (.int 6)) Φ := tl_of rfl h
theorem w_p8 (h : Φ (.int 100000000)) : Tl (dPow (.int 10) (.int 8)) Φ := tl_of rfl h
theorem w_p20 (h : Φ (.int 100000000000000000000)) : Tl (dPow (.int 10) (.int 20)) Φ := tl_of rfl h
end
end Dl
namespace Dl
end Dl
namespace Dl
section
variable {Ψ : List D → Prop} {Φ : D → Prop} {ρ : Ev} {m : MA} {xs ys zs : List D} {a b : ME}
theorem w_iz3 (h : Tl (m ρ) fun xs => Tl (zip3 xs) Ψ) : Tl (iZip3 m ρ) Ψ := tl_bind h
theorem w_zip3T (h : Ψ (trips xs ys zs)) : Tl (zip3 [.tup xs, .tup ys, .tup zs]) Ψ := tl_ok h
theorem w_lz3T (h : Φ (.lst (trips xs ys zs))) : Tl (lz3 [.tup xs, .tup ys, .tup zs]) Φ := tl_ok h
theorem w_mLst {f : List D → D → Res D} (h : Tl (a ρ) fun x => Tl (lstO x) fun us => Tl (b ρ) fun y => Tl (f us y) Φ) : Tl (mLst f a b ρ) Φ := tl_bind (h.mono fun _ q => tl_bind (q.mono fun _ q => tl_bind q))
end
end Dl

namespace Dl
open PySem
section
variable {ρ : Ev} {i : Nat} {c : Str} {e a b' : ME} {m : MA} {n : MB} {b : MS} {hits : List Str}
end
end Dl
namespace Dl
open PySem
end Dl

namespace Mt
structure Fr (t b p q : Int) : Prop where
  pos : 1 ≤ q
  low : Int.gcd p q = 1
  same : p * b = t * q
  np : p.natAbs ≤ t.natAbs
  nq : q.natAbs ≤ b.natAbs
end Mt

local macro_rules | `(tactic| walk_at "sm") => `(tactic| first | assumption | exact Dl.Sm.of64 (by omega) (by omega) | exact Dl.Sm.mul (by walk_at "sm") (by walk_at "sm") | exact Dl.Sm.add (by walk_at "sm") (by walk_at "sm") | exact Dl.Sm.sub (by walk_at "sm") (by walk_at "sm") | exact Dl.Sm.neg (by walk_at "sm") | exact Dl.Sm.min (by walk_at "sm") (by walk_at "sm") | exact Dl.Sm.max (by walk_at "sm") (by walk_at "sm"))
local macro_rules | `(tactic| walk_at "mo") => `(tactic| first | assumption | exact Dl.mulOk_l (Dl.Sm.of64 (by omega) (by omega)) | exact Dl.mulOk_r (Dl.Sm.of64 (by omega) (by omega)) | exact Dl.mulOk_s (by walk_at "sm") (by walk_at "sm") (by decide))
local macro_rules | `(tactic| walk_at "lg") => `(tactic| first | assumption | decide | exact Dl.Sm.log (by walk_at "sm") (by decide))
local macro_rules | `(tactic| walk_at "w1") => `(tactic| first
  | ((with_reducible refine Dl.w_v' ?_); refine Dl.w_gC rfl ?_) | with_reducible refine Dl.w_o2 ?_ | with_reducible refine Dl.w_c ?_ | with_reducible refine Dl.w_on ?_ | with_reducible refine Dl.w_acons ?_ | with_reducible refine Dl.w_anil ?_ | with_reducible refine Dl.w_sq ?_ | with_reducible refine Dl.w_gx ?_ | with_reducible refine Dl.w_st ?_ | with_reducible refine Dl.w_ifs ?_ | with_reducible refine Dl.w_trb ?_ | with_reducible refine Dl.w_tru ?_
  | with_reducible refine Dl.w_addI ?_ | with_reducible refine Dl.w_sub ?_ | ((with_reducible refine Dl.w_mul ?_ ?_); walk_at "mo") | ((with_reducible refine Dl.w_mod ?_ ?_); (first | decide | omega)) | ((with_reducible refine Dl.w_div ?_ ?_ ?_); (first | decide | omega); walk_at "lg")
  | with_reducible refine Dl.w_lt ?_ | with_reducible refine Dl.w_le ?_ | with_reducible refine Dl.w_gt ?_ | with_reducible refine Dl.w_ge ?_ | with_reducible refine Dl.w_eqI ?_ | with_reducible refine Dl.w_neI ?_ | with_reducible refine Dl.w_bAnd ?_ | with_reducible refine Dl.w_bOr ?_ | with_reducible refine Dl.w_bNot ?_
  | with_reducible refine Dl.w_ret ?_ | with_reducible refine Dl.w_gr ?_ | with_reducible refine Dl.w_eR ?_ | with_reducible refine Dl.w_nop ?_ | with_reducible refine Dl.w_mtp ?_ | with_reducible refine Dl.w_mls ?_ | with_reducible refine Dl.w_fn ?_ | with_reducible refine Dl.w_o1 ?_ | with_reducible refine Dl.w_eAnd ?_ | with_reducible refine Dl.w_eOr ?_ | with_reducible refine Dl.w_eNot ?_ | with_reducible refine Dl.w_ife ?_ | with_reducible refine Dl.w_chain ?_
  | with_reducible refine Dl.w_lenMT ?_ | with_reducible refine Dl.w_lenML ?_ | with_reducible refine Dl.w_lenL ?_ | with_reducible refine Dl.w_lenT ?_ | with_reducible refine Dl.w_abs ?_ | with_reducible refine Dl.w_max ?_ | with_reducible refine Dl.w_min ?_ | with_reducible refine Dl.w_tupL ?_ | with_reducible refine Dl.w_tupT ?_ | with_reducible refine Dl.w_lstL ?_ | with_reducible refine Dl.w_lstT ?_ | with_reducible refine Dl.w_neg ?_
  | with_reducible refine Dl.w_cut ?_ | with_reducible refine Dl.w_pno ?_ | with_reducible refine Dl.w_pso ?_ | with_reducible refine Dl.w_optI ?_ | with_reducible refine Dl.w_cutL ?_ | with_reducible refine Dl.w_cutT ?_ | with_reducible refine Dl.w_iv ?_ | with_reducible refine Dl.w_itL ?_ | with_reducible refine Dl.w_itT ?_ | with_reducible refine Dl.w_r1 ?_ | ((with_reducible refine Dl.w_rng1 ?_ ?_); omega) | with_reducible refine Dl.w_gN ?_ | with_reducible refine Dl.w_gs0 ?_ | with_reducible refine Dl.w_gs1 ?_
  | ((with_reducible refine Dl.w_gUT ?_ ?_); exact rfl) | ((with_reducible refine Dl.w_gUL ?_ ?_); exact rfl) | with_reducible refine Dl.w_drp ?_ | with_reducible refine Dl.w_asg ?_ | with_reducible refine Dl.w_par ?_ | with_reducible refine Dl.w_for ?_ | with_reducible refine Dl.w_whl ?_ | with_reducible refine Dl.w_zip ?_ | with_reducible refine Dl.w_zip2 ?_ | with_reducible refine Dl.w_zipTL ?_ | with_reducible refine Dl.w_zipLT ?_ | with_reducible refine Dl.w_zipTT ?_ | with_reducible refine Dl.w_iz3 ?_ | with_reducible refine Dl.w_zip3T ?_ | with_reducible refine Dl.w_lz3T ?_ | with_reducible refine Dl.w_mLst ?_ | with_reducible refine Dl.w_enum ?_ | with_reducible refine Dl.w_enum1 ?_ | with_reducible refine Dl.w_comp ?_
  | with_reducible refine Dl.w_retN ?_ | with_reducible refine Dl.w_eN ?_ | with_reducible refine Dl.w_brk ?_ | with_reducible refine Dl.w_cnt ?_ | with_reducible refine Dl.w_gb ?_ | with_reducible refine Dl.w_gc ?_ | with_reducible refine Dl.w_isN ?_ | with_reducible refine Dl.w_notN ?_ | with_reducible refine Dl.w_p6 ?_ | with_reducible refine Dl.w_p8 ?_ | with_reducible refine Dl.w_p20 ?_ | ((with_reducible refine Dl.w_pow ?_ ?_ ?_ ?_); decide; decide; decide) | ((with_reducible refine Dl.w_shl ?_ ?_ ?_ ?_); decide; decide; decide) | ((with_reducible refine Dl.w_shr ?_ ?_); omega) | with_reducible refine Dl.w_yes ?_
  | with_reducible refine Dl.w_tx ?_ | with_reducible refine Dl.w_tc ?_ | with_reducible refine Dl.w_tb ?_ | with_reducible refine Dl.w_tr ?_ | with_reducible refine Dl.w_max3 ?_ | with_reducible refine Dl.w_sum ?_ | with_reducible refine Dl.w_rev ?_ | ((with_reducible refine Dl.w_pkB ?_); refine Dl.w_gO rfl ?_) | ((with_reducible refine Dl.w_pk ?_); refine Dl.w_gO rfl ?_) | with_reducible refine Dl.w_scI ?_ | with_reducible refine Dl.w_scB ?_ | with_reducible refine Dl.w_endT ?_ | with_reducible refine Dl.w_stO ?_ | with_reducible refine Dl.w_lstO ?_ | ((with_reducible refine Dl.w_frz' ?_); refine Dl.w_gO rfl ?_) | ((with_reducible refine Dl.w_app' ?_); refine Dl.w_gO rfl ?_) | ((with_reducible refine Dl.w_ixr ?_); refine Dl.tl_of rfl ?_) | ((with_reducible refine Dl.w_isi ?_); refine Dl.tl_of rfl ?_) | ((with_reducible refine Dl.w_lenr ?_); refine Dl.tl_of rfl ?_) | with_reducible refine Dl.tl_ok ?_ | with_reducible refine Dl.tl_bind ?_)
local macro_rules | `(tactic| walk_at "wi") => `(tactic| first | ((with_reducible refine Dl.w_iteT ?_ ?_); exact rfl) | ((with_reducible refine Dl.w_iteF ?_ ?_); exact rfl) | ((with_reducible refine Dl.w_dT ?_ ?_); first | assumption | omega) | ((with_reducible refine Dl.w_dF ?_ ?_); first | assumption | omega) | ((with_reducible refine Dl.w_nT ?_ ?_); first | assumption | omega) | ((with_reducible refine Dl.w_nF ?_ ?_); first | assumption | omega))
local macro_rules | `(tactic| walk_at "wr") => `(tactic| (refine Dl.tl_of rfl ?_))
local macro_rules | `(tactic| walk_at "w") => `(tactic| (repeat (first | walk_at "w1" | walk_at "wi")); try dsimp only [List.set_cons_zero, List.set_cons_succ, Dl.ev0, Dl.evF, Dl.noA, Dl.capD, Dl.imOf, List.getElem?_cons_zero, List.getElem?_cons_succ, Nat.reduceAdd, Nat.reduceSub])

namespace My
open PySem Dl
noncomputable def m__law_cell_at : List D → Res D := fn 2
    (sq (ifs (trb (o2 dLt (v 1) (on bLen (acons (v 0) anil))))
    (ret (o2 dIx (v 0) (v 1)))
    nop)
    (ret (c (.int 0))))
noncomputable def m__law_cells : List D → Res D := fn 8
    (sq (st 4 (o2 dDiv (o2 dSub (o2 dAdd (v 0) (v 2)) (c (.int 1))) (v 2)))
    (sq (stO 5 (mls anil))
    (sq (for_ (r1 (acons (v 1) anil)) (gN 6)
    (for_ (r1 (acons (v 0) anil)) (gN 7)
    (ifs (trb (o2 dEq (o2 dAdd (o2 dMul (o2 dDiv (v 6) (v 2)) (v 4)) (o2 dDiv (v 7) (v 2))) (v 3)))
    (app 5 (mtp (acons (v 7) (acons (v 6) anil))))
    nop)))
    (frz 5 (ret (v 5))))))
noncomputable def m__law_mixed : List D → Res D := fn 3
    (sq (ifs (bAnd (trb (o2 dGe (v 0) (o2 dShl (c (.int 1)) (c (.int 90))))) (bAnd (trb (o2 dEq (o2 dMod (v 0) (c (.int 2))) (c (.int 1)))) (trb (o2 dGt (o2 dShr (v 0) (o2 dAdd (c (.int 1)) (o2 dMul (c (.int 31)) (v 1)))) (c (.int 0))))))
    (ret (o2 dMod (o2 dShr (v 0) (o2 dAdd (c (.int 1)) (o2 dMul (c (.int 31)) (v 1)))) (c (.int 2147483648))))
    nop)
    (sq (st 2 (o2 dMod (o2 dMul (o2 dAdd (o2 dAdd (v 0) (o2 dMul (c (.int 7919)) (v 1))) (c (.int 1))) (c (.int 48271))) (c (.int 2147483647))))
    (sq (st 2 (o2 dMod (o2 dMul (v 2) (o2 dAdd (o2 dDiv (v 2) (c (.int 1009))) (c (.int 69621)))) (c (.int 2147483647))))
    (ret (o2 dMod (o2 dMul (v 2) (o2 dAdd (o2 dAdd (o2 dDiv (v 2) (c (.int 2003))) (c (.int 39373))) (v 1))) (c (.int 2147483629)))))))
noncomputable def m__law_draws : List D → Res D := fn 2
    (ret (comp (r1 (acons (v 1) anil)) 1 [0] (gN 0) yes (on m__law_mixed (acons (v 1) (acons (v 0) anil)))))
noncomputable def m_tiles_along : List D → Res D := fn 2
    (ret (o2 dDiv (o2 dSub (o2 dAdd (v 0) (v 1)) (c (.int 1))) (v 1)))
noncomputable def m_tile_cells : List D → Res D := fnO 10
    (soQ (st 4 (on m_tiles_along (acons (v 0) (acons (v 2) anil))))
    (soQ (st 5 (o2 dMul (o2 dMod (v 3) (v 4)) (v 2)))
    (soQ (st 6 (o2 dMul (o2 dDiv (v 3) (v 4)) (v 2)))
    (soQ (stO 7 (mls anil))
    (soQ (for_ (r2 (acons (v 6) (acons (on bMin (acons (o2 dAdd (v 6) (v 2)) (acons (v 1) anil))) anil))) (gN 8)
    (for_ (r2 (acons (v 5) (acons (on bMin (acons (o2 dAdd (v 5) (v 2)) (acons (v 0) anil))) anil))) (gN 9)
    (app 7 (mtp (acons (v 9) (acons (v 8) anil))))))
    (roV 7))))))
noncomputable def m_law : List D → Res D := fn 12
    (sq (asg (gU 2 (gs1 (gN 1) (gs1 (gN 2) gs0))) (on m__law_draws (acons (on m__law_cell_at (acons (v 0) (acons (c (.int 0)) anil))) (acons (c (.int 2)) anil))))
    (sq (st 3 (o2 dIx (mls (acons (o2 dAdd (c (.int 1)) (o2 dMod (v 1) (c (.int 12)))) (acons (c (.int 64)) anil))) (on bInt (acons (o2 dEq (o2 dMod (o2 dDiv (v 1) (c (.int 16))) (c (.int 9))) (c (.int 2))) anil))))
    (sq (st 4 (o2 dIx (mls (acons (o2 dAdd (c (.int 1)) (o2 dMod (o2 dDiv (v 1) (c (.int 256))) (c (.int 12)))) (acons (c (.int 64)) anil))) (on bInt (acons (eAnd (o2 dEq (o2 dMod (o2 dDiv (v 1) (c (.int 4096))) (c (.int 9))) (c (.int 2))) (o2 dLt (v 3) (c (.int 13)))) anil))))
    (sq (st 5 (o2 dIx (mls (acons (o2 dAdd (c (.int 1)) (o2 dMod (v 2) (c (.int 14)))) (acons (c (.int 64)) (acons (v 3) (acons (v 4) anil))))) (o2 dMod (o2 dDiv (v 2) (c (.int 16))) (c (.int 4)))))
    (sq (ifs (bOr (trb (o2 dGt (v 3) (c (.int 12)))) (trb (o2 dGt (v 4) (c (.int 12)))))
    (st 5 (on bMax (acons (v 5) (acons (c (.int 5)) anil))))
    nop)
    (sq (st 6 (mls anil))
    (sq (st 7 (o2 dMul (o2 dDiv (o2 dSub (o2 dAdd (v 3) (v 5)) (c (.int 1))) (v 5)) (o2 dDiv (o2 dSub (o2 dAdd (v 4) (v 5)) (c (.int 1))) (v 5))))
    (sq (for_ (r1 (acons (v 7) anil)) (gN 8)
    (sq (stO 9 (on m_tile_cells (acons (v 3) (acons (v 4) (acons (v 5) (acons (v 8) anil))))))
    (sq (ifs (pkB 9 (bOr (bNot (trb (on bIsi (acons (v 9) (acons (c (.ty "list")) anil))))) (bOr (trb (o2 dEq (v 9) (mls anil))) (trb (o2 dNe (v 9) (on m__law_cells (acons (v 3) (acons (v 4) (acons (v 5) (acons (v 8) anil))))))))))
    (ret (c (.bl false)))
    nop)
    (sq (st 6 (addOw 9 (v 6)))
    (sq (app 9 (mtp (acons (c (.int 0)) (acons (c (.int 0)) anil))))
    (ifs (pkB 9 (trb (o2 dNe (on bLen (acons (on m_tile_cells (acons (v 3) (acons (v 4) (acons (v 5) (acons (v 8) anil))))) anil)) (o2 dSub (on bLen (acons (v 9) anil)) (c (.int 1))))))
    (ret (c (.bl false)))
    nop))))))
    (sq (st 10 (mls anil))
    (sq (for_ (r1 (acons (v 3) anil)) (gN 11)
    (st 10 (o2 dAdd (v 10) (comp (r1 (acons (v 4) anil)) 1 [11] (gN 0) yes (mtp (acons (v 1) (acons (v 0) anil)))))))
    (ret (o2 dEq (on bSort (acons (v 6) anil)) (v 10)))))))))))))
end My

namespace My
open PySem Dl
theorem w_mixed {Φ : D → Prop} {cc k : Int} (hk : 0 ≤ k ∧ k ≤ 1000) (h : ∀ r : Int, 0 ≤ r ∧ r < 2147483648 → Φ (.int r)) : Tl (m__law_mixed [.int cc, .int k]) Φ := by
  unfold m__law_mixed
  walk_at "w"
  refine w_dec (fun _ => ?_) (fun _ => ?_)
  · walk_at "w"
    refine w_dec (fun _ => ?_) (fun _ => ?_)
    · walk_at "w"
      refine w_dec (fun _ => ?_) (fun _ => ?_)
      · walk_at "w"
        exact h _ (by omega)
      · walk_at "w"
        exact h _ (by omega)
    · walk_at "w"
      exact h _ (by omega)
  · walk_at "w"
    exact h _ (by omega)

theorem w_cell_at {Φ : D → Prop} {ns : List Int} {k : Int} (hk : 0 ≤ k) (h : ∀ n : Int, Φ (.int n)) : Tl (m__law_cell_at [.lst (ns.map .int), .int k]) Φ := by
  unfold m__law_cell_at
  walk_at "w"
  refine w_dec (fun hl => ?_) (fun _ => ?_)
  · walk_at "w"
    refine w_ixI (by omega) fun n _ => ?_
    walk_at "w"
    exact h n
  · walk_at "w"
    exact h 0

theorem w_upto {Φ : Fl → Prop} {g : MG} {k : MS} {ρ : Ev} {enc : Nat → D} {n : Nat} (I : Nat → Ev → Prop) (h0 : I 0 ρ) (h : ∀ j, j < n → ∀ ρ, I j ρ → Tl (g (enc j) ρ) fun ρ1 => Tl (k ρ1) fun f => ∃ ρ2, f = .nx ρ2 ∧ I (j + 1) ρ2) (hd : ∀ ρ, I n ρ → Φ (.nx ρ)) : Tl (forGo g k ((List.range n).map enc) ρ) Φ := by
  refine w_invP (fun p ρ => I p.length ρ) h0 (fun p x r e ρ i => ?_) fun ρ i => ?_
  · have l : p.length < n := by
      have := congrArg List.length e
      simp at this
      omega
    have ex : x = enc p.length := by
      have z := congrArg (fun l => l[p.length]?) e
      simp [l] at z
      exact z.symm
    subst ex
    obtain ⟨ρ1, e1, f, e2, ρ2, rfl, i2⟩ := h _ l ρ i
    refine ⟨ρ1, e1, _, e2, ρ2, rfl, ?_⟩
    simpa using i2
  · simp at i
    exact hd ρ i
theorem rangeD_eq (n : Nat) : rangeD 0 n = (List.range n).map fun (k : Nat) => D.int (k : Int) := by
  unfold rangeD
  simp
section
variable {Φ : D → Prop}
end

noncomputable def Dw (r : Int) : Prop := 0 ≤ r ∧ r < 2147483648
theorem w_draws {Φ : D → Prop} {cc : Int} {n : Nat} (hn : n ≤ 900) (q : ∀ rs : List Int, rs.length = n → (∀ r ∈ rs, Dw r) → Φ (.lst (rs.map .int))) : Tl (m__law_draws [.int cc, .int (n : Int)]) Φ := by
  unfold m__law_draws
  walk_at "w"
  refine ⟨by simp [rangeD]; omega, ?_⟩
  rw [rangeD_eq, Int.toNat_natCast]
  refine w_all (fun _ y => ∃ r : Int, y = .int r ∧ Dw r) (fun x hx => ?_) fun ys ly hy => ?_
  · obtain ⟨k, hk, rfl⟩ := List.mem_map.mp hx
    have hk := List.mem_range.mp hk
    walk_at "w"
    exact w_mixed (by omega) fun r hr => ⟨r, rfl, hr⟩
  · have l : ys.length = n := by simpa using ly
    have hy' : ∀ y ∈ ys, ∃ r : Int, y = .int r ∧ Dw r := fun y hm => by
      obtain ⟨i, hi, rfl⟩ := List.mem_iff_getElem.mp hm
      exact hy i _ _ (List.getElem?_eq_getElem (by omega)) (List.getElem?_eq_getElem hi)
    obtain ⟨rs, rfl, hrs⟩ : ∃ rs : List Int, ys = rs.map .int ∧ ∀ r ∈ rs, Dw r := by
      clear l hy ly q
      induction ys with
      | nil => exact ⟨[], rfl, fun _ h => (List.not_mem_nil h).elim⟩
      | cons y t ih =>
        obtain ⟨r, rfl, hr⟩ := hy' y List.mem_cons_self
        obtain ⟨rs, rfl, hrs⟩ := ih fun z hz => hy' z (List.mem_cons_of_mem _ hz)
        refine ⟨r :: rs, rfl, fun u hu => ?_⟩
        rcases List.mem_cons.mp hu with rfl | hu
        · exact hr
        · exact hrs u hu
    walk_at "w"
    exact q rs (by simpa using l) hrs

theorem w_fnO {Φ : D → Prop} {n : Nat} {m : Ev → Res (List D)} {ds : List D} (h : Tl (m (ev0 n ds)) fun xs => Φ (.lst xs)) : Tl (fnO n m ds) Φ := tl_bind (h.mono fun _ q => tl_ok q)
theorem w_soQ {Φ : List D → Prop} {k : MS} {k' : Ev → Res (List D)} {ρ : Ev} (h : Tl (k ρ) fun f => Tl (soN k' f) Φ) : Tl (soQ k k' ρ) Φ := tl_bind h
theorem w_soN {Φ : List D → Prop} {k' : Ev → Res (List D)} {ρ : Ev} (h : Tl (k' ρ) Φ) : Tl (soN k' (.nx ρ)) Φ := h
theorem w_roV {Φ : List D → Prop} {ρ : Ev} {i : Nat} {xs : List D} (e : ρ[i]? = some (.ow xs)) (h : Φ xs) : Tl (roV i ρ) Φ := w_gO e h
theorem w_rng2 {Φ : List D → Prop} {i j : Int} (h0 : (-1000000000 ≤ i ∧ i ≤ 1000000000) ∧ (-1000000000 ≤ j ∧ j ≤ 1000000000)) (h : Φ (rangeD i (j - i).toNat)) : Tl (rng2 [.int i, .int j]) Φ := by
  refine tl_of ?_ h
  show (if (-1000000000 ≤ i ∧ i ≤ 1000000000) ∧ (-1000000000 ≤ j ∧ j ≤ 1000000000) then Res.ok (rangeD i (j - i).toNat) else .bad) = _
  rw [if_pos h0]
noncomputable abbrev cel (c r : Nat) : Int × Int := ((c : Int), (r : Int))
noncomputable abbrev acr (W S : Nat) : Nat := (W + S - 1) / S
noncomputable def tileL (W H S t : Nat) : List (Int × Int) := (List.range (min (t / acr W S * S + S) H - t / acr W S * S)).flatMap fun i => (List.range (min (t % acr W S * S + S) W - t % acr W S * S)).map fun j => cel (t % acr W S * S + j) (t / acr W S * S + i)
noncomputable def numT (W S c r : Nat) : Nat := r / S * acr W S + c / S
noncomputable def lawRow (W S t r : Nat) : List (Int × Int) := ((List.range W).filter fun c => decide (numT W S c r = t)).map fun c => cel c r
noncomputable def lawL (W H S t : Nat) : List (Int × Int) := (List.range H).flatMap (lawRow W S t)
noncomputable def dueL (W H : Nat) : List (Int × Int) := (List.range W).flatMap fun c => (List.range H).map fun r => cel c r
theorem div_iff {c S q : Nat} (hS : 0 < S) : c / S = q ↔ q * S ≤ c ∧ c < q * S + S := by
  have h1 := Nat.div_add_mod c S
  have h2 := Nat.mod_lt c hS
  rw [Nat.mul_comm] at h1
  constructor
  · rintro rfl
    omega
  · rintro ⟨a, b⟩
    exact Nat.div_eq_of_lt_le (by omega) (by rw [Nat.succ_mul]; omega)
theorem acr_lt {W S c : Nat} (hS : 0 < S) (h : c < W) : c / S < acr W S := by
  have z : (c + S) / S ≤ (W + S - 1) / S := Nat.div_le_div_right (by omega)
  rw [Nat.add_div_right c hS] at z
  exact z
theorem num_iff {W S c r t : Nat} (hS : 0 < S) (hc : c < W) : numT W S c r = t ↔ (t / acr W S * S ≤ r ∧ r < t / acr W S * S + S) ∧ t % acr W S * S ≤ c ∧ c < t % acr W S * S + S := by
  have ha := acr_lt hS hc
  rw [← div_iff hS, ← div_iff hS]
  unfold numT
  constructor
  · rintro rfl
    have e1 : (r / S * acr W S + c / S) / acr W S = r / S := by
      rw [Nat.add_comm, Nat.add_mul_div_right _ _ (Nat.lt_of_le_of_lt (Nat.zero_le _) ha), Nat.div_eq_of_lt ha, Nat.zero_add]
    have e2 : (r / S * acr W S + c / S) % acr W S = c / S := by
      rw [Nat.add_comm, Nat.add_mul_mod_self_right, Nat.mod_eq_of_lt ha]
    rw [e1, e2]
    exact ⟨rfl, rfl⟩
  · rintro ⟨e1, e2⟩
    rw [e1, e2, Nat.mul_comm]
    exact Nat.div_add_mod t (acr W S)
theorem filt_mid {W l n : Nat} {p : Nat → Bool} (h : l + n ≤ W) (hp : ∀ c, c < W → (p c = true ↔ l ≤ c ∧ c < l + n)) : (List.range W).filter p = (List.range n).map (l + ·) := by
  obtain ⟨m, rfl⟩ : ∃ m, W = l + n + m := ⟨W - (l + n), by omega⟩
  rw [List.range_add, List.range_add, List.filter_append, List.filter_append]
  have e1 : (List.range l).filter p = [] := List.filter_eq_nil_iff.mpr fun c hc => by
    have := List.mem_range.mp hc
    rw [hp c (by omega)]
    omega
  have e2 : ((List.range n).map (l + ·)).filter p = (List.range n).map (l + ·) := List.filter_eq_self.mpr fun c hc => by
    obtain ⟨j, hj, rfl⟩ := List.mem_map.mp hc
    have := List.mem_range.mp hj
    rw [hp _ (by omega)]
    omega
  have e3 : ((List.range m).map (l + n + ·)).filter p = [] := List.filter_eq_nil_iff.mpr fun c hc => by
    obtain ⟨j, hj, rfl⟩ := List.mem_map.mp hc
    have := List.mem_range.mp hj
    rw [hp _ (by omega)]
    omega
  rw [e1, e2, e3, List.nil_append, List.append_nil]
theorem flat_nil {α : Type} {f : Nat → List α} : ∀ {l : List Nat}, (∀ x ∈ l, f x = []) → l.flatMap f = []
  | [], _ => rfl
  | x :: r, h => by
    rw [List.flatMap_cons, h x List.mem_cons_self, List.nil_append]
    exact flat_nil fun y hy => h y (List.mem_cons_of_mem _ hy)
theorem flat_congr {α : Type} {f g : Nat → List α} : ∀ {l : List Nat}, (∀ x ∈ l, f x = g x) → l.flatMap f = l.flatMap g
  | [], _ => rfl
  | x :: r, h => by
    rw [List.flatMap_cons, List.flatMap_cons, h x List.mem_cons_self, flat_congr fun y hy => h y (List.mem_cons_of_mem _ hy)]
theorem flat_mid {α : Type} {H l n : Nat} {f : Nat → List α} (h : l + n ≤ H) (hf : ∀ r, r < H → ¬ (l ≤ r ∧ r < l + n) → f r = []) : (List.range H).flatMap f = (List.range n).flatMap fun i => f (l + i) := by
  obtain ⟨m, rfl⟩ : ∃ m, H = l + n + m := ⟨H - (l + n), by omega⟩
  rw [List.range_add, List.range_add, List.flatMap_append, List.flatMap_append, flat_nil (l := List.range l) fun r hr => hf r (by have := List.mem_range.mp hr; omega) (by have := List.mem_range.mp hr; omega), flat_nil (l := (List.range m).map _) fun r hr => by
    obtain ⟨j, hj, rfl⟩ := List.mem_map.mp hr
    have := List.mem_range.mp hj
    exact hf _ (by omega) (by omega)]
  rw [List.nil_append, List.append_nil, List.flatMap_map]
theorem tile_in {W H S t : Nat} (hS : 0 < S) (hW : 0 < W) (hH : 0 < H) (ht : t < acr W S * acr H S) : t % acr W S * S < W ∧ t / acr W S * S < H := by
  have key : ∀ {W q : Nat}, 0 < W → q < acr W S → q * S < W := fun {W q} h0 h => by
    have := (Nat.le_div_iff_mul_le hS).mp (show q + 1 ≤ (W + S - 1) / S from h)
    rw [Nat.succ_mul] at this
    omega
  have a0 : 0 < acr W S := Nat.lt_of_le_of_lt (Nat.zero_le _) (acr_lt hS hW)
  exact ⟨key hW (Nat.mod_lt t a0), key hH (Nat.div_lt_of_lt_mul ht)⟩
theorem law_tile {W H S t : Nat} (hS : 0 < S) (hW : 0 < W) (hH : 0 < H) (ht : t < acr W S * acr H S) : lawL W H S t = tileL W H S t := by
  obtain ⟨hl, hr⟩ := tile_in hS hW hH ht
  unfold lawL tileL
  have n1 := @num_iff W S
  rw [flat_mid (l := t / acr W S * S) (n := min (t / acr W S * S + S) H - t / acr W S * S) (by omega) fun r hr' hn => ?_]
  · refine flat_congr fun i hi => ?_
    have hi := List.mem_range.mp hi
    unfold lawRow
    rw [filt_mid (l := t % acr W S * S) (n := min (t % acr W S * S + S) W - t % acr W S * S) (by omega) fun c hc => ?_, List.map_map]
    · rfl
    · rw [decide_eq_true_eq, n1 hS hc]
      omega
  · unfold lawRow
    rw [List.filter_eq_nil_iff.mpr fun c hc => ?_]
    · rfl
    · have hc := List.mem_range.mp hc
      rw [decide_eq_true_eq, n1 hS hc]
      omega
theorem tile_ne {W H S t : Nat} (hS : 0 < S) (hW : 0 < W) (hH : 0 < H) (ht : t < acr W S * acr H S) : ∃ p r, tileL W H S t = p :: r := by
  obtain ⟨hl, hr⟩ := tile_in hS hW hH ht
  unfold tileL
  obtain ⟨n, hn⟩ : ∃ n, min (t / acr W S * S + S) H - t / acr W S * S = n + 1 := ⟨min (t / acr W S * S + S) H - t / acr W S * S - 1, by omega⟩
  obtain ⟨m, hm⟩ : ∃ m, min (t % acr W S * S + S) W - t % acr W S * S = m + 1 := ⟨min (t % acr W S * S + S) W - t % acr W S * S - 1, by omega⟩
  rw [hn, hm, List.range_succ_eq_map, List.range_succ_eq_map, List.flatMap_cons, List.map_cons, List.cons_append]
  exact ⟨_, _, rfl⟩
theorem cel_inj {c r c' r' : Nat} (h : cel c r = cel c' r') : c = c' ∧ r = r' := by
  injection h with h1 h2
  exact ⟨by omega, by omega⟩
theorem mem_due {W H : Nat} {p : Int × Int} : p ∈ dueL W H ↔ ∃ c r, c < W ∧ r < H ∧ p = cel c r := by
  unfold dueL
  rw [List.mem_flatMap]
  constructor
  · rintro ⟨c, hc, h⟩
    obtain ⟨r, hr, rfl⟩ := List.mem_map.mp h
    exact ⟨c, r, List.mem_range.mp hc, List.mem_range.mp hr, rfl⟩
  · rintro ⟨c, r, hc, hr, rfl⟩
    exact ⟨c, List.mem_range.mpr hc, List.mem_map.mpr ⟨r, List.mem_range.mpr hr, rfl⟩⟩
theorem mem_law {W H S t : Nat} {p : Int × Int} : p ∈ lawL W H S t ↔ ∃ c r, c < W ∧ r < H ∧ numT W S c r = t ∧ p = cel c r := by
  unfold lawL lawRow
  rw [List.mem_flatMap]
  constructor
  · rintro ⟨r, hr, h⟩
    obtain ⟨c, hc, rfl⟩ := List.mem_map.mp h
    obtain ⟨h1, h2⟩ := List.mem_filter.mp hc
    exact ⟨c, r, List.mem_range.mp h1, List.mem_range.mp hr, of_decide_eq_true h2, rfl⟩
  · rintro ⟨c, r, hc, hr, hn, rfl⟩
    exact ⟨r, List.mem_range.mpr hr, List.mem_map.mpr ⟨c, List.mem_filter.mpr ⟨List.mem_range.mpr hc, decide_eq_true hn⟩, rfl⟩⟩
theorem nd_map {f : Nat → Int × Int} {l : List Nat} (h : l.Nodup) (hf : ∀ a b, f a = f b → a = b) : (l.map f).Nodup := by
  unfold List.Nodup at *
  rw [List.pairwise_map]
  exact h.imp fun {a b} z e => z (hf a b e)
theorem rg_pw (n : Nat) : (List.range n).Pairwise (· < ·) := List.pairwise_lt_range
theorem nd_law (W H S t : Nat) : (lawL W H S t).Nodup := by
  unfold lawL List.Nodup
  rw [List.pairwise_flatMap]
  refine ⟨fun r _ => nd_map ((List.nodup_range).filter _) fun a b e => (cel_inj e).1, (rg_pw H).imp fun {r r'} z x hx y hy e => ?_⟩
  unfold lawRow at hx hy
  obtain ⟨c, _, rfl⟩ := List.mem_map.mp hx
  obtain ⟨c', _, rfl⟩ := List.mem_map.mp hy
  have := (cel_inj e).2
  omega
theorem nd_due (W H : Nat) : (dueL W H).Nodup := by
  unfold dueL List.Nodup
  rw [List.pairwise_flatMap]
  refine ⟨fun c _ => nd_map List.nodup_range fun a b e => (cel_inj e).2, (rg_pw W).imp fun {c c'} z x hx y hy e => ?_⟩
  obtain ⟨r, _, rfl⟩ := List.mem_map.mp hx
  obtain ⟨r', _, rfl⟩ := List.mem_map.mp hy
  have := (cel_inj e).1
  omega
noncomputable def seenL (W H S n : Nat) : List (Int × Int) := (List.range n).flatMap (tileL W H S)
theorem seen_succ (W H S n : Nat) : seenL W H S (n + 1) = seenL W H S n ++ tileL W H S n := by
  unfold seenL
  rw [List.range_succ, List.flatMap_append, List.flatMap_cons, List.flatMap_nil, List.append_nil]
theorem num_lt {W H S c r : Nat} (hS : 0 < S) (hc : c < W) (hr : r < H) : numT W S c r < acr W S * acr H S := by
  have h1 := acr_lt hS hc
  have h2 := acr_lt hS hr
  unfold numT
  have : (r / S + 1) * acr W S ≤ acr H S * acr W S := Nat.mul_le_mul_right _ h2
  rw [Nat.succ_mul, Nat.mul_comm (acr H S)] at this
  omega
theorem seen_perm {W H S : Nat} (hS : 0 < S) (hW : 0 < W) (hH : 0 < H) : (seenL W H S (acr W S * acr H S)).Perm (dueL W H) := by
  have e : seenL W H S (acr W S * acr H S) = (List.range (acr W S * acr H S)).flatMap (lawL W H S) := flat_congr fun t ht => (law_tile hS hW hH (List.mem_range.mp ht)).symm
  rw [e]
  refine (List.perm_ext_iff_of_nodup ?_ (nd_due W H)).mpr fun p => ?_
  · unfold List.Nodup
    rw [List.pairwise_flatMap]
    refine ⟨fun t _ => nd_law W H S t, (rg_pw _).imp fun {t t'} z x hx y hy e => ?_⟩
    obtain ⟨c, r, _, _, h1, rfl⟩ := mem_law.mp hx
    obtain ⟨c', r', _, _, h2, rfl⟩ := mem_law.mp hy
    obtain ⟨rfl, rfl⟩ := cel_inj e
    omega
  · rw [List.mem_flatMap, mem_due]
    constructor
    · rintro ⟨t, _, h⟩
      obtain ⟨c, r, hc, hr, _, e⟩ := mem_law.mp h
      exact ⟨c, r, hc, hr, e⟩
    · rintro ⟨c, r, hc, hr, rfl⟩
      exact ⟨_, List.mem_range.mpr (num_lt hS hc hr), mem_law.mpr ⟨c, r, hc, hr, rfl, rfl⟩⟩
theorem due_asc {W H : Nat} (hH : H ≤ 1000) : (dueL W H).Pairwise fun a b => keyP a ≤ keyP b := by
  unfold dueL
  rw [List.pairwise_flatMap]
  refine ⟨fun c _ => ?_, (rg_pw W).imp fun {c c'} z x hx y hy => ?_⟩
  · rw [List.pairwise_map]
    refine (rg_pw H).imp fun {r r'} z => ?_
    unfold keyP
    show (c : Int) * 1000000 + (r : Int) ≤ (c : Int) * 1000000 + (r' : Int)
    omega
  · obtain ⟨r, hr, rfl⟩ := List.mem_map.mp hx
    obtain ⟨r', _, rfl⟩ := List.mem_map.mp hy
    have := List.mem_range.mp hr
    unfold keyP
    show (c : Int) * 1000000 + (r : Int) ≤ (c' : Int) * 1000000 + (r' : Int)
    omega
theorem due_len (W H : Nat) : (dueL W H).length = W * H := by
  unfold dueL
  induction W with
  | zero => simp
  | succ n ih => rw [List.range_succ, List.flatMap_append, List.length_append, ih, List.flatMap_cons, List.flatMap_nil, List.append_nil, List.length_map, List.length_range, Nat.succ_mul]
theorem seen_len {W H S n : Nat} (hS : 0 < S) (hW : 0 < W) (hH : 0 < H) (h : n ≤ acr W S * acr H S) : (seenL W H S n).length ≤ W * H := by
  have p := (seen_perm hS hW hH).length_eq
  rw [due_len] at p
  obtain ⟨m, e⟩ : ∃ m, acr W S * acr H S = n + m := ⟨acr W S * acr H S - n, by omega⟩
  rw [← p, e]
  unfold seenL
  rw [List.range_add, List.flatMap_append, List.length_append]
  omega
theorem seen_sort {W H S : Nat} (hS : 0 < S) (hW : 0 < W) (hH : 0 < H) (h2 : H ≤ 1000) : sortP (seenL W H S (acr W S * acr H S)) = dueL W H := by
  have p := seen_perm hS hW hH
  refine asc_one ((sortP_perm _).trans p) (fun q hq => ?_) (sortP_asc _) (due_asc h2)
  obtain ⟨c, r, _, hr, rfl⟩ := mem_due.mp (p.mem_iff.mp ((sortP_perm _).mem_iff.mp hq))
  exact ⟨by show (0 : Int) ≤ (r : Int); omega, by show (r : Int) < 1000000; omega⟩

theorem lg64 {n : Nat} (h : n ≤ 1000000) : ((n : Int)).natAbs.log2 < 9000 := Sm.log (m := 64) (Sm.of64 (by omega) (by omega)) (by decide)
theorem mo64 {a b : Nat} (ha : a ≤ 1000000) (hb : b ≤ 1000000) : mulOk (a : Int) (b : Int) = true := mulOk_s (m := 64) (n := 64) (Sm.of64 (by omega) (by omega)) (Sm.of64 (by omega) (by omega)) (by decide)
theorem acr_le {W S : Nat} (hS : 0 < S) (hW : 0 < W) : 1 ≤ acr W S ∧ acr W S ≤ W := by
  refine ⟨Nat.lt_of_le_of_lt (Nat.zero_le _) (acr_lt hS hW), ?_⟩
  have : (W + S - 1) / S < W + 1 := (Nat.div_lt_iff_lt_mul hS).mpr (by
    have : S ≤ (W + 1) * S - W * S := by rw [Nat.succ_mul]; omega
    have : W ≤ W * S := Nat.le_mul_of_pos_right W hS
    rw [Nat.succ_mul]
    omega)
  show (W + S - 1) / S ≤ W
  omega
theorem along_eq {W S : Nat} (hS : 0 < S) (hW : 0 < W) : ((W : Int) + (S : Int) - 1) / (S : Int) = ((acr W S : Nat) : Int) := by
  rw [show ((W : Int) + (S : Int) - 1) = ((W + S - 1 : Nat) : Int) by omega]
  exact (Int.natCast_ediv _ _).symm
structure Sz (W H S : Nat) : Prop where
  w : 1 ≤ W ∧ W ≤ 64
  h : 1 ≤ H ∧ H ≤ 64
  s : 1 ≤ S ∧ S ≤ 64
theorem w_tilecells {Φ : D → Prop} {W H S t : Nat} (z : Sz W H S) (ht : t < acr W S * acr H S) (q : Φ (.lst ((tileL W H S t).map encPr))) : Tl (m_tile_cells [.int (W : Int), .int (H : Int), .int (S : Int), .int (t : Int)]) Φ := by
  obtain ⟨w, h, s⟩ := z
  have hS : 0 < S := by omega
  have aw := acr_le hS (show 0 < W by omega)
  have ah := acr_le hS (show 0 < H by omega)
  have tl : acr W S * acr H S ≤ 64 * 64 := Nat.mul_le_mul (by omega) (by omega)
  obtain ⟨t1, t2⟩ := tile_in hS (show 0 < W by omega) (show 0 < H by omega) ht
  unfold tileL at q
  generalize ea : acr W S = a at *
  have lgS := lg64 (show S ≤ 1000000 by omega)
  have lga := lg64 (show a ≤ 1000000 by omega)
  unfold m_tile_cells
  refine w_fnO (w_soQ ?_)
  walk_at "w"
  unfold m_tiles_along
  walk_at "w"
  rw [along_eq hS (by omega), ea]
  refine w_soN (w_soQ ?_)
  walk_at "w"
  rw [← Int.natCast_emod]
  have e1 : t % a ≤ 64 := by have := Nat.mod_lt t (show 0 < a by omega); omega
  have m1 := mo64 (show t % a ≤ 1000000 by omega) (show S ≤ 1000000 by omega)
  walk_at "w"
  rw [← Int.natCast_mul]
  refine w_soN (w_soQ ?_)
  walk_at "w"
  rw [← Int.natCast_ediv]
  have e2 : t / a ≤ 4096 := by have := Nat.div_le_self t a; omega
  have m2 := mo64 (show t / a ≤ 1000000 by omega) (show S ≤ 1000000 by omega)
  walk_at "w"
  rw [← Int.natCast_mul]
  generalize t % a * S = left at *
  generalize t / a * S = top at *
  refine w_soN (w_soQ ?_)
  walk_at "w"
  refine w_soN (w_soQ ?_)
  walk_at "w"
  refine w_r2 ?_
  walk_at "w"
  refine w_rng2 (by omega) ?_
  walk_at "w"
  rw [show (min ((top : Int) + (S : Int)) (H : Int) - (top : Int)).toNat = min (top + S) H - top by omega]
  unfold rangeD
  refine w_upto (fun i ρ => ∃ v8 v9 : Cl, ρ = [.im (.int (W : Int)), .im (.int (H : Int)), .im (.int (S : Int)), .im (.int (t : Int)), .im (.int (a : Int)), .im (.int (left : Int)), .im (.int (top : Int)), .ow (((List.range i).flatMap fun i => (List.range (min (left + S) W - left)).map fun j => cel (left + j) (top + i)).map encPr), v8, v9]) ⟨_, _, rfl⟩ ?_ ?_
  · rintro i hi ρ ⟨v8, v9, rfl⟩
    have li : ((List.range i).flatMap fun i => (List.range (min (left + S) W - left)).map fun j => cel (left + j) (top + i)).length ≤ i * 64 := by
      clear hi
      induction i with
      | zero => simp
      | succ n ih =>
        rw [List.range_succ, List.flatMap_append, List.length_append, List.flatMap_cons, List.flatMap_nil, List.append_nil, List.length_map, List.length_range]
        omega
    walk_at "w"
    refine w_r2 ?_
    walk_at "w"
    refine w_rng2 (by omega) ?_
    walk_at "w"
    rw [show (min ((left : Int) + (S : Int)) (W : Int) - (left : Int)).toNat = min (left + S) W - left by omega]
    unfold rangeD
    refine w_upto (fun j ρ => ∃ v9 : Cl, ρ = [.im (.int (W : Int)), .im (.int (H : Int)), .im (.int (S : Int)), .im (.int (t : Int)), .im (.int (a : Int)), .im (.int (left : Int)), .im (.int (top : Int)), .ow ((((List.range i).flatMap fun i => (List.range (min (left + S) W - left)).map fun j => cel (left + j) (top + i)) ++ (List.range j).map fun j => cel (left + j) (top + i)).map encPr), .im (.int ((top : Int) + (i : Int))), v9]) ⟨_, by rw [List.range_zero, List.map_nil, List.append_nil]⟩ ?_ ?_
    · rintro j hj ρ ⟨v9, rfl⟩
      walk_at "w"
      refine ⟨by rw [List.length_map, List.length_append, List.length_map, List.length_range]; omega, ?_⟩
      refine ⟨_, rfl, .im (.int ((left : Int) + (j : Int))), ?_⟩
      rw [List.range_succ]
      simp only [List.map_append, List.append_assoc, List.map_cons, List.map_nil]
      rfl
    · rintro ρ ⟨v9, rfl⟩
      refine ⟨_, rfl, .im (.int ((top : Int) + (i : Int))), v9, ?_⟩
      rw [List.range_succ, List.flatMap_append, List.flatMap_cons, List.flatMap_nil, List.append_nil]
  · rintro ρ ⟨v8, v9, rfl⟩
    refine w_soN (w_roV rfl ?_)
    exact q
theorem w_lawcells {Φ : D → Prop} {W H S t : Nat} (z : Sz W H S) (ht : t ≤ 4096) (q : Φ (.lst ((lawL W H S t).map encPr))) : Tl (m__law_cells [.int (W : Int), .int (H : Int), .int (S : Int), .int (t : Int)]) Φ := by
  obtain ⟨w, h, s⟩ := z
  have hS : 0 < S := by omega
  have aw := acr_le hS (show 0 < W by omega)
  have lgS := lg64 (show S ≤ 1000000 by omega)
  have lrow : ∀ r, (lawRow W S t r).length ≤ 64 := fun r => by
    unfold lawRow
    rw [List.length_map]
    exact Nat.le_trans (List.length_filter_le _ _) (by rw [List.length_range]; omega)
  unfold m__law_cells
  walk_at "w"
  rw [along_eq hS (by omega), rangeD_eq, Int.toNat_natCast]
  refine w_upto (fun i ρ => ∃ v6 v7 : Cl, ρ = [.im (.int (W : Int)), .im (.int (H : Int)), .im (.int (S : Int)), .im (.int (t : Int)), .im (.int ((acr W S : Nat) : Int)), .ow (((List.range i).flatMap (lawRow W S t)).map encPr), v6, v7]) ⟨_, _, rfl⟩ ?_ ?_
  · rintro r hr ρ ⟨v6, v7, rfl⟩
    have li : ((List.range r).flatMap (lawRow W S t)).length ≤ r * 64 := by
      clear hr
      induction r with
      | zero => simp
      | succ n ih =>
        rw [List.range_succ, List.flatMap_append, List.length_append, List.flatMap_cons, List.flatMap_nil, List.append_nil]
        have := lrow n
        omega
    walk_at "w"
    rw [rangeD_eq, Int.toNat_natCast]
    refine w_upto (fun j ρ => ∃ v7 : Cl, ρ = [.im (.int (W : Int)), .im (.int (H : Int)), .im (.int (S : Int)), .im (.int (t : Int)), .im (.int ((acr W S : Nat) : Int)), .ow (((List.range r).flatMap (lawRow W S t) ++ ((List.range j).filter fun c => decide (numT W S c r = t)).map fun c => cel c r).map encPr), .im (.int (r : Int)), v7]) ⟨_, by rw [List.range_zero, List.filter_nil, List.map_nil, List.append_nil]⟩ ?_ ?_
    · rintro c hc ρ ⟨v7, rfl⟩
      have lf : ((List.range c).filter fun c => decide (numT W S c r = t)).length ≤ 64 := Nat.le_trans (List.length_filter_le _ _) (by rw [List.length_range]; omega)
      have m1 : mulOk ((r / S : Nat) : Int) ((acr W S : Nat) : Int) = true := mo64 (by have := Nat.div_le_self r S; omega) (by omega)
      rw [Int.natCast_ediv] at m1
      walk_at "w"
      rw [show ((r : Int) / (S : Int) * ((acr W S : Nat) : Int) + (c : Int) / (S : Int)) = ((numT W S c r : Nat) : Int) by unfold numT; simp only [Int.natCast_add, Int.natCast_mul, Int.natCast_ediv]]
      have ed : decide (((numT W S c r : Nat) : Int) = (t : Int)) = decide (numT W S c r = t) := by rw [decide_eq_decide]; omega
      rw [ed]
      refine w_dec (fun y => ?_) (fun y => ?_)
      · walk_at "w"
        refine ⟨by rw [List.length_map, List.length_append, List.length_map]; omega, ?_⟩
        refine ⟨_, rfl, .im (.int (c : Int)), ?_⟩
        rw [List.range_succ, List.filter_append, List.filter_cons, if_pos (decide_eq_true y), List.filter_nil]
        simp only [List.map_append, List.append_assoc, List.map_cons, List.map_nil]
        rfl
      · walk_at "w"
        refine ⟨_, rfl, .im (.int (c : Int)), ?_⟩
        rw [List.range_succ, List.filter_append, List.filter_cons, if_neg (by rw [decide_eq_false y]; exact Bool.false_ne_true), List.filter_nil, List.append_nil]
    · rintro ρ ⟨v7, rfl⟩
      refine ⟨_, rfl, .im (.int (r : Int)), v7, ?_⟩
      rw [List.range_succ, List.flatMap_append, List.flatMap_cons, List.flatMap_nil, List.append_nil]
      rfl
  · rintro ρ ⟨v6, v7, rfl⟩
    walk_at "w"
    exact q

theorem prs_enc : ∀ {ps : List (Int × Int)}, (∀ p ∈ ps, okP p) → prsD (ps.map encPr) = some ps
  | [], _ => rfl
  | p :: r, h => by
    have e : prD (encPr p) = some p := by
      show (if 0 ≤ p.2 ∧ p.2 < 1000000 then some (p.1, p.2) else none) = _
      exact if_pos (h p List.mem_cons_self)
    rw [List.map_cons]
    unfold prsD
    rw [e, prs_enc fun q hq => h q (List.mem_cons_of_mem _ hq)]
theorem w_sort {Φ : D → Prop} {ps : List (Int × Int)} (h : ∀ p ∈ ps, okP p) (hl : ps.length ≤ 1000) (q : Φ (.lst ((sortP ps).map encPr))) : Tl (bSort [.lst (ps.map encPr)]) Φ := by
  refine tl_of ?_ q
  show (match prsD (ps.map encPr) with
    | some ps' => if (ps.map encPr).length ≤ 1000 then Res.ok (D.lst ((sortP ps').map encPr)) else .bad
    | none => .bad) = _
  rw [prs_enc h]
  show (if (ps.map encPr).length ≤ 1000 then Res.ok (D.lst ((sortP ps).map encPr)) else .bad) = _
  rw [if_pos (by rw [List.length_map]; exact hl)]
theorem w_addOw {Φ : D → Prop} {j : Nat} {m : ME} {ρ : Ev} {ds as : List D} (e : ρ[j]? = some (.ow ds)) (h : m ρ = .ok (.lst as)) (hl : as.length + ds.length ≤ 1000000) (q : Φ (.lst (as ++ ds))) : Tl (addOw j m ρ) Φ := by
  unfold addOw
  rw [e]
  show Tl ((m ρ).bind _) Φ
  rw [h]
  exact w_addL hl q
theorem prs_plain (k : Nat) : ∀ ps : List (Int × Int), plains (k + 1) (ps.map encPr) = true
  | [] => rfl
  | p :: r => by
    show (plain (k + 1) (encPr p) && plains (k + 1) (r.map encPr)) = true
    rw [prs_plain k r]
    cases k <;> rfl
theorem pl_prs (ps : List (Int × Int)) : plain 50 (.lst (ps.map encPr)) = true := prs_plain 48 ps
theorem w_eqR {Φ : D → Prop} {x : D} (h : plain 50 x = true) (q : Φ (.bl true)) : Tl (dEq x x) Φ := by
  refine tl_of ?_ q
  unfold dEq
  rw [h, eqD_refl x 50 h]
  rfl
theorem w_eqNil {Φ : D → Prop} {ps : List (Int × Int)} {p : Int × Int} {r : List (Int × Int)} (e : ps = p :: r) (q : Φ (.bl false)) : Tl (dEq (.lst (ps.map encPr)) (.lst [])) Φ := by
  refine tl_of ?_ q
  unfold dEq
  rw [pl_prs, e]
  rfl
theorem pure_law (ns : List Int) (h63 : ns.length ≤ 63) : m_law [.lst (ns.map .int)] = .ok (.bl true) := by
  refine Tl.eq ?_
  unfold m_law
  walk_at "w"
  refine w_cell_at (by decide) fun c0 => ?_
  walk_at "w"
  refine w_draws (n := 2) (by decide) fun ds ld hd => ?_
  obtain ⟨nu, mo, rfl⟩ : ∃ nu mo, ds = [nu, mo] := by
    match ds, ld with
    | [a, b], _ => exact ⟨a, b, rfl⟩
  have h1 : Dw nu := hd nu (by simp)
  have h2 : Dw mo := hd mo (by simp)
  unfold Dw at h1 h2
  rw [show List.map D.int [nu, mo] = [D.int nu, D.int mo] from rfl]
  walk_at "w"
  have pick : ∀ {b : Bool} {x y : Int} {Φ : D → Prop}, (∀ n : Nat, ((b = false → x = (n : Int)) ∧ (b = true → y = (n : Int))) → Φ (.int (n : Int))) → 0 ≤ x → 0 ≤ y → Tl (bInt [.bl b]) fun i => Tl (dIx (.lst [.int x, .int y]) i) Φ := by
    intro b x y Φ q hx hy
    cases b with
    | false =>
      refine tl_of rfl (tl_of rfl ?_)
      obtain ⟨n, rfl⟩ := Int.eq_ofNat_of_zero_le hx
      exact q n ⟨fun _ => rfl, (fun h => by cases h)⟩
    | true =>
      refine tl_of rfl (tl_of rfl ?_)
      obtain ⟨n, rfl⟩ := Int.eq_ofNat_of_zero_le hy
      exact q n ⟨(fun h => by cases h), fun _ => rfl⟩
  refine pick (fun W eW => ?_) (by omega) (by decide)
  have hW : (1 ≤ W ∧ W ≤ 12) ∨ W = 64 := by
    cases hb : decide (nu / 16 % 9 = 2) with
    | false => have := eW.1 hb; left; omega
    | true => have := eW.2 hb; right; omega
  clear eW
  walk_at "w"
  refine Tl.mono (Ψ := fun x => ∃ b : Bool, x = .bl b ∧ (b = true → W < 13)) ?_ ?_
  · refine w_dec (fun _ => ?_) (fun _ => ?_)
    · walk_at "w"
      exact ⟨_, rfl, fun h => by have := of_decide_eq_true h; omega⟩
    · walk_at "w"
      exact ⟨false, rfl, fun h => by cases h⟩
  rintro x ⟨b, rfl, hb⟩
  walk_at "w"
  refine pick (fun H eH => ?_) (by omega) (by decide)
  have hH : (1 ≤ H ∧ H ≤ 12) ∨ (H = 64 ∧ W < 13) := by
    cases b with
    | false => have := eH.1 rfl; left; omega
    | true => have := eH.2 rfl; have := hb rfl; right; omega
  clear eH hb
  walk_at "w"
  refine w_ixL ⟨by omega, by show mo / 16 % 4 < ((4 : Nat) : Int); omega⟩ fun d hd' => ?_
  obtain ⟨S0, rfl, hS0⟩ : ∃ S : Nat, d = .int (S : Int) ∧ 1 ≤ S ∧ S ≤ 64 := by
    simp only [List.mem_cons, List.not_mem_nil, or_false] at hd'
    rcases hd' with rfl | rfl | rfl | rfl
    · exact ⟨(1 + mo % 14).toNat, by rw [Int.toNat_of_nonneg (by omega)], by omega, by omega⟩
    · exact ⟨64, rfl, by decide, by decide⟩
    · exact ⟨W, rfl, by omega, by omega⟩
    · exact ⟨H, rfl, by omega, by omega⟩
  clear hd'
  walk_at "w"
  refine Tl.mono (Ψ := fun _ : Bool => True) ?_ ?_
  · refine w_dec (fun _ => ?_) (fun _ => ?_)
    · walk_at "w"
    · walk_at "w"
  rintro bb _
  refine Tl.mono (Ψ := fun fl => ∃ S : Nat, (1 ≤ S ∧ S ≤ 64) ∧ fl = Fl.nx [.im (.lst (ns.map .int)), .im (.int nu), .im (.int mo), .im (.int (W : Int)), .im (.int (H : Int)), .im (.int (S : Int)), .no, .no, .no, .no, .no, .no]) ?_ ?_
  · have mx : max (S0 : Int) 5 = ((max S0 5 : Nat) : Int) := by omega
    cases bb with
    | true =>
      walk_at "w"
      rw [mx]
      exact ⟨_, by omega, rfl⟩
    | false =>
      walk_at "w"
      exact ⟨_, hS0, rfl⟩
  rintro fl ⟨S, hS, rfl⟩
  clear hS0 S0
  have z : Sz W H S := ⟨by omega, by omega, hS⟩
  have s0 : 0 < S := by omega
  have w0 : 0 < W := by omega
  have h0 : 0 < H := by omega
  have aw := acr_le s0 w0
  have ah := acr_le s0 h0
  have lgS := lg64 (show S ≤ 1000000 by omega)
  have tl : acr W S * acr H S ≤ 64 * 64 := Nat.mul_le_mul (by omega) (by omega)
  have wh : W * H ≤ 768 := by
    rcases hW with ⟨_, a⟩ | a
    · exact Nat.le_trans (Nat.mul_le_mul a (show H ≤ 64 by omega)) (by decide)
    · exact Nat.le_trans (Nat.mul_le_mul (show W ≤ 64 by omega) (show H ≤ 12 by omega)) (by decide)
  have m1 := mo64 (show acr W S ≤ 1000000 by omega) (show acr H S ≤ 1000000 by omega)
  rw [← along_eq s0 w0, ← along_eq s0 h0] at m1
  walk_at "w"
  rw [along_eq s0 w0, along_eq s0 h0, ← Int.natCast_mul]
  walk_at "w"
  rw [rangeD_eq, Int.toNat_natCast]
  refine w_upto (fun t ρ => ∃ v8 v9 : Cl, ρ = [.im (.lst (ns.map .int)), .im (.int nu), .im (.int mo), .im (.int (W : Int)), .im (.int (H : Int)), .im (.int (S : Int)), .im (.lst ((seenL W H S t).map encPr)), .im (.int ((acr W S * acr H S : Nat) : Int)), v8, v9, .no, .no]) ⟨_, _, rfl⟩ ?_ ?_
  · rintro t ht ρ ⟨v8, v9, rfl⟩
    obtain ⟨p0, r0, e0⟩ := tile_ne s0 w0 h0 ht
    have ls := seen_len s0 w0 h0 (show t + 1 ≤ acr W S * acr H S by omega)
    rw [seen_succ, List.length_append] at ls
    walk_at "w"
    refine w_tilecells z ht ?_
    walk_at "w"
    refine w_eqNil e0 ?_
    walk_at "w"
    refine w_lawcells z (by omega) ?_
    rw [law_tile s0 w0 h0 ht]
    refine w_neR (pl_prs _) ?_
    walk_at "w"
    refine w_addOw rfl rfl (by rw [List.length_map, List.length_map]; omega) ?_
    walk_at "w"
    refine ⟨by rw [List.length_map]; omega, ?_⟩
    walk_at "w"
    refine w_tilecells z ht ?_
    walk_at "w"
    rw [List.length_append]
    have el : ((((tileL W H S t).map encPr).length : Nat) : Int) = (((((tileL W H S t).map encPr).length + [D.tup [D.int 0, D.int 0]].length : Nat) : Int) - 1) := by
      simp
    rw [← el]
    refine w_ndec (fun y => absurd rfl y) (fun _ => ?_)
    walk_at "w"
    rw [← List.map_append, ← seen_succ]
    exact ⟨_, rfl, _, _, rfl⟩
  · rintro ρ ⟨v8, v9, rfl⟩
    walk_at "w"
    rw [rangeD_eq, Int.toNat_natCast]
    refine w_upto (fun c ρ => ∃ v11 : Cl, ρ = [.im (.lst (ns.map .int)), .im (.int nu), .im (.int mo), .im (.int (W : Int)), .im (.int (H : Int)), .im (.int (S : Int)), .im (.lst ((seenL W H S (acr W S * acr H S)).map encPr)), .im (.int ((acr W S * acr H S : Nat) : Int)), v8, v9, .im (.lst ((dueL c H).map encPr)), v11]) ⟨_, rfl⟩ ?_ ?_
    · rintro c hc ρ ⟨v11, rfl⟩
      have ld := due_len c H
      have lc : c * H ≤ W * H := Nat.mul_le_mul_right H (by omega)
      walk_at "w"
      rw [rangeD_eq, Int.toNat_natCast]
      refine ⟨by rw [List.length_map, List.length_range]; omega, ?_⟩
      refine w_mapP (fun r : Nat => encPr (cel c r)) (fun r _ => ?_) ?_
      · walk_at "w"
        rfl
      walk_at "w"
      refine w_addL (by rw [List.length_map, List.length_map, List.length_range]; omega) ?_
      refine ⟨_, rfl, .im (.int (c : Int)), ?_⟩
      have e : dueL (c + 1) H = dueL c H ++ (List.range H).map fun r => cel c r := by
        unfold dueL
        rw [List.range_succ, List.flatMap_append, List.flatMap_cons, List.flatMap_nil, List.append_nil]
      rw [e, List.map_append, List.map_map]
      rfl
    · rintro ρ ⟨v11, rfl⟩
      walk_at "w"
      refine w_sort (fun p hp => ?_) (by have := seen_len s0 w0 h0 (Nat.le_refl (acr W S * acr H S)); omega) ?_
      · obtain ⟨c, r, _, hr, rfl⟩ := mem_due.mp ((seen_perm s0 w0 h0).mem_iff.mp hp)
        exact ⟨by show (0 : Int) ≤ (r : Int); omega, by show (r : Int) < 1000000; omega⟩
      rw [seen_sort s0 w0 h0 (by omega)]
      walk_at "w"
      refine w_eqR (pl_prs _) ?_
      walk_at "w"

end My
namespace My
open PySem L2 Ds Dl
noncomputable def top (i : Nat) : Stmt := PySem.Challenge.pw_sampleyard_k61_tiles_cells.main.body.getD i (.Pass ⟨0, 0, 0, 0⟩)
noncomputable abbrev s__law_cell_at : Stmt := top 4
noncomputable abbrev s__law_cells : Stmt := top 7
noncomputable abbrev s__law_mixed : Stmt := top 5
noncomputable abbrev s__law_draws : Stmt := top 6
noncomputable abbrev s_tiles_along : Stmt := top 1
noncomputable abbrev s_tile_cells : Stmt := top 2
noncomputable abbrev s_law : Stmt := top 8
local macro_rules | `(tactic| walk_at "sc") => `(tactic| exact ⟨rfl, rfl, rfl, by decide +kernel, rfl, by decide +kernel, by decide +kernel⟩)
theorem sc__law_cell_at : FnScope ["_law_script", "_law_k"] ["_law_script", "_law_k"] (defScope s__law_cell_at) := by walk_at "sc"
theorem sc__law_cells : FnScope ["_law_width", "_law_height", "_law_wide", "_law_tile", "_law_across", "_law_found", "_law_row", "_law_column"] ["_law_width", "_law_height", "_law_wide", "_law_tile"] (defScope s__law_cells) := by walk_at "sc"
theorem sc__law_mixed : FnScope ["_law_cell", "_law_k", "_law_number"] ["_law_cell", "_law_k"] (defScope s__law_mixed) := by walk_at "sc"
theorem sc__law_draws : FnScope ["_law_cell", "_law_many"] ["_law_cell", "_law_many"] (defScope s__law_draws) := by walk_at "sc"
theorem sc_tiles_along : FnScope ["length", "wide"] ["length", "wide"] (defScope s_tiles_along) := by walk_at "sc"
theorem sc_tile_cells : FnScope ["width", "height", "wide", "tile", "across", "left", "top", "cells", "row", "column"] ["width", "height", "wide", "tile"] (defScope s_tile_cells) := by walk_at "sc"
theorem sc_law : FnScope ["_law_script", "_law_number", "_law_more", "_law_width", "_law_height", "_law_wide", "_law_seen", "_law_many", "_law_tile", "_law_found", "_law_due", "_law_column"] ["_law_script"] (defScope s_law) := by walk_at "sc"
structure Txt (K : PySem.W.Frag) (mg : Str → Option Value) : Prop where
  z_int : mg "int" = none
  z_isinstance : mg "isinstance" = none
  z_len : mg "len" = none
  z_list : mg "list" = none
  z_max : mg "max" = none
  z_min : mg "min" = none
  z_range : mg "range" = none
  z_sorted : mg "sorted" = none
section
variable {P : Program} {w : World} {K : PySem.W.Frag} {mg : Str → Option Value} {base : Heap}
theorem ok__law_cell_at (T : Txt K mg) (D : Def K mg "_law_cell_at" s__law_cell_at ["_law_script", "_law_k"])  : Cal P w K mg base 1  "_law_cell_at" ["_law_script", "_law_k"] m__law_cell_at := by
  exact D.cal sc__law_cell_at (fun f cdv A outer s H E hr => ⟨_, (dss_cons (ds_if (dt_lt (d_v 1) (d_cb call_len_seq callD_len rfl T.z_len bt_len (da_cons (d_v 0) da_nil)))
    (dss_one (ds_ret (d_ix (d_v 0) (d_v 1))))
    dss_nil)
    (dss_one (ds_ret d_int)))⟩)
theorem ok__law_cells (T : Txt K mg) (D : Def K mg "_law_cells" s__law_cells ["_law_width", "_law_height", "_law_wide", "_law_tile"])  : Cal P w K mg base 1  "_law_cells" ["_law_width", "_law_height", "_law_wide", "_law_tile"] m__law_cells := by
  exact D.cal sc__law_cells (fun f cdv A outer s H E hr => ⟨_, (dss_cons (ds_set (i := 4) sc__law_cells.nd rfl (Or.inl rfl) (d_div (d_sub (d_add (d_v 0) (d_v 2)) d_int) (d_v 2)))
    (dss_cons (ds_setO (i := 5) sc__law_cells.nd rfl (Or.inl rfl) da_nil)
    (dss_cons (ds_for PassesOwn.leaving rfl (di_r1 rfl T.z_range (da_cons (d_v 1) da_nil)) (dg_name (i := 6) sc__law_cells.nd rfl (Or.inl rfl) (by decide))
    (dss_one (ds_for PassesOwn.leaving rfl (di_r1 rfl T.z_range (da_cons (d_v 0) da_nil)) (dg_name (i := 7) sc__law_cells.nd rfl (Or.inl rfl) (by decide))
    (dss_one (ds_if (dt_eq hr (d_add (d_mul (d_div (d_v 6) (d_v 2)) (d_v 4)) (d_div (d_v 7) (d_v 2))) (d_v 3))
    (dss_one (ds_app 5 (d_tup (da_cons (d_v 7) (da_cons (d_v 6) da_nil)))))
    dss_nil)))))
    (dss_one (ds_frz (ds_ret (d_v 5)))))))⟩)
theorem ok__law_mixed (T : Txt K mg) (D : Def K mg "_law_mixed" s__law_mixed ["_law_cell", "_law_k"])  : Cal P w K mg base 1  "_law_mixed" ["_law_cell", "_law_k"] m__law_mixed := by
  exact D.cal sc__law_mixed (fun f cdv A outer s H E hr => ⟨_, (dss_cons (ds_if (DW.dt (dw_and (dt_ge (d_v 0) (d_shl d_int d_int)) (dw_and (dt_eq hr (d_mod (d_v 0) d_int) d_int) (dw_and1 (dt_gt (d_shr (d_v 0) (d_add d_int (d_mul d_int (d_v 1)))) d_int)))))
    (dss_one (ds_ret (d_mod (d_shr (d_v 0) (d_add d_int (d_mul d_int (d_v 1)))) d_int)))
    dss_nil)
    (dss_cons (ds_set (i := 2) sc__law_mixed.nd rfl (Or.inl rfl) (d_mod (d_mul (d_add (d_add (d_v 0) (d_mul d_int (d_v 1))) d_int) d_int) d_int))
    (dss_cons (ds_set (i := 2) sc__law_mixed.nd rfl (Or.inl rfl) (d_mod (d_mul (d_v 2) (d_add (d_div (d_v 2) d_int) d_int)) d_int))
    (dss_one (ds_ret (d_mod (d_mul (d_v 2) (d_add (d_add (d_div (d_v 2) d_int) d_int) (d_v 1))) d_int))))))⟩)
theorem ok__law_draws (T : Txt K mg) (D : Def K mg "_law_draws" s__law_draws ["_law_cell", "_law_many"]) (c__law_mixed : Cal P w K mg base 1  "_law_mixed" ["_law_cell", "_law_k"] m__law_mixed) : Cal P w K mg base 2  "_law_draws" ["_law_cell", "_law_many"] m__law_draws := by
  exact D.cal sc__law_draws (fun f cdv A outer s H E hr => ⟨_, (dss_one (ds_ret (d_comp (own := ["_law_k"]) (cap := [("_law_cell", 0)]) (di_r1 rfl T.z_range (da_cons (d_v 1) da_nil)) (CompOk.of rfl rfl (by kernel_rfl) rfl ⟨rfl, trivial⟩ ⟨rfl, trivial⟩) rfl (fun _ _ _ _ _ => (dg_name (i := 0) (show List.Nodup (["_law_k", "_law_cell"] : List Str) by decide +kernel) rfl (Or.inl rfl) (by decide))) (fun _ _ _ _ _ => dts_nil) (fun _ _ _ _ _ => (d_callC c__law_mixed hr (by decide) rfl (da_cons (d_v 1) (da_cons (d_v 0) da_nil)))))))⟩)
theorem ok_tiles_along (T : Txt K mg) (D : Def K mg "tiles_along" s_tiles_along ["length", "wide"])  : Cal P w K mg base 1  "tiles_along" ["length", "wide"] m_tiles_along := by
  exact D.cal sc_tiles_along (fun f cdv A outer s H E hr => ⟨_, (dss_one (ds_ret (d_div (d_sub (d_add (d_v 0) (d_v 1)) d_int) (d_v 1))))⟩)
theorem ok_tile_cells (T : Txt K mg) (D : Def K mg "tile_cells" s_tile_cells ["width", "height", "wide", "tile"]) (c_tiles_along : Cal P w K mg base 1  "tiles_along" ["length", "wide"] m_tiles_along) : CalO P w K mg base 2  "tile_cells" ["width", "height", "wide", "tile"] m_tile_cells := by
  exact D.calO sc_tile_cells (fun f cdv A outer s H E hr => ⟨_, (dso_cons (ds_set (i := 4) sc_tile_cells.nd rfl (Or.inl rfl) (d_call c_tiles_along hr (by decide) rfl pass_on (da_cons (d_v 0) (da_cons (d_v 2) da_nil))))
    (dso_cons (ds_set (i := 5) sc_tile_cells.nd rfl (Or.inl rfl) (d_mul (d_mod (d_v 3) (d_v 4)) (d_v 2)))
    (dso_cons (ds_set (i := 6) sc_tile_cells.nd rfl (Or.inl rfl) (d_mul (d_div (d_v 3) (d_v 4)) (d_v 2)))
    (dso_cons (ds_setO (i := 7) sc_tile_cells.nd rfl (Or.inl rfl) da_nil)
    (dso_cons (ds_for PassesOwn.leaving rfl (di_r2 rfl T.z_range (da_cons (d_v 6) (da_cons (d_cb (call_min2 rfl) callD_min rfl T.z_min bt_min (da_cons (d_add (d_v 6) (d_v 2)) (da_cons (d_v 1) da_nil))) da_nil))) (dg_name (i := 8) sc_tile_cells.nd rfl (Or.inl rfl) (by decide))
    (dss_one (ds_for PassesOwn.leaving rfl (di_r2 rfl T.z_range (da_cons (d_v 5) (da_cons (d_cb (call_min2 rfl) callD_min rfl T.z_min bt_min (da_cons (d_add (d_v 5) (d_v 2)) (da_cons (d_v 0) da_nil))) da_nil))) (dg_name (i := 9) sc_tile_cells.nd rfl (Or.inl rfl) (by decide))
    (dss_one (ds_app 7 (d_tup (da_cons (d_v 9) (da_cons (d_v 8) da_nil))))))))
    (dso_v 7))))))⟩)
theorem ok_law {f : Addr} {fd : FuncData} (T : Txt K mg) (F : Fun K "law" "law" s_law f fd) (c__law_cell_at : Cal P w K mg base 1  "_law_cell_at" ["_law_script", "_law_k"] m__law_cell_at) (c__law_cells : Cal P w K mg base 1  "_law_cells" ["_law_width", "_law_height", "_law_wide", "_law_tile"] m__law_cells) (c__law_draws : Cal P w K mg base 2  "_law_draws" ["_law_cell", "_law_many"] m__law_draws) (co_tile_cells : CalO P w K mg base 2  "tile_cells" ["width", "height", "wide", "tile"] m_tile_cells) : FnOk P w K mg base (CXR P w) 3 f fd ["_law_script"] (spD K mg 1 m_law) := by
  exact okD F sc_law (fun cdv A outer s H E hr => ⟨_, (dss_cons (ds_asg (d_call c__law_draws hr (by decide) rfl pass_on (da_cons (d_call c__law_cell_at hr (by decide) rfl pass_on (da_cons (d_v 0) (da_cons d_int da_nil))) (da_cons d_int da_nil))) (dg_tup rfl (dgs_cons (dg_name (i := 1) sc_law.nd rfl (Or.inl rfl) (by decide)) (dgs_cons (dg_name (i := 2) sc_law.nd rfl (Or.inl rfl) (by decide)) dgs_nil))))
    (dss_cons (ds_set (i := 3) sc_law.nd rfl (Or.inl rfl) (d_ix (d_lst (da_cons (d_add d_int (d_mod (d_v 1) d_int)) (da_cons d_int da_nil))) (d_ct call_int1 callD_int rfl T.z_int bt_int (da_cons (d_eq hr (d_mod (d_div (d_v 1) d_int) d_int) d_int) da_nil))))
    (dss_cons (ds_set (i := 4) sc_law.nd rfl (Or.inl rfl) (d_ix (d_lst (da_cons (d_add d_int (d_mod (d_div (d_v 1) d_int) d_int)) (da_cons d_int da_nil))) (d_ct call_int1 callD_int rfl T.z_int bt_int (da_cons (d_and (d_eq hr (d_mod (d_div (d_v 1) d_int) d_int) d_int) (d_one (d_lt (d_v 3) d_int))) da_nil))))
    (dss_cons (ds_set (i := 5) sc_law.nd rfl (Or.inl rfl) (d_ix (d_lst (da_cons (d_add d_int (d_mod (d_v 2) d_int)) (da_cons d_int (da_cons (d_v 3) (da_cons (d_v 4) da_nil))))) (d_mod (d_div (d_v 2) d_int) d_int)))
    (dss_cons (ds_if (DW.dt (dw_or (dt_gt (d_v 3) d_int) (dw_or1 (dt_gt (d_v 4) d_int))))
    (dss_one (ds_set (i := 5) sc_law.nd rfl (Or.inl rfl) (d_cb (call_max2 rfl) callD_max rfl T.z_max bt_max (da_cons (d_v 5) (da_cons d_int da_nil)))))
    dss_nil)
    (dss_cons (ds_set (i := 6) sc_law.nd rfl (Or.inl rfl) (d_lst da_nil))
    (dss_cons (ds_set (i := 7) sc_law.nd rfl (Or.inl rfl) (d_mul (d_div (d_sub (d_add (d_v 3) (d_v 5)) d_int) (d_v 5)) (d_div (d_sub (d_add (d_v 4) (d_v 5)) d_int) (d_v 5))))
    (dss_cons (ds_for PassesOwn.leaving rfl (di_r1 rfl T.z_range (da_cons (d_v 7) da_nil)) (dg_name (i := 8) sc_law.nd rfl (Or.inl rfl) (by decide))
    (dss_cons (ds_setF (i := 9) co_tile_cells sc_law.nd rfl (Or.inl rfl) hr (by decide) rfl pass_on (da_cons (d_v 3) (da_cons (d_v 4) (da_cons (d_v 5) (da_cons (d_v 8) da_nil)))))
    (dss_cons (ds_if (dt_pk 9 (DW.dt (dw_or (dt_not (dt_val (d_cb call_isiD callD_isi rfl T.z_isinstance bt_isinstance (da_cons (d_v 9) (da_cons (d_ty rfl T.z_list bt_list) da_nil))))) (dw_or (dt_eq hr (d_v 9) (d_lst da_nil)) (dw_or1 (dt_ne hr (d_v 9) (d_call c__law_cells hr (by decide) rfl pass_on (da_cons (d_v 3) (da_cons (d_v 4) (da_cons (d_v 5) (da_cons (d_v 8) da_nil)))))))))))
    (dss_one (ds_ret d_bl))
    dss_nil)
    (dss_cons (ds_set (i := 6) sc_law.nd rfl (Or.inl rfl) (d_addO 9 (d_v 6)))
    (dss_cons (ds_app 9 (d_tup (da_cons d_int (da_cons d_int da_nil))))
    (dss_one (ds_if (dt_pk 9 (dt_ne hr (d_cb call_len_seq callD_len rfl T.z_len bt_len (da_cons (d_call co_tile_cells.cal hr (by decide) rfl pass_on (da_cons (d_v 3) (da_cons (d_v 4) (da_cons (d_v 5) (da_cons (d_v 8) da_nil))))) da_nil)) (d_sub (d_cb call_len_seq callD_len rfl T.z_len bt_len (da_cons (d_v 9) da_nil)) d_int)))
    (dss_one (ds_ret d_bl))
    dss_nil)))))))
    (dss_cons (ds_set (i := 10) sc_law.nd rfl (Or.inl rfl) (d_lst da_nil))
    (dss_cons (ds_for PassesOwn.leaving rfl (di_r1 rfl T.z_range (da_cons (d_v 3) da_nil)) (dg_name (i := 11) sc_law.nd rfl (Or.inr rfl) (by decide))
    (dss_one (ds_set (i := 10) sc_law.nd rfl (Or.inl rfl) (d_add (d_v 10) (d_comp (own := ["_law_row"]) (cap := [("_law_column", 11)]) (di_r1 rfl T.z_range (da_cons (d_v 4) da_nil)) (CompOk.of rfl rfl (by kernel_rfl) rfl ⟨rfl, trivial⟩ ⟨rfl, trivial⟩) rfl (fun _ _ _ _ _ => (dg_name (i := 0) (show List.Nodup (["_law_row", "_law_column"] : List Str) by decide +kernel) rfl (Or.inl rfl) (by decide))) (fun _ _ _ _ _ => dts_nil) (fun _ _ _ _ _ => (d_tup (da_cons (d_v 1) (da_cons (d_v 0) da_nil)))))))))
    (dss_one (ds_ret (d_eq hr (d_cb call_sortR callD_sort rfl T.z_sorted bt_sorted (da_cons (d_v 6) da_nil)) (d_v 10))))))))))))))⟩)
end
theorem dmk {K : PySem.W.Frag} {mg : Str → Option Value} {x : Str} {st : Stmt} {ps : List Str} {f : Addr} {fd : FuncData} (F : Fun K x x st f fd) (b : Binds K fd ps []) (m : mg x = some (.ref f)) : Def K mg x st ps := ⟨f, fd, F, b, m⟩
local macro_rules | `(tactic| walk_at "b1") => `(tactic| exact fun _ _ _ _ _ _ us hl => match us, hl with | [_], _ => rfl)
local macro_rules | `(tactic| walk_at "b2") => `(tactic| exact fun _ _ _ _ _ _ us hl => match us, hl with | [_, _], _ => rfl)
local macro_rules | `(tactic| walk_at "b4") => `(tactic| exact fun _ _ _ _ _ _ us hl => match us, hl with | [_, _, _, _], _ => rfl)
noncomputable abbrev NI (K : PySem.W.Frag) (x : Str) (f : Addr) : Prop := PySem.W.nsIn K mainGlobals x = some (some (.ref f))
noncomputable abbrev Df (K : PySem.W.Frag) (x q : Str) (st : Stmt) (f : Addr) : Prop := ∃ fd, Fun K x q st f fd
theorem all_mk {l : PySem.W.OpenLaw} {w : World} {K : PySem.W.Frag} {h : Heap} {mg : Str → Option Value} {fa f7 : Addr} (X : K.In h) (G : h.Ns mainGlobals mg) (hfa : mg "law" = some (.ref fa))
    {od7 an7 : Option Addr} {sl7 : Array (Option Value)} {oc7 kV7 dc7 pm7 cd7 ct7 : Value}  
    (D1 : Def K mg "_law_cell_at" s__law_cell_at ["_law_script", "_law_k"])
    (D2 : Def K mg "_law_cells" s__law_cells ["_law_width", "_law_height", "_law_wide", "_law_tile"])
    (D3 : Def K mg "_law_mixed" s__law_mixed ["_law_cell", "_law_k"])
    (D4 : Def K mg "_law_draws" s__law_draws ["_law_cell", "_law_many"])
    (D5 : Def K mg "tiles_along" s_tiles_along ["length", "wide"])
    (D6 : Def K mg "tile_cells" s_tile_cells ["width", "height", "wide", "tile"])
    (a7 : PySem.W.nsIn K mainGlobals "law" = some (some (.ref f7))) (l7 : K.lookup f7 = some ⟨oc7, od7, .func (PySem.W.fnOf "law" "law" (defArgs s_law) (defBody s_law) (defScope s_law) .none kV7 dc7 pm7 an7 cd7 ct7), sl7⟩) (c7 : PySem.W.codeIn K cd7 "law" = true) (k7 : PySem.W.keepIn K (.ref f7) = true)
    (z0 : PySem.W.nsIn K mainGlobals "int" = some none)
    (z1 : PySem.W.nsIn K mainGlobals "isinstance" = some none)
    (z2 : PySem.W.nsIn K mainGlobals "len" = some none)
    (z3 : PySem.W.nsIn K mainGlobals "list" = some none)
    (z4 : PySem.W.nsIn K mainGlobals "max" = some none)
    (z5 : PySem.W.nsIn K mainGlobals "min" = some none)
    (z6 : PySem.W.nsIn K mainGlobals "range" = some none)
    (z7 : PySem.W.nsIn K mainGlobals "sorted" = some none)
    : ∃ fd : FuncData, (∀ (s : Shared) (v : Value), BindsTo s fd ⟨[v], []⟩ [("_law_script", v)]) ∧ ∀ base : Heap, K.In base → base.Ns mainGlobals mg → FnOk l.prog w K mg base (CXR l.prog w) 3 fa fd ["_law_script"] (spLaw K) := by
  have e := hfa.symm.trans (PySem.W.mg_of X G a7)
  cases e
  have T : Txt K mg := ⟨PySem.W.mg_none_of X G z0, PySem.W.mg_none_of X G z1, PySem.W.mg_none_of X G z2, PySem.W.mg_none_of X G z3, PySem.W.mg_none_of X G z4, PySem.W.mg_none_of X G z5, PySem.W.mg_none_of X G z6, PySem.W.mg_none_of X G z7⟩
  have F7 := fun_mk (st := s_law) l7 c7 k7
  have D7 := dmk F7 (F7.binds (ps := ["_law_script"]) (by walk_at "b1")) (PySem.W.mg_of X G a7)
  refine ⟨PySem.W.fnOf "law" "law" (defArgs s_law) (defBody s_law) (defScope s_law) .none kV7 dc7 pm7 an7 cd7 ct7, fun s v => .of_eq rfl, fun base _ _ => ?_⟩
  have C__law_cell_at := ok__law_cell_at (P := l.prog) (w := w) (base := base) T D1 
  have C__law_cells := ok__law_cells (P := l.prog) (w := w) (base := base) T D2 
  have C__law_mixed := ok__law_mixed (P := l.prog) (w := w) (base := base) T D3 
  have C__law_draws := ok__law_draws (P := l.prog) (w := w) (base := base) T D4 C__law_mixed
  have C_tiles_along := ok_tiles_along (P := l.prog) (w := w) (base := base) T D5 
  have C_tile_cells := ok_tile_cells (P := l.prog) (w := w) (base := base) T D6 C_tiles_along
  exact (ok_law (P := l.prog) (w := w) (base := base) T F7 C__law_cell_at C__law_cells C__law_draws C_tile_cells).imp (law_sp pure_law)
theorem walk {l : PySem.W.OpenLaw} {q : Program} {loose : List Str} {XP : (Str → Option Value) → Heap → Prop} {YP : World → Heap → Prop} {d : DefRec} {K : Params → PySem.W.Frag} (hn : l.most = some 63) (hdf : d.params.defaults = [])
    (hY : ∀ (w : World) (h : Heap), YP w h → (K w.params).In h)
    (F : ∀ (w : World) (mg : Str → Option Value) (fa : Addr) (h : Heap), (K w.params).In h → h.Ns mainGlobals mg → mg d.name = some (.ref fa) →
      ∃ fd : FuncData, (∀ (s : Shared) (u : Value), BindsTo s fd ⟨[u], []⟩ [("_law_script", u)]) ∧ ∀ base : Heap, (K w.params).In base → base.Ns mainGlobals mg → FnOk l.prog w (K w.params) mg base (CXR l.prog w) 3 fa fd ["_law_script"] (spLaw (K w.params))) :
    PySem.W.WalkO q loose XP YP l.row.toRowW d [] (fun f vs => PySem.call f vs) :=
  L2.walk_of (n := 63) (k := 3) (x := "_law_script") (CX := fun w => CXR l.prog w) (sp := fun w => spLaw (K w.params)) hn (by decide) hdf ⟨rfl, by decide, by decide⟩ hY F (fun _ _ a ns hl _ hS => ⟨a, ns, rfl, hS, hl, fun _ => rfl⟩) fun _ _ _ _ _ z => cxr_no z
end My
set_option hygiene false in
local macro_rules | `(tactic| walk_at "df") => `(tactic| (refine' ⟨_, L2.fun_mk ?l ?c ?k⟩; (case l => k_is); (case c => k_is); (case k => k_is)))
set_option hygiene false in
local macro_rules | `(tactic| walk_at "dd2") => `(tactic| (refine' ⟨_, _, L2.fun_mk ?l ?c ?k, L2.Fun.binds (L2.fun_mk ?l ?c ?k) (fun _ _ _ _ _ _ us hl => match us, hl with | [_, _], _ => rfl), PySem.W.mg_of KX G ?a⟩; (case a => k_is); (case l => k_is); (case c => k_is); (case k => k_is)))
set_option hygiene false in
local macro_rules | `(tactic| walk_at "dd4") => `(tactic| (refine' ⟨_, _, L2.fun_mk ?l ?c ?k, L2.Fun.binds (L2.fun_mk ?l ?c ?k) (fun _ _ _ _ _ _ us hl => match us, hl with | [_, _, _, _], _ => rfl), PySem.W.mg_of KX G ?a⟩; (case a => k_is); (case l => k_is); (case c => k_is); (case k => k_is)))
local macro_rules | `(tactic| walk_at "ni") => `(tactic| (delta My.NI; k_is))

open PySem PySem.W PyProof.Rows
set_option maxRecDepth 100000 in
set_option maxHeartbeats 0 in
theorem PySem.Challenge.cw_sampleyard_k61_tiles_cells_holds : PySem.Challenge.rw_sampleyard_k61_tiles_cells.Holds := by
  w_on; o_law; k_head; (case hw => w_witness2)
  k_fill
  refine My.walk (l := PySem.Challenge.rw_sampleyard_k61_tiles_cells) rfl rfl (fun w h Y => PySem.W.kIn_of Y) ?F
  case F =>
    intro w mg fa h KX G hmg
    refine' My.all_mk KX G hmg ?D1 ?D2 ?D3 ?D4 ?D5 ?D6 ?a7 ?l7 ?c7 ?k7 ?z0 ?z1 ?z2 ?z3 ?z4 ?z5 ?z6 ?z7
    (case D1 => walk_at "dd2")
    (case D2 => walk_at "dd4")
    (case D3 => walk_at "dd2")
    (case D4 => walk_at "dd2")
    (case D5 => walk_at "dd2")
    (case D6 => walk_at "dd4")
    (case a7 => k_is)
    (case l7 => k_is)
    (case c7 => k_is)
    (case k7 => k_is)
    (case z0 => k_is)
    (case z1 => k_is)
    (case z2 => k_is)
    (case z3 => k_is)
    (case z4 => k_is)
    (case z5 => k_is)
    (case z6 => k_is)
    (case z7 => k_is)

