import PyProof.Rows.All
import Wide.All
import OpenK.AllK
import Wide.FinOn
import Lean
import PyProof.EqAt
import PyProof.EqKinds
import PyProof.TupleCall
import PySem.Challenge.RW_lath_k58_planted_ways
set_option Elab.async false
set_option linter.all false
set_option maxRecDepth 100000
theorem au0_ (h : 1 = 1 := by rfl) : 1 = 1 := h
theorem au1_ (h : 1 = 1 := by decide) : 1 = 1 := h
theorem au2_ (h : 1 = 1 := by intro _; rfl) : 1 = 1 := h

namespace L2
open PySem PySem.Spec PyProof.Rows

noncomputable abbrev Key := Sum Int Str
noncomputable def keyIs : Key → Value → Bool
  | .inl k, v => Value.isInt k v
  | .inr x, v => Value.isStrOf x v
noncomputable def keyH (w : World) : Key → Int
  | .inl k => hashInt k
  | .inr x => hashStr w x
theorem keyIs_shape : ∀ {k : Key} {v : Value}, keyIs k v = true → (∃ i t, k = Sum.inl i ∧ v = Value.int i t) ∨ (∃ x t, k = Sum.inr x ∧ v = Value.str x t)
  | .inl i, v, h => by
    obtain ⟨t, e⟩ := Value.isInt_shape (k := i) (v := v) h
    exact .inl ⟨i, t, rfl, e⟩
  | .inr x, v, h => by
    obtain ⟨t, e⟩ := Value.isStrOf_shape (x := x) (v := v) h
    exact .inr ⟨x, t, rfl, e⟩
theorem key_ll (a b : Int) : decide ((Sum.inl a : Key) = Sum.inl b) = (a == b) := by
  by_cases e : a = b
  · subst e; simp
  · have h : ¬ (Sum.inl a : Key) = Sum.inl b := fun q => e (Sum.inl.inj q)
    rw [decide_eq_false h]
    exact (beq_eq_false_iff_ne.mpr e).symm
theorem key_rr (a b : Str) : decide ((Sum.inr a : Key) = Sum.inr b) = decide (a = b) := by
  by_cases e : a = b
  · subst e; simp
  · have h : ¬ (Sum.inr a : Key) = Sum.inr b := fun q => e (Sum.inr.inj q)
    rw [decide_eq_false h, decide_eq_false e]
theorem key_lr (a : Int) (b : Str) : decide ((Sum.inl a : Key) = Sum.inr b) = false := decide_eq_false (fun q => nomatch q)
theorem key_rl (a : Str) (b : Int) : decide ((Sum.inr a : Key) = Sum.inl b) = false := decide_eq_false (fun q => nomatch q)

noncomputable def mixKind (prog : Program) (w : World) : PySem.KeyKind prog w Key where
  is := keyIs
  hash := keyH w
  inj := fun v a b ha hb => by
    rcases keyIs_shape ha with ⟨i, t, rfl, rfl⟩ | ⟨x, t, rfl, rfl⟩
    · rcases keyIs_shape hb with ⟨j, u, rfl, e⟩ | ⟨y, u, rfl, e⟩
      · injection e with e1 _; rw [e1]
      · exact nomatch e
    · rcases keyIs_shape hb with ⟨j, u, rfl, e⟩ | ⟨y, u, rfl, e⟩
      · exact nomatch e
      · injection e with e1 _; rw [e1]
  byValue := fun k v h => by
    rcases keyIs_shape h with ⟨i, t, rfl, rfl⟩ | ⟨x, t, rfl, rfl⟩ <;> rfl
  pyHash := fun hv h => by
    rcases keyIs_shape hv with ⟨i, t, rfl, rfl⟩ | ⟨x, t, rfl, rfl⟩
    · exact wpAny_pyHash_int h
    · exact wpAny_pyHash_str h
  eqBool := fun hu hv h => by
    rcases keyIs_shape hu with ⟨i, t, rfl, rfl⟩ | ⟨x, t, rfl, rfl⟩
    · rcases keyIs_shape hv with ⟨j, u, rfl, rfl⟩ | ⟨y, u, rfl, rfl⟩
      · rw [key_ll] at h; exact wpAny_eqBool_int h
      · rw [key_lr] at h; exact SeqAt.EqAt.int_str i t y u _ _ _ _ h
    · rcases keyIs_shape hv with ⟨j, u, rfl, rfl⟩ | ⟨y, u, rfl, rfl⟩
      · rw [key_rl] at h; exact SeqAt.EqAt.str_int x t j u _ _ _ _ h
      · rw [key_rr] at h; exact wpAny_eqBool_str h
  «strs» := fun k x t v h => by
    rcases keyIs_shape h with ⟨i, u, rfl, e⟩ | ⟨y, u, rfl, e⟩
    · exact nomatch e
    · injection e with e1 _
      subst e1
      cases v <;> rfl

end L2

namespace L2
open PySem PySem.Spec PyProof.Rows

inductive V where
  | non | bl (b : Bool) | int (i : Int) | str (x : Str) | byt (b : Array UInt8) | flt (b : UInt64) | ref (a : Addr) | ty (n : String)
  deriving DecidableEq

noncomputable def RelV : V → Value → Prop
  | .non, u => u = Value.none
  | .bl b, u => u = Value.bool b
  | .int i, u => ∃ t, u = Value.int i t
  | .str x, u => ∃ t, u = Value.str x t
  | .byt b, u => ∃ t, u = Value.bytes b t
  | .flt b, u => ∃ t, u = Value.float b t
  | .ref a, u => u = Value.ref a
  | .ty n, u => u = Value.type n

noncomputable abbrev Vals : List V → List Value → Prop := Paired RelV
theorem Vals.length {xs : List V} {us : List Value} (r : Vals xs us) : xs.length = us.length := Paired.length r
theorem Vals.get : ∀ {xs : List V} {us : List Value} {i : Nat} {x : V}, Vals xs us → xs[i]? = some x → ∃ u, us[i]? = some u ∧ RelV x u
  | _, _, _, _, .nil, e => by simp at e
  | _, _, 0, _, .cons r _, e => by simp at e; subst e; exact ⟨_, rfl, r⟩
  | _, _, i + 1, x, .cons _ t, e => by
    obtain ⟨u, h1, h2⟩ := Vals.get (i := i) (x := x) t (by simpa using e)
    exact ⟨u, by simpa using h1, h2⟩
theorem Vals.set {x : V} {u : Value} (r : RelV x u) : ∀ {xs : List V} {us : List Value} (i : Nat), Vals xs us → Vals (xs.set i x) (us.set i u)
  | _, _, _, .nil => .nil
  | _, _, 0, .cons _ t => .cons r t
  | _, _, i + 1, .cons q t => .cons q (Vals.set r i t)
theorem Vals.append : ∀ {xs ys : List V} {us ws : List Value}, Vals xs us → Vals ys ws → Vals (xs ++ ys) (us ++ ws)
  | _, _, _, _, .nil, s => s
  | _, _, _, _, .cons r t, s => .cons r (Vals.append t s)
theorem Vals.take : ∀ {xs : List V} {us : List Value} (n : Nat), Vals xs us → Vals (xs.take n) (us.take n)
  | _, _, 0, _ => .nil
  | _, _, _ + 1, .nil => .nil
  | _, _, n + 1, .cons r t => .cons r (Vals.take n t)
theorem Vals.drop : ∀ {xs : List V} {us : List Value} (n : Nat), Vals xs us → Vals (xs.drop n) (us.drop n)
  | _, _, 0, r => r
  | _, _, _ + 1, .nil => .nil
  | _, _, n + 1, .cons _ t => Vals.drop n t
noncomputable def RelO : Option V → Option Value → Prop
  | some v, some u => RelV v u
  | none, none => True
  | _, _ => False
noncomputable def KV {κ : Type} : List (κ × V) → List (κ × Value) → Prop := Paired fun (p : κ × V) (q : κ × Value) => p.1 = q.1 ∧ RelV p.2 q.2

noncomputable def kV : Key → V
  | .inl i => .int i
  | .inr x => .str x

inductive HO where
  /-- a list -/
  | lst (xs : List V)
  /-- a tuple (never changes) -/
  | tup (xs : List V)
  /-- a dict whose keys are ints and texts; one whose keys are tuples of ints and texts (the empty one is both) -/
  | dK (kvs : List (Key × V)) | dT (kvs : List (List Key × V))
  /-- a set of ints: its members, its size -/
  | set (S : Int → Bool) (n : Nat)
  /-- an instance of the class at C, its dict at dx, its attributes -/
  | ins (C dx : Addr) (fs : List (Str × V))
  /-- the dict of the instance at x -/
  | own (x : Addr)
  /-- the dict of an exception -/
  | xd (fs : List (Str × V))
  /-- a bound method, f of x -/
  | met (f x : Addr)
  /-- a range object lo, lo + 1, .. below hi -/
  | rng (lo hi : Int)
  /-- a thing that is known to the object (the script; a dict while a loop walks it): read, never written while it is so -/
  | frz (o : Obj) (u : HO)
  /-- a code object's table -/
  | tbl (ps : Array Value)
  /-- any other thing, by what is true of its one object (a def of one's own: SetO a S n := HO.ext fun h => ..) -/
  | ext (φ : Heap → Prop)

noncomputable abbrev Hp := Addr → Option HO
noncomputable def upd (H : Hp) (a : Addr) (o : HO) : Hp := fun b => if b = a then some o else H b
theorem upd_same {H : Hp} {a : Addr} {o : HO} : upd H a o a = some o := by unfold upd; rw [if_pos rfl]
theorem upd_ne {H : Hp} {a b : Addr} {o : HO} (h : b ≠ a) : upd H a o b = H b := by unfold upd; rw [if_neg h]
theorem ne_of_none {H : Hp} {a b : Addr} {o : HO} (h : H a = some o) (h' : H b = none) : a ≠ b := by
  intro e; subst e; rw [h] at h'; cases h'

section
variable (P : Program) (w : World)
noncomputable def ObjOk (H : Hp) (h : Heap) (a : Addr) : HO → Prop
  | .lst xs => xs.length ≤ sizeLine ∧ ∃ (its : List Value) (n : Nat), Vals xs its ∧ h.get? a = some { cls := .type "list", data := .seq its.toArray n }
  | .tup xs => xs.length ≤ sizeLine ∧ ∃ its : List Value, Vals xs its ∧ IsTup h a its.toArray
  | .dK kvs => kvs.length ≤ sizeLine ∧ (a == sysModules) = false ∧ ∃ vs, KV kvs vs ∧ h.DictOf (mixKind P w) a vs
  | .dT kvs => kvs.length ≤ sizeLine ∧ (a == sysModules) = false ∧ ∃ xs : List (List Key × Addr × Value),
      Paired (fun (p : List Key × V) (q : List Key × Addr × Value) => p.1 = q.1 ∧ H q.2.1 = some (.tup (p.1.map kV)) ∧ RelV p.2 q.2.2) kvs xs ∧
      ∃ o es ep, h.get? a = some o ∧ o.ExactDict ∧ o.data = .dict es ep ∧ es.toList = xs.map (entryOfKey (tupleKind (mixKind P w))) ∧ (xs.map (·.1)).Nodup
  | .set S n => h.SetOf (intKind P w) a S n
  | .ins C dx fs => H dx = some (.own a) ∧ fs.length ≤ 1000 ∧ dx ≠ a ∧ h.get? a = some (PySem.W.instObj C dx) ∧
      ∃ mA, h.Ns1 dx mA ∧ (∀ f, RelO (fs.lookup f) (mA f)) ∧ PySem.Within mA (fs.map (·.1))
  | .own _ => ∃ o, h.get? a = some o
  | .xd fs => ∃ mA, h.Ns1 a mA ∧ ∀ f, RelO (fs.lookup f) (mA f)
  | .rng lo hi => ∃ t u v, h.get? a = some { cls := .type "range", data := .fields #[.int lo t, .int hi u, .int 1 v] }
  | .frz o u => h.get? a = some o ∧ ObjOk H h a u
  | .tbl ps => h.get? a = some { cls := .none, data := .fields ps }
  | .met f x => h.get? a = some (PySem.W.methodObj (.ref f) (.ref x))
  | .ext φ => φ h ∧ (∃ o, h.get? a = some o) ∧ ∀ h1 h2 : Heap, φ h1 → (∀ o, h1.get? a = some o → h2.get? a = some o) → φ h2
noncomputable def HOk (H : Hp) (h : Heap) : Prop := ∀ a o, H a = some o → ObjOk P w H h a o
end

section
variable {P : Program} {w : World} {H H' : Hp} {h h' : Heap} {a : Addr} {o : HO}
theorem ObjOk.lt (x : ObjOk P w H h a o) : a < h.objs.size := by
  cases o with
  | lst xs => obtain ⟨_, _, _, _, e⟩ := x; exact Heap.lt_size e
  | tup xs => obtain ⟨_, _, _, p⟩ := x; exact p.lt
  | dK kvs => obtain ⟨_, _, _, _, o, _, _, e, _⟩ := x; exact Heap.lt_size e
  | dT kvs => obtain ⟨_, _, _, _, o, _, _, e, _⟩ := x; exact Heap.lt_size e
  | set S n => obtain ⟨o, _, _, _, e, _⟩ := x; exact Heap.lt_size e
  | ins C dx fs => obtain ⟨_, _, _, e, _⟩ := x; exact Heap.lt_size e
  | own y => obtain ⟨_, e⟩ := x; exact Heap.lt_size e
  | xd fs => obtain ⟨_, ⟨_, _, _, e, _⟩, _⟩ := x; exact Heap.lt_size e
  | rng lo hi => obtain ⟨_, _, _, e⟩ := x; exact Heap.lt_size e
  | frz ob u => obtain ⟨e, _⟩ := x; exact Heap.lt_size e
  | tbl ps => exact Heap.lt_size (show h.get? a = some _ from x)
  | met f y => exact Heap.lt_size (show h.get? a = some _ from x)
  | ext φ => obtain ⟨_, ⟨_, e⟩, _⟩ := x; exact Heap.lt_size e
theorem Paired.mapP {α β : Type} {F G : α → β → Prop} : ∀ {l₁ : List α} {l₂ : List β}, Paired F l₁ l₂ → (∀ a b, F a b → G a b) → Paired G l₁ l₂
  | _, _, .nil, _ => .nil
  | _, _, .cons r t, f => .cons (f _ _ r) (Paired.mapP t f)
theorem ObjOk.stay (x : ObjOk P w H h a o) (k : ∀ b u, (b = a ∨ H b = some (.own a)) → h.get? b = some u → h'.get? b = some u)
    (ho : ∀ b, H b = some (.own a) → H' b = some (.own a)) (ht : ∀ b xs, H b = some (.tup xs) → H' b = some (.tup xs)) : ObjOk P w H' h' a o := by
  induction o with
  | lst xs => obtain ⟨z, its, n, r, e⟩ := x; exact ⟨z, its, n, r, k _ _ (.inl rfl) e⟩
  | tup xs => obtain ⟨z, its, r, ob, e, c⟩ := x; exact ⟨z, its, r, ob, k _ _ (.inl rfl) e, c⟩
  | dK kvs => obtain ⟨z, y, vs, r, ob, es, ep, e, c⟩ := x; exact ⟨z, y, vs, r, ob, es, ep, k _ _ (.inl rfl) e, c⟩
  | dT kvs =>
    obtain ⟨z, y, xs, r, ob, es, ep, e, c⟩ := x
    exact ⟨z, y, xs, Paired.mapP r fun p q z => ⟨z.1, ht _ _ z.2.1, z.2.2⟩, ob, es, ep, k _ _ (.inl rfl) e, c⟩
  | set S n => obtain ⟨ob, es, ep, t, e, c⟩ := x; exact ⟨ob, es, ep, t, k _ _ (.inl rfl) e, c⟩
  | ins C dx fs =>
    obtain ⟨d, z, ne, e, mA, ⟨od, es, ep, e2, c⟩, r⟩ := x
    exact ⟨ho _ d, z, ne, k _ _ (.inl rfl) e, mA, ⟨od, es, ep, k _ _ (.inr d) e2, c⟩, r⟩
  | own y => obtain ⟨ob, e⟩ := x; exact ⟨ob, k _ _ (.inl rfl) e⟩
  | xd fs => obtain ⟨mA, ⟨od, es, ep, e, c⟩, r⟩ := x; exact ⟨mA, ⟨od, es, ep, k _ _ (.inl rfl) e, c⟩, r⟩
  | rng lo hi => obtain ⟨t, u, v, e⟩ := x; exact ⟨t, u, v, k _ _ (.inl rfl) e⟩
  | frz ob u ih => obtain ⟨e, q⟩ := x; exact ⟨k _ _ (.inl rfl) e, ih q⟩
  | tbl ps =>
    have e : h.get? a = some { cls := .none, data := .fields ps } := x
    show h'.get? a = some { cls := .none, data := .fields ps }
    exact k a _ (.inl rfl) e
  | met f y =>
    have e : h.get? a = some (PySem.W.methodObj (.ref f) (.ref y)) := x
    show h'.get? a = some (PySem.W.methodObj (.ref f) (.ref y))
    exact k a _ (.inl rfl) e
  | ext φ => obtain ⟨p, ⟨o, e⟩, st⟩ := x; exact ⟨st _ _ p fun o q => k _ _ (.inl rfl) q, ⟨o, k _ _ (.inl rfl) e⟩, st⟩
theorem HOk.lt (x : HOk P w H h) (e : H a = some o) : a < h.objs.size := (x a o e).lt
theorem HOk.fresh (x : HOk P w H h) (e : h.objs.size ≤ a) : H a = none := by
  cases q : H a with
  | none => rfl
  | some u => exact absurd (Nat.lt_of_lt_of_le (x.lt q) e) (Nat.lt_irrefl _)
theorem HOk.kept (x : HOk P w H h) (k : ∀ b u, h.get? b = some u → h'.get? b = some u) : HOk P w H h' := fun a o e =>
  (x a o e).stay (fun b u _ q => k b u q) (fun _ q => q) fun _ _ q => q
theorem HOk.laid (x : HOk P w H h) (k : ∀ b u, h.get? b = some u → h'.get? b = some u) (hp : h.objs.size ≤ a) (new : ObjOk P w (upd H a o) h' a o) : HOk P w (upd H a o) h' := fun b u e => by
  have hn := x.fresh hp
  by_cases hb : b = a
  · subst hb; rw [upd_same] at e; cases e; exact new
  · rw [upd_ne hb] at e
    exact (x b u e).stay (fun c v _ q => k c v q) (fun c q => by rw [upd_ne (ne_of_none q hn)]; exact q) fun c xs q => by rw [upd_ne (ne_of_none q hn)]; exact q
end

noncomputable def Rd (H : Hp) (a : Addr) (u : HO) : Prop := H a = some u ∨ ∃ o, H a = some (.frz o u)
theorem Rd.of {H : Hp} {a : Addr} {u : HO} (h : H a = some u) : Rd H a u := .inl h
theorem Rd.ok {P : Program} {w : World} {H : Hp} {h : Heap} {a : Addr} {u : HO} (r : Rd H a u) (x : HOk P w H h) : ObjOk P w H h a u := by
  rcases r with r | ⟨o, r⟩
  · exact x a u r
  · obtain ⟨_, q⟩ := x a _ r
    exact q
noncomputable def Mut : Option HO → Prop
  | some (.lst _) => True
  | some (.dK _) => True
  | some (.dT _) => True
  | some (.set _ _) => True
  | some (.ins _ _ _) => True
  | some (.ext _) => True
  | _ => False
section
variable {P : Program} {w : World} {H : Hp} {h h' : Heap} {x e : Addr} {o' : HO}
theorem HOk.write (ok : HOk P w H h) (mu : Mut (H x)) (he : e = x ∨ H e = some (.own x)) (k : ∀ b u, b ≠ e → h.get? b = some u → h'.get? b = some u) (heo : ∃ u, h'.get? e = some u)
    (new : ObjOk P w (upd H x o') h' x o') : HOk P w (upd H x o') h' := fun b u q => by
  have nown : ∀ c y, H c = some (.own y) → c ≠ x := fun c y r z => by subst z; rw [r] at mu; exact mu
  have ntup : ∀ c xs, H c = some (.tup xs) → c ≠ x := fun c xs r z => by subst z; rw [r] at mu; exact mu
  by_cases hb : b = x
  · subst hb; rw [upd_same] at q; cases q; exact new
  · rw [upd_ne hb] at q
    by_cases hbe : b = e
    · have q' : H b = some (.own x) := by
        rcases he with z | z
        · exact absurd (hbe.trans z) hb
        · rw [hbe]; exact z
      rw [q] at q'; cases q'
      obtain ⟨v, hv⟩ := heo
      exact ⟨v, by rw [hbe]; exact hv⟩
    · refine (ok b u q).stay (fun c v hc r => k c v ?_ r) (fun c r => by rw [upd_ne (nown c b r)]; exact r) fun c xs r => by rw [upd_ne (ntup c xs r)]; exact r
      rcases hc with rfl | hc
      · exact hbe
      · rintro rfl
        rcases he with z | z
        · exact nown c b hc z
        · rw [hc] at z; cases z; exact hb rfl
end

structure Un (fs ex : List Addr) (H H' : Hp) (h h' : Heap) : Prop where
  keep : ∀ b o, h.get? b = some o → H b = none → b ∉ fs → b ∉ ex → h'.get? b = some o
  slot : ∀ b o, h.get? b = some o → H b = none → b ∈ fs → b ∉ ex → ∃ sl, h'.get? b = some { o with slots := sl }
  free : ∀ b o, h.get? b = some o → H b = none → b ∉ ex → H' b = none
  there : ∀ b o, h.get? b = some o → b ∉ ex → ∃ o', h'.get? b = some o'
  tups : ∀ b xs, H b = some (.tup xs) → H' b = some (.tup xs)
  frzs : ∀ b o u, H b = some (.frz o u) → H' b = some (.frz o u)
  tbls : ∀ b ps, H b = some (.tbl ps) → ∃ more, H' b = some (.tbl (ps ++ more))
section
variable {fs fs' ex ex' : List Addr} {H H1 H2 : Hp} {h h1 h2 h' : Heap} {a x e : Addr} {o : HO}
theorem Un.any (u : Un fs ex H H1 h h1) {b : Addr} {ob : Obj} (q : h.get? b = some ob) (n : H b = none) (hx : b ∉ ex) : ∃ sl, h1.get? b = some { ob with slots := sl } := by
  by_cases hb : b ∈ fs
  · exact u.slot b ob q n hb hx
  · exact ⟨ob.slots, u.keep b ob q n hb hx⟩
theorem Un.trans (a : Un fs ex H H1 h h1) (b : Un fs ex H1 H2 h1 h2) : Un fs ex H H2 h h2 where
  keep := fun c ob q n hc hx => b.keep c ob (a.keep c ob q n hc hx) (a.free c ob q n hx) hc hx
  slot := fun c ob q n hc hx => by
    obtain ⟨sl, e1⟩ := a.slot c ob q n hc hx
    obtain ⟨sl', e2⟩ := b.slot c _ e1 (a.free c ob q n hx) hc hx
    exact ⟨sl', e2⟩
  free := fun c ob q n hx => by
    obtain ⟨o', e1⟩ := a.there c ob q hx
    exact b.free c o' e1 (a.free c ob q n hx) hx
  there := fun c ob q hx => by
    obtain ⟨o', e1⟩ := a.there c ob q hx
    exact b.there c o' e1 hx
  tups := fun c xs q => b.tups c xs (a.tups c xs q)
  frzs := fun c ob xs q => b.frzs c ob xs (a.frzs c ob xs q)
  tbls := fun c ps q => by
    obtain ⟨m1, e1⟩ := a.tbls c ps q
    obtain ⟨m2, e2⟩ := b.tbls c _ e1
    exact ⟨m1 ++ m2, by rw [e2, Array.append_assoc]⟩
theorem Un.kept (k : ∀ b u, h.get? b = some u → h'.get? b = some u) : Un fs ex H H h h' :=
  ⟨fun b ob q _ _ _ => k b ob q, fun b ob q _ _ _ => ⟨ob.slots, k b ob q⟩, fun _ _ _ n _ => n, fun b ob q _ => ⟨ob, k b ob q⟩, fun _ _ q => q, fun _ _ _ q => q, fun _ ps q => ⟨#[], by rw [q]; simp⟩⟩
theorem Un.refl : Un fs ex H H h h := Un.kept fun _ _ q => q
theorem Un.laid (k : ∀ b u, h.get? b = some u → h'.get? b = some u) (hp : h.objs.size ≤ a) (hn : H a = none) : Un fs ex H (upd H a o) h h' where
  keep := fun b u q _ _ _ => k b u q
  slot := fun b u q _ _ _ => ⟨u.slots, k b u q⟩
  free := fun b u q n _ => by rw [upd_ne (Nat.ne_of_lt (Nat.lt_of_lt_of_le (Heap.lt_size q) hp))]; exact n
  there := fun b u q _ => ⟨u, k b u q⟩
  tups := fun b xs q => by rw [upd_ne (ne_of_none q hn)]; exact q
  frzs := fun b u xs q => by rw [upd_ne (ne_of_none q hn)]; exact q
  tbls := fun b ps q => ⟨#[], by rw [upd_ne (ne_of_none q hn), q]; simp⟩
theorem Un.write (mu : Mut (H x)) (he : e = x ∨ H e = some (.own x)) (k : ∀ b u, b ≠ e → h.get? b = some u → h'.get? b = some u) (heo : ∃ u, h'.get? e = some u) : Un fs ex H (upd H x o) h h' := by
  have hx : ∀ b, H b = none → b ≠ x := fun b n z => by subst z; rw [n] at mu; exact mu
  have hb : ∀ b, H b = none → b ≠ e := fun b n z => by
    subst z
    rcases he with r | r
    · exact hx b n r
    · rw [n] at r; cases r
  have hm : ∀ b u, H b = some u → ¬ Mut (some u) → b ≠ x := fun b u q nm z => by subst z; rw [q] at mu; exact nm mu
  refine ⟨fun b u q n _ _ => k b u (hb b n) q, fun b u q n _ _ => ⟨u.slots, k b u (hb b n) q⟩, fun b u q n _ => by rw [upd_ne (hx b n)]; exact n, fun b u q _ => ?_,
    fun b xs q => by rw [upd_ne (hm b _ q fun z => z)]; exact q, fun b u xs q => by rw [upd_ne (hm b _ q fun z => z)]; exact q, fun b ps q => ⟨#[], by rw [upd_ne (hm b _ q fun z => z), q]; simp⟩⟩
  by_cases hbe : b = e
  · subst hbe; exact heo
  · exact ⟨u, k b u hbe q⟩
theorem Un.mono (u : Un fs ex H H1 h h1) (hs : ∀ b ∈ fs, b ∈ fs') (hx : ∀ b ∈ ex, b ∈ ex') : Un fs' ex' H H1 h h1 :=
  ⟨fun b ob q n hb he => u.keep b ob q n (fun z => hb (hs b z)) fun z => he (hx b z), fun _ _ q n _ he => u.any q n fun z => he (hx _ z), fun b ob q n he => u.free b ob q n fun z => he (hx b z), fun b ob q he => u.there b ob q fun z => he (hx b z), u.tups, u.frzs, u.tbls⟩
end

noncomputable def trk (h : Heap) (H : Hp) : List Addr := (List.range h.objs.size).filter fun a => (H a).isSome
noncomputable def hidT (h : Heap) (H : Hp) : Heap := PySem.W.hideAll h (trk h H)
theorem hidT_size (h : Heap) (H : Hp) : (hidT h H).objs.size = h.objs.size := PySem.W.hideAll_size _ _
theorem hidT_get {h : Heap} {H : Hp} {b : Addr} {o : Obj} (e : h.get? b = some o) (n : H b = none) : (hidT h H).get? b = some o :=
  PySem.W.hideAll_get _ e fun hm => by
    have q : (H b).isSome = true := (List.mem_filter.mp hm).2
    rw [n] at q; simp at q
theorem of_hidT {h : Heap} {H : Hp} {b : Addr} {o : Obj} (e : (hidT h H).get? b = some o) : h.get? b = some o ∧ H b = none := by
  have e' : h.get? b = some o := PySem.W.of_hideAll (trk h H) e
  refine ⟨e', ?_⟩
  cases q : H b with
  | none => rfl
  | some x =>
    have hm : b ∈ trk h H := List.mem_filter.mpr ⟨List.mem_range.mpr (Heap.lt_size e'), by simp [q]⟩
    have z : (hidT h H).get? b = none := PySem.W.hideAll_none (trk h H) hm
    rw [z] at e; cases e

noncomputable def allNews (g h : Heap) (L : Addr) : List (Addr × Obj) := (List.range h.objs.size).filterMap fun a => if a = L ∨ (g.get? a).isSome = true then none else (h.get? a).map fun o => (a, o)
noncomputable def rest (g h : Heap) (L d : Addr) : List (Addr × Obj) := (allNews g h L).filter fun p => decide (p.1 ≠ d)
end L2

namespace L2
open PySem PySem.Spec PyProof.Rows

structure Mod (K : PySem.W.Frag) (mg : Str → Option Value) (base : Heap) : Prop where
  kin : K.In base
  glob : base.Ns mainGlobals mg
  blt : ∃ mb, base.Ns builtinsNs mb ∧ ∀ x : Str, x ≠ "__name__" → mb x = bootBuiltins x
  nolimit : base.NoLimit

structure Cx where
  prog : Program
  w : World
  K : PySem.W.Frag
  mg : Str → Option Value
  base : Heap
  A : Around
  N : List Str
  s₀ : Shared
  H₀ : Hp
  env : Env
  outer : List Env
  stack : List Env
  ex : List Addr
  fn : Str → Bool
  calm : Bool
  pn : List (Addr × Obj)
  xe : Value → Shared → Prop
noncomputable def frs (l : List Env) : List Addr := l.filterMap (·.frame)
noncomputable abbrev Cx.fs (X : Cx) : List Addr := frs X.outer

noncomputable def Vis (sc : Scope) (x : Str) : Prop := sc.names.lookup x = some .local ∨ sc.names.lookup x = some .cell ∨ sc.names.lookup x = some .free
noncomputable def Loc (sc : Scope) (x : Str) : Prop := sc.names.lookup x = some .local ∨ sc.names.lookup x = some .cell
noncomputable def Look (env : Env) (h : Heap) (m : Str → Option Value) (x : Str) (u : Value) : Prop :=
  (env.kindOf x = some .local ∧ m x = some u) ∨ ((env.kindOf x = some .cell ∨ env.kindOf x = some .free) ∧ ∃ c, env.cells.lookup x = some c ∧ h.IsCell c (some u))

structure Cx.Ok (X : Cx) : Prop where
  mod : Mod X.K X.mg X.base
  kind : X.env.scope.kind = .function
  glob : X.env.globals = mainGlobals
  blt : X.env.builtins = builtinsNs
  above : X.s₀.heap.objs.size ≤ X.env.locals
  inj : ∀ x y c, X.env.cells.lookup x = some c → X.env.cells.lookup y = some c → x = y
  has : ∀ x, (X.env.kindOf x = some .cell ∨ X.env.kindOf x = some .free) → ∃ c, X.env.cells.lookup x = some c
  cab : ∀ x c, X.fn x = true → X.env.cells.lookup x = some c → X.s₀.heap.objs.size ≤ c
  hd : X.calm = true → X.A.handled = none
  frames : X.A.frames = some X.stack
  stk : X.stack = X.outer ∨ (X.stack = X.env :: X.outer ∧ X.env.frame = some X.env.locals)
  exf : ∀ b ∈ X.ex, b ≠ X.env.locals ∧ ∀ x c, X.env.cells.lookup x = some c → c ≠ b
  bs : ∀ b o, X.base.get? b = some o → X.s₀.heap.get? b = some o ∧ X.H₀ b = none
  bsz : X.base.objs.size ≤ X.s₀.heap.objs.size
  noex : ∀ b o, X.base.get? b = some o → b ∉ X.ex
  exfs : ∀ b ∈ X.ex, b ∉ X.fs
  funs : X.s₀.heap.FunFrames X.base X.outer
  frf : ∀ b ∈ X.fs, X.H₀ b = none

structure Inv (X : Cx) (pins : List (Addr × Obj)) (σ : List (Option V)) (H : Hp) (s : Shared) : Prop where
  ok : X.Ok
  os : s.os = X.s₀.os
  bare : AllBare s.gens
  base : Un X.fs X.ex X.H₀ H X.s₀.heap s.heap
  loc : ∃ m, s.heap.Ns X.env.locals m ∧ ∀ (i : Nat) (x : Str) (v : V), X.N[i]? = some x → σ[i]? = some (some v) → Vis X.env.scope x → ∃ u, RelV v u ∧ Look X.env s.heap m x u
  cell : ∀ x c, X.env.cells.lookup x = some c → ∃ v, s.heap.IsCell c v
  free : H X.env.locals = none
  freeC : ∀ x c, X.env.cells.lookup x = some c → H c = none
  pin : ∀ p ∈ X.pn ++ pins, s.heap.get? p.1 = some p.2 ∧ H p.1 = none ∧ p.1 ≠ X.env.locals ∧ p.1 ∉ X.fs ∧ ∀ v, p.2.data ≠ .cell v
  hok : HOk X.prog X.w H s.heap
  len : σ.length = X.N.length

section
variable {X : Cx} {pins : List (Addr × Obj)} {σ : List (Option V)} {H H' : Hp} {s : Shared} {h' : Heap}

theorem Cx.Ok.nofr (ok : X.Ok) {b : Addr} {o : Obj} (e : X.base.get? b = some o) : b ∉ X.fs := fun hb => by
  have := (ok.funs.mem hb).1
  rw [e] at this; cases this
theorem Inv.bs (I : Inv X pins σ H s) : ∀ b o, X.base.get? b = some o → s.heap.get? b = some o ∧ H b = none := fun b o e =>
  ⟨I.base.keep b o (I.ok.bs b o e).1 (I.ok.bs b o e).2 (I.ok.nofr e) (I.ok.noex b o e), I.base.free b o (I.ok.bs b o e).1 (I.ok.bs b o e).2 (I.ok.noex b o e)⟩
theorem Inv.bk (I : Inv X pins σ H s) : ∀ b o, X.base.get? b = some o → s.heap.get? b = some o := fun b o e => (I.bs b o e).1
theorem Inv.mod (I : Inv X pins σ H s) : Mod X.K X.mg X.base := I.ok.mod
theorem Inv.kIn (I : Inv X pins σ H s) : X.K.In s.heap := I.ok.mod.kin.keeps I.bk
theorem Inv.nolimit (I : Inv X pins σ H s) : s.heap.NoLimit := I.ok.mod.nolimit.keeps I.bk
theorem Inv.fr (I : Inv X pins σ H s) : ∃ m, Fr X.base X.env.locals s.heap m :=
  let ⟨m, hn, _⟩ := I.loc
  ⟨m, hn, I.bk, Nat.le_trans I.ok.bsz I.ok.above⟩
theorem Inv.lt (I : Inv X pins σ H s) : X.env.locals < s.heap.objs.size := let ⟨_, hn, _⟩ := I.loc; hn.lt
theorem Inv.sz (I : Inv X pins σ H s) : X.s₀.heap.objs.size ≤ s.heap.objs.size := Nat.le_trans I.ok.above (Nat.le_of_lt I.lt)
theorem Inv.nofs (I : Inv X pins σ H s) {a : Addr} (h : s.heap.objs.size ≤ a) : a ∉ X.fs := fun hb => by
  obtain ⟨_, o, ho, _⟩ := I.ok.funs.mem hb
  exact absurd (Nat.lt_of_lt_of_le (Heap.lt_size ho) (Nat.le_trans I.sz h)) (Nat.lt_irrefl _)
theorem Inv.cne (I : Inv X pins σ H s) : ∀ x c, X.env.cells.lookup x = some c → c ≠ X.env.locals := fun x c e z => by
  obtain ⟨v, o, ho, hd⟩ := I.cell x c e
  obtain ⟨m, ⟨o', es, ep, ho', hd', _⟩, _⟩ := I.loc
  rw [z, ho'] at ho; cases ho; rw [hd'] at hd; cases hd
theorem Inv.funs (I : Inv X pins σ H s) : s.heap.FunFrames X.base X.outer := by
  have all : ∀ (l : List Env), (∀ b ∈ frs l, b ∈ X.fs) → X.s₀.heap.FunFrames X.base l → s.heap.FunFrames X.base l := by
    intro l
    induction l with
    | nil => intro _ _; trivial
    | cons env r ih =>
      intro hs hl
      obtain ⟨hk, ⟨L, o, hf, hn, ho, hd⟩, hr⟩ := hl
      have hL : L ∈ X.fs := hs L (by unfold frs; rw [List.filterMap_cons, hf]; exact List.mem_cons_self)
      obtain ⟨sl, e⟩ := I.base.slot L o ho (I.ok.frf L hL) hL fun z => I.ok.exfs L z hL
      exact ⟨hk, ⟨L, _, hf, hn, e, hd⟩, ih (fun b hb => hs b (by unfold frs; rw [List.filterMap_cons, hf]; exact List.mem_cons_of_mem _ hb)) hr⟩
  exact all X.outer (fun _ hb => hb) I.ok.funs

theorem Inv.stack (I : Inv X pins σ H s) : s.heap.FunFrames X.base X.stack := by
  rcases I.ok.stk with e | ⟨e, hf⟩
  · rw [e]; exact I.funs
  · rw [e]
    obtain ⟨m, hn, _⟩ := I.loc
    refine .cons (by rw [I.ok.kind]; decide) hf hn ?_ I.funs
    exact Heap.get?_none_of_le (Nat.le_trans I.ok.bsz I.ok.above)
theorem Inv.stkSub (I : Inv X pins σ H s) : ∀ b ∈ frs X.stack, b ∈ X.env.locals :: X.fs := fun b hb => by
  rcases I.ok.stk with e | ⟨e, hf⟩
  · rw [e] at hb; exact List.mem_cons_of_mem _ hb
  · rw [e] at hb
    unfold frs at hb
    rw [List.filterMap_cons, hf] at hb
    exact hb
theorem Inv.stkFree (I : Inv X pins σ H s) : ∀ b ∈ frs X.stack, H b = none := fun b hb => by
  rcases List.mem_cons.mp (I.stkSub b hb) with e | hb
  · rw [e]; exact I.free
  · obtain ⟨_, o, ho, _⟩ := I.ok.funs.mem hb
    exact I.base.free b o ho (I.ok.frf b hb) fun z => I.ok.exfs b z hb

theorem Inv.step {g' : Array GenState} {t' : Nat} {d' : Drawn} {ch : List Addr} (I : Inv X pins σ H s)
    (hch : ∀ b ∈ ch, (b ∈ X.ex ∨ X.s₀.heap.objs.size ≤ b) ∧ b ≠ X.env.locals ∧ (∀ x c, X.env.cells.lookup x = some c → c ≠ b) ∧ ∀ p ∈ X.pn ++ pins, p.1 ≠ b)
    (keep : ∀ b o, b ≠ X.env.locals → b ∉ X.fs → b ∉ ch → s.heap.get? b = some o → H b = none → h'.get? b = some o)
    (slot : ∀ b o, b ≠ X.env.locals → b ∈ X.fs → b ∉ ch → s.heap.get? b = some o → H b = none → ∃ sl, h'.get? b = some { o with slots := sl }) (free : ∀ b o, b ∉ ch → s.heap.get? b = some o → H b = none → H' b = none)
    (there : ∀ b o, b ∉ ch → s.heap.get? b = some o → ∃ o', h'.get? b = some o')
    (tups : ∀ b xs, H b = some (.tup xs) → H' b = some (.tup xs)) (frzs : ∀ b o u, H b = some (.frz o u) → H' b = some (.frz o u)) (tbls : ∀ b ps, H b = some (.tbl ps) → ∃ more, H' b = some (.tbl (ps ++ more)))
    (ns : ∀ m, s.heap.Ns X.env.locals m → h'.Ns X.env.locals m) (hok : HOk X.prog X.w H' h') (hg : AllBare g') :
    Inv X pins σ H' { s with heap := h', gens := g', drawn := d', toks := t' } := by
  have neL : ∀ b o, X.s₀.heap.get? b = some o → b ≠ X.env.locals := fun b o e => Nat.ne_of_lt (Nat.lt_of_lt_of_le (Heap.lt_size e) I.ok.above)
  have neC : ∀ b o, X.s₀.heap.get? b = some o → b ∉ X.ex → b ∉ ch := fun b o e hx hb => by
    rcases (hch b hb).1 with z | z
    · exact hx z
    · exact absurd (Nat.lt_of_lt_of_le (Heap.lt_size e) z) (Nat.lt_irrefl _)
  have cellK : ∀ x c, X.env.cells.lookup x = some c → ∀ v, s.heap.IsCell c v → h'.IsCell c v := fun x c e v ⟨o, ho, hd⟩ => by
    have nch : c ∉ ch := fun z => (hch c z).2.2.1 x c e rfl
    by_cases hc : c ∈ X.fs
    · obtain ⟨sl, q⟩ := slot c o (I.cne x c e) hc nch ho (I.freeC x c e)
      exact ⟨_, q, hd⟩
    · exact ⟨o, keep c o (I.cne x c e) hc nch ho (I.freeC x c e), hd⟩
  refine ⟨I.ok, I.os, hg, ⟨fun b o e n hb hx => ?_, fun b o e n hb hx => ?_, fun b o e n hx => ?_, fun b o e hx => ?_, fun b xs e => tups b xs (I.base.tups b xs e), fun b o xs e => frzs b o xs (I.base.frzs b o xs e), fun b ps e => ?_⟩, ?_, fun x c e => ?_, ?_, fun x c e => ?_, fun p hp => ?_, hok, I.len⟩
  · exact keep b o (neL b o e) hb (neC b o e hx) (I.base.keep b o e n hb hx) (I.base.free b o e n hx)
  · obtain ⟨sl, e1⟩ := I.base.slot b o e n hb hx
    obtain ⟨sl', e2⟩ := slot b _ (neL b o e) hb (neC b o e hx) e1 (I.base.free b o e n hx)
    exact ⟨sl', e2⟩
  · obtain ⟨o', e1⟩ := I.base.there b o e hx
    exact free b o' (neC b o e hx) e1 (I.base.free b o e n hx)
  · obtain ⟨o', e1⟩ := I.base.there b o e hx
    exact there b o' (neC b o e hx) e1
  · obtain ⟨m1, e1⟩ := I.base.tbls b ps e
    obtain ⟨m2, e2⟩ := tbls b _ e1
    exact ⟨m1 ++ m2, by rw [e2, Array.append_assoc]⟩
  · obtain ⟨m, hn, hl⟩ := I.loc
    refine ⟨m, ns m hn, fun i x v e1 e2 e3 => ?_⟩
    obtain ⟨u, r, l⟩ := hl i x v e1 e2 e3
    refine ⟨u, r, ?_⟩
    rcases l with l | ⟨k, c, e, z⟩
    · exact .inl l
    · exact .inr ⟨k, c, e, cellK x c e _ z⟩
  · obtain ⟨v, z⟩ := I.cell x c e
    exact ⟨v, cellK x c e v z⟩
  · obtain ⟨m, ⟨o, _, _, ho, _⟩, _⟩ := I.loc
    exact free _ o (fun z => (hch _ z).2.1 rfl) ho I.free
  · obtain ⟨v, o, ho, hd⟩ := I.cell x c e
    exact free c o (fun z => (hch c z).2.2.1 x c e rfl) ho (I.freeC x c e)
  · obtain ⟨e, n, ne, nf, d⟩ := I.pin p hp
    have nch : p.1 ∉ ch := fun z => (hch p.1 z).2.2.2 p hp rfl
    exact ⟨keep p.1 p.2 ne nf nch e n, free p.1 p.2 nch e n, ne, nf, d⟩
theorem Inv.un {t' : Nat} (I : Inv X pins σ H s) (u : Un X.fs [] H H' s.heap h') (hok : HOk X.prog X.w H' h') : Inv X pins σ H' { s with heap := h', toks := t' } := by
  obtain ⟨m, ⟨o, es, ep, ho, r⟩, _⟩ := id I.loc
  obtain ⟨sl, hL⟩ := u.any ho I.free (by simp)
  exact I.step (g' := s.gens) (d' := s.drawn) (ch := []) (fun _ z => nomatch z) (fun b o _ hb _ e n => u.keep b o e n hb (by simp)) (fun b o _ hb _ e n => u.slot b o e n hb (by simp)) (fun b o _ e n => u.free b o e n (by simp)) (fun b o _ e => u.there b o e (by simp)) u.tups u.frzs u.tbls (fun m' hm => by
    obtain ⟨o', es', ep', ho', r'⟩ := hm
    rw [ho] at ho'; cases ho'
    exact ⟨_, es', ep', hL, r'⟩) hok I.bare
theorem Inv.call {g' : Array GenState} {t' : Nat} {d' : Drawn} {ch : List Addr} (I : Inv X pins σ H s) (u : Un (frs X.stack) ch H H' s.heap h') (hok : HOk X.prog X.w H' h') (hg : AllBare g')
    (hch : ∀ b ∈ ch, (b ∈ X.ex ∨ X.s₀.heap.objs.size ≤ b) ∧ b ≠ X.env.locals ∧ (∀ x c, X.env.cells.lookup x = some c → c ≠ b) ∧ ∀ p ∈ X.pn ++ pins, p.1 ≠ b) :
    Inv X pins σ H' { s with heap := h', gens := g', drawn := d', toks := t' } := by
  obtain ⟨m, ⟨o, es, ep, ho, r⟩, _⟩ := id I.loc
  obtain ⟨sl, hL⟩ := u.any ho I.free fun z => (hch _ z).2.1 rfl
  exact I.step (ch := ch) hch (fun b o hL hb hc e n => u.keep b o e n (fun z => (List.mem_cons.mp (I.stkSub b z)).elim hL hb) hc) (fun b o _ _ hc e n => u.any e n hc) (fun b o hc e n => u.free b o e n hc) (fun b o hc e => u.there b o e hc) u.tups u.frzs u.tbls (fun m' hm => by
    obtain ⟨o', es', ep', ho', r'⟩ := hm
    rw [ho] at ho'; cases ho'
    exact ⟨_, es', ep', hL, r'⟩) hok hg
theorem Inv.turned {t' : Nat} {it : Addr} (I : Inv X pins σ H s) (k : ∀ b o, b ≠ it → s.heap.get? b = some o → h'.get? b = some o) (hn : H it = none) (hL : it ≠ X.env.locals)
    (h1 : it ∈ X.ex ∨ X.s₀.heap.objs.size ≤ it) (h2 : ∀ x c, X.env.cells.lookup x = some c → c ≠ it) (h3 : ∀ p ∈ X.pn ++ pins, p.1 ≠ it) : Inv X pins σ H { s with heap := h', toks := t' } := by
  have nit : ∀ b u, H b = some u → b ≠ it := fun b u e z => by rw [z, hn] at e; cases e
  refine I.step (g' := s.gens) (d' := s.drawn) (ch := [it]) (fun b hb => ?_) (fun b o _ _ hc e _ => k b o (fun z => hc (by simp [z])) e) (fun b o _ _ hc e _ => ⟨o.slots, k b o (fun z => hc (by simp [z])) e⟩) (fun _ _ _ _ n => n)
    (fun b o hc e => ⟨o, k b o (fun z => hc (by simp [z])) e⟩) (fun _ _ e => e) (fun _ _ _ e => e) (fun b ps e => ⟨#[], by rw [e]; simp⟩) (fun m hm => ?_) (fun b u e => ?_) I.bare
  · have e : b = it := by simpa using hb
    subst e
    exact ⟨h1, hL, h2, h3⟩
  · obtain ⟨o, es, ep, ho, r⟩ := hm
    exact ⟨o, es, ep, k _ o (Ne.symm hL) ho, r⟩
  · refine (I.hok b u e).stay (fun c v hc q => k c v ?_ q) (fun _ q => q) fun _ _ q => q
    rcases hc with z | z
    · rw [z]; exact nit b u e
    · exact nit c _ z
theorem Inv.tok (I : Inv X pins σ H s) (t : Nat) : Inv X pins σ H { s with toks := t } := I.un (h' := s.heap) (t' := t) Un.refl I.hok
theorem Inv.kept {t' : Nat} (I : Inv X pins σ H s) (k : ∀ b u, s.heap.get? b = some u → h'.get? b = some u) : Inv X pins σ H { s with heap := h', toks := t' } := I.un (Un.kept k) (I.hok.kept k)
theorem Inv.laid {a : Addr} {o : HO} {t' : Nat} (I : Inv X pins σ H s) (k : ∀ b u, s.heap.get? b = some u → h'.get? b = some u) (hp : s.heap.objs.size ≤ a) (new : ObjOk X.prog X.w (upd H a o) h' a o) :
    Inv X pins σ (upd H a o) { s with heap := h', toks := t' } := I.un (Un.laid k hp (I.hok.fresh hp)) (I.hok.laid k hp new)
theorem Inv.write {x e : Addr} {o : HO} {t' : Nat} (I : Inv X pins σ H s) (mu : Mut (H x)) (he : e = x ∨ H e = some (.own x)) (k : ∀ b u, b ≠ e → s.heap.get? b = some u → h'.get? b = some u) (heo : ∃ u, h'.get? e = some u)
    (new : ObjOk X.prog X.w (upd H x o) h' x o) : Inv X pins σ (upd H x o) { s with heap := h', toks := t' } := I.un (Un.write mu he k heo) (I.hok.write mu he k heo new)
theorem Inv.pins_of {pins' : List (Addr × Obj)} (I : Inv X pins σ H s) (h : ∀ p ∈ pins', s.heap.get? p.1 = some p.2 ∧ H p.1 = none ∧ p.1 ≠ X.env.locals ∧ p.1 ∉ X.fs ∧ ∀ v, p.2.data ≠ .cell v) : Inv X pins' σ H s :=
  ⟨I.ok, I.os, I.bare, I.base, I.loc, I.cell, I.free, I.freeC, fun p hp => (List.mem_append.mp hp).elim (fun z => I.pin p (List.mem_append_left _ z)) (h p), I.hok, I.len⟩

theorem nodup_ix {N : List Str} (hN : N.Nodup) {i j : Nat} {x : Str} (a : N[i]? = some x) (b : N[j]? = some x) : i = j := by
  obtain ⟨h1, e1⟩ := List.getElem?_eq_some_iff.mp a
  obtain ⟨h2, e2⟩ := List.getElem?_eq_some_iff.mp b
  exact (List.getElem_inj hN).mp (e1.trans e2.symm)

theorem store_ok2 {M : Model} {A : Around} {E : Value → Shared → Prop} {i : Nat} {x : Str} {v : V} {u : Value} {Q : Unit → Shared → Prop} (I : Inv X pins σ H s) (hN : X.N.Nodup) (hi : X.N[i]? = some x) (hx : Loc X.env.scope x) (r : RelV v u)
    (h : ∀ s', Inv X pins (σ.set i (some v)) H s' → (∃ a, Heap.SameBut a s.heap s'.heap ∧ (a = X.env.locals ∨ X.env.cells.lookup x = some a)) → Q () s') (hf : X.fn x = true ∨ X.env.scope.names.lookup x = some .local := by first | exact .inl rfl | exact .inr rfl | assumption) : wpAny M A (storeName X.env x u) Q E s := by
  obtain ⟨m, hn, hl⟩ := id I.loc
  have hcls : (X.env.scope.kind == .class || (X.env.scope.kind == .module && X.env.locals != X.env.globals)) = false := by rw [I.ok.kind]; rfl
  have hiσ : i < σ.length := by rw [I.len]; exact (List.getElem?_eq_some_iff.mp hi).1
  have cne := I.cne
  have tracked : ∀ {a : Addr} {h' : Heap}, (∃ o, s.heap.get? a = some o ∧ H a = none) → Heap.SameBut a s.heap h' → HOk X.prog X.w H h' := fun {a h'} ha hs b ob e => by
    obtain ⟨_, _, hfree⟩ := ha
    refine (I.hok b ob e).stay (fun c w' hc q => (hs.2 c ?_).trans q) (fun _ q => q) fun _ _ q => q
    rintro rfl
    rcases hc with rfl | hc
    · rw [hfree] at e; cases e
    · rw [hfree] at hc; cases hc
  rcases hx with hk | hk
  · refine wpAny_storeName_local hk hn (fun h' hn' hs => ?_) hcls
    obtain ⟨oL, _, _, hoL, _⟩ := id hn
    refine h _ ⟨I.ok, I.os, I.bare, ⟨fun b o e n hb hx => ?_, fun b o e n hb hx => ?_, I.base.free, fun b o e hx => ?_, I.base.tups, I.base.frzs, I.base.tbls⟩, ⟨_, hn', fun j y v' e1 e2 e3 => ?_⟩, fun y c e => ?_, I.free, I.freeC, fun p hp => ?_, tracked ⟨oL, hoL, I.free⟩ hs, by simpa using I.len⟩ ⟨_, hs, .inl rfl⟩
    · exact (hs.2 b (Nat.ne_of_lt (Nat.lt_of_lt_of_le (Heap.lt_size e) I.ok.above))).trans (I.base.keep b o e n hb hx)
    · obtain ⟨sl, e1⟩ := I.base.slot b o e n hb hx
      exact ⟨sl, (hs.2 b (Nat.ne_of_lt (Nat.lt_of_lt_of_le (Heap.lt_size e) I.ok.above))).trans e1⟩
    · obtain ⟨o', e1⟩ := I.base.there b o e hx
      exact ⟨o', (hs.2 b (Nat.ne_of_lt (Nat.lt_of_lt_of_le (Heap.lt_size e) I.ok.above))).trans e1⟩
    · by_cases hj : j = i
      · subst hj
        rw [hi] at e1; cases e1
        rw [List.getElem?_set_self hiσ] at e2
        cases e2
        exact ⟨u, r, .inl ⟨hk, by simp⟩⟩
      · rw [List.getElem?_set_ne (Ne.symm hj)] at e2
        obtain ⟨u', r', q⟩ := hl j y v' e1 e2 e3
        refine ⟨u', r', ?_⟩
        rcases q with ⟨k, e⟩ | ⟨k, c, e, z⟩
        · refine .inl ⟨k, ?_⟩
          have : y ≠ x := fun e => hj (nodup_ix hN e1 (e ▸ hi))
          simp [this, e]
        · exact .inr ⟨k, c, e, z.sameBut hs (cne y c e)⟩
    · obtain ⟨w', z⟩ := I.cell y c e
      exact ⟨w', z.sameBut hs (cne y c e)⟩
    · obtain ⟨e, n, ne, nf, d⟩ := I.pin p hp
      exact ⟨(hs.2 p.1 ne).trans e, n, ne, nf, d⟩
  · have hfn : X.fn x = true := by
      rcases hf with z | z
      · exact z
      · rw [z] at hk; cases hk
    obtain ⟨c, hc⟩ := I.ok.has x (.inl hk)
    obtain ⟨w', z⟩ := I.cell x c hc
    refine wpAny_storeName_cell I.ok.kind hk hc z (fun h' hc' hs => ?_)
    obtain ⟨oc, hoc, hocd⟩ := id z
    refine h { s with heap := h' } ⟨I.ok, I.os, I.bare, ⟨fun b o e n hb hx => ?_, fun b o e n hb hx => ?_, I.base.free, fun b o e hx => ?_, I.base.tups, I.base.frzs, I.base.tbls⟩, ⟨m, hn.sameBut hs (Ne.symm (cne x c hc)), fun j y v' e1 e2 e3 => ?_⟩, fun y c' e => ?_, I.free, I.freeC, fun p hp => ?_, tracked ⟨oc, hoc, I.freeC x c hc⟩ hs, by simpa using I.len⟩ ⟨c, hs, .inr hc⟩
    · exact (hs.2 b (Nat.ne_of_lt (Nat.lt_of_lt_of_le (Heap.lt_size e) (I.ok.cab x c hfn hc)))).trans (I.base.keep b o e n hb hx)
    · obtain ⟨sl, e1⟩ := I.base.slot b o e n hb hx
      exact ⟨sl, (hs.2 b (Nat.ne_of_lt (Nat.lt_of_lt_of_le (Heap.lt_size e) (I.ok.cab x c hfn hc)))).trans e1⟩
    · obtain ⟨o', e1⟩ := I.base.there b o e hx
      exact ⟨o', (hs.2 b (Nat.ne_of_lt (Nat.lt_of_lt_of_le (Heap.lt_size e) (I.ok.cab x c hfn hc)))).trans e1⟩
    · by_cases hj : j = i
      · subst hj
        rw [hi] at e1; cases e1
        rw [List.getElem?_set_self hiσ] at e2
        cases e2
        exact ⟨u, r, .inr ⟨.inl hk, c, hc, hc'⟩⟩
      · rw [List.getElem?_set_ne (Ne.symm hj)] at e2
        obtain ⟨u', r', q⟩ := hl j y v' e1 e2 e3
        refine ⟨u', r', ?_⟩
        rcases q with q | ⟨k, c', e, z'⟩
        · exact .inl q
        · refine .inr ⟨k, c', e, z'.sameBut hs ?_⟩
          rintro rfl
          exact hj (nodup_ix hN e1 (I.ok.inj _ _ _ e hc ▸ hi))
    · by_cases hcc : c' = c
      · subst hcc; exact ⟨_, hc'⟩
      · obtain ⟨w2, z2⟩ := I.cell y c' e
        exact ⟨w2, z2.sameBut hs hcc⟩
    · obtain ⟨e, n, ne, nf, d⟩ := I.pin p hp
      refine ⟨(hs.2 p.1 ?_).trans e, n, ne, nf, d⟩
      intro q
      rw [q, hoc] at e
      have q' : oc = p.2 := Option.some.inj e
      exact d w' (by rw [← q']; exact hocd)
theorem store_ok {M : Model} {A : Around} {E : Value → Shared → Prop} {i : Nat} {x : Str} {v : V} {u : Value} {Q : Unit → Shared → Prop} (I : Inv X pins σ H s) (hN : X.N.Nodup) (hi : X.N[i]? = some x) (hx : Loc X.env.scope x) (r : RelV v u)
    (h : ∀ s', Inv X pins (σ.set i (some v)) H s' → Q () s') (hf : X.fn x = true ∨ X.env.scope.names.lookup x = some .local := by first | exact .inl rfl | exact .inr rfl | assumption) : wpAny M A (storeName X.env x u) Q E s :=
  store_ok2 I hN hi hx r (fun s' I' _ => h s' I') hf
theorem Inv.call' {s' : Shared} {ch : List Addr} (I : Inv X pins σ H s) (ho : s'.os = s.os) (u : Un (frs X.stack) ch H H' s.heap s'.heap) (hok : HOk X.prog X.w H' s'.heap) (hg : AllBare s'.gens)
    (hch : ∀ b ∈ ch, (b ∈ X.ex ∨ X.s₀.heap.objs.size ≤ b) ∧ b ≠ X.env.locals ∧ (∀ x c, X.env.cells.lookup x = some c → c ≠ b) ∧ ∀ p ∈ X.pn ++ pins, p.1 ≠ b) : Inv X pins σ H' s' := by
  obtain ⟨h', g', d', t', o'⟩ := s'
  have e : o' = s.os := ho
  subst e
  exact I.call (g' := g') (t' := t') (d' := d') u hok hg hch
end

noncomputable abbrev XK := Value → Option Addr → Hp → Prop
noncomputable abbrev St := List (Option V)
noncomputable abbrev VK := V → Hp → Prop
noncomputable abbrev TE := St → Hp → VK → Prop
noncomputable abbrev TT := St → Hp → (Bool → Hp → Prop) → Prop
noncomputable abbrev TA := St → Hp → (List V → Hp → Prop) → Prop
structure Ends where
  nx : St → Hp → Prop
  rt : VK
  bk : St → Hp → Prop := fun _ _ => False
  ct : St → Hp → Prop := fun _ _ => False
noncomputable abbrev TS := Ends → St → Hp → Prop

noncomputable def EP (X : Cx) (pins : List (Addr × Obj)) (σ : St) (Q : VK) (u : Value) (s' : Shared) : Prop := ∃ v H', Inv X pins σ H' s' ∧ RelV v u ∧ Q v H'
noncomputable def TP (X : Cx) (pins : List (Addr × Obj)) (σ : St) (Q : Bool → Hp → Prop) (b : Bool) (s' : Shared) : Prop := ∃ H', Inv X pins σ H' s' ∧ Q b H'
noncomputable def AP (X : Cx) (pins : List (Addr × Obj)) (σ : St) (Q : List V → Hp → Prop) (us : List Value) (s' : Shared) : Prop := ∃ vs H', Inv X pins σ H' s' ∧ Vals vs us ∧ Q vs H'
noncomputable def SP (X : Cx) (pins : List (Addr × Obj)) (D : Ends) (f : Flow) (s' : Shared) : Prop :=
  match f with
  | .next => ∃ σ' H', Inv X pins σ' H' s' ∧ D.nx σ' H'
  | .brk => ∃ σ' H', Inv X pins σ' H' s' ∧ D.bk σ' H'
  | .cont => ∃ σ' H', Inv X pins σ' H' s' ∧ D.ct σ' H'
  | .ret u => ∃ v σ' H', Inv X pins σ' H' s' ∧ RelV v u ∧ D.rt v H'

noncomputable def PE (X : Cx) (e : Expr) (t : TE) : Prop :=
  ∀ (pins : List (Addr × Obj)) (s : Shared) (σ : St) (H : Hp) (Q : VK), Inv X pins σ H s → t σ H Q → wpAny (model X.prog X.w) X.A (eval e X.env) (EP X pins σ Q) X.xe s
noncomputable def PT (X : Cx) (e : Expr) (t : TT) : Prop :=
  ∀ (pins : List (Addr × Obj)) (s : Shared) (σ : St) (H : Hp) (Q : Bool → Hp → Prop), Inv X pins σ H s → t σ H Q → wpAny (model X.prog X.w) X.A (isTrue e X.env (eval e X.env)) (TP X pins σ Q) X.xe s
noncomputable def PW (X : Cx) (e : Expr) (t : TT) : Prop :=
  ∀ (whole : Sem Value) (pins : List (Addr × Obj)) (s : Shared) (σ : St) (H : Hp) (Q : Bool → Hp → Prop), Inv X pins σ H s → t σ H Q → wpAny (model X.prog X.w) X.A (isTrue e X.env whole) (TP X pins σ Q) X.xe s
theorem PW.pt {X : Cx} {e : Expr} {t : TT} (h : PW X e t) : PT X e t := h _
noncomputable def PA (X : Cx) (es : List Expr) (t : TA) : Prop :=
  ∀ (pos : Pos) (pins : List (Addr × Obj)) (s : Shared) (σ : St) (H : Hp) (Q : List V → Hp → Prop), Inv X pins σ H s → t σ H Q → wpAny (model X.prog X.w) X.A (spliced (backTo pos (starEach es X.env))) (AP X pins σ Q) X.xe s
noncomputable def PS (X : Cx) (st : Stmt) (t : TS) : Prop :=
  ∀ (pins : List (Addr × Obj)) (s : Shared) (σ : St) (H : Hp) (D : Ends), Inv X pins σ H s → t D σ H → wpAny (model X.prog X.w) X.A (exec st X.env) (SP X pins D) X.xe s
noncomputable def PSs (X : Cx) (st : List Stmt) (t : TS) : Prop :=
  ∀ (pins : List (Addr × Obj)) (s : Shared) (σ : St) (H : Hp) (D : Ends), Inv X pins σ H s → t D σ H → wpAny (model X.prog X.w) X.A (execs st X.env) (SP X pins D) X.xe s
theorem thn {α : Type} {t : Sem α} {Q Q' : α → Shared → Prop} {M : Model} {A : Around} {E : Value → Shared → Prop} {s : Shared} (h : wpAny M A t Q E s) (hQ : ∀ a s, Q a s → Q' a s) : wpAny M A t Q' E s := wpAny_mono h hQ fun _ _ x => x
end L2

namespace L2
open PySem PySem.Spec PyProof.Rows
section
variable {X : Cx}

noncomputable def tVar (i : Nat) : TE := fun σ H Q => ∃ v, σ[i]? = some (some v) ∧ Q v H
noncomputable def tC (v : V) : TE := fun _ H Q => Q v H
theorem pe_var {i : Nat} {x : Str} {pos : Pos} (hN : X.N[i]? = some x) (hv : Vis X.env.scope x) (hd : autoParam ((x == ("__debug__" : Str)) = false) au1_._auto_1) (hcd : autoParam ((x == ("__classdict__" : Str)) = false) au1_._auto_1) : PE X (.Name x pos) (tVar i) := by
  intro pins s σ H Q I h
  obtain ⟨v, e, h⟩ := h
  obtain ⟨m, hn, hl⟩ := I.loc
  obtain ⟨u, r, l⟩ := hl i x v hN e hv
  have fin : EP X pins σ Q u s := ⟨v, H, I, r, h⟩
  rcases l with ⟨hk, hm⟩ | ⟨hk, c, hc, hcell⟩
  · exact wpAny_Name (wpAny_loadName_local I.ok.kind hk hn hm fin) hd
  · rcases hk with hk | hk
    · exact wpAny_Name (wpAny_loadName_cell I.ok.kind hk hc hcell fin) hd
    · exact wpAny_Name (wpAny_loadName_free I.ok.kind hk hc hcell fin hcd) hd
theorem pe_int {i j pos} : PE X (.Constant (.int i) j pos) (tC (.int i)) := fun _ _ _ H _ I h => wpAny_Constant_int ⟨.int i, H, I.tok _, ⟨_, rfl⟩, h⟩
theorem pe_bl {b j pos} : PE X (.Constant (.bool b) j pos) (tC (.bl b)) := fun _ _ _ H _ I h => Constant_bool ⟨.bl b, H, I, rfl, h⟩
theorem pe_non {j pos} : PE X (.Constant .none j pos) (tC .non) := fun _ _ _ H _ I h => Constant_none ⟨.non, H, I, rfl, h⟩
noncomputable def Gl (X : Cx) (x : Str) : Prop := X.env.kindOf x = some .globalImplicit
theorem ld_glob {E : Value → Shared → Prop} {pins : List (Addr × Obj)} {s : Shared} {σ : St} {H : Hp} {x : Str} {u : Value} {pos : Pos} {Q : Value → Shared → Prop} (I : Inv X pins σ H s) (hg : Gl X x) (hm : X.mg x = some u) (h : Q u s)
    (hd : autoParam ((x == ("__debug__" : Str)) = false) au1_._auto_1) : wpAny (model X.prog X.w) X.A (eval (.Name x pos) X.env) Q E s :=
  Calls.Name_function_global I.ok.kind hg (Calls.loadGlobal_global (by rw [I.ok.glob]; exact I.mod.glob.keeps I.bk) hm h) hd
theorem ld_blt {E : Value → Shared → Prop} {pins : List (Addr × Obj)} {s : Shared} {σ : St} {H : Hp} {x : Str} {u : Value} {pos : Pos} {Q : Value → Shared → Prop} (I : Inv X pins σ H s) (hg : Gl X x) (hm : X.mg x = none) (hv : bootBuiltins x = some u) (h : Q u s)
    (hn : autoParam (x ≠ "__name__") au1_._auto_1) (hd : autoParam ((x == ("__debug__" : Str)) = false) au1_._auto_1) : wpAny (model X.prog X.w) X.A (eval (.Name x pos) X.env) Q E s := by
  obtain ⟨mb, h1, h2⟩ := I.mod.blt
  exact Calls.Name_function_global I.ok.kind hg (Calls.loadGlobal_builtin (by rw [I.ok.glob]; exact I.mod.glob.keeps I.bk) hm (by rw [I.ok.blt]; exact h1.keeps I.bk) ((h2 x hn).trans hv) h) hd
variable {a b : Expr} {ta tb : TE} {pos : Pos}
noncomputable def tB (t : TE) : TT := fun σ H Q => t σ H fun x H1 => ∃ c, x = .bl c ∧ Q c H1
theorem pt_val {e : Expr} {t : TE} (h : PE X e t) (he : autoParam (∀ whole, isTrue e X.env whole = (do let v ← whole; standAt e.pos; holding [v] (truthy v))) au2_._auto_1) : PT X e (tB t) := by
  intro pins s σ H Q I hw
  refine isTrue_plain (thn (h pins s σ H _ I hw) fun v s1 ⟨x, H1, I1, r1, q1⟩ => ?_) (he _)
  obtain ⟨d, rfl, q⟩ := q1
  cases r1
  exact wpAny_truthy_bool ⟨H1, I1, q⟩

variable {tA tB' : TT} {rest : List Expr}
noncomputable def tAnd (t u : TT) : TT := fun σ H Q => t σ H fun c H1 => if c = true then u σ H1 Q else Q false H1
noncomputable def tOr (t u : TT) : TT := fun σ H Q => t σ H fun c H1 => if c = true then Q true H1 else u σ H1 Q
noncomputable def tNot (t : TT) : TT := fun σ H Q => t σ H fun c H1 => Q (!c) H1
theorem pw_and1 (ha : PT X a tA) : PW X (.BoolOp .And [a] pos) tA := by
  intro wh pins s σ H Q I h
  refine isTrue_and (thn (ha pins s σ H Q I h) fun c s1 e => ?_)
  cases c with
  | true => exact isTrue_and_nil e
  | false => exact e
theorem pw_or1 (ha : PT X a tA) : PW X (.BoolOp .Or [a] pos) tA := by
  intro wh pins s σ H Q I h
  refine isTrue_or (thn (ha pins s σ H Q I h) fun c s1 e => ?_)
  cases c with
  | false => exact isTrue_or_nil e
  | true => exact e
theorem pw_and (ha : PT X a tA) (hb : PW X (.BoolOp .And (b :: rest) pos) tB') : PW X (.BoolOp .And (a :: b :: rest) pos) (tAnd tA tB') := by
  intro wh pins s σ H Q I h
  refine isTrue_and (thn (ha pins s σ H _ I h) fun c s1 ⟨H1, I1, q1⟩ => ?_)
  cases c with
  | true => exact hb wh pins s1 σ H1 Q I1 q1
  | false => exact ⟨H1, I1, q1⟩
theorem pw_or (ha : PT X a tA) (hb : PW X (.BoolOp .Or (b :: rest) pos) tB') : PW X (.BoolOp .Or (a :: b :: rest) pos) (tOr tA tB') := by
  intro wh pins s σ H Q I h
  refine isTrue_or (thn (ha pins s σ H _ I h) fun c s1 ⟨H1, I1, q1⟩ => ?_)
  cases c with
  | true => exact ⟨H1, I1, q1⟩
  | false => exact hb wh pins s1 σ H1 Q I1 q1
theorem pt_not (ha : PT X a tA) : PT X (.UnaryOp .Not a pos) (tNot tA) := by
  intro pins s σ H Q I h
  exact isTrue_not (ha pins s σ H (fun c H1 => Q (!c) H1) I h)
noncomputable def tAndV (ta tb : TE) : TE := fun σ H Q => ta σ H fun x H1 => ∃ c, x = .bl c ∧ if c = true then tb σ H1 Q else Q (.bl false) H1
noncomputable def tOrV (ta tb : TE) : TE := fun σ H Q => ta σ H fun x H1 => ∃ c, x = .bl c ∧ if c = true then Q (.bl true) H1 else tb σ H1 Q
noncomputable def tNotV (ta : TE) : TE := fun σ H Q => ta σ H fun x H1 => ∃ c, x = .bl c ∧ Q (.bl (!c)) H1
noncomputable def tIf (t : TT) (ta tb : TE) : TE := fun σ H Q => t σ H fun c H1 => if c = true then ta σ H1 Q else tb σ H1 Q
theorem pe_ifExp {c : Expr} (hc : PT X c tA) (ha : PE X a ta) (hb : PE X b tb) : PE X (.IfExp c a b pos) (tIf tA ta tb) := by
  intro pins s σ H Q I h
  refine wpAny_IfExp (thn (hc pins s σ H _ I h) fun d s1 ⟨H1, I1, q1⟩ => ?_)
  cases d with
  | true => exact ha pins s1 σ H1 Q I1 q1
  | false => exact hb pins s1 σ H1 Q I1 q1
end
end L2

namespace L2
open PySem PySem.Spec PyProof.Rows

noncomputable def SqL (K : PySem.W.Frag) (H : Hp) (a : Addr) (xs : List V) : Prop :=
  Rd H a (.lst xs) ∨
    ∃ (o : Obj) (its : Array Value) (n : Nat), K.lookup a = some o ∧ o.cls = .type "list" ∧ o.dict = none ∧ o.data = .seq its n ∧ its.size ≤ sizeLine ∧ Vals xs its.toList
noncomputable def SqT (K : PySem.W.Frag) (H : Hp) (a : Addr) (xs : List V) : Prop :=
  Rd H a (.tup xs) ∨
    ∃ (o : Obj) (its : Array Value) (n : Nat), K.lookup a = some o ∧ o.cls = .type "tuple" ∧ o.data = .seq its n ∧ its.size ≤ sizeLine ∧ Vals xs its.toList
noncomputable def absV : Value → Option V
  | .none => some .non
  | .bool b => some (.bl b)
  | .int i _ => some (.int i)
  | .str x _ => some (.str x)
  | .bytes b _ => some (.byt b)
  | .float b _ => some (.flt b)
  | .ref a => some (.ref a)
  | .type n => some (.ty n)
  | _ => none
theorem RelV.abs {x : V} {u : Value} (r : RelV x u) : absV u = some x := by
  cases x with
  | non => cases r; rfl
  | bl _ => cases r; rfl
  | int _ => obtain ⟨t, rfl⟩ := r; rfl
  | str _ => obtain ⟨t, rfl⟩ := r; rfl
  | byt _ => obtain ⟨t, rfl⟩ := r; rfl
  | flt _ => obtain ⟨t, rfl⟩ := r; rfl
  | ref _ => cases r; rfl
  | ty _ => cases r; rfl
theorem RelV.inj {x y : V} {u : Value} (r : RelV x u) (q : RelV y u) : x = y := Option.some.inj (r.abs.symm.trans q.abs)
theorem Vals.inj : ∀ {xs ys : List V} {us : List Value}, Vals xs us → Vals ys us → xs = ys
  | _, _, _, .nil, .nil => rfl
  | _, _, _, .cons r t, .cons r' t' => by rw [r.inj r', Vals.inj t t']
section
variable {X : Cx} {pins : List (Addr × Obj)} {σ : St} {H : Hp} {s : Shared} {a : Addr} {xs ys : List V}
theorem SqL.of {K : PySem.W.Frag} (h : H a = some (.lst xs)) : SqL K H a xs := .inl (.inl h)
theorem SqT.of {K : PySem.W.Frag} (h : H a = some (.tup xs)) : SqT K H a xs := .inl (.inl h)
theorem Inv.list (I : Inv X pins σ H s) (h : SqL X.K H a xs) : ∃ its : List Value, Vals xs its ∧ PlainL s.heap a its.toArray ∧ xs.length ≤ sizeLine := by
  rcases h with h | ⟨o, its, n, hk, hc, hd, hs, hz, r⟩
  · obtain ⟨z, its, n, r, e⟩ := h.ok I.hok
    exact ⟨its, r, ⟨_, n, e, rfl, rfl, rfl⟩, z⟩
  · refine ⟨its.toList, r, ⟨o, n, I.kIn a o hk, hc, hd, by simpa using hs⟩, ?_⟩
    have e := r.length
    simp only [Array.length_toList] at e
    omega
theorem Inv.tuple (I : Inv X pins σ H s) (h : SqT X.K H a xs) : ∃ its : List Value, Vals xs its ∧ IsTup s.heap a its.toArray ∧ xs.length ≤ sizeLine := by
  rcases h with h | ⟨o, its, n, hk, hc, hs, hz, r⟩
  · obtain ⟨z, its, r, p⟩ := h.ok I.hok
    exact ⟨its, r, p, z⟩
  · refine ⟨its.toList, r, ⟨o, I.kIn a o hk, hc, n, by simpa using hs⟩, ?_⟩
    have e := r.length
    simp only [Array.length_toList] at e
    omega
theorem Inv.list_inj (I : Inv X pins σ H s) (h : SqL X.K H a xs) (h' : SqL X.K H a ys) : xs = ys := by
  obtain ⟨its, r, ⟨o, n, e, _, _, d⟩, _⟩ := I.list h
  obtain ⟨its', r', ⟨o', n', e', _, _, d'⟩, _⟩ := I.list h'
  rw [e] at e'; cases e'
  rw [d] at d'
  injection d' with d1 _
  have : its = its' := by simpa using congrArg Array.toList d1
  subst this
  exact r.inj r'
end

noncomputable abbrev Cx.wish (X : Cx) (E : Value → Shared → Prop) : Cx := { X with xe := E }
noncomputable abbrev Cx.nox (X : Cx) : Cx := X.wish fun _ _ => False
theorem Cx.Ok.wish {X : Cx} (ok : X.Ok) (E : Value → Shared → Prop) : (X.wish E).Ok :=
  ⟨ok.mod, ok.kind, ok.glob, ok.blt, ok.above, ok.inj, ok.has, ok.cab, ok.hd, ok.frames, ok.stk, ok.exf, ok.bs, ok.bsz, ok.noex, ok.exfs, ok.funs, ok.frf⟩
theorem Cx.Ok.unwish {X : Cx} {E : Value → Shared → Prop} (ok : (X.wish E).Ok) : X.Ok :=
  ⟨ok.mod, ok.kind, ok.glob, ok.blt, ok.above, ok.inj, ok.has, ok.cab, ok.hd, ok.frames, ok.stk, ok.exf, ok.bs, ok.bsz, ok.noex, ok.exfs, ok.funs, ok.frf⟩
section
variable {X : Cx} {pins : List (Addr × Obj)} {σ : St} {H : Hp} {s : Shared} {E : Value → Shared → Prop}
theorem Inv.wish (I : Inv X pins σ H s) (E : Value → Shared → Prop) : Inv (X.wish E) pins σ H s := ⟨I.ok.wish E, I.os, I.bare, I.base, I.loc, I.cell, I.free, I.freeC, I.pin, I.hok, I.len⟩
theorem Inv.unwish (I : Inv (X.wish E) pins σ H s) : Inv X pins σ H s := ⟨I.ok.unwish, I.os, I.bare, I.base, I.loc, I.cell, I.free, I.freeC, I.pin, I.hok, I.len⟩
theorem SP.unwish {D : Ends} {f : Flow} {s' : Shared} (h : SP (X.wish E) pins D f s') : SP X pins D f s' := by
  cases f with
  | next => obtain ⟨σ', H', I, q⟩ := h; exact ⟨σ', H', I.unwish, q⟩
  | brk => obtain ⟨σ', H', I, q⟩ := h; exact ⟨σ', H', I.unwish, q⟩
  | cont => obtain ⟨σ', H', I, q⟩ := h; exact ⟨σ', H', I.unwish, q⟩
  | ret u => obtain ⟨v, σ', H', I, r, q⟩ := h; exact ⟨v, σ', H', I.unwish, r, q⟩
theorem PE.nox {e : Expr} {t : TE} (h : PE X.nox e t) : PE X e t := fun pins s σ H Q I hw =>
  wpAny_mono (h pins s σ H Q (I.wish _) hw) (fun _ _ ⟨v, H', I', r, q⟩ => ⟨v, H', I'.unwish, r, q⟩) fun _ _ z => False.elim z
theorem PT.nox {e : Expr} {t : TT} (h : PT X.nox e t) : PT X e t := fun pins s σ H Q I hw =>
  wpAny_mono (h pins s σ H Q (I.wish _) hw) (fun _ _ ⟨H', I', q⟩ => ⟨H', I'.unwish, q⟩) fun _ _ z => False.elim z
theorem PSs.nox {st : List Stmt} {t : TS} (h : PSs X.nox st t) : PSs X st t := fun pins s σ H D I hw =>
  wpAny_mono (h pins s σ H D (I.wish _) hw) (fun _ _ q => q.unwish) fun _ _ z => False.elim z
end

section
variable {X : Cx} {st : Stmt} {rest : List Stmt} {t u : TS} {e : Expr} {te : TE} {pos : Pos}
noncomputable def tNext : TS := fun D σ H => D.nx σ H
noncomputable def tSeq (t u : TS) : TS := fun D σ H => t { D with nx := u D } σ H
theorem pss_nil : PSs X [] tNext := fun _ _ σ H _ I h => wpAny_execs_nil ⟨σ, H, I, h⟩
theorem pss_cons (h1 : PS X st t) (h2 : PSs X rest u) : PSs X (st :: rest) (tSeq t u) := by
  intro pins s σ H D I h
  refine wpAny_execs_cons (thn (h1 pins s σ H { D with nx := u D } I h) fun f s1 q => ?_)
  cases f with
  | next =>
    obtain ⟨σ', H', I', q⟩ := q
    exact h2 pins s1 σ' H' D I' q
  | ret v => exact q
  | brk => exact q
  | cont => exact q
theorem pss_one (h1 : PS X st t) : PSs X [st] t := by
  intro pins s σ H D I h
  refine wpAny_execs_cons (thn (h1 pins s σ H D I h) fun f s1 q => ?_)
  cases f with
  | next => exact wpAny_execs_nil q
  | ret v => exact q
  | brk => exact q
  | cont => exact q
noncomputable def tBreak : TS := fun D σ H => D.bk σ H
noncomputable def tCont : TS := fun D σ H => D.ct σ H
theorem ps_continue : PS X (.Continue pos) tCont := fun _ _ σ H _ I h => wpAny_Continue ⟨σ, H, I, h⟩
theorem Inv.quiet {pins : List (Addr × Obj)} {σ : St} {H : Hp} {s : Shared} (I : Inv X pins σ H s) : interactive X.env = false := by simp [interactive, I.ok.kind]
noncomputable def tDrop (te : TE) : TS := fun D σ H => te σ H fun _ H1 => D.nx σ H1
theorem ps_expr (he : PE X e te) (hs : autoParam (swapsWith e none pos.line X.env = pure false) au0_._auto_1) : PS X (.Expr e pos) (tDrop te) := by
  intro pins s σ H D I h
  exact wpAny_Expr_any (thn (he pins s σ H _ I h) fun v s1 ⟨x, H1, I1, r1, q1⟩ => ⟨σ, H1, I1, q1⟩) I.quiet hs
noncomputable def tRet (te : TE) : TS := fun D σ H => te σ H D.rt
theorem ps_ret (he : PE X e te) : PS X (.Return (some e) pos) (tRet te) := by
  intro pins s σ H D I h
  exact wpAny_Return_some (thn (he pins s σ H _ I h) fun v s1 ⟨x, H1, I1, r1, q1⟩ => ⟨x, σ, H1, I1, r1, q1⟩)
noncomputable def tIfS (c : TT) (t u : TS) : TS := fun D σ H => c σ H fun b H1 => if b = true then t D σ H1 else u D σ H1
theorem ps_if {c : Expr} {a b : List Stmt} {tc : TT} (hc : PT X c tc) (ha : PSs X a t) (hb : PSs X b u) : PS X (.If c a b pos) (tIfS tc t u) := by
  intro pins s σ H D I h
  refine wpAny_If (thn (hc pins s σ H _ I h) fun d s1 ⟨H1, I1, q1⟩ => ?_)
  cases d with
  | true => exact ha pins s1 σ H1 D I1 q1
  | false => exact hb pins s1 σ H1 D I1 q1
end

noncomputable abbrev TG := V → St → Hp → (St → Hp → Prop) → Prop
noncomputable abbrev TGs := List V → St → Hp → (St → Hp → Prop) → Prop
noncomputable def PG (X : Cx) (target : Expr) (t : TG) : Prop :=
  ∀ (pins : List (Addr × Obj)) (s : Shared) (σ : St) (H : Hp) (v : V) (u : Value) (Q : St → Hp → Prop), Inv X pins σ H s → RelV v u → t v σ H Q →
    wpAny (model X.prog X.w) X.A (assign target X.env u) (fun _ s' => ∃ σ' H', Inv X pins σ' H' s' ∧ Q σ' H') X.xe s
noncomputable def PGs (X : Cx) (ts : List Expr) (t : TGs) : Prop :=
  ∀ (pins : List (Addr × Obj)) (s : Shared) (σ : St) (H : Hp) (vs : List V) (us : List Value) (Q : St → Hp → Prop), Inv X pins σ H s → Vals vs us → t vs σ H Q →
    wpAny (model X.prog X.w) X.A (assignInOrder ((assignEach ts X.env).map (·.2)) us) (fun _ s' => ∃ σ' H', Inv X pins σ' H' s' ∧ Q σ' H') X.xe s
noncomputable abbrev TSet := V → V → V → Hp → (Hp → Prop) → Prop
noncomputable def PSet (X : Cx) (t : TSet) : Prop :=
  ∀ (pins : List (Addr × Obj)) (s : Shared) (σ : St) (H : Hp) (o i v : V) (ov iv u : Value) (Q : Hp → Prop), Inv X pins σ H s → RelV o ov → RelV i iv → RelV v u → t o i v H Q →
    wpAny (model X.prog X.w) X.A (setItem ov iv u) (fun _ s' => ∃ H', Inv X pins σ H' s' ∧ Q H') X.xe s
section
variable {X : Cx} {pos : Pos}
noncomputable def gName (i : Nat) : TG := fun v σ H Q => Q (σ.set i (some v)) H
theorem pg_name {i : Nat} {x : Str} (hN : X.N.Nodup) (hi : X.N[i]? = some x) (hx : Loc X.env.scope x) (hf : X.fn x = true ∨ X.env.scope.names.lookup x = some .local := by first | exact .inl rfl | exact .inr rfl | assumption) : PG X (.Name x pos) (gName i) := by
  intro pins s σ H v u Q I r h
  exact wpAny_assign_Name (store_ok I hN hi hx r (fun s' I' => ⟨_, H, I', h⟩) hf)
noncomputable def gNil : TGs := fun vs σ H Q => vs = [] ∧ Q σ H
noncomputable def gCons (t : TG) (u : TGs) : TGs := fun vs σ H Q => ∃ v r, vs = v :: r ∧ t v σ H fun σ' H' => u r σ' H' Q
theorem pgs_nil : PGs X [] gNil := by
  intro pins s σ H vs us Q I r h
  obtain ⟨e, h⟩ := h
  subst e
  cases r
  exact assignInOrder_nil ⟨σ, H, I, h⟩
theorem pgs_cons {e : Expr} {es : List Expr} {t : TG} {u : TGs} (h1 : PG X e t) (h2 : PGs X es u)
    (hs : autoParam ((assignEach (e :: es) X.env).map (·.2) = assign e X.env :: (assignEach es X.env).map (·.2)) au0_._auto_1) : PGs X (e :: es) (gCons t u) := by
  intro pins s σ H vs us Q I r h
  obtain ⟨v, vr, e1, h⟩ := h
  subst e1
  cases r with
  | cons r rr =>
    rw [hs]
    refine assignInOrder_cons (thn (h1 pins s σ H _ _ _ I r h) fun _ s1 ⟨σ1, H1, I1, q1⟩ => ?_)
    exact h2 pins s1 σ1 H1 _ _ Q I1 rr q1
noncomputable def gTup (K : PySem.W.Frag) (n : Nat) (t : TGs) : TG := fun v σ H Q => ∃ a xs, v = .ref a ∧ SqT K H a xs ∧ xs.length = n ∧ t xs σ H Q
theorem pg_tup {es : List Expr} {k : Nat} {t : TGs} {n : Nat} (hc : X.calm = true) (h : PGs X es t)
    (hn : autoParam ((assignEach es X.env).length = n) au0_._auto_1) (hst : autoParam ((assignEach es X.env).findIdx? (·.1) = none) au0_._auto_1) : PG X (.Tuple es k pos) (gTup X.K n t) := by
  intro pins s σ H v u Q I r hw
  obtain ⟨a, xs, e1, hq, hl, hw⟩ := hw
  subst e1
  cases r
  obtain ⟨its, rv, ht, hz⟩ := I.tuple hq
  refine assign_Tuple_tuple (I.ok.hd hc) ht (by simp [hn, ← hl, rv.length]) hst fun h' hx => ?_
  have I1 : Inv X pins σ H { s with heap := h' } := I.kept (t' := s.toks) fun b o e => hx b o (Nat.ne_of_lt (Heap.lt_size e)) e
  exact h pins _ σ H xs _ Q I1 (by simpa using rv) hw
noncomputable def gSub (to ti : TE) (t : TSet) : TG := fun v σ H Q => to σ H fun o H1 => ti σ H1 fun i H2 => t o i v H2 fun H3 => Q σ H3
theorem pg_sub {o i : Expr} {to ti : TE} {t : TSet} (ho : PE X o to) (hi : PE X i ti) (hs : PSet X t)
    (ha : autoParam (∀ v, assign (.Subscript o i pos) X.env v = (do
      let ov ← holding [v] (eval o X.env)
      let iv ← holding [v, ov] (eval i X.env)
      standAt pos
      holding [v, ov, iv] (setItem ov iv v)
      release [v, ov, iv] [])) au2_._auto_1) : PG X (.Subscript o i pos) (gSub to ti t) := by
  intro pins s σ H v u Q I r h
  rw [ha]
  refine wpAny_bind (wpAny_holding (thn (ho pins s σ H _ I h) fun ov s1 ⟨x, H1, I1, r1, q1⟩ => ?_))
  refine wpAny_bind (wpAny_holding (thn (hi pins s1 σ H1 _ I1 q1) fun iv s2 ⟨y, H2, I2, r2, q2⟩ => ?_))
  refine wpAny_bind (wpAny_standAt (wpAny_bind (wpAny_holding (thn (hs pins s2 σ H2 x y v ov iv u _ I2 r1 r2 r q2) fun _ s3 ⟨H3, I3, q3⟩ => ?_))))
  exact wpAny_release ⟨σ, H3, I3, q3⟩
noncomputable def tAsg (te : TE) (g : TG) : TS := fun D σ H => te σ H fun x H1 => g x σ H1 D.nx
theorem ps_asg {tg e : Expr} {te : TE} {g : TG} (he : PE X e te) (hg : PG X tg g) (hs : autoParam (swapsWithSole [tg] e pos.line X.env = pure false) au0_._auto_1) (hw : autoParam (swappedStores [tg] e X.env = pure none) au0_._auto_1)
    (h1 : autoParam ((assignEach [tg] X.env).map (·.2) = [assign tg X.env]) au0_._auto_1) : PS X (.Assign [tg] e pos) (tAsg te g) := by
  intro pins s σ H D I h
  refine wpAny_Assign_stores (thn (he pins s σ H _ I h) fun v s1 ⟨x, H1, I1, r1, q1⟩ => ?_) hs hw
  rw [h1]
  exact thn (hg pins s1 σ H1 x v _ I1 r1 q1) fun _ s2 q => q
theorem ps_set {i : Nat} {x : Str} {e : Expr} {te : TE} {pos' : Pos} (hN : X.N.Nodup) (hi : X.N[i]? = some x) (hx : Loc X.env.scope x) (he : PE X e te) (hs : autoParam (swapsWith e (some (.Name x pos')) pos.line X.env = pure false) au0_._auto_1) (hf : X.fn x = true ∨ X.env.scope.names.lookup x = some .local := by first | exact .inl rfl | exact .inr rfl | assumption) :
    PS X (.Assign [.Name x pos'] e pos) (tAsg te (gName i)) := by
  intro pins s σ H D I h
  refine wpAny_Assign_Name (thn (he pins s σ H _ I h) fun v s1 ⟨y, H1, I1, r1, q1⟩ => ?_) hs
  exact store_ok I1 hN hi hx r1 (fun s2 I2 => ⟨_, H1, I2, q1⟩) hf
noncomputable def tPar (i j : Nat) (ta : TA) : TS := fun D σ H => ta σ H fun vs H1 => ∃ v w, vs = [v, w] ∧ D.nx ((σ.set i (some v)).set j (some w)) H1
theorem ps_par {i j : Nat} {x y : Str} {a b : Expr} {ta : TA} {px py pt : Pos} {kt k2 pt2} (hc : X.calm = true) (hN : X.N.Nodup) (hi : X.N[i]? = some x) (hj : X.N[j]? = some y) (hij : i ≠ j)
    (hx : X.env.scope.names.lookup x = some .local) (hy : X.env.scope.names.lookup y = some .local) (ha : PA X [a, b] ta)
    (hw : swappedStores [.Tuple [.Name x px, .Name y py] kt pt] (.Tuple [a, b] k2 pt2) X.env = pure (some [x, y]))
    (hs : autoParam (swapsWithSole [.Tuple [.Name x px, .Name y py] kt pt] (.Tuple [a, b] k2 pt2) pos.line X.env = pure false) au0_._auto_1) :
    PS X (.Assign [.Tuple [.Name x px, .Name y py] kt pt] (.Tuple [a, b] k2 pt2) pos) (tPar i j ta) := by
  intro pins s σ H D I h
  rw [exec_Assign_arm]
  refine wpAny_bind (wpAny_standAt ?_)
  rw [hs]
  refine wpAny_bind (wpAny_pure ?_)
  rw [if_neg (by decide)]
  refine wpAny_bind (Tuple_ (thn (ha _ pins s σ H _ I h) fun us s1 ⟨vs, H1, I1, r1, q1⟩ => ?_))
  obtain ⟨v, w, e1, q1⟩ := q1
  subst e1
  obtain ⟨u1, u2, rfl, rv, rw'⟩ : ∃ u1 u2, us = [u1, u2] ∧ RelV v u1 ∧ RelV w u2 := by
    cases r1 with
    | cons p q =>
      cases q with
      | cons p' q' =>
        cases q'
        exact ⟨_, _, rfl, p, p'⟩
  refine wpAny_newObj_type ?_ (by show 2 ≤ sizeLine; decide)
  have I2 : Inv X pins σ H1 { s1 with heap := s1.heap.push { cls := .type "tuple", data := .seq [u1, u2].toArray } } := I1.kept (t' := s1.toks) fun b o e => Heap.get?_push_of_some _ e
  rw [hw]
  refine wpAny_bind (wpAny_pure ?_)
  show wpAny (model X.prog X.w) X.A (do rule "assign.swapped-stores"; let items ← unpackItems (.ref s1.heap.objs.size) 2 none; assignInOrder [fun v => bindName X.env y v, fun v => bindName X.env x v] items.reverse; pure Flow.next) _ _ _
  refine wpAny_bind (wpAny_rule (wpAny_bind (unpackItems_tuple (items := #[u1, u2]) (I.ok.hd hc) (IsTup.new s1.heap _) fun h' hx' => ?_)))
  have I3 := I2.kept (h' := h') (t' := s1.toks) fun b o e => hx' b o (Nat.ne_of_lt (Heap.lt_size e)) e
  show wpAny _ _ (assignInOrder [fun v => bindName X.env y v, fun v => bindName X.env x v] [u2, u1] >>= fun _ => pure Flow.next) _ _ _
  refine wpAny_bind (assignInOrder_cons (wpAny_bindName (store_ok I3 hN hj (.inl hy) rw' (fun s2 I4 => ?_) (.inr hy))))
  refine assignInOrder_cons (wpAny_bindName (store_ok I4 hN hi (.inl hx) rv (fun s3 I5 => assignInOrder_nil (wpAny_pure ?_)) (.inr hx)))
  rw [List.set_comm _ _ (Ne.symm hij)] at I5
  exact ⟨_, H1, I5, q1⟩
end

section
variable {X : Cx} {pos : Pos}
noncomputable def tWhile (c : TT) (tb : TS) : TS := fun D σ H => ∃ W : Nat → St → Hp → Prop, (∃ m, W m σ H) ∧ ∀ m σ H, W m σ H →
  c σ H fun b H1 => if b = true then ∃ N : St → Hp → Prop, (∀ σ' H', N σ' H' → ∃ m', m' < m ∧ W m' σ' H') ∧ tb { D with nx := N, ct := N, bk := D.nx } σ H1 else D.nx σ H1
theorem ps_while {c : Expr} {body : List Stmt} {tc : TT} {tb : TS} (hp : PassesOwn (model X.prog X.w) X.A X.env X.xe) (hc : PT X c tc) (hb : PSs X body tb) : PS X (.While c body [] pos) (tWhile tc tb) := by
  intro pins s σ H D I h
  obtain ⟨W, ⟨m0, w0⟩, turn⟩ := h
  refine wpAny_While (codeAny_whileLoop (fun n s' => ∃ σ' H', Inv X pins σ' H' s' ∧ W n σ' H') ?_ m0 ⟨σ, H, I, w0⟩)
  rintro n s1 ⟨σ1, H1, I1, w1⟩
  refine wpAny_passesOwn hp (thn (hc pins s1 σ1 H1 _ I1 (turn n σ1 H1 w1)) fun b s2 ⟨H2, I2, q2⟩ => ?_)
  cases b with
  | true =>
    obtain ⟨N, hN, q2⟩ := q2
    rw [if_pos rfl]
    refine wpAny_passesOwn hp (thn (hb pins s2 σ1 H2 _ I2 q2) fun f s3 q3 => ?_)
    cases f with
    | next =>
      obtain ⟨σ3, H3, I3, n3⟩ := q3
      obtain ⟨m', hm, w3⟩ := hN σ3 H3 n3
      exact ⟨m', hm, σ3, H3, I3, w3⟩
    | cont =>
      obtain ⟨σ3, H3, I3, n3⟩ := q3
      obtain ⟨m', hm, w3⟩ := hN σ3 H3 n3
      exact ⟨m', hm, σ3, H3, I3, w3⟩
    | brk => exact q3
    | ret v => exact q3
  | false =>
    rw [if_neg Bool.false_ne_true]
    exact wpAny_execs_nil ⟨σ1, H2, I2, q2⟩
end

structure It where
  go : Nat → Hp → Prop
  yld : Nat → Hp → V → Hp → Prop
  stop : Nat → Hp → Prop
noncomputable def FpOk (X : Cx) (pins : List (Addr × Obj)) (H : Hp) (b : Addr) : Prop :=
  H b = none ∧ b ≠ X.env.locals ∧ b ∉ X.fs ∧ (b ∈ X.ex ∨ X.s₀.heap.objs.size ≤ b) ∧ (∀ x c, X.env.cells.lookup x = some c → c ≠ b) ∧ ∀ p ∈ X.pn ++ pins, p.1 ≠ b
theorem Inv.fpOk {X : Cx} {pins : List (Addr × Obj)} {σ : St} {H H' : Hp} {s : Shared} {b : Addr} (I : Inv X pins σ H s) (hb : s.heap.objs.size ≤ b) (hn : H' b = none) : FpOk X pins H' b := by
  refine ⟨hn, Nat.ne_of_gt (Nat.lt_of_lt_of_le I.lt hb), I.nofs hb, .inr (Nat.le_trans I.sz hb), fun x c e z => ?_, fun p hp z => ?_⟩
  · obtain ⟨v, q⟩ := I.cell x c e
    exact absurd (Nat.lt_of_lt_of_le q.lt (by rw [z]; exact hb)) (Nat.lt_irrefl _)
  · exact absurd (Nat.lt_of_lt_of_le (Heap.lt_size (I.pin p hp).1) (by rw [z]; exact hb)) (Nat.lt_irrefl _)
structure Turn (P : Program) (w : World) (K : PySem.W.Frag) (tg : Expr) (J : It) (fp : List Addr) (it : Addr) (tn : Nat → Heap → Prop) : Prop where
  mem : it ∈ fp
  obj : ∀ i h, tn i h → ∀ b ∈ fp, ∃ o, h.get? b = some o ∧ ∀ v, o.data ≠ .cell v
  keep : ∀ i h h', tn i h → (∀ b ∈ fp, ∀ o, h.get? b = some o → h'.get? b = some o) → tn i h'
  item : ∀ (X : Cx), X.prog = P → X.w = w → X.K = K → X.calm = true → ∀ (i : Nat) (pins : List (Addr × Obj)) (s : Shared) (σ : St) (H : Hp) (E : Value → Shared → Prop), Inv X pins σ H s → (∀ b ∈ fp, FpOk X pins H b) → tn i s.heap → J.go i H →
    wpAny (model P w) X.A (pyNext (.ref it)) (fun r s1 => ∃ u, r = some u ∧
      wpAny (model P w) X.A (letOwnedTupleGo tg (.ref it) u) (fun _ s2 => ∃ x H', Inv X pins σ H' s2 ∧ RelV x u ∧ J.yld i H x H' ∧ tn (i + 1) s2.heap ∧ ∀ b ∈ fp, H' b = none) E s1) E s
  done : ∀ (X : Cx), X.prog = P → X.w = w → X.K = K → X.calm = true → ∀ (i : Nat) (pins : List (Addr × Obj)) (s : Shared) (σ : St) (H : Hp) (E : Value → Shared → Prop), Inv X pins σ H s → (∀ b ∈ fp, FpOk X pins H b) → tn i s.heap → J.stop i H →
    wpAny (model P w) X.A (pyNext (.ref it)) (fun r s1 => r = none ∧ Inv X pins σ H s1) E s
  self : ∀ (A : Around) (i : Nat) (s : Shared) (Q : Value → Shared → Prop) (E : Value → Shared → Prop), tn i s.heap → Q (.ref it) s → wpAny (model P w) A (pyIter (.ref it)) Q E s
noncomputable abbrev TI := St → Hp → (It → Hp → Prop) → Prop
noncomputable def PIE (X : Cx) (pins : List (Addr × Obj)) (σ : St) (tg : Expr) (R : It → Hp → Prop) (itv : Value) (s2 : Shared) : Prop :=
  ∃ (it : Addr) (fp : List Addr) (tn : Nat → Heap → Prop) (J : It) (H' : Hp), itv = .ref it ∧ Inv X pins σ H' s2 ∧ Turn X.prog X.w X.K tg J fp it tn ∧ tn 0 s2.heap ∧ (∀ b ∈ fp, FpOk X pins H' b) ∧ R J H'
noncomputable def PI (X : Cx) (tg iter : Expr) (wi : TI) : Prop :=
  ∀ (pins : List (Addr × Obj)) (s : Shared) (σ : St) (H : Hp) (R : It → Hp → Prop), Inv X pins σ H s → wi σ H R →
    wpAny (model X.prog X.w) X.A (eval iter X.env) (fun v s1 => wpAny (model X.prog X.w) X.A (pyIter v) (PIE X pins σ tg R) X.xe s1) X.xe s

theorem go_of {M : Model} {A : Around} {E : Value → Shared → Prop} {s : Shared} {tg : Expr} {it : Addr} {u : Value} {o : Obj} {n : String} {vs : Array Value} {Q : Unit → Shared → Prop} (ho : s.heap.get? it = some o) (hc : o.cls = .type n) (hd : o.data = .fields vs)
    (hn : ["enumerate", "zip", "dict_itemiterator", "dict_reverseitemiterator", "odict_iterator", "itertools.zip_longest", "itertools.pairwise"].contains n = false) (hQ : Q () s) : wpAny M A (letOwnedTupleGo tg (.ref it) u) Q E s := by
  unfold letOwnedTupleGo
  cases tg <;> first
    | exact wpAny_pure hQ
    | (cases u <;> first
        | exact wpAny_pure hQ
        | (refine wpAny_bind (wpAny_load ho ?_)
           rw [hc, hd]
           show wpAny M A (if (["enumerate", "zip", "dict_itemiterator", "dict_reverseitemiterator", "odict_iterator", "itertools.zip_longest", "itertools.pairwise"].contains n && vs[0]? == some (rawInt _)) = true then _ else _) Q E s
           rw [if_neg (by intro h; rw [hn, Bool.false_and] at h; cases h)]
           exact wpAny_pure hQ))

noncomputable def Itl (K : PySem.W.Frag) (a : Addr) : It :=
  ⟨fun i H => ∃ xs x, SqL K H a xs ∧ xs[i]? = some x, fun i H x H' => H' = H ∧ ∀ xs, SqL K H a xs → xs[i]? = some x, fun i H => ∃ xs, SqL K H a xs ∧ xs.length ≤ i⟩
noncomputable def Itr (lo : Int) (n : Nat) : It := ⟨fun i _ => i < n, fun i H x H' => H' = H ∧ x = .int (lo + i), fun i _ => n ≤ i⟩
theorem turn_list {P : Program} {w : World} {K : PySem.W.Frag} {tg : Expr} (a it : Addr) : Turn P w K tg (Itl K a) [it] it (fun i h => h.IsListIter it a i) where
  mem := by simp
  obj := fun i h st b hb => by
    have e : b = it := by simpa using hb
    subst e
    obtain ⟨o, e, c, d⟩ := st
    exact ⟨o, e, fun v z => by rw [d] at z; cases z⟩
  keep := fun i h h' st k => st.at fun o e => k it (by simp) o e
  item := by
    intro X hP hw hK hc i pins s σ H E I hf st hg
    subst hP hw hK
    obtain ⟨xs, x, hq, hx⟩ := hg
    obtain ⟨its, rv, p, hz⟩ := I.list hq
    obtain ⟨u, hu, ru⟩ := rv.get hx
    obtain ⟨f0, f1, f2, f3, f4, f5⟩ := hf it (by simp)
    refine wpAny_pyNext_list_item st p.isList (x := u) (by simpa using hu) fun h' st' sb => ?_
    have I1 : Inv X pins σ H { s with heap := h' } := I.turned (t' := s.toks) (fun b o hb e => (sb.2 b hb).trans e) f0 f1 f3 f4 f5
    obtain ⟨o, e, c, d⟩ := id st'
    exact ⟨u, rfl, go_of (s := { s with heap := h' }) e c d (by decide) ⟨x, H, I1, ru, ⟨rfl, fun ys hy => by rw [I.list_inj hy hq]; exact hx⟩, st', fun b hb => (hf b hb).1⟩⟩
  done := by
    intro X hP hw hK hc i pins s σ H E I hf st hg
    subst hP hw hK
    obtain ⟨xs, hq, hx⟩ := hg
    obtain ⟨its, rv, p, hz⟩ := I.list hq
    obtain ⟨f0, f1, f2, f3, f4, f5⟩ := hf it (by simp)
    have hl := rv.length
    exact wpAny_pyNext_list_end (I.ok.hd hc) st p.isList (by simp; omega) fun h' eb => ⟨rfl, I.turned (t' := s.toks) (fun b o hb e => eb b o hb e) f0 f1 f3 f4 f5⟩
  self := fun _ _ _ _ _ st h => wpAny_pyIter_listiter st h
theorem turn_range {P : Program} {w : World} {K : PySem.W.Frag} {tg : Expr} (it : Addr) (lo : Int) (n : Nat) : Turn P w K tg (Itr lo n) [it] it (fun i h => IsRangeIter h it (lo + (i : Nat) * 1) ((n : Int) - (i : Nat)) 1) where
  mem := by simp
  obj := fun i h st b hb => by
    have e : b = it := by simpa using hb
    subst e
    exact ⟨_, st, fun v z => by
      have z' : Data.fields _ = Data.cell v := z
      cases z'⟩
  keep := fun i h h' st k => k it (by simp) _ st
  item := by
    intro X hP hw hK hc i pins s σ H E I hf st hg
    subst hP hw hK
    obtain ⟨f0, f1, f2, f3, f4, f5⟩ := hf it (by simp)
    have W := Walks.range (prog := X.prog) (w := X.w) (I.ok.hd hc) it lo 1 n
    refine W.item i s _ _ hg st fun v h' tk hv st' kk => ?_
    obtain ⟨t, rfl⟩ := hv
    have I1 : Inv X pins σ H { s with heap := h', toks := tk } := I.turned (fun b o hb e => kk b o (by simpa using hb) e) f0 f1 f3 f4 f5
    refine ⟨_, rfl, go_of (s := { s with heap := h', toks := tk }) (n := "range_iterator") st' rfl rfl (by decide) ⟨.int (lo + i), H, I1, ⟨t, ?_⟩, ⟨rfl, rfl⟩, st', fun b hb => (hf b hb).1⟩⟩
    rw [Int.mul_one]
  done := by
    intro X hP hw hK hc i pins s σ H E I hf st hg
    subst hP hw hK
    obtain ⟨f0, f1, f2, f3, f4, f5⟩ := hf it (by simp)
    exact wpAny_pyNext_range_end (I.ok.hd hc) st (by have : n ≤ i := hg; omega) fun h' eb => ⟨rfl, I.turned (t' := s.toks) (fun b o hb e => eb b o hb e) f0 f1 f3 f4 f5⟩
  self := fun _ _ _ _ _ st h => wpAny_pyIter_rangeiter st h
end L2

namespace L2
open PySem PySem.Spec PyProof.Rows
section
variable {X : Cx} {tg : Expr}
noncomputable def iList (K : PySem.W.Frag) (tl : TE) : TI := fun σ H R => tl σ H fun x H1 => ∃ a, x = .ref a ∧ (∃ xs, SqL K H1 a xs) ∧ R (Itl K a) H1
theorem pi_list {l : Expr} {tl : TE} (hl : PE X l tl) : PI X tg l (iList X.K tl) := by
  intro pins s σ H R I h
  refine thn (hl pins s σ H _ I h) fun v s1 ⟨x, H1, I1, r1, q1⟩ => ?_
  obtain ⟨a, e, ⟨xs, hq⟩, q⟩ := q1
  subst e
  cases r1
  obtain ⟨its, rv, p, hz⟩ := I1.list hq
  refine wpAny_pyIter_list p.isList ?_
  refine ⟨s1.heap.objs.size, [s1.heap.objs.size], _, _, H1, rfl, I1.kept (t' := s1.toks) fun b o e => Heap.get?_push_of_some _ e, turn_list a _, ⟨_, Heap.get?_push_size _ rfl, rfl, rfl⟩, fun b hb => ?_, q⟩
  have e : b = s1.heap.objs.size := by simpa using hb
  subst e
  exact I1.fpOk (Nat.le_refl _) (I1.hok.fresh (Nat.le_refl _))
theorem range_it {pins : List (Addr × Obj)} {σ : St} {H : Hp} {s : Shared} {R : It → Hp → Prop} {E : Value → Shared → Prop} {lo hi : Int} {t u v : Tok} {tk : Nat} (I : Inv X pins σ H s) (h1 : -(2 ^ 62) ≤ lo) (h2 : lo < 2 ^ 62) (h3 : -(2 ^ 62) ≤ hi) (h4 : hi < 2 ^ 62)
    (q : R (Itr lo (hi - lo).toNat) H) : wpAny (model X.prog X.w) X.A (pyIter (.ref s.heap.objs.size)) (PIE X pins σ tg R) E { s with heap := s.heap.push { cls := .type "range", data := .fields #[.int lo t, .int hi u, .int 1 v] }, toks := tk } := by
  refine wpAny_pyIter_range (IsRange.new ..) (small_one h1 h2 h3 h4) ?_
  have I1 : Inv X pins σ H { s with heap := s.heap.push { cls := .type "range", data := .fields #[.int lo t, .int hi u, .int 1 v] }, toks := tk } := I.kept fun b o e => Heap.get?_push_of_some _ e
  refine ⟨(s.heap.push { cls := .type "range", data := .fields #[.int lo t, .int hi u, .int 1 v] }).objs.size, [(s.heap.push { cls := .type "range", data := .fields #[.int lo t, .int hi u, .int 1 v] }).objs.size], _, _, H, rfl,
    I1.kept (t' := tk) fun b o e => Heap.get?_push_of_some _ e, turn_range _ lo (hi - lo).toNat, ?_, fun b hb => ?_, q⟩
  · have e1 : lo + ((0 : Nat) : Int) * 1 = lo := by simp
    have e2 : (((hi - lo).toNat : Nat) : Int) - ((0 : Nat) : Int) = Builtin.Range.rangeSize lo hi 1 := by rw [rangeSize_one]; split <;> omega
    show IsRangeIter _ _ (lo + ((0 : Nat) : Int) * 1) ((((hi - lo).toNat : Nat) : Int) - ((0 : Nat) : Int)) 1
    rw [e1, e2]
    exact Heap.get?_push_size _ rfl
  · have e : b = (s.heap.push { cls := .type "range", data := .fields #[.int lo t, .int hi u, .int 1 v] }).objs.size := by simpa using hb
    subst e
    exact I1.fpOk (Nat.le_refl _) (I1.hok.fresh (Nat.le_refl _))
noncomputable def iRng1 (ta : TA) : TI := fun σ H R => ta σ H fun vs H1 => ∃ j : Int, vs = [.int j] ∧ -(2 ^ 62) ≤ j ∧ j < 2 ^ 62 ∧ R (Itr 0 j.toNat) H1
noncomputable def iRng2 (ta : TA) : TI := fun σ H R => ta σ H fun vs H1 => ∃ i j : Int, vs = [.int i, .int j] ∧ (-(2 ^ 62) ≤ i ∧ i < 2 ^ 62 ∧ -(2 ^ 62) ≤ j ∧ j < 2 ^ 62) ∧ R (Itr i (j - i).toNat) H1
theorem pi_range1 {a : Expr} {ta : TA} {p pos : Pos} (hg : Gl X "range") (hm : X.mg "range" = none) (ha : PA X [a] ta) (hs : autoParam (starEach [a] X.env = [(false, eval a X.env)]) au0_._auto_1) : PI X tg (.Call (.Name "range" p) [a] [] pos) (iRng1 ta) := by
  intro pins s σ H R I h
  refine Call_ (ld_blt I hg hm boot_range (PyProof.Rows.callWith_type1 (thn (ha pos pins s σ H _ I h) fun us s1 ⟨vs, H1, I1, r1, q1⟩ => ?_) hs rfl))
  obtain ⟨j, e, q1, q2, q⟩ := q1
  subst e
  cases r1 with
  | cons r rr =>
    cases rr
    obtain ⟨t, rfl⟩ := r
    exact call_range_1 (range_it I1 (by omega) (by omega) q1 q2 (by simpa using q))
theorem pi_range2 {a b : Expr} {ta : TA} {p pos : Pos} (hg : Gl X "range") (hm : X.mg "range" = none) (ha : PA X [a, b] ta) (hs : autoParam (starEach [a, b] X.env = [(false, eval a X.env), (false, eval b X.env)]) au0_._auto_1) (hs2 : autoParam (starEach [b] X.env = [(false, eval b X.env)]) au0_._auto_1) :
    PI X tg (.Call (.Name "range" p) [a, b] [] pos) (iRng2 ta) := by
  intro pins s σ H R I h
  refine Call_ (ld_blt I hg hm boot_range (PyProof.Rows.callWith_type1 (thn (ha pos pins s σ H _ I h) fun us s1 ⟨vs, H1, I1, r1, q1⟩ => ?_) (by rw [hs, hs2]) (by rw [hs2]; rfl)))
  obtain ⟨i, j, e, ⟨q1, q2, q3, q4⟩, q⟩ := q1
  subst e
  cases r1 with
  | cons r rr =>
    cases rr with
    | cons r' rr =>
      cases rr
      obtain ⟨t, rfl⟩ := r
      obtain ⟨t', rfl⟩ := r'
      exact call_range_2 (range_it I1 q1 q2 q3 q4 q)

noncomputable def tFor (wi : TI) (g : TG) (tb : TS) : TS := fun D σ H => wi σ H fun J H1 => ∃ W : Nat → Nat → St → Hp → Prop, (∃ m, W 0 m σ H1) ∧ ∀ i m σ H, W i m σ H →
  (J.stop i H ∧ D.nx σ H) ∨ (J.go i H ∧ ∃ N : St → Hp → Prop, (∀ σ' H', N σ' H' → ∃ m', m' < m ∧ W (i + 1) m' σ' H') ∧ ∀ x H', J.yld i H x H' → g x σ H' fun σ2 H2 => tb { D with nx := N, ct := N, bk := D.nx } σ2 H2)
noncomputable def pinsAt (fp : List Addr) (h : Heap) : List (Addr × Obj) := fp.filterMap fun b => (h.get? b).map fun o => (b, o)
theorem mem_pinsAt {fp : List Addr} {h : Heap} {b : Addr} {o : Obj} (hb : b ∈ fp) (e : h.get? b = some o) : (b, o) ∈ pinsAt fp h := List.mem_filterMap.mpr ⟨b, hb, by rw [e]; rfl⟩
theorem of_pinsAt {fp : List Addr} {h : Heap} {p : Addr × Obj} (hp : p ∈ pinsAt fp h) : p.1 ∈ fp ∧ h.get? p.1 = some p.2 := by
  obtain ⟨b, hb, e⟩ := List.mem_filterMap.mp hp
  cases q : h.get? b with
  | none => rw [q] at e; cases e
  | some o =>
    rw [q] at e
    have e' : (b, o) = p := Option.some.inj e
    subst e'
    exact ⟨hb, q⟩
theorem Inv.pinned {pins : List (Addr × Obj)} {σ : St} {H : Hp} {s : Shared} {fp : List Addr} (I : Inv X pins σ H s) (hf : ∀ b ∈ fp, FpOk X pins H b) (ho : ∀ b ∈ fp, ∃ o, s.heap.get? b = some o ∧ ∀ v, o.data ≠ .cell v) : Inv X (pins ++ pinsAt fp s.heap) σ H s :=
  I.pins_of fun p hp => (List.mem_append.mp hp).elim (fun z => I.pin p (List.mem_append_right _ z)) fun z => by
    obtain ⟨hb, e⟩ := of_pinsAt z
    obtain ⟨f0, f1, f2, _⟩ := hf p.1 hb
    obtain ⟨o, e', d⟩ := ho p.1 hb
    rw [e] at e'; cases e'
    exact ⟨e, f0, f1, f2, d⟩
theorem Inv.unpinned {pins pl : List (Addr × Obj)} {σ : St} {H : Hp} {s : Shared} (I : Inv X (pins ++ pl) σ H s) : Inv X pins σ H s := I.pins_of fun p hp => I.pin p (List.mem_append_right _ (List.mem_append_left _ hp))
theorem ps_for {iter : Expr} {body : List Stmt} {wi : TI} {g : TG} {tb : TS} {pos : Pos} (hp : PassesOwn (model X.prog X.w) X.A X.env X.xe) (hc : X.calm = true) (hi : PI X tg iter wi) (hg : PG X tg g) (hb : PSs X body tb)
    (hs : autoParam (∀ x, foldedSetIterable iter X.env x = pure x) au2_._auto_1) : PS X (.For tg iter body [] pos) (tFor wi g tb) := by
  intro pins s σ H D I h
  refine wpAny_For (thn (hi pins s σ H _ I h) fun v s1 h1 => thn h1 fun itv s2 h2 => ?_) hs
  obtain ⟨it, fp, tn, J, H2, e, I2, T, st2, f2, W, ⟨m0, w0⟩, turn⟩ := h2
  subst e
  -- what stays true of the iterator's objects through the loop
  have stat : ∀ {H' : Hp}, (∀ b ∈ fp, H' b = none) → ∀ b ∈ fp, FpOk X pins H' b := fun hn b hb => ⟨hn b hb, (f2 b hb).2⟩
  refine codeAny_forLoop_any (fun n s' => ∃ i σ' H', Inv X pins σ' H' s' ∧ tn i s'.heap ∧ (∀ b ∈ fp, H' b = none) ∧ W i n σ' H') ?_ m0 ⟨0, σ, H2, I2, st2, fun b hb => (f2 b hb).1, w0⟩
  rintro n s3 ⟨i, σ3, H3, I3, st3, fr3, w3⟩
  rcases turn i n σ3 H3 w3 with ⟨stop, qn⟩ | ⟨go, N, hN, step⟩
  · refine wpAny_passesOwn hp (thn (T.done X rfl rfl rfl hc i pins s3 σ3 H3 X.xe I3 (stat fr3) st3 stop) fun r s4 ⟨hr, I4⟩ => ?_)
    subst hr
    exact wpAny_execs_nil ⟨σ3, H3, I4, qn⟩
  · refine wpAny_passesOwn hp (thn (T.item X rfl rfl rfl hc i pins s3 σ3 H3 X.xe I3 (stat fr3) st3 go) fun r s4 ⟨u, hr, h4⟩ => ?_)
    subst hr
    refine wpAny_passesOwn hp (thn h4 fun _ s5 ⟨x, H5, I5, r5, y5, st5, fr5⟩ => ?_)
    have I5' := I5.pinned (stat fr5) (T.obj _ _ st5)
    refine wpAny_passesOwn hp (thn (hg _ s5 σ3 H5 x u _ I5' r5 (step x H5 y5)) fun _ s6 ⟨σ6, H6, I6, q6⟩ => ?_)
    refine wpAny_passesOwn hp (thn (hb _ s6 σ6 H6 _ I6 q6) fun f s7 q7 => ?_)
    have again : ∀ {σ7 : St} {H7 : Hp}, Inv X (pins ++ pinsAt fp s5.heap) σ7 H7 s7 → N σ7 H7 → ∃ m, m < n ∧ ∃ i σ' H', Inv X pins σ' H' s7 ∧ tn i s7.heap ∧ (∀ b ∈ fp, H' b = none) ∧ W i m σ' H' := fun {σ7 H7} I7 n7 => by
      obtain ⟨m', hm, w7⟩ := hN σ7 H7 n7
      refine ⟨m', hm, i + 1, σ7, H7, I7.unpinned, T.keep _ _ _ st5 fun b hb o e => (I7.pin (b, o) (List.mem_append_right _ (List.mem_append_right _ (mem_pinsAt hb e)))).1, fun b hb => ?_, w7⟩
      obtain ⟨o, e, d⟩ := T.obj _ _ st5 b hb
      exact (I7.pin (b, o) (List.mem_append_right _ (List.mem_append_right _ (mem_pinsAt hb e)))).2.1
    cases f with
    | next => obtain ⟨σ7, H7, I7, n7⟩ := q7; exact again I7 n7
    | cont => obtain ⟨σ7, H7, I7, n7⟩ := q7; exact again I7 n7
    | brk => obtain ⟨σ7, H7, I7, q7⟩ := q7; exact ⟨σ7, H7, I7.unpinned, q7⟩
    | ret v => obtain ⟨x7, σ7, H7, I7, r7, q7⟩ := q7; exact ⟨x7, σ7, H7, I7.unpinned, r7, q7⟩
end

theorem for_list {K : PySem.W.Frag} {a : Addr} {xs : List V} {g : TG} {tb : TS} {D : Ends} {σ : St} {H : Hp} (Pv : Nat → St → Hp → Prop) (h0 : Pv 0 σ H) (hl : ∀ i σ H, i ≤ xs.length → Pv i σ H → SqL K H a xs)
    (hs : ∀ i x σ H, xs[i]? = some x → Pv i σ H → g x σ H fun σ2 H2 => tb { D with nx := Pv (i + 1), ct := Pv (i + 1), bk := D.nx } σ2 H2) (hd : ∀ σ H, Pv xs.length σ H → D.nx σ H) :
    ∃ W : Nat → Nat → St → Hp → Prop, (∃ m, W 0 m σ H) ∧ ∀ i m σ H, W i m σ H →
      ((Itl K a).stop i H ∧ D.nx σ H) ∨ ((Itl K a).go i H ∧ ∃ N : St → Hp → Prop, (∀ σ' H', N σ' H' → ∃ m', m' < m ∧ W (i + 1) m' σ' H') ∧ ∀ x H', (Itl K a).yld i H x H' → g x σ H' fun σ2 H2 => tb { D with nx := N, ct := N, bk := D.nx } σ2 H2) := by
  refine ⟨fun i m σ H => m = xs.length - i ∧ i ≤ xs.length ∧ Pv i σ H, ⟨xs.length, by simp, Nat.zero_le _, h0⟩, ?_⟩
  rintro i m σ H ⟨rfl, hi, p⟩
  have q := hl i σ H hi p
  by_cases hlt : i < xs.length
  · refine .inr ⟨⟨xs, xs[i], q, by simp [hlt]⟩, Pv (i + 1), fun σ' H' p' => ⟨xs.length - (i + 1), by omega, rfl, hlt, p'⟩, fun x H' y => ?_⟩
    obtain ⟨e, y⟩ := y
    subst e
    exact hs i x σ _ (y xs q) p
  · have e : i = xs.length := by omega
    subst e
    exact .inl ⟨⟨xs, q, Nat.le_refl _⟩, hd σ H p⟩
theorem for_range {lo : Int} {n : Nat} {g : TG} {tb : TS} {D : Ends} {σ : St} {H : Hp} (Pv : Nat → St → Hp → Prop) (h0 : Pv 0 σ H)
    (hs : ∀ i σ H, i < n → Pv i σ H → g (.int (lo + i)) σ H fun σ2 H2 => tb { D with nx := Pv (i + 1), ct := Pv (i + 1), bk := D.nx } σ2 H2) (hd : ∀ σ H, Pv n σ H → D.nx σ H) :
    ∃ W : Nat → Nat → St → Hp → Prop, (∃ m, W 0 m σ H) ∧ ∀ i m σ H, W i m σ H →
      ((Itr lo n).stop i H ∧ D.nx σ H) ∨ ((Itr lo n).go i H ∧ ∃ N : St → Hp → Prop, (∀ σ' H', N σ' H' → ∃ m', m' < m ∧ W (i + 1) m' σ' H') ∧ ∀ x H', (Itr lo n).yld i H x H' → g x σ H' fun σ2 H2 => tb { D with nx := N, ct := N, bk := D.nx } σ2 H2) := by
  refine ⟨fun i m σ H => m = n - i ∧ i ≤ n ∧ Pv i σ H, ⟨n, by simp, Nat.zero_le _, h0⟩, ?_⟩
  rintro i m σ H ⟨rfl, hi, p⟩
  by_cases hlt : i < n
  · refine .inr ⟨hlt, Pv (i + 1), fun σ' H' p' => ⟨n - (i + 1), by omega, rfl, hlt, p'⟩, fun x H' y => ?_⟩
    obtain ⟨e, y⟩ := y
    subst e y
    exact hs i σ _ hlt p
  · have e : i = n := by omega
    subst e
    exact .inl ⟨Nat.le_refl _, hd σ H p⟩
theorem while_by {c : TT} {tb : TS} {D : Ends} {σ : St} {H : Hp} (Pv : St → Hp → Prop) (μ : St → Hp → Nat) (h0 : Pv σ H)
    (hs : ∀ σ H, Pv σ H → c σ H fun b H1 => if b = true then tb { D with nx := fun σ' H' => Pv σ' H' ∧ μ σ' H' < μ σ H, ct := fun σ' H' => Pv σ' H' ∧ μ σ' H' < μ σ H, bk := D.nx } σ H1 else D.nx σ H1)
    (mono : ∀ σ H Q Q', (∀ b H1, Q b H1 → Q' b H1) → c σ H Q → c σ H Q') : tWhile c tb D σ H := by
  refine ⟨fun m σ H => m = μ σ H ∧ Pv σ H, ⟨_, rfl, h0⟩, ?_⟩
  rintro m σ H ⟨rfl, p⟩
  refine mono σ H _ _ (fun b H1 q => ?_) (hs σ H p)
  cases b with
  | true => exact ⟨_, fun σ' H' ⟨p', l⟩ => ⟨_, l, rfl, p'⟩, q⟩
  | false => exact q
end L2

namespace L2
open PySem PySem.Spec PyProof.Rows

noncomputable abbrev R2 := V → V → Hp → VK → Prop
noncomputable def OpR (X : Cx) (f : Value → Value → Sem Value) (r : R2) : Prop :=
  ∀ (pins : List (Addr × Obj)) (s : Shared) (σ : St) (H : Hp) (x y : V) (v u : Value) (Q : VK), Inv X pins σ H s → RelV x v → RelV y u → r x y H Q →
    wpAny (model X.prog X.w) X.A (f v u) (EP X pins σ Q) X.xe s
noncomputable def UnR (X : Cx) (f : Value → Sem Value) (r : V → Hp → VK → Prop) : Prop :=
  ∀ (pins : List (Addr × Obj)) (s : Shared) (σ : St) (H : Hp) (x : V) (v : Value) (Q : VK), Inv X pins σ H s → RelV x v → r x H Q →
    wpAny (model X.prog X.w) X.A (f v) (EP X pins σ Q) X.xe s
noncomputable def CallR (X : Cx) (f : Value) (r : List V → Hp → VK → Prop) : Prop :=
  ∀ (pins : List (Addr × Obj)) (s : Shared) (σ : St) (H : Hp) (xs : List V) (us : List Value) (Q : VK), Inv X pins σ H s → Vals xs us → r xs H Q →
    wpAny (model X.prog X.w) X.A (call f us) (EP X pins σ Q) X.xe s
noncomputable def tOp (r : R2) (ta tb : TE) : TE := fun σ H Q => ta σ H fun x H1 => tb σ H1 fun y H2 => r x y H2 Q
noncomputable def tUn (r : V → Hp → VK → Prop) (ta : TE) : TE := fun σ H Q => ta σ H fun x H1 => r x H1 Q
noncomputable def rI (C : Int → Int → Prop) (g : Int → Int → V) : R2 := fun x y H Q => ∃ i j, x = .int i ∧ y = .int j ∧ C i j ∧ Q (g i j) H
noncomputable def rI0 (g : Int → Int → V) : R2 := fun x y H Q => ∃ i j, x = .int i ∧ y = .int j ∧ Q (g i j) H
noncomputable def rU (g : Int → V) : V → Hp → VK → Prop := fun x H Q => ∃ i, x = .int i ∧ Q (g i) H

section
variable {X : Cx} {a b c : Expr} {ta tb tc : TE} {pos : Pos}

theorem binT (ha : PE X a ta) (hb : PE X b tb) {pins : List (Addr × Obj)} {s : Shared} {σ : St} {H : Hp} {R : V → V → Hp → Prop} (I : Inv X pins σ H s)
    (h : ta σ H fun x H1 => tb σ H1 fun y H2 => R x y H2) {Q : Value → Shared → Prop} {f : Value → Value → Sem Value}
    (hf : ∀ v u s2 x y H2, Inv X pins σ H2 s2 → RelV x v → RelV y u → R x y H2 → wpAny (model X.prog X.w) X.A (f v u) Q X.xe s2) :
    wpAny (model X.prog X.w) X.A (eval a X.env) (fun v s₁ => wpAny (model X.prog X.w) X.A (eval b X.env) (fun u s₂ => wpAny (model X.prog X.w) X.A (f v u) Q X.xe s₂) X.xe s₁) X.xe s := by
  refine thn (ha pins s σ H _ I h) fun v s1 ⟨x, H1, I1, r1, q1⟩ => ?_
  refine thn (hb pins s1 σ H1 _ I1 q1) fun u s2 ⟨y, H2, I2, r2, q2⟩ => ?_
  exact hf v u s2 x y H2 I2 r1 r2 q2

theorem pe_op {op : Operator} {r : R2} (ho : OpR X (binaryOp op) r) (ha : PE X a ta) (hb : PE X b tb) : PE X (.BinOp a op b pos) (tOp r ta tb) := by
  intro pins s σ H Q I h
  exact wpAny_BinOp (binT ha hb I h fun v u s2 x y H2 I2 rx ry q => ho pins s2 σ H2 x y v u Q I2 rx ry q)
theorem pe_un {op : UnaryOp} {r : V → Hp → VK → Prop} (ho : UnR X (unaryOp op) r) (ha : PE X a ta) : PE X (.UnaryOp op a pos) (tUn r ta) := by
  intro pins s σ H Q I h
  exact UnaryOp_ (thn (ha pins s σ H _ I h) fun v s1 ⟨x, H1, I1, r1, q1⟩ => ho pins s1 σ H1 x v Q I1 r1 q1)
theorem opI {f : Value → Value → Sem Value} {C : Int → Int → Prop} {g : Int → Int → Int}
    (rule : ∀ (i j : Int) (t u : Tok) (s : Shared) (Q : Value → Shared → Prop) (E : Value → Shared → Prop), C i j → Q (.int (g i j) s.toks) { s with toks := s.toks + 1 } → wpAny (model X.prog X.w) X.A (f (.int i t) (.int j u)) Q E s) :
    OpR X f (rI C fun i j => .int (g i j)) := by
  intro pins s σ H x y v u Q I rx ry h
  obtain ⟨i, j, rfl, rfl, hc, q⟩ := h
  obtain ⟨t, rfl⟩ := rx
  obtain ⟨t', rfl⟩ := ry
  exact rule i j t t' s _ _ hc ⟨.int (g i j), H, I.tok _, ⟨_, rfl⟩, q⟩
theorem opI0 {f : Value → Value → Sem Value} {g : Int → Int → Int}
    (rule : ∀ (i j : Int) (t u : Tok) (s : Shared) (Q : Value → Shared → Prop) (E : Value → Shared → Prop), Q (.int (g i j) s.toks) { s with toks := s.toks + 1 } → wpAny (model X.prog X.w) X.A (f (.int i t) (.int j u)) Q E s) :
    OpR X f (rI0 fun i j => .int (g i j)) := by
  intro pins s σ H x y v u Q I rx ry h
  obtain ⟨i, j, rfl, rfl, q⟩ := h
  obtain ⟨t, rfl⟩ := rx
  obtain ⟨t', rfl⟩ := ry
  exact rule i j t t' s _ _ ⟨.int (g i j), H, I.tok _, ⟨_, rfl⟩, q⟩
theorem opB0 {f : Value → Value → Sem Value} {g : Int → Int → Bool}
    (rule : ∀ (i j : Int) (t u : Tok) (s : Shared) (Q : Value → Shared → Prop) (E : Value → Shared → Prop), Q (.bool (g i j)) s → wpAny (model X.prog X.w) X.A (f (.int i t) (.int j u)) Q E s) :
    OpR X f (rI0 fun i j => .bl (g i j)) := by
  intro pins s σ H x y v u Q I rx ry h
  obtain ⟨i, j, rfl, rfl, q⟩ := h
  obtain ⟨t, rfl⟩ := rx
  obtain ⟨t', rfl⟩ := ry
  exact rule i j t t' s _ _ ⟨.bl (g i j), H, I, rfl, q⟩

noncomputable def CPow (i j : Int) : Prop := 0 ≤ j ∧ j ≤ 1000000 ∧ i.natAbs < 2 ^ 64
noncomputable def CMul (i j : Int) : Prop := (-(2 ^ 64) < i ∧ i < 2 ^ 64) ∨ (-(2 ^ 64) < j ∧ j < 2 ^ 64)
theorem CMul.ok {i j : Int} (h : CMul i j) : IntMulOk i j := by
  rcases h with ⟨h1, h2⟩ | ⟨h1, h2⟩
  · exact .of_left (intBits_le_64 h1 h2)
  · exact .of_right (intBits_le_64 h1 h2)
theorem op_add : OpR X (binaryOp .Add) (rI0 fun i j => .int (i + j)) := opI0 fun _ _ _ _ _ _ _ q => add_int q
theorem op_sub : OpR X (binaryOp .Sub) (rI0 fun i j => .int (i - j)) := opI0 fun _ _ _ _ _ _ _ q => sub_int q
theorem op_mod : OpR X (binaryOp .Mod) (rI (fun _ j => 0 < j) fun i j => .int (i % j)) := opI fun i j _ _ _ _ _ hc q => by
  have h1 : (0 : Int) < j := hc
  exact mod_int' (by omega) (by rw [Int.fmod_eq_emod_of_nonneg i (by omega)]; exact q)
theorem op_pow : OpR X (binaryOp .Pow) (rI CPow fun i j => .int (i ^ j.toNat)) := opI fun _ _ _ _ _ _ _ hc q => pow_int_small hc.1 hc.2.1 hc.2.2 q
theorem unI {f : Value → Sem Value} {g : Int → Int}
    (rule : ∀ (i : Int) (t : Tok) (s : Shared) (Q : Value → Shared → Prop) (E : Value → Shared → Prop), Q (.int (g i) s.toks) { s with toks := s.toks + 1 } → wpAny (model X.prog X.w) X.A (f (.int i t)) Q E s) :
    UnR X f (rU fun i => .int (g i)) := by
  intro pins s σ H x v Q I rx h
  obtain ⟨i, rfl, q⟩ := h
  obtain ⟨t, rfl⟩ := rx
  exact rule i t s _ _ ⟨.int (g i), H, I.tok _, ⟨_, rfl⟩, q⟩
theorem un_neg : UnR X (unaryOp .USub) (rU fun i => .int (-i)) := unI fun _ _ _ _ _ q => neg_int q
end

noncomputable def scal : V → V → Bool
  | .non, .non => true | .non, .int _ => true | .int _, .non => true | .non, .bl _ => true | .bl _, .non => true | .non, .str _ => true | .str _, .non => true
  | .int _, .int _ => true | .bl _, .bl _ => true | .str _, .str _ => true | .byt _, .byt _ => true
  | .int _, .str _ => true | .str _, .int _ => true | .bl _, .str _ => true | .str _, .bl _ => true
  | _, _ => false
noncomputable def rEq : R2 := fun x y H Q => scal x y = true ∧ Q (.bl (decide (x = y))) H
noncomputable def rNe : R2 := fun x y H Q => scal x y = true ∧ Q (.bl (!decide (x = y))) H

theorem dec_int {i j : Int} : decide (V.int i = V.int j) = (i == j) := by
  rw [Bool.eq_iff_iff]
  simp
theorem dec_bl {i j : Bool} : decide (V.bl i = V.bl j) = (i == j) := by
  rw [Bool.eq_iff_iff]
  simp
theorem dec_str {i j : Str} : decide (V.str i = V.str j) = (i == j) := by
  rw [Bool.eq_iff_iff]
  simp
theorem dec_byt {i j : Array UInt8} : decide (V.byt i = V.byt j) = (i.toList == j.toList) := by
  rw [Bool.eq_iff_iff]
  cases i
  cases j
  simp

section
variable {X : Cx} {a b c : Expr} {ta tb tc : TE} {pos : Pos}
theorem fin_bl {pins : List (Addr × Obj)} {σ : St} {H : Hp} {s : Shared} {Q : VK} {k k' : Bool} (I : Inv X pins σ H s) (q : Q (.bl k) H) (e : k = k') : EP X pins σ Q (.bool k') s := by
  subst e
  exact ⟨.bl k, H, I, rfl, q⟩
theorem op_eq : OpR X (compareOp .Eq) rEq := by
  intro pins s σ H x y v u Q I rx ry h
  obtain ⟨hs, q⟩ := h
  cases x with
  | non =>
    cases rx
    cases y with
    | non => cases ry; exact PySem.EqNone.eq_none_none (fin_bl I q (by simp))
    | bl j => cases ry; exact PySem.EqNone.eq_none_bool (fin_bl I q (by simp))
    | int j => obtain ⟨t', rfl⟩ := ry; exact PySem.EqNone.eq_none_int (fin_bl I q (by simp))
    | str j => obtain ⟨t', rfl⟩ := ry; exact PySem.EqNone.eq_none_str (fin_bl I q (by simp))
    | _ => exact absurd (show false = true from hs) Bool.false_ne_true
  | bl i =>
    cases rx
    cases y with
    | non => cases ry; exact PySem.EqNone.eq_bool_none (fin_bl I q (by simp))
    | bl j => cases ry; exact eq_bool (fin_bl I q dec_bl)
    | str j => obtain ⟨t', rfl⟩ := ry; exact PySem.EqMixed.eq_bool_str (fin_bl I q (by simp))
    | _ => exact absurd (show false = true from hs) Bool.false_ne_true
  | int i =>
    obtain ⟨t, rfl⟩ := rx
    cases y with
    | non => cases ry; exact PySem.EqNone.eq_int_none (fin_bl I q (by simp))
    | int j => obtain ⟨t', rfl⟩ := ry; exact eq_int (fin_bl I q dec_int)
    | str j => obtain ⟨t', rfl⟩ := ry; exact PySem.EqMixed.eq_int_str (fin_bl I q (by simp))
    | _ => exact absurd (show false = true from hs) Bool.false_ne_true
  | str i =>
    obtain ⟨t, rfl⟩ := rx
    cases y with
    | non => cases ry; exact PySem.EqNone.eq_str_none (fin_bl I q (by simp))
    | bl j => cases ry; exact PySem.EqMixed.eq_str_bool (fin_bl I q (by simp))
    | int j => obtain ⟨t', rfl⟩ := ry; exact PySem.EqMixed.eq_str_int (fin_bl I q (by simp))
    | str j => obtain ⟨t', rfl⟩ := ry; exact eq_str (fin_bl I q dec_str)
    | _ => exact absurd (show false = true from hs) Bool.false_ne_true
  | byt i =>
    obtain ⟨t, rfl⟩ := rx
    cases y with
    | byt j => obtain ⟨t', rfl⟩ := ry; exact PySem.W.eq_bytes (fin_bl I q dec_byt)
    | _ => exact absurd (show false = true from hs) Bool.false_ne_true
  | _ => cases y <;> exact absurd (show false = true from hs) Bool.false_ne_true
theorem op_ne : OpR X (compareOp .NotEq) rNe := by
  intro pins s σ H x y v u Q I rx ry h
  obtain ⟨hs, q⟩ := h
  cases x with
  | non =>
    cases rx
    cases y with
    | non => cases ry; exact PySem.EqNone.ne_none_none (fin_bl I q (by simp))
    | bl j => cases ry; exact PySem.EqNone.ne_none_bool (fin_bl I q (by simp))
    | int j => obtain ⟨t', rfl⟩ := ry; exact PySem.EqNone.ne_none_int (fin_bl I q (by simp))
    | str j => obtain ⟨t', rfl⟩ := ry; exact PySem.EqNone.ne_none_str (fin_bl I q (by simp))
    | _ => exact absurd (show false = true from hs) Bool.false_ne_true
  | bl i =>
    cases rx
    cases y with
    | non => cases ry; exact PySem.EqNone.ne_bool_none (fin_bl I q (by simp))
    | bl j => cases ry; exact ne_bool (fin_bl I q (congrArg not dec_bl))
    | str j => obtain ⟨t', rfl⟩ := ry; exact PySem.EqMixed.ne_bool_str (fin_bl I q (by simp))
    | _ => exact absurd (show false = true from hs) Bool.false_ne_true
  | int i =>
    obtain ⟨t, rfl⟩ := rx
    cases y with
    | non => cases ry; exact PySem.EqNone.ne_int_none (fin_bl I q (by simp))
    | int j => obtain ⟨t', rfl⟩ := ry; exact ne_int (fin_bl I q (congrArg not dec_int))
    | str j => obtain ⟨t', rfl⟩ := ry; exact PySem.EqMixed.ne_int_str (fin_bl I q (by simp))
    | _ => exact absurd (show false = true from hs) Bool.false_ne_true
  | str i =>
    obtain ⟨t, rfl⟩ := rx
    cases y with
    | non => cases ry; exact PySem.EqNone.ne_str_none (fin_bl I q (by simp))
    | bl j => cases ry; exact PySem.EqMixed.ne_str_bool (fin_bl I q (by simp))
    | int j => obtain ⟨t', rfl⟩ := ry; exact PySem.EqMixed.ne_str_int (fin_bl I q (by simp))
    | str j => obtain ⟨t', rfl⟩ := ry; exact ne_str (fin_bl I q (congrArg not dec_str))
    | _ => exact absurd (show false = true from hs) Bool.false_ne_true
  | byt i =>
    obtain ⟨t, rfl⟩ := rx
    cases y with
    | byt j => obtain ⟨t', rfl⟩ := ry; exact PySem.W.ne_bytes (fin_bl I q (congrArg not dec_byt))
    | _ => exact absurd (show false = true from hs) Bool.false_ne_true
  | _ => cases y <;> exact absurd (show false = true from hs) Bool.false_ne_true

theorem op_lt : OpR X (compareOp .Lt) (rI0 fun i j => .bl (decide (i < j))) := opB0 fun _ _ _ _ _ _ _ q => lt_int q
theorem op_le : OpR X (compareOp .LtE) (rI0 fun i j => .bl (decide (i ≤ j))) := opB0 fun _ _ _ _ _ _ _ q => le_int q
theorem op_gt : OpR X (compareOp .Gt) (rI0 fun i j => .bl (decide (j < i))) := opB0 fun _ _ _ _ _ _ _ q => gt_int q
theorem op_isN : OpR X (compareOp .Is) (fun x y H Q => y = .non ∧ Q (.bl (decide (x = .non))) H) := by
  intro pins s σ H x y v u Q I rx ry h
  obtain ⟨rfl, q⟩ := h
  cases ry
  refine is_none_gen (fin_bl I q ?_)
  cases x <;> first
    | (cases rx; rfl)
    | (obtain ⟨t, rfl⟩ := rx; rfl)
theorem op_notN : OpR X (compareOp .IsNot) (fun x y H Q => y = .non ∧ Q (.bl (!decide (x = .non))) H) := by
  intro pins s σ H x y v u Q I rx ry h
  obtain ⟨rfl, q⟩ := h
  cases ry
  refine isnot_none_gen (fin_bl I q ?_)
  cases x <;> first
    | (cases rx; rfl)
    | (obtain ⟨t, rfl⟩ := rx; rfl)

theorem OpR.or {f : Value → Value → Sem Value} {r r' : R2} (h : OpR X f r) (h' : OpR X f r') : OpR X f (fun x y H Q => r x y H Q ∨ r' x y H Q) := by
  intro pins s σ H x y v u Q I rx ry q
  rcases q with q | q
  · exact h pins s σ H x y v u Q I rx ry q
  · exact h' pins s σ H x y v u Q I rx ry q

theorem nomark (b : Expr) {op : CmpOp} (h : autoParam (op ≠ .In) au1_._auto_1) (h2 : autoParam (op ≠ .NotIn) au1_._auto_1) : behindInMarks op b = false := by
  have e1 : (op == CmpOp.In) = false := by cases op <;> first | rfl | exact absurd rfl h
  have e2 : (op == CmpOp.NotIn) = false := by cases op <;> first | rfl | exact absurd rfl h2
  cases b <;> simp [behindInMarks, e1, e2]
theorem pe_cmpR {op : CmpOp} {r : R2} (ho : OpR X (compareOp op) r) (ha : PE X a ta) (hb : PE X b tb) (hm : behindInMarks op b = false) : PE X (.Compare a [op] [b] pos) (tOp r ta tb) := by
  intro pins s σ H Q I h
  exact wpAny_Compare1 (binT ha hb I h fun v u s2 x y H2 I2 rx ry q => ho pins s2 σ H2 x y v u Q I2 rx ry q) hm
noncomputable def tTest (t : TE) : TT := fun σ H Q => t σ H fun x H' => ∃ k, x = .bl k ∧ Q k H'
theorem pt_cmpR {op : CmpOp} {r : R2} (ho : OpR X (compareOp op) r) (ha : PE X a ta) (hb : PE X b tb) (hm : behindInMarks op b = false) : PT X (.Compare a [op] [b] pos) (tTest (tOp r ta tb)) := by
  intro pins s σ H Q I h
  refine wpAny_isTrue_Compare1 (thn (ha pins s σ H _ I h) fun v s1 ⟨x, H1, I1, r1, q1⟩ => thn (hb pins s1 σ H1 _ I1 q1) fun u s2 ⟨y, H2, I2, r2, q2⟩ =>
    thn (ho pins s2 σ H2 x y v u _ I2 r1 r2 q2) fun c s3 ⟨z, H3, I3, r3, k, e, q3⟩ => ?_) hm
  subst e
  cases r3
  exact wpAny_truthy_bool ⟨H3, I3, q3⟩
noncomputable def tChain (r r' : R2) (ta tb tc : TE) : TE := fun σ H Q => ta σ H fun x H1 => tb σ H1 fun y H2 => r x y H2 fun z H3 => ∃ k, z = .bl k ∧
  (if k = true then tc σ H3 fun w' H4 => r' y w' H4 Q else Q (.bl false) H3)
theorem line63 : (sizeLine : Nat) < 2 ^ 63 := by rw [sizeLine_eq]; decide
theorem vals1 {x : V} {us : List Value} (r : Vals [x] us) : ∃ u, us = [u] ∧ RelV x u := by
  cases r with
  | cons r1 r2 => cases r2; exact ⟨_, rfl, r1⟩
theorem vals2 {x y : V} {us : List Value} (r : Vals [x, y] us) : ∃ u w', us = [u, w'] ∧ RelV x u ∧ RelV y w' := by
  cases r with
  | cons r1 r2 =>
    cases r2 with
    | cons r3 r4 => cases r4; exact ⟨_, _, rfl, r1, r3⟩
theorem call_abs : CallR X (.builtin "abs") (fun xs H Q => ∃ i, xs = [.int i] ∧ Q (.int (if i < 0 then -i else i)) H) := by
  intro pins s σ H xs us Q I r h
  obtain ⟨i, rfl, q⟩ := h
  obtain ⟨u, rfl, t, rfl⟩ := vals1 r
  exact call_abs_int fun u tk => ⟨.int (if i < 0 then -i else i), H, I.tok _, ⟨_, rfl⟩, q⟩
theorem call_min2 (hc : X.calm = true) : CallR X (.builtin "min") (fun xs H Q => ∃ i j, xs = [.int i, .int j] ∧ Q (.int (if j < i then j else i)) H) := by
  intro pins s σ H xs us Q I r h
  obtain ⟨i, j, rfl, q⟩ := h
  obtain ⟨u, w', rfl, ⟨t, rfl⟩, ⟨t', rfl⟩⟩ := vals2 r
  refine min_two_ints (I.ok.hd hc) fun h' tk k => ⟨_, H, I.kept k, ?_, q⟩
  by_cases hj : j < i
  · rw [if_pos hj, if_pos hj]; exact ⟨_, rfl⟩
  · rw [if_neg hj, if_neg hj]; exact ⟨_, rfl⟩
theorem call_int1 : CallR X (.type "int") (fun xs H Q => (∃ i, xs = [.int i] ∧ Q (.int i) H) ∨ ∃ k, xs = [.bl k] ∧ Q (.int (if k then 1 else 0)) H) := by
  intro pins s σ H xs us Q I r h
  rcases h with ⟨i, rfl, q⟩ | ⟨k, rfl, q⟩
  · obtain ⟨u, rfl, t, rfl⟩ := vals1 r
    exact call_int_int ⟨.int i, H, I, ⟨_, rfl⟩, q⟩
  · obtain ⟨u, rfl, r1⟩ := vals1 r
    cases r1
    exact call_int_bool ⟨.int (if k then 1 else 0), H, I.tok _, ⟨_, rfl⟩, q⟩
end
end L2

namespace L2
open PySem PySem.Spec PyProof.Rows

structure ObjM (h : Heap) (x dx C : Addr) (mA : Str → Option Value) : Prop where
  obj : h.get? x = some (PySem.W.instObj C dx)
  ns : h.Ns1 dx mA
  ne : dx ≠ x

theorem lookIn_ns {h : Heap} {dx : Addr} {mA : Str → Option Value} (n : h.Ns1 dx mA) : ∃ od, h.get? dx = some od ∧ ∀ name, PySem.W.lookIn name od = some (mA name) := by
  obtain ⟨o, es, ep, ho, hd, hk, _, hm⟩ := n
  refine ⟨o, ho, fun name => ?_⟩
  have e := hm name
  unfold nsFind findBy at e
  rw [← Array.find?_toList] at e
  unfold PySem.W.lookIn
  rw [hd]
  dsimp only
  split
  · rename_i y q
    rw [q] at e
    exact congrArg some e
  · rename_i q
    rw [q] at e
    have a : es.toList.any (·.refKey) = false := by
      rw [List.any_eq_false]
      intro y hy
      obtain ⟨z, t, hkey⟩ := hk y (Array.mem_toList_iff.mp hy)
      simp [DictEntry.refKey, hkey]
    have a' : ¬ es.toList.any (·.refKey) = true := by rw [a]; exact Bool.false_ne_true
    rw [if_neg a']
    exact congrArg some e

theorem ObjM.look {h : Heap} {x dx C : Addr} {mA : Str → Option Value} (I : ObjM h x dx C mA) : ∃ od, PySem.W.InstAt h x (PySem.W.instObj C dx) C (some od) ∧ ∀ name, PySem.W.lookIn name od = some (mA name) :=
  let ⟨od, ho, hl⟩ := lookIn_ns I.ns
  ⟨od, ⟨I.obj, rfl, rfl, ho⟩, hl⟩

section
variable {prog : Program} {w : World} {A : Around} {E : Value → Shared → Prop} {s : Shared} {K : PySem.W.Frag} {x dx C f : Addr} {mA : Str → Option Value} {name : Str} {v : Value}

end

noncomputable def putF (f : Str) (v : V) : List (Str × V) → List (Str × V)
  | [] => [(f, v)]
  | (g, x) :: r => if g = f then (g, v) :: r else (g, x) :: putF f v r
section
variable {P : Program} {w : World} {H H' : Hp} {h h' : Heap} {a C dx : Addr} {fs fs' : List (Str × V)}
end

structure Cls (K : PySem.W.Frag) (C : Addr) : Prop where
  pg : PySem.W.plainGet K C Str.empty = true
  hd : PySem.W.hasDictIn K C = true
  po : PySem.W.plainOver K C = true
  sa : PySem.W.findIn K (.ref C) "__setattr__" = some (some (.builtin "object.__setattr__"))
theorem Cls.get {K : PySem.W.Frag} {C : Addr} (c : Cls K C) (f : Str) : PySem.W.plainGet K C f = true := c.pg
noncomputable def NoAttr (K : PySem.W.Frag) (C : Addr) (f : Str) : Prop := PySem.W.findIn K (.ref C) f = some none
structure Con (K : PySem.W.Frag) (C : Addr) (f : Str) (v : V) (u : Value) : Prop where
  at_ : PySem.W.findIn K (.ref C) f = some (some u)
  rel : RelV v u
  get : PySem.W.specialIn K u "__get__" = some none
  cp : PySem.W.copiedNames.contains f = false
structure Meth (K : PySem.W.Frag) (C : Addr) (m : Str) (f : Addr) : Prop where
  at_ : PySem.W.findIn K (.ref C) m = some (some (.ref f))
  fn : PySem.W.isFn K (.ref f) = true
  kp : PySem.W.keepIn K (.ref f) = true

section
variable {X : Cx} {pins : List (Addr × Obj)} {σ : St} {H : Hp} {s : Shared} {a C dx : Addr} {fs : List (Str × V)} {f : Str} {v : V} {A : Around} {E : Value → Shared → Prop}

theorem Inv.made (I : Inv X pins σ H s) : Inv X pins σ (upd (upd H s.heap.objs.size (.own (s.heap.objs.size + 1))) (s.heap.objs.size + 1) (.ins C s.heap.objs.size []))
    { s with heap := (s.heap.push PySem.W.emptyDict).push (PySem.W.instObj C s.heap.objs.size) } := by
  have e1 : (s.heap.push PySem.W.emptyDict).get? s.heap.objs.size = some PySem.W.emptyDict := Heap.get?_push_size s.heap rfl
  have e2 : ((s.heap.push PySem.W.emptyDict).push (PySem.W.instObj C s.heap.objs.size)).get? (s.heap.objs.size + 1) = some (PySem.W.instObj C s.heap.objs.size) := by
    have := Heap.get?_push_size (s.heap.push PySem.W.emptyDict) (o := PySem.W.instObj C s.heap.objs.size) rfl
    rwa [Heap.size_push] at this
  have e3 : (s.heap.push PySem.W.emptyDict).Ns s.heap.objs.size (fun _ => none) := ⟨PySem.W.emptyDict, #[], _, e1, rfl, (fun e he => absurd he (by simp)), fun _ => rfl⟩
  have I1 := I.laid (a := s.heap.objs.size) (o := .own (s.heap.objs.size + 1)) (h' := s.heap.push PySem.W.emptyDict) (t' := s.toks) (fun b u q => Heap.get?_push_of_some _ q) (Nat.le_refl _) ⟨_, e1⟩
  refine I1.laid (a := s.heap.objs.size + 1) (o := .ins C s.heap.objs.size []) (t' := s.toks) (fun b u q => Heap.get?_push_of_some _ q) (Nat.le_of_eq (Heap.size_push _ _)) ?_
  have ne : s.heap.objs.size ≠ s.heap.objs.size + 1 := Nat.ne_of_lt (Nat.lt_succ_self _)
  refine ⟨by rw [upd_ne ne, upd_same], Nat.zero_le _, ne, e2, fun _ => none, (Heap.Ns1.of_empty e3).at fun o q => Heap.get?_push_of_some _ q, fun _ => True.intro, fun y hy => absurd rfl hy⟩

end

noncomputable def tFld (K : PySem.W.Frag) (ta : TE) (f : Str) : TE := fun σ H Q => ta σ H fun x H1 => ∃ a C dx fs v, x = .ref a ∧ H1 a = some (.ins C dx fs) ∧ Cls K C ∧ NoAttr K C f ∧ fs.lookup f = some v ∧ Q v H1
noncomputable def sFld (K : PySem.W.Frag) (ta tv : TE) (f : Str) : TS := fun D σ H => tv σ H fun y H1 => ta σ H1 fun x H2 => ∃ a C dx fs, x = .ref a ∧ H2 a = some (.ins C dx fs) ∧ Cls K C ∧ NoAttr K C f ∧ fs.length < 1000 ∧
  D.nx σ (upd H2 a (.ins C dx (putF f y fs)))
section
variable {X : Cx} {o e value : Expr} {f : Str} {pos pos' tpos : Pos} {ta tv : TE}
end

section
variable {X : Cx} {pins : List (Addr × Obj)} {σ : St} {H : Hp} {s : Shared} {A : Around} {E : Value → Shared → Prop} {Q : Value → Shared → Prop} {c : Value} {b : Bool}
inductive TyOf (K : PySem.W.Frag) (H : Hp) : V → Value → Prop where
  | non : TyOf K H .non (.type "NoneType")
  | bl (x : Bool) : TyOf K H (.bl x) (.type "bool")
  | int (i : Int) : TyOf K H (.int i) (.type "int")
  | str (x : Str) : TyOf K H (.str x) (.type "str")
  | flt (x : UInt64) : TyOf K H (.flt x) (.type "float")
  | lst {a : Addr} {xs : List V} (e : H a = some (.lst xs)) : TyOf K H (.ref a) (.type "list")
  | frz {a : Addr} {o : Obj} {xs : List V} (e : H a = some (.frz o (.lst xs))) : TyOf K H (.ref a) (.type "list")
  | tup {a : Addr} {xs : List V} (e : H a = some (.tup xs)) : TyOf K H (.ref a) (.type "tuple")
  | dK {a : Addr} {kvs : List (Key × V)} (e : H a = some (.dK kvs)) : TyOf K H (.ref a) (.type "dict")
  | dT {a : Addr} {kvs : List (List Key × V)} (e : H a = some (.dT kvs)) : TyOf K H (.ref a) (.type "dict")
  | ins {a C dx : Addr} {fs : List (Str × V)} (e : H a = some (.ins C dx fs)) (cl : Cls K C) (ha : PySem.W.findIn K (.ref C) "__class__" = some (some (.builtin "object.__class__")))
      (hn : PySem.W.specialIn K (.builtin "object.__class__") "__get__" = some (some (.builtin "getset_descriptor.__get__"))) (htk : PySem.W.takesIn K (.builtin "object.__class__") = some true)
      (hm : PySem.W.mroIn K C (.type "object") = some true) : TyOf K H (.ref a) (.ref C)
end
end L2

namespace L2
open PySem PySem.Spec PyProof.Rows

structure Room (k : Nat) (A : Around) : Prop where
  hd : A.handled = none
  dp : A.depth + 3 * k + 5 < recursionLimit
  un : A.units + 16 * k + 200 < cLine
theorem Room.mono {j k : Nat} {A : Around} (r : Room k A) (h : j ≤ k) : Room j A := ⟨r.hd, by have := r.dp; omega, by have := r.un; omega⟩
theorem Room.deeper {k : Nat} {A : Around} (r : Room (k + 1) A) (env : Env) : Room k (A.deeper env) :=
  ⟨r.hd, by have := r.dp; show A.depth + 1 + 3 * k + 5 < _; omega, by have := r.un; show A.units + 3 + 16 * k + 200 < _; omega⟩
theorem Room.depth {k : Nat} {A : Around} (r : Room k A) : A.depth < recursionLimit := by have := r.dp; omega
theorem Room.units {k : Nat} {A : Around} (r : Room k A) : A.units + 64 < cLine := by have := r.un; omega
noncomputable def tNil : TA := fun _ H Q => Q [] H
noncomputable def tCons (ta : TE) (tr : TA) : TA := fun σ H Q => ta σ H fun x H1 => tr σ H1 fun xs H2 => Q (x :: xs) H2
section
variable {X : Cx} {e : Expr} {es : List Expr} {te : TE} {t : TA} {pos : Pos}
theorem pa_nil : PA X [] tNil := fun _ _ _ _ H Q I h => Calls.spliced_nil ⟨[], H, I, .nil, h⟩
theorem pa_cons (ha : PE X e te) (hr : PA X es t) (hs : autoParam (starEach (e :: es) X.env = (false, eval e X.env) :: starEach es X.env) au0_._auto_1) : PA X (e :: es) (tCons te t) := by
  intro pos pins s σ H Q I h
  rw [hs]
  show wpAny _ _ (spliced ((false, eval e X.env) :: backTo pos (starEach es X.env))) _ _ s
  refine Calls.spliced_cons (thn (ha pins s σ H _ I h) fun u s1 ⟨x, H1, I1, r1, q1⟩ => ?_)
  exact thn (hr pos pins s1 σ H1 _ I1 q1) fun us s2 ⟨xs, H2, I2, r2, q2⟩ => ⟨x :: xs, H2, I2, .cons r1 r2, q2⟩

noncomputable def tTup (t : TA) : TE := fun σ H Q => t σ H fun xs H1 => xs.length ≤ sizeLine ∧ ∀ p, H1 p = none → Q (.ref p) (upd H1 p (.tup xs))
noncomputable def tLst (t : TA) : TE := fun σ H Q => t σ H fun xs H1 => xs.length ≤ sizeLine ∧ ∀ p, H1 p = none → Q (.ref p) (upd H1 p (.lst xs))
theorem pe_tup {x1} (h : PA X es t) : PE X (.Tuple es x1 pos) (tTup t) := by
  intro pins s σ H Q I hq
  refine wpAny_Tuple_spliced (thn (h pos pins s σ H _ I hq) fun us s1 ⟨xs, H1, I1, r, z, q⟩ => ⟨by rw [← r.length]; exact z, ?_⟩)
  have hf : H1 s1.heap.objs.size = none := I1.hok.fresh (Nat.le_refl _)
  refine ⟨.ref s1.heap.objs.size, upd H1 s1.heap.objs.size (.tup xs), I1.laid (t' := s1.toks) (fun b u e => Heap.get?_push_of_some _ e) (Nat.le_refl _) ?_, rfl, q _ hf⟩
  exact ⟨z, us, r, ⟨_, Heap.get?_push_size _ rfl, rfl, _, rfl⟩⟩
theorem pe_lst (h : PA X es t) : PE X (.List es pos) (tLst t) := by
  intro pins s σ H Q I hq
  refine wpAny_List_spliced (thn (h pos pins s σ H _ I hq) fun us s1 ⟨xs, H1, I1, r, z, q⟩ => ⟨by rw [← r.length]; exact z, ?_⟩)
  have hf : H1 s1.heap.objs.size = none := I1.hok.fresh (Nat.le_refl _)
  refine ⟨.ref s1.heap.objs.size, upd H1 s1.heap.objs.size (.lst xs), I1.laid (t' := s1.toks) (fun b u e => Heap.get?_push_of_some _ e) (Nat.le_refl _) ?_, rfl, q _ hf⟩
  exact ⟨z, us, 0, r, Heap.get?_push_size _ rfl⟩
end

noncomputable abbrev Sp := List V → Hp → VK → XK → Prop
noncomputable abbrev CXT := List Env → Hp → Shared → XK → Value → Shared → Prop

structure Env0 (P : Program) (w : World) (K : PySem.W.Frag) (mg : Str → Option Value) (base : Heap) (A : Around) (outer : List Env) (s : Shared) (H : Hp) : Prop where
  frames : A.frames = some outer
  mod : Mod K mg base
  bs : ∀ b o, base.get? b = some o → s.heap.get? b = some o ∧ H b = none
  bsz : base.objs.size ≤ s.heap.objs.size
  funs : s.heap.FunFrames base outer
  frf : ∀ b ∈ frs outer, H b = none
  hok : HOk P w H s.heap
  bare : AllBare s.gens
noncomputable def CE (outer : List Env) (P : Program) (w : World) (H : Hp) (s : Shared) (Q : VK) (u : Value) (s' : Shared) : Prop :=
  ∃ v H', s'.os = s.os ∧ AllBare s'.gens ∧ Un (frs outer) [] H H' s.heap s'.heap ∧ HOk P w H' s'.heap ∧ RelV v u ∧ Q v H'
noncomputable def CR (CX : CXT) (outer : List Env) (P : Program) (w : World) (H : Hp) (s : Shared) (Q : VK) (E : XK) (r : Result) (s' : Shared) : Prop :=
  match r with
  | .ok (.ret u) => CE outer P w H s Q u s'
  | .ok _ => False
  | .error e => CX outer H s E e s'
structure FnOk (P : Program) (w : World) (K : PySem.W.Frag) (mg : Str → Option Value) (base : Heap) (CX : CXT) (k : Nat) (f : Addr) (fd : FuncData) (ps : List Str) (sp : Sp) : Prop where
  len : ∀ vs H Q E, sp vs H Q E → vs.length = ps.length
  run : ∀ (A : Around) (outer : List Env) (s : Shared) (H : Hp) (args : Args) (us : List Value) (vs : List V) (Q : VK) (E : XK), Room k A → Env0 P w K mg base A outer s H → BindsTo s fd args (ps.zip us) → Vals vs us → sp vs H Q E →
    codeAny (model P w) A (.call (.ref f) args) (CR CX outer P w H s Q E) s
theorem FnOk.mono {P : Program} {w : World} {K : PySem.W.Frag} {mg : Str → Option Value} {base : Heap} {CX : CXT} {j k : Nat} {f : Addr} {fd : FuncData} {ps : List Str} {sp : Sp} (F : FnOk P w K mg base CX j f fd ps sp) (h : j ≤ k) :
    FnOk P w K mg base CX k f fd ps sp := ⟨F.len, fun A outer s H args us vs Q E hr => F.run A outer s H args us vs Q E (hr.mono h)⟩
theorem FnOk.imp {P : Program} {w : World} {K : PySem.W.Frag} {mg : Str → Option Value} {base : Heap} {CX : CXT} {k : Nat} {f : Addr} {fd : FuncData} {ps : List Str} {sp sp' : Sp} (F : FnOk P w K mg base CX k f fd ps sp)
    (h : ∀ vs H Q E, sp' vs H Q E → sp vs H Q E) : FnOk P w K mg base CX k f fd ps sp' :=
  ⟨fun vs H Q E q => F.len vs H Q E (h _ _ _ _ q), fun A outer s H args us vs Q E hr he hb hv hs => F.run A outer s H args us vs Q E hr he hb hv (h _ _ _ _ hs)⟩

section
variable {X : Cx} {pins : List (Addr × Obj)} {σ : St} {H : Hp} {s s' : Shared}
theorem Inv.env0 (I : Inv X pins σ H s) : Env0 X.prog X.w X.K X.mg X.base X.A X.stack s H :=
  ⟨I.ok.frames, I.ok.mod, I.bs, Nat.le_trans I.ok.bsz I.sz, I.stack, I.stkFree, I.hok, I.bare⟩
theorem Inv.after {Q : VK} {u : Value} (I : Inv X pins σ H s) (h : CE X.stack X.prog X.w H s Q u s') : EP X pins σ Q u s' := by
  obtain ⟨v, H', os, bare, un, hok, r, q⟩ := h
  obtain ⟨hh, g, d, t, os'⟩ := s'
  obtain rfl : os' = s.os := os
  exact ⟨v, H', I.call (h' := hh) (g' := g) (d' := d) (t' := t) (ch := []) un hok bare (fun b z => absurd z (by simp)), r, q⟩
end

noncomputable def tCall (sp : Sp) (dvs : List V) (E : XK) (t : TA) : TE := fun σ H Q => t σ H fun vs H1 => sp (vs ++ dvs) H1 Q E
noncomputable def tMeth (C : Addr) (m : Str) (sp : Sp) (dvs : List V) (E : XK) (ta : TE) (t : TA) : TE := fun σ H Q => ta σ H fun x H1 => ∃ a dx fs, x = .ref a ∧ H1 a = some (.ins C dx fs) ∧ fs.lookup m = none ∧
  t σ H1 fun vs H2 => sp (x :: (vs ++ dvs)) H2 Q E
noncomputable def tMake (C : Addr) (sp : Sp) (dvs : List V) (E : XK) (t : TA) : TE := fun σ H Q => t σ H fun vs H1 => ∀ x dx, H1 x = none → H1 dx = none → dx ≠ x →
  sp (.ref x :: (vs ++ dvs)) (upd (upd H1 dx (.own x)) x (.ins C dx [])) (fun v H2 => v = .non ∧ Q (.ref x) H2) E

noncomputable def Binds (K : PySem.W.Frag) (fd : FuncData) (ps : List Str) (ds : List Value) : Prop :=
  ∀ (s : Shared) (us : List Value), K.In s.heap → (us ++ ds).length = ps.length → BindsTo s fd ⟨us, []⟩ (ps.zip (us ++ ds))
theorem Binds.all {K : PySem.W.Frag} {fd : FuncData} {ps : List Str} (h : ∀ us : List Value, us.length = ps.length → bindArgs fd ⟨us, []⟩ = pure (ps.zip us)) : Binds K fd ps [] := fun s us _ hl => by
  rw [List.append_nil] at hl ⊢
  exact .of_eq (h us hl)

noncomputable def Passes (CX : CXT) (X : Cx) (E : XK) : Prop := ∀ (pins : List (Addr × Obj)) (σ : St) (H : Hp) (s : Shared) (e : Value) (s' : Shared), Inv X pins σ H s → CX X.stack H s E e s' → X.xe e s'

section
variable {X : Cx} {CX : CXT} {k : Nat} {f C : Addr} {fd : FuncData} {ps : List Str} {sp : Sp} {dvs : List V} {ds : List Value} {E : XK} {x m : Str} {p pos apos : Pos} {e o : Expr} {es : List Expr} {ta : TE} {t : TA}

theorem run_fn {pins : List (Addr × Obj)} {σ : St} {H : Hp} {s : Shared} {Q : VK} {us : List Value} {vs : List V} (F : FnOk X.prog X.w X.K X.mg X.base CX k f fd ps sp) (hr : Room k X.A) (hb : Binds X.K fd ps ds) (hd : Vals dvs ds) (hx : Passes CX X E)
    (I : Inv X pins σ H s) (r : Vals vs us) (h : sp (vs ++ dvs) H Q E) : wpAny (model X.prog X.w) X.A (call (.ref f) us) (EP X pins σ Q) X.xe s := by
  have r2 : Vals (vs ++ dvs) (us ++ ds) := r.append hd
  have hl : (us ++ ds).length = ps.length := by rw [← r2.length]; exact F.len _ _ _ _ h
  refine wpAny_call (codeAny_mono (F.run X.A X.stack s H ⟨us, []⟩ (us ++ ds) (vs ++ dvs) Q E hr I.env0 (hb s us I.kIn hl) r2 h) fun r s' hq => ?_)
  cases r with
  | error e => exact hx pins σ H s e s' I hq
  | ok fl =>
    cases fl with
    | ret u => exact I.after hq
    | next => exact False.elim hq
    | brk => exact False.elim hq
    | cont => exact False.elim hq

theorem pe_call (F : FnOk X.prog X.w X.K X.mg X.base CX k f fd ps sp) (hr : Room k X.A) (hg : Gl X x) (hm : X.mg x = some (.ref f)) (hk : PySem.W.keepIn X.K (.ref f) = true) (hb : Binds X.K fd ps ds) (hd : Vals dvs ds) (hx : Passes CX X E)
    (ha : PA X (e :: es) t) (hdb : autoParam ((x == ("__debug__" : Str)) = false) au1_._auto_1) (he : autoParam (starEach (e :: es) X.env = (false, eval e X.env) :: starEach es X.env) au0_._auto_1) (hpl : autoParam ((backTo pos (starEach es X.env)).any (·.1) = false) au0_._auto_1) :
    PE X (.Call (.Name x p) (e :: es) [] pos) (tCall sp dvs E t) := by
  intro pins s σ H Q I h
  refine wpAny_Call_Name_kw (ld_glob I hg hm ?_ hdb)
  refine PySem.W.callWith_K (h₀ := X.base) I.ok.mod.kin hk (thn (ha pos pins s σ H _ I h) fun us s1 ⟨vs, H1, I1, r, q⟩ => ⟨I1.kIn, ?_⟩) he hpl
  exact run_fn F hr hb hd hx I1 r q
structure Mk (K : PySem.W.Frag) (C f : Addr) : Prop where
  makes : PySem.W.makesIn K C = true
  init : PySem.W.findIn K (.ref C) "__init__" = some (some (.ref f))
  fn : PySem.W.isFn K (.ref f) = true
  kp : PySem.W.keepIn K (.ref C) = true

end

section
variable {X : Cx} {CX : CXT} {k : Nat} {f C : Addr} {fd : FuncData} {ps ks : List Str} {sp : Sp} {E : XK} {x m : Str} {p pos apos kpos : Pos} {e o : Expr} {es : List Expr} {kws : List Keyword} {te ta : TE} {t tk : TA} {nm : Option Str}
structure KBinds (K : PySem.W.Frag) (fd : FuncData) (ps ks : List Str) (g : List Value → List Value → List Value) (gV : List V → List V → List V) : Prop where
  to : ∀ (s : Shared) (us ws : List Value), K.In s.heap → (g us ws).length = ps.length → BindsTo s fd ⟨us, ks.zip ws⟩ (ps.zip (g us ws))
  rel : ∀ {vs : List V} {us : List Value} {zs : List V} {ws : List Value}, Vals vs us → Vals zs ws → Vals (gV vs zs) (g us ws)
variable {g : List Value → List Value → List Value} {gV : List V → List V → List V}
end

structure FnScope (N P : List Str) (sc : Scope) : Prop where
  kind : sc.kind = .function
  co : sc.isCoroutine = false
  gen : sc.isGenerator = false
  nd : N.Nodup
  pre : N.take P.length = P
  par : ∀ x ∈ P, sc.names.lookup x = some .local ∨ sc.names.lookup x = some .cell
  nofree : ∀ y ∈ sc.names, y.2 ≠ .free

theorem bindL_out {kindOf : Str → Option NameKind} {x : Str} : ∀ {binds : List (Str × Value)} {m : Str → Option Value}, (∀ v, (x, v) ∉ binds) → bindL kindOf binds m x = m x
  | [], _, _ => rfl
  | (n, v) :: r, m, h => by
    unfold bindL
    rw [bindL_out fun w hw => h w (List.mem_cons_of_mem _ hw)]
    split
    · have : x ≠ n := by rintro rfl; exact h v List.mem_cons_self
      simp [this]
    · rfl
theorem bindC_out {kindOf : Str → Option NameKind} {x : Str} : ∀ {binds : List (Str × Value)} {m : Str → Option Value}, (∀ v, (x, v) ∉ binds) → bindC kindOf binds m x = m x
  | [], _, _ => rfl
  | (n, v) :: r, m, h => by
    unfold bindC
    rw [bindC_out fun w hw => h w (List.mem_cons_of_mem _ hw)]
    split
    · rfl
    · have : x ≠ n := by rintro rfl; exact h v List.mem_cons_self
      simp [this]
theorem bindL_get {kindOf : Str → Option NameKind} {x : Str} {v : Value} : ∀ {P : List Str} {vs : List Value} {i : Nat} {m : Str → Option Value}, P.Nodup → P[i]? = some x → vs[i]? = some v → kindOf x = some .local →
    bindL kindOf (P.zip vs) m x = some v
  | [], _, _, _, _, h, _, _ => by simp at h
  | _ :: _, [], _, _, _, _, h, _ => by simp at h
  | p :: P, w :: vs, 0, m, nd, h1, h2, hk => by
    simp at h1 h2; subst h1; subst h2
    show bindL kindOf ((p, w) :: P.zip vs) m p = _
    unfold bindL
    rw [bindL_out fun v hv => (List.nodup_cons.mp nd).1 (List.of_mem_zip hv).1, if_pos hk]
    simp
  | p :: P, w :: vs, i + 1, m, nd, h1, h2, hk => by
    show bindL kindOf ((p, w) :: P.zip vs) m x = _
    unfold bindL
    exact bindL_get (i := i) (List.nodup_cons.mp nd).2 (by simpa using h1) (by simpa using h2) hk
theorem bindC_get {kindOf : Str → Option NameKind} {x : Str} {v : Value} : ∀ {P : List Str} {vs : List Value} {i : Nat} {m : Str → Option Value}, P.Nodup → P[i]? = some x → vs[i]? = some v → kindOf x ≠ some .local →
    bindC kindOf (P.zip vs) m x = some v
  | [], _, _, _, _, h, _, _ => by simp at h
  | _ :: _, [], _, _, _, _, h, _ => by simp at h
  | p :: P, w :: vs, 0, m, nd, h1, h2, hk => by
    simp at h1 h2; subst h1; subst h2
    show bindC kindOf ((p, w) :: P.zip vs) m p = _
    unfold bindC
    rw [bindC_out fun v hv => (List.nodup_cons.mp nd).1 (List.of_mem_zip hv).1, if_neg hk]
    simp
  | p :: P, w :: vs, i + 1, m, nd, h1, h2, hk => by
    show bindC kindOf ((p, w) :: P.zip vs) m x = _
    unfold bindC
    exact bindC_get (i := i) (List.nodup_cons.mp nd).2 (by simpa using h1) (by simpa using h2) hk

noncomputable def start (N : List Str) (vs : List V) : St := vs.map some ++ List.replicate (N.length - vs.length) none

noncomputable def cxOf (CX : CXT) (P : Program) (w : World) (K : PySem.W.Frag) (mg : Str → Option Value) (base : Heap) (N : List Str) (qual : Str) (scope : Scope) (f : Addr) (cd : Value) (A : Around) (outer : List Env) (s : Shared) (H : Hp) (E : XK) : Cx where
  prog := P
  w := w
  K := K
  mg := mg
  base := base
  A := A.deeper (envOfC qual scope s.heap.objs.size f cd)
  N := N
  s₀ := s
  H₀ := H
  env := envOfC qual scope s.heap.objs.size f cd
  outer := outer
  stack := envOfC qual scope s.heap.objs.size f cd :: outer
  ex := []
  calm := true
  fn := fun _ => true
  pn := []
  xe := fun e s' => wpAny (model P w) (A.deeper (envOfC qual scope s.heap.objs.size f cd)) (leaving (envOfC qual scope s.heap.objs.size f cd) e) (fun _ s'' => CX outer H s E e s'') (fun e' s'' => CX outer H s E e' s'') s'

theorem cell_has {sc : Scope} {n : Nat} {x : Str} (h : sc.names.lookup x = some .cell) : ∃ c, (cellsFrom n sc.names []).lookup x = some c := by
  have q := PySem.W.cellsFrom_some sc.names n [] (.inl h)
  exact Option.isSome_iff_exists.mp q

theorem inv_start {CX : CXT} {P : Program} {w : World} {K : PySem.W.Frag} {mg : Str → Option Value} {base : Heap} {N ps : List Str} {qual : Str} {scope : Scope} {f : Addr} {cd : Value} {A : Around} {outer : List Env} {s s1 : Shared} {H : Hp} {E : XK} {us : List Value} {vs : List V}
    (S : FnScope N ps scope) (hd : A.handled = none) (e0 : Env0 P w K mg base A outer s H) (hl : vs.length = ps.length) (r : Vals vs us)
    (x : InCallC s s.heap.objs.size (bindL (envOfC qual scope s.heap.objs.size f cd).kindOf (ps.zip us) fun _ => none) (cellsFrom (s.heap.objs.size + 1) scope.names []) (bindC (envOfC qual scope s.heap.objs.size f cd).kindOf (ps.zip us) fun _ => none) s1) :
    Inv (cxOf CX P w K mg base N qual scope f cd A outer s H E) [] (start N vs) H s1 := by
  have hpl : ps.length ≤ N.length := by have := congrArg List.length S.pre; rw [List.length_take] at this; omega
  obtain ⟨h1, tk, rfl, hk⟩ := x.done
  have noA : ∀ b : Addr, b ∉ (cxOf CX P w K mg base N qual scope f cd A outer s H E).ex := fun b z => absurd (show b ∈ ([] : List Addr) from z) (by simp)
  refine ⟨⟨e0.mod, S.kind, rfl, rfl, Nat.le_refl _, fun y z c h1 h2 => ?_, fun y hy => ?_, fun y c _ h => ?_, fun _ => hd, Around.frames_deeper e0.frames, .inr ⟨rfl, rfl⟩, fun b z => absurd z (noA b), e0.bs, e0.bsz, fun b _ _ => noA b, fun b z => absurd z (noA b), e0.funs, e0.frf⟩,
    rfl, e0.bare, Un.kept hk, ⟨_, x.toInCall.ns, fun i y v h1 h2 h3 => ?_⟩, fun y c h => ⟨_, x.cell y c h⟩, e0.hok.fresh (Nat.le_refl _), fun y c h => ?_, fun p hp => absurd (show p ∈ ([] : List (Addr × Obj)) from hp) (by simp), e0.hok.kept hk, ?_⟩
  · exact name_of_addr x.apart (PySem.mem_of_lookup h1) (PySem.mem_of_lookup h2)
  · have hy : scope.names.lookup y = some .cell ∨ scope.names.lookup y = some .free := hy
    rcases hy with hy | hy
    · exact cell_has hy
    · exact absurd rfl (S.nofree _ (PySem.mem_of_lookup hy))
  · exact Nat.le_of_lt (x.above y c (PySem.mem_of_lookup h))
  · have hi : i < vs.length := by
      unfold start at h2
      by_cases hi : i < vs.length
      · exact hi
      · rw [List.getElem?_append_right (by simpa using hi)] at h2
        rw [List.getElem?_replicate] at h2
        split at h2 <;> cases h2
    have ha : vs[i]? = some v := by
      unfold start at h2
      rw [List.getElem?_append_left (by simpa using hi), List.getElem?_map] at h2
      cases e : vs[i]? with
      | none => rw [e] at h2; cases h2
      | some a => rw [e] at h2; cases h2; rfl
    obtain ⟨u, hu, rv⟩ := r.get ha
    have hp : ps[i]? = some y := by
      rw [← S.pre, List.getElem?_take_of_lt (by omega)]; exact h1
    have ndP : ps.Nodup := by rw [← S.pre]; exact S.nd.sublist (List.take_sublist _ _)
    refine ⟨u, rv, ?_⟩
    rcases S.par y (List.mem_of_getElem? hp) with k | k
    · exact .inl ⟨k, bindL_get ndP hp hu k⟩
    · obtain ⟨c, e⟩ := cell_has (n := s.heap.objs.size + 1) k
      refine .inr ⟨.inl k, c, e, ?_⟩
      have q := x.cell y c e
      rw [bindC_get ndP hp hu (by show scope.names.lookup y ≠ _; rw [k]; decide)] at q
      exact q
  · exact e0.hok.fresh (Nat.le_of_lt (x.above y c (PySem.mem_of_lookup h)))
  · unfold start
    show _ = N.length
    rw [List.length_append, List.length_map, List.length_replicate]
    omega

theorem fn_of {CX : CXT} {P : Program} {w : World} {K : PySem.W.Frag} {mg : Str → Option Value} {base : Heap} {k : Nat} {f : Addr} {name qual : Str} {params : Arguments} {body : List Stmt} {scope : Scope} {dV kV doc pm cdv ct oc : Value} {an od : Option Addr}
    {osl : Array (Option Value)} {N ps : List Str} {sp : Sp} (lk : K.lookup f = some ⟨oc, od, .func (PySem.W.fnOf name qual params body scope dV kV doc pm an cdv ct), osl⟩) (hcd : PySem.W.codeIn K cdv qual = true) (S : FnScope N ps scope)
    (len : ∀ vs H Q E, sp vs H Q E → vs.length = ps.length)
    (hbody : ∀ (A : Around) (outer : List Env) (s : Shared) (H : Hp) (vs : List V) (Q : VK) (E : XK), Room k (A.deeper (envOfC qual scope s.heap.objs.size f cdv)) → sp vs H Q E →
      ∃ t, PSs (cxOf CX P w K mg base N qual scope f cdv A outer s H E) body t ∧ t { nx := fun _ H' => Q .non H', rt := Q } (start N vs) H) :
    FnOk P w K mg base CX (k + 1) f (PySem.W.fnOf name qual params body scope dV kV doc pm an cdv ct) ps sp := by
  refine ⟨len, fun A outer s H args us vs Q E hr e0 hb r hsp => ?_⟩
  have hl := len _ _ _ _ hsp
  have KX : K.In s.heap := e0.mod.kin.keeps fun b o e => (e0.bs b o e).1
  have lim : s.heap.NoLimit := e0.mod.nolimit.keeps fun b o e => (e0.bs b o e).1
  have hkind : ∀ y ∈ ps.zip us, scope.names.lookup y.1 = some .local ∨ (scope.names.lookup y.1 = some .cell ∧ ((cellsFrom (s.heap.objs.size + 1) scope.names []).lookup y.1).isSome = true) := fun ⟨n, v⟩ hy => by
    rcases S.par n (List.of_mem_zip hy).1 with q | q
    · exact .inl q
    · exact .inr ⟨q, PySem.W.cellsFrom_some _ _ _ (.inl q)⟩
  refine codeAny_call_function hr.depth (KX _ _ lk) rfl S.co S.gen rfl (PySem.W.codeRec_of KX hcd) (hb _ _ _ _ ?_)
  refine wpAny_newFunctionEnv_cells S.kind hkind fun env he s1 x => ?_
  subst he
  refine ⟨lim.keeps x.toInCall.keep, codeAny_func ?_⟩
  obtain ⟨t, ht, hq⟩ := hbody A outer s H vs Q E (hr.deeper _) hsp
  have I : Inv (cxOf CX P w K mg base N qual scope f cdv A outer s H E) [] (start N vs) H s1 := inv_start S hr.hd e0 hl r x
  refine wpAny_mono (ht [] s1 (start N vs) H _ I hq) (fun fl s' hs => ?_) fun e s' hs => hs
  have fin : ∀ {σ' : St} {H' : Hp} {v : V} {u : Value}, Inv (cxOf CX P w K mg base N qual scope f cdv A outer s H E) [] σ' H' s' → RelV v u → Q v H' → CE outer P w H s Q u s' :=
    fun {σ' H' v u} J rv q => ⟨v, H', J.os, J.bare, J.base, J.hok, rv, q⟩
  cases fl with
  | ret u =>
    obtain ⟨v, σ', H', J, rv, q⟩ := hs
    exact fin J rv q
  | next =>
    obtain ⟨σ', H', J, q⟩ := hs
    exact fin (v := V.non) (u := Value.none) J rfl q
  | brk =>
    obtain ⟨_, _, _, q⟩ := hs
    exact False.elim q
  | cont =>
    obtain ⟨_, _, _, q⟩ := hs
    exact False.elim q
end L2

namespace L2
open PySem PySem.Spec PyProof.Rows
section
variable {X : Cx} {x : Str} {p pos : Pos} {e : Expr} {es : List Expr} {t : TA} {id T : String} {r : List V → Hp → VK → Prop}

noncomputable def tCB (r : List V → Hp → VK → Prop) (t : TA) : TE := fun σ H Q => t σ H fun vs H1 => r vs H1 Q
theorem pe_callB (hc : CallR X (.builtin id) r) (hg : Gl X x) (hm : X.mg x = none) (hv : bootBuiltins x = some (.builtin id)) (ha : PA X (e :: es) t) (hn : autoParam (x ≠ "__name__") au1_._auto_1) (hdb : autoParam ((x == ("__debug__" : Str)) = false) au1_._auto_1)
    (he : autoParam (starEach (e :: es) X.env = (false, eval e X.env) :: starEach es X.env) au0_._auto_1) (hpl : autoParam ((backTo pos (starEach es X.env)).any (·.1) = false) au0_._auto_1) : PE X (.Call (.Name x p) (e :: es) [] pos) (tCB r t) := by
  intro pins s σ H Q I h
  refine wpAny_Call_Name_kw (ld_blt I hg hm hv ?_ hn hdb)
  exact PyProof.Rows.callWith_builtin1 (thn (ha pos pins s σ H _ I h) fun us s1 ⟨vs, H1, I1, r1, q1⟩ => hc pins s1 σ H1 vs us Q I1 r1 q1) he hpl
theorem pe_callTy (hc : CallR X (.type T) r) (hg : Gl X x) (hm : X.mg x = none) (hv : bootBuiltins x = some (.type T)) (ha : PA X (e :: es) t) (hn : autoParam (x ≠ "__name__") au1_._auto_1) (hdb : autoParam ((x == ("__debug__" : Str)) = false) au1_._auto_1)
    (he : autoParam (starEach (e :: es) X.env = (false, eval e X.env) :: starEach es X.env) au0_._auto_1) (hpl : autoParam ((backTo pos (starEach es X.env)).any (·.1) = false) au0_._auto_1) : PE X (.Call (.Name x p) (e :: es) [] pos) (tCB r t) := by
  intro pins s σ H Q I h
  refine wpAny_Call_Name_kw (ld_blt I hg hm hv ?_ hn hdb)
  exact PyProof.Rows.callWith_type1 (thn (ha pos pins s σ H _ I h) fun us s1 ⟨vs, H1, I1, r1, q1⟩ => hc pins s1 σ H1 vs us Q I1 r1 q1) he hpl
end
end L2

namespace HT
open PySem PyProof.Rows

section
open PySem.SeqAt
open PySem.AutoSeq1 (wpAny_loadPart')
open PySem.MeetsSeq PySem.MeetsSeq2 PySem.MeetsSeq3

end

section
variable {prog : Program} {w : World} {A : Around} {E : Value → Shared → Prop} {s : Shared}

noncomputable def sIx (n d : Nat) : Option Int → Nat
  | none => d
  | some v => if v < 0 then (v + (n : Int)).toNat else min v.toNat n
end
end HT

namespace L2
open PySem PySem.Spec PyProof.Rows

noncomputable abbrev TO := St → Hp → (Option Int → Hp → Prop) → Prop
noncomputable def PO (X : Cx) (e : Option Expr) (t : TO) : Prop :=
  ∀ (pins : List (Addr × Obj)) (s : Shared) (σ : St) (H : Hp) (Q : Option Int → Hp → Prop), Inv X pins σ H s → t σ H Q →
    wpAny (model X.prog X.w) X.A (evalPart e X.env) (fun u s' => ∃ o H', Inv X pins σ H' s' ∧ IsPart u o ∧ Q o H') X.xe s
noncomputable def tNoPart : TO := fun _ H Q => Q none H
noncomputable def tPart (t : TE) : TO := fun σ H Q => t σ H fun x H1 => ∃ i, x = .int i ∧ Q (some i) H1

section
variable {X : Cx} {e : Expr} {te : TE} {lo hi : Option Expr} {tl th : TO} {pos p2 : Pos}

theorem po_none : PO X none tNoPart := by
  intro pins s σ H Q I h
  rw [evalPart_none]
  exact wpAny_pure ⟨none, H, I, .none, h⟩
theorem po_some (h : PE X e te) : PO X (some e) (tPart te) := by
  intro pins s σ H Q I hw
  rw [evalPart_some]
  refine thn (h pins s σ H _ I hw) fun u s1 ⟨x, H1, I1, r1, q1⟩ => ?_
  obtain ⟨i, rfl, q⟩ := q1
  obtain ⟨t, rfl⟩ := r1
  exact ⟨some i, H1, I1, .int i t, q⟩

noncomputable def SlR (X : Cx) (r : V → Option Int → Option Int → Hp → VK → Prop) : Prop :=
  ∀ (pins : List (Addr × Obj)) (s : Shared) (σ : St) (H : Hp) (x : V) (v vl vu : Value) (lo hi : Option Int) (sl : Addr) (Q : VK), Inv X pins σ H s → RelV x v → s.heap.IsSliceOf sl vl vu .none → IsPart vl lo → IsPart vu hi → r x lo hi H Q →
    ∃ T id, typeLookup (.type T) "__getitem__" = pure (some (.builtin id)) ∧ s.TypeIs v T ∧ wpAny (model X.prog X.w) X.A (getItem v (.ref sl)) (EP X pins σ Q) X.xe s
theorem SlR.or {r r' : V → Option Int → Option Int → Hp → VK → Prop} (h : SlR X r) (h' : SlR X r') : SlR X (fun x lo hi H Q => r x lo hi H Q ∨ r' x lo hi H Q) := by
  intro pins s σ H x v vl vu lo hi sl Q I rx hs pl pu q
  rcases q with q | q
  · exact h pins s σ H x v vl vu lo hi sl Q I rx hs pl pu q
  · exact h' pins s σ H x v vl vu lo hi sl Q I rx hs pl pu q
noncomputable def tSl (r : V → Option Int → Option Int → Hp → VK → Prop) (te : TE) (tl th : TO) : TE := fun σ H Q => te σ H fun x H1 => tl σ H1 fun l H2 => th σ H2 fun u H3 => r x l u H3 Q
theorem pe_slice {r : V → Option Int → Option Int → Hp → VK → Prop} (hr : SlR X r) (he : PE X e te) (hl : PO X lo tl) (hu : PO X hi th) : PE X (.Subscript e (.Slice lo hi none p2) pos) (tSl r te tl th) := by
  intro pins s σ H Q I h
  refine Subscript_ (thn (he pins s σ H _ I h) fun v s1 ⟨x, H1, I1, r1, q1⟩ => ?_)
  refine wpAny_Slice (thn (hl pins s1 σ H1 _ I1 q1) fun vl s2 ⟨l, H2, I2, pl, q2⟩ => thn (hu pins s2 σ H2 _ I2 q2) fun vu s3 ⟨u, H3, I3, pu, q3⟩ => ?_)
  rw [evalPart_none]
  refine wpAny_pure ?_
  have I4 : Inv X pins σ H3 { s3 with heap := s3.heap.push { cls := .type "slice", data := .fields #[vl, vu, .none] } } := I3.kept (t' := s3.toks) fun b ob q => Heap.get?_push_of_some _ q
  obtain ⟨T, id, hT, ht, hg⟩ := hr pins { s3 with heap := s3.heap.push { cls := .type "slice", data := .fields #[vl, vu, .none] } } σ H3 x v vl vu l u s3.heap.objs.size Q I4 r1 (Heap.IsSliceOf.new ..) pl pu q3
  show wpAny (model X.prog X.w) X.A (subscriptTail e (.Slice lo hi none p2) v (.ref s3.heap.objs.size)) (EP X pins σ Q) X.xe { s3 with heap := s3.heap.push { cls := .type "slice", data := .fields #[vl, vu, .none] } }
  exact tail_any (ops := [.ref s3.heap.objs.size, v]) ht hT hg (by with_unfolding_all rfl)

noncomputable def cutV (xs : List V) (lo hi : Option Int) : List V := (xs.drop (HT.sIx xs.length 0 lo)).take (HT.sIx xs.length xs.length hi - HT.sIx xs.length 0 lo)
theorem cutV_length (xs : List V) (lo hi : Option Int) : (cutV xs lo hi).length ≤ xs.length := by
  unfold cutV
  rw [List.length_take, List.length_drop]
  omega
end
end L2

namespace L2
open PySem PySem.Spec PyProof.Rows

noncomputable def ixN (n : Nat) (i : Int) : Option Nat := if 0 ≤ i then (if i < n then some i.toNat else none) else if -(n : Int) ≤ i then some (i + n).toNat else none
noncomputable def atI {α : Type} (xs : List α) (i : Int) : Option α := (ixN xs.length i).bind fun j => xs[j]?
theorem ixN_seq {n : Nat} {i : Int} {j : Nat} (h : ixN n i = some j) : seqIndex? i n = some j ∧ j < n ∧ -(n : Int) ≤ i ∧ i < n := by
  unfold ixN at h
  by_cases h0 : 0 ≤ i
  · rw [if_pos h0] at h
    by_cases h1 : i < n
    · rw [if_pos h1] at h
      have e : i.toNat = j := Option.some.inj h
      exact ⟨by rw [seqIndex_of h0 h1, e], by omega, by omega, h1⟩
    · rw [if_neg h1] at h; cases h
  · rw [if_neg h0] at h
    by_cases h1 : -(n : Int) ≤ i
    · rw [if_pos h1] at h
      have e : (i + n).toNat = j := Option.some.inj h
      exact ⟨by rw [seqIndex_neg (by omega) h1, e], by omega, h1, by omega⟩
    · rw [if_neg h1] at h; cases h
theorem atI_get {α : Type} {xs : List α} {i : Int} {v : α} (h : atI xs i = some v) : ∃ j, seqIndex? i xs.length = some j ∧ xs[j]? = some v ∧ j < xs.length ∧ -(xs.length : Int) ≤ i ∧ i < xs.length := by
  unfold atI at h
  cases e : ixN xs.length i with
  | none => rw [e] at h; cases h
  | some j =>
    rw [e] at h
    obtain ⟨h1, h2, h3, h4⟩ := ixN_seq e
    exact ⟨j, h1, h, h2, h3, h4⟩
theorem atI_nat {α : Type} {xs : List α} {j : Nat} {v : α} (h : xs[j]? = some v) : atI xs (j : Int) = some v := by
  have hj : j < xs.length := (List.getElem?_eq_some_iff.mp h).1
  have e : ixN xs.length (j : Int) = some j := by
    unfold ixN
    rw [if_pos (by omega), if_pos (by omega)]; simp
  unfold atI; rw [e]; exact h
noncomputable def PlainIx (b : Expr) : Prop := ∀ o i, subscripted b false o i = operate [o, i] (getItem o i)
noncomputable def IxR (X : Cx) (r : R2) : Prop :=
  ∀ (value slice : Expr) (pins : List (Addr × Obj)) (s : Shared) (σ : St) (H : Hp) (x y : V) (v u : Value) (Q : VK), Inv X pins σ H s → RelV x v → RelV y u → r x y H Q →
    subscripted slice false v u = operate [v, u] (getItem v u) → wpAny (model X.prog X.w) X.A (subscriptTail value slice v u) (EP X pins σ Q) X.xe s
noncomputable def MtR (X : Cx) (id : String) (r : V → List V → Hp → VK → Prop) : Prop :=
  ∀ (pins : List (Addr × Obj)) (s : Shared) (σ : St) (H : Hp) (x : V) (xs : List V) (v : Value) (us : List Value) (Q : VK), Inv X pins σ H s → RelV x v → Vals xs us → r x xs H Q →
    wpAny (model X.prog X.w) X.A (call (.builtin id) (v :: us)) (EP X pins σ Q) X.xe s
section
variable {X : Cx} {a b : Expr} {ta tb : TE} {pos : Pos}
theorem IxR.or {r r' : R2} (h : IxR X r) (h' : IxR X r') : IxR X (fun x y H Q => r x y H Q ∨ r' x y H Q) := by
  intro value slice pins s σ H x y v u Q I rx ry q hs
  rcases q with q | q
  · exact h value slice pins s σ H x y v u Q I rx ry q hs
  · exact h' value slice pins s σ H x y v u Q I rx ry q hs
theorem MtR.or {id : String} {r r' : V → List V → Hp → VK → Prop} (h : MtR X id r) (h' : MtR X id r') : MtR X id (fun x xs H Q => r x xs H Q ∨ r' x xs H Q) := by
  intro pins s σ H x xs v us Q I rx rs q
  rcases q with q | q
  · exact h pins s σ H x xs v us Q I rx rs q
  · exact h' pins s σ H x xs v us Q I rx rs q
theorem pe_ix {r : R2} (hr : IxR X r) (ha : PE X a ta) (hb : PE X b tb) (hs : PlainIx b) : PE X (.Subscript a b pos) (tOp r ta tb) := by
  intro pins s σ H Q I h
  exact Subscript_ (binT ha hb I h fun v u s2 x y H2 I2 rx ry q => hr a b pins s2 σ H2 x y v u Q I2 rx ry q (hs _ _))

noncomputable def rIxL (K : PySem.W.Frag) : R2 := fun x y H Q => ∃ p xs i v, x = .ref p ∧ y = .int i ∧ SqL K H p xs ∧ atI xs i = some v ∧ Q v H
noncomputable def rIxT (K : PySem.W.Frag) : R2 := fun x y H Q => ∃ p xs i v, x = .ref p ∧ y = .int i ∧ SqT K H p xs ∧ atI xs i = some v ∧ Q v H
theorem ix_list : IxR X (rIxL X.K) := by
  intro value slice pins s σ H x y v u Q I rx ry h hs
  obtain ⟨p, xs, i, z, rfl, rfl, hq, he, q⟩ := h
  cases rx
  obtain ⟨t, rfl⟩ := ry
  obtain ⟨its, r, pl, hz⟩ := I.list hq
  obtain ⟨j, h1, h2, h3, h4, h5⟩ := atI_get he
  obtain ⟨w, ew, rw'⟩ := r.get h2
  have hl := r.length
  have hn := line63
  have fin : EP X pins σ Q w s := ⟨z, H, I, rw', q⟩
  by_cases h0 : 0 ≤ i
  · have hj : i.toNat = j := by
      rw [seqIndex_of h0 h5] at h1
      exact Option.some.inj h1
    exact item_listR pl.isList h0 (by omega) (by rw [hj]; simpa using ew) fin hs
  · have hj : (i + (its.toArray.size : Int)).toNat = j := by
      rw [seqIndex_neg (by omega) h4] at h1
      rw [List.size_toArray, ← hl]
      exact Option.some.inj h1
    exact subscriptTail_builtinR (x := w) pl.isList.typeIs slot_list_getitem.lookup
      (wpAny_getItem_list_neg (Q := fun r s' => r = w ∧ EP X pins σ Q r s') pl.isList (by omega) (by rw [List.size_toArray] <;> omega) (by omega) (by rw [hj]; simpa using ew) ⟨rfl, fin⟩) hs
theorem ix_tup : IxR X (rIxT X.K) := by
  intro value slice pins s σ H x y v u Q I rx ry h hs
  obtain ⟨p, xs, i, z, rfl, rfl, hq, he, q⟩ := h
  cases rx
  obtain ⟨t, rfl⟩ := ry
  obtain ⟨its, r, pl, hz⟩ := I.tuple hq
  obtain ⟨j, h1, h2, h3, h4, h5⟩ := atI_get he
  obtain ⟨w, ew, rw'⟩ := r.get h2
  have hl := r.length
  have hn := line63
  have fin : EP X pins σ Q w s := ⟨z, H, I, rw', q⟩
  exact subscriptTail_builtinR (x := w) pl.typeIs slot_tuple_getitem.lookup
    (getItem_tuple (j := j) (Q := fun r s' => r = w ∧ EP X pins σ Q r s') pl (by omega) (by omega) (by rw [List.size_toArray, ← hl]; exact h1) (by simpa using ew) ⟨rfl, fin⟩) hs
theorem mapSeq_set (its : List Value) (n j : Nat) (u : Value) : Obj.mapSeq (·.setIfInBounds j u) { cls := .type "list", data := .seq its.toArray n } = { cls := .type "list", data := .seq (its.set j u).toArray n } := by
  simp [Obj.mapSeq]
theorem Inv.lst {pins : List (Addr × Obj)} {σ : St} {H : Hp} {s : Shared} {p : Addr} {xs : List V} (I : Inv X pins σ H s) (h : H p = some (.lst xs)) :
    ∃ (its : List Value) (n : Nat), Vals xs its ∧ s.heap.get? p = some { cls := .type "list", data := .seq its.toArray n } ∧ xs.length ≤ sizeLine := by
  obtain ⟨z, its, n, r, e⟩ := I.hok p _ h
  exact ⟨its, n, r, e, z⟩
theorem Inv.lstUpd {pins : List (Addr × Obj)} {σ : St} {H : Hp} {s : Shared} {p : Addr} {xs ys : List V} {its its' : List Value} {n n' : Nat} {f : Obj → Obj} (I : Inv X pins σ H s) (h : H p = some (.lst xs))
    (ho : s.heap.get? p = some { cls := .type "list", data := .seq its.toArray n }) (hf : f { cls := .type "list", data := .seq its.toArray n } = { cls := .type "list", data := .seq its'.toArray n' }) (r : Vals ys its') (hz : ys.length ≤ sizeLine) (t : Nat) :
    Inv X pins σ (upd H p (.lst ys)) { s with heap := s.heap.update p f, toks := t } := by
  have e : (s.heap.update p f).get? p = some { cls := .type "list", data := .seq its'.toArray n' } := by
    rw [Heap.get?_update_self f ho (by rw [hf] <;> rfl), hf]
  refine I.write (x := p) (e := p) (by rw [h]; trivial) (.inl rfl) (fun b u hb q => (Heap.get?_update_other _ _ (Ne.symm hb)).trans q) ⟨_, e⟩ ?_
  exact ⟨hz, its', n', r, e⟩
noncomputable def rSetL : V → V → V → Hp → (Hp → Prop) → Prop := fun o i v H Q => ∃ p xs k j, o = .ref p ∧ i = .int k ∧ H p = some (.lst xs) ∧ ixN xs.length k = some j ∧ Q (upd H p (.lst (xs.set j v)))
theorem set_list : PSet X rSetL := by
  intro pins s σ H o i v ov iv u Q I ro ri rv h
  obtain ⟨p, xs, k, j, rfl, rfl, hp, hj, q⟩ := h
  cases ro
  obtain ⟨t, rfl⟩ := ri
  obtain ⟨its, n, r, ho, hz⟩ := I.lst hp
  obtain ⟨h1, h2, h3, h4⟩ := ixN_seq hj
  have hl := r.length
  have hn := line63
  have I' : Inv X pins σ (upd H p (.lst (xs.set j v))) { s with heap := s.heap.update p (Obj.mapSeq (·.setIfInBounds j u)) } :=
    I.lstUpd hp ho (mapSeq_set its n j u) (r.set rv j) (by rw [List.length_set]; exact hz) s.toks
  by_cases h0 : 0 ≤ k
  · have hk : k.toNat = j := by
      rw [seqIndex_of h0 h4] at h1
      exact Option.some.inj h1
    exact PySem.W.ki_setAt ho h0 (by omega) (by rw [List.size_toArray, ← hl]; exact h4) (by rw [hk]; exact ⟨_, I', q⟩)
  · have hk : (k + (its.toArray.size : Int)).toNat = j := by
      rw [seqIndex_neg (by omega) h3] at h1
      rw [List.size_toArray, ← hl]
      exact Option.some.inj h1
    exact PySem.W.ki_setBack ho (by omega) (by rw [List.size_toArray, ← hl]; exact h3) (by omega) (by rw [hk]; exact ⟨_, I', q⟩)

theorem slice_bounds (lo hi : Option Int) (n : Nat) : (sliceBounds lo hi none n).1 = ((HT.sIx n 0 lo : Nat) : Int) ∧ (sliceBounds lo hi none n).2.1 = ((HT.sIx n n hi : Nat) : Int) ∧ (sliceBounds lo hi none n).2.2 = 1 := by
  refine ⟨?_, ?_, rfl⟩
  · cases lo with
    | none => simp [sliceBounds, HT.sIx]
    | some i =>
      simp only [sliceBounds, HT.sIx, Option.getD_none, show (1 : Int) > 0 by decide, if_true]
      by_cases h : i < 0
      · simp only [h, if_true] <;> omega
      · simp only [h, if_false] <;> omega
  · cases hi with
    | none => simp [sliceBounds, HT.sIx]
    | some i =>
      simp only [sliceBounds, HT.sIx, Option.getD_none, show (1 : Int) > 0 by decide, if_true]
      by_cases h : i < 0
      · simp only [h, if_true] <;> omega
      · simp only [h, if_false] <;> omega
theorem slicePick_cut (its : List Value) (lo hi : Option Int) : slicePick its.toArray lo hi none = ((its.drop (HT.sIx its.length 0 lo)).take (HT.sIx its.length its.length hi - HT.sIx its.length 0 lo)).toArray := by
  obtain ⟨h1, h2, h3⟩ := slice_bounds lo hi its.toArray.size
  unfold slicePick
  rw [h1, h2, h3]
  simp only [sliceRange_one, pick_run, List.size_toArray] <;> rfl
noncomputable def rSlL (K : PySem.W.Frag) : V → Option Int → Option Int → Hp → VK → Prop := fun x lo hi H Q => ∃ a xs, x = .ref a ∧ SqL K H a xs ∧ ∀ p, H p = none → Q (.ref p) (upd H p (.lst (cutV xs lo hi)))
theorem sl_list : SlR X (rSlL X.K) := by
  intro pins s σ H x v vl vu lo hi sl Q I rx hs pl pu h
  obtain ⟨a, xs, rfl, hx, q⟩ := h
  cases rx
  obtain ⟨its, r, ht, hz⟩ := I.list hx
  have hlen := r.length
  refine ⟨"list", _, slot_list_getitem.lookup, ht.isList.typeIs, ?_⟩
  refine wpAny_getItem_list_slice ht.isList hs pl pu .none (by simp) ?_ (by rw [List.size_toArray] <;> omega)
  rw [slicePick_cut, ← hlen]
  refine ⟨.ref s.heap.objs.size, _, I.laid (t' := s.toks) (o := .lst (cutV xs lo hi)) (fun b ob q => Heap.get?_push_of_some _ q) (Nat.le_refl _) ?_, rfl, q _ (I.hok.fresh (Nat.le_refl _))⟩
  exact ⟨Nat.le_trans (cutV_length xs lo hi) hz, _, 0, (r.drop (HT.sIx xs.length 0 lo)).take (HT.sIx xs.length xs.length hi - HT.sIx xs.length 0 lo), Heap.get?_push_size _ rfl⟩

noncomputable def flatV : V → Bool
  | .non => true
  | .bl _ => true
  | .int _ => true
  | .str _ => true
  | _ => false
noncomputable def eqV : V → V → Bool
  | .non, .non => true
  | .bl a, .bl b => a == b
  | .bl a, .int b => (if a then 1 else 0) == b
  | .int a, .bl b => a == (if b then 1 else 0)
  | .int a, .int b => a == b
  | .str a, .str b => a == b
  | _, _ => false
theorem eqAt_V {A : Around} {s : Shared} {y x : V} {u v : Value} (ry : RelV y u) (rx : RelV x v) (fy : flatV y = true) (fx : flatV x = true) : SeqAt.EqAt A s u v (eqV y x) := by
  cases y with
  | non =>
    cases ry
    cases x with
    | non => cases rx; exact SeqAt.EqAt.same _
    | bl b => cases rx; exact SeqAt.EqAt.none_bool b
    | int b => obtain ⟨t, rfl⟩ := rx; exact SeqAt.EqAt.none_int b t
    | str b => obtain ⟨t, rfl⟩ := rx; exact SeqAt.EqAt.none_str b t
    | _ => exact absurd (show false = true from fx) Bool.false_ne_true
  | bl a =>
    cases ry
    cases x with
    | non => cases rx; exact SeqAt.EqAt.bool_none a
    | bl b => cases rx; exact SeqAt.EqAt.bool_bool a b
    | int b => obtain ⟨t, rfl⟩ := rx; exact SeqAt.EqAt.bool_int a b t
    | str b => obtain ⟨t, rfl⟩ := rx; exact SeqAt.EqAt.bool_str a b t
    | _ => exact absurd (show false = true from fx) Bool.false_ne_true
  | int a =>
    obtain ⟨t', rfl⟩ := ry
    cases x with
    | non => cases rx; exact SeqAt.EqAt.int_none a t'
    | bl b => cases rx; exact SeqAt.EqAt.int_bool a t' b
    | int b => obtain ⟨t, rfl⟩ := rx; exact SeqAt.EqAt.int_int a t' b t
    | str b => obtain ⟨t, rfl⟩ := rx; exact SeqAt.EqAt.int_str a t' b t
    | _ => exact absurd (show false = true from fx) Bool.false_ne_true
  | str a =>
    obtain ⟨t', rfl⟩ := ry
    cases x with
    | non => cases rx; exact SeqAt.EqAt.str_none a t'
    | bl b => cases rx; exact SeqAt.EqAt.str_bool a t' b
    | int b => obtain ⟨t, rfl⟩ := rx; exact SeqAt.EqAt.str_int a t' b t
    | str b => obtain ⟨t, rfl⟩ := rx; exact SeqAt.EqAt.str_str a t' b t
    | _ => exact absurd (show false = true from fx) Bool.false_ne_true
  | _ => exact absurd (show false = true from fy) Bool.false_ne_true
noncomputable def eqU (x : V) (u : Value) : Bool := match u with
  | .none => eqV .non x
  | .bool b => eqV (.bl b) x
  | .int i _ => eqV (.int i) x
  | .str z _ => eqV (.str z) x
  | _ => false
theorem eqU_of {x y : V} {u : Value} (r : RelV y u) (f : flatV y = true) : eqU x u = eqV y x := by
  cases y with
  | non => cases r; rfl
  | bl b => cases r; rfl
  | int i => obtain ⟨t, rfl⟩ := r; rfl
  | str z => obtain ⟨t, rfl⟩ := r; rfl
  | _ => exact absurd (show false = true from f) Bool.false_ne_true
theorem any_eqU {x : V} : ∀ {xs : List V} {us : List Value}, Vals xs us → xs.all flatV = true → us.any (eqU x) = xs.any fun y => eqV y x
  | _, _, .nil, _ => rfl
  | y :: xs, u :: us, .cons r t, f => by
    rw [List.all_cons, Bool.and_eq_true] at f
    rw [List.any_cons, List.any_cons, eqU_of r f.1, any_eqU t f.2]
theorem mem_eqAt {A : Around} {s : Shared} {x : V} {v : Value} (rx : RelV x v) (fx : flatV x = true) : ∀ {xs : List V} {us : List Value}, Vals xs us → xs.all flatV = true → ∀ u ∈ us, SeqAt.EqAt A s u v (eqU x u)
  | _, _, .nil, _ => fun u hu => by cases hu
  | y :: xs, u :: us, .cons r t, f => fun u' hu => by
    rw [List.all_cons, Bool.and_eq_true] at f
    rcases List.mem_cons.mp hu with rfl | hu
    · rw [eqU_of r f.1]; exact eqAt_V r rx f.1 fx
    · exact mem_eqAt rx fx t f.2 u' hu
noncomputable def inV (x : V) (xs : List V) : Bool := xs.any fun y => eqV y x
noncomputable def rIn (K : PySem.W.Frag) (neg : Bool) : R2 := fun x y H Q => ∃ p xs, y = .ref p ∧ (SqL K H p xs ∨ SqT K H p xs) ∧ flatV x = true ∧ xs.all flatV = true ∧ Q (.bl (if neg then !inV x xs else inV x xs)) H
theorem op_in_seq : OpR X (compareOp .In) (rIn X.K false) := by
  intro pins s σ H x y v u Q I rx ry h
  obtain ⟨p, xs, rfl, hq, fx, fs, q⟩ := h
  cases ry
  rcases hq with hq | hq
  · obtain ⟨its, r, pl, hz⟩ := I.list hq
    refine SeqAt.in_listAt (eqU x) pl.isList (fun w hw => mem_eqAt rx fx r fs w (by simpa using hw)) ⟨.bl _, H, I, rfl, ?_⟩
    rw [show its.toArray.any (eqU x) = its.any (eqU x) by simp, any_eqU r fs]
    exact q
  · obtain ⟨its, r, pl, hz⟩ := I.tuple hq
    refine SeqAt.in_tupleAt (eqU x) pl (fun w hw => mem_eqAt rx fx r fs w (by simpa using hw)) ⟨.bl _, H, I, rfl, ?_⟩
    rw [show its.toArray.any (eqU x) = its.any (eqU x) by simp, any_eqU r fs]
    exact q
theorem call_len_seq : CallR X (.builtin "len") (fun xs H Q => ∃ p ys, xs = [.ref p] ∧ (SqL X.K H p ys ∨ SqT X.K H p ys) ∧ Q (.int ys.length) H) := by
  intro pins s σ H xs us Q I r h
  obtain ⟨p, ys, rfl, hq, q⟩ := h
  obtain ⟨u, rfl, rx⟩ := vals1 r
  cases rx
  have hn := line63
  rcases hq with hq | hq
  · obtain ⟨its, r', pl, hz⟩ := I.list hq
    have hlen := r'.length
    exact Calls.call_len_list pl.isList (by simp only [List.size_toArray] <;> omega) ⟨.int ys.length, H, I.tok _, ⟨s.toks + 1, by rw [List.size_toArray, hlen]⟩, q⟩
  · obtain ⟨its, r', pl, hz⟩ := I.tuple hq
    have hlen := r'.length
    exact len_tuple pl (by simp only [List.size_toArray] <;> omega) ⟨.int ys.length, H, I.tok _, ⟨s.toks + 1, by rw [List.size_toArray, hlen]⟩, q⟩
theorem CallR.or {f : Value} {r r' : List V → Hp → VK → Prop} (h : CallR X f r) (h' : CallR X f r') : CallR X f (fun xs H Q => r xs H Q ∨ r' xs H Q) := by
  intro pins s σ H xs us Q I rs q
  rcases q with q | q
  · exact h pins s σ H xs us Q I rs q
  · exact h' pins s σ H xs us Q I rs q
noncomputable def tyV (K : PySem.W.Frag) (T : String) (x : V) (H : Hp) : Prop := match x with
  | .str _ => T = "str"
  | .int _ => T = "int"
  | .ref p => (T = "list" ∧ ∃ xs, SqL K H p xs) ∨ (T = "tuple" ∧ ∃ o, K.lookup p = some o ∧ o.cls = .type "tuple" ∧ o.dict = none) ∨
      (T = "dict" ∧ ((∃ kvs, H p = some (.dK kvs)) ∨ ∃ kvs, H p = some (.dT kvs))) ∨ (T = "set" ∧ ∃ S n, H p = some (.set S n))
  | _ => False
theorem tyV_is {pins : List (Addr × Obj)} {σ : St} {H : Hp} {s : Shared} {T : String} {x : V} {v : Value} (I : Inv X pins σ H s) (r : RelV x v) (ty : tyV X.K T x H) :
    s.TypeIs v T ∧ ∀ a, v = .ref a → ∃ ob, s.heap.get? a = some ob ∧ ob.dict = none := by
  cases x with
  | str z =>
    obtain ⟨t, rfl⟩ := r
    cases (show T = "str" from ty)
    exact ⟨typeIs_str s z t, fun _ e => nomatch e⟩
  | int i =>
    obtain ⟨t, rfl⟩ := r
    cases (show T = "int" from ty)
    exact ⟨typeIs_int s i t, fun _ e => nomatch e⟩
  | ref p =>
    cases r
    rcases ty with ⟨rfl, xs, hq⟩ | ⟨rfl, o, hk, hc, hd⟩ | ⟨rfl, hk⟩ | ⟨rfl, S, n, hk⟩
    · obtain ⟨its, _, pl, _⟩ := I.list hq
      refine ⟨pl.isList.typeIs, fun a e => ?_⟩
      cases e
      obtain ⟨o, n, e, c, hd, _⟩ := pl
      exact ⟨o, e, hd⟩
    · refine ⟨⟨o, I.kIn p o hk, hc⟩, fun a e => ?_⟩
      cases e
      exact ⟨o, I.kIn _ o hk, hd⟩
    · have z : ∃ o, s.heap.get? p = some o ∧ o.ExactDict := by
        rcases hk with ⟨kvs, hk⟩ | ⟨kvs, hk⟩
        · obtain ⟨_, _, _, _, o, _, _, e, ex, _⟩ := I.hok p _ hk
          exact ⟨o, e, ex⟩
        · obtain ⟨_, _, _, _, o, _, _, e, ex, _⟩ := I.hok p _ hk
          exact ⟨o, e, ex⟩
      obtain ⟨o, e, ex⟩ := z
      refine ⟨⟨o, e, ex.1⟩, fun a e2 => ?_⟩
      cases e2
      exact ⟨o, e, ex.2.1⟩
    · obtain ⟨o, _, _, _, e, ex, _⟩ := I.hok p _ hk
      refine ⟨⟨o, e, ex.1⟩, fun a e2 => ?_⟩
      cases e2
      exact ⟨o, e, ex.2.1⟩
  | _ => exact False.elim ty
noncomputable def tBM0 (K : PySem.W.Frag) (T : String) (r : V → List V → Hp → VK → Prop) (to : TE) : TE := fun σ H Q => to σ H fun x H1 => tyV K T x H1 ∧ r x [] H1 Q
noncomputable def tBM (K : PySem.W.Frag) (T : String) (r : V → List V → Hp → VK → Prop) (to : TE) (t : TA) : TE := fun σ H Q => to σ H fun x H1 => tyV K T x H1 ∧ t σ H1 fun xs H2 => r x xs H2 Q
variable {o e : Expr} {es : List Expr} {to : TE} {t : TA} {name : Str} {apos cpos : Pos} {T id : String} {r : V → List V → Hp → VK → Prop}
theorem pe_bm0 (pa : PlainAttrs T) (slot : Slot T name id) (hty : typeOf (.builtin id) = pure (.type "method_descriptor")) (hm : MtR X id r) (ho : PE X o to)
    (hbase : autoParam (attributeBase o name X.env (eval o X.env) = eval o X.env) au0_._auto_1) (hline : autoParam ((apos.endLine == cpos.line) = true) au0_._auto_1) : PE X (.Call (.Attribute o name apos) [] [] cpos) (tBM0 X.K T r to) := by
  intro pins s σ H Q I h
  refine wpAny_Call_method0_late hbase hline (thn (ho pins s σ H _ I h) fun v s1 ⟨x, H1, I1, r1, ty, q1⟩ => ?_)
  obtain ⟨h1, h2⟩ := tyV_is I1 r1 ty
  exact ⟨T, id, pa, slot, hty, h1, h2, Calls.callWith_builtin rfl (PySem.evalArgs_none (hm pins s1 σ H1 x [] v [] Q I1 r1 .nil q1))⟩
theorem pe_bm (pa : PlainAttrs T) (slot : Slot T name id) (hty : typeOf (.builtin id) = pure (.type "method_descriptor")) (hm : MtR X id r) (ho : PE X o to) (ha : PA X (e :: es) t)
    (hbase : autoParam (attributeBase o name X.env (eval o X.env) = eval o X.env) au0_._auto_1)
    (hfew : autoParam (((backTo cpos (starEach (e :: es) X.env)).all (fun x => !x.1) && (backToKw cpos (keywordEach [] X.env)).all (fun x => x.1.isSome)
      && decide ((e :: es).length + ([] : List Keyword).length + (if ([] : List Keyword).isEmpty then 0 else 1) < 30)) = true) au0_._auto_1)
    (hline : autoParam ((apos.endLine == cpos.line) = true) au0_._auto_1) (hs : autoParam (starEach (e :: es) X.env = (false, eval e X.env) :: starEach es X.env) au0_._auto_1) (hplain : autoParam ((backTo cpos (starEach es X.env)).any (·.1) = false) au0_._auto_1) :
    PE X (.Call (.Attribute o name apos) (e :: es) [] cpos) (tBM X.K T r to t) := by
  intro pins s σ H Q I h
  refine wpAny_Call_method_late hbase hfew hline rfl (thn (ho pins s σ H _ I h) fun v s1 ⟨x, H1, I1, r1, ty, q1⟩ => ?_)
  obtain ⟨h1, h2⟩ := tyV_is I1 r1 ty
  refine ⟨T, id, pa, slot, hty, h1, h2, ?_⟩
  have hA := ha cpos pins s1 σ H1 _ I1 q1
  rw [hs] at hA ⊢
  refine Calls.callWith_builtin (by show (false || (backTo cpos (starEach es X.env)).any (·.1)) = false; rw [hplain] <;> rfl) (Calls.evalArgs_plain ?_)
  exact thn hA fun us s2 ⟨vs, H2, I2, r2, q2⟩ => hm pins s2 σ H2 x vs v us Q I2 r1 r2 q2
/- xs.append(e), list.index on a module's tuple .. are MtR facts of 06m -/
end
end L2

namespace L2
open PySem PySem.Spec PyProof.Rows

noncomputable def MtM (X : Cx) (id : String) (r : V → List V → Hp → VK → Prop) : Prop :=
  ∀ (pins : List (Addr × Obj)) (s : Shared) (σ : St) (H : Hp) (x : V) (xs : List V) (v : Value) (us : List Value) (Q : VK), Inv X pins σ H s → RelV x v → Vals xs us → r x xs H Q →
    wpAny (model X.prog X.w) X.A (call (.builtin id) (v :: us)) (EP X pins σ Q) X.xe s

theorem Vals.one : ∀ {x : V} {us : List Value}, Vals [x] us → ∃ u, us = [u] ∧ RelV x u
  | _, _, .cons r .nil => ⟨_, rfl, r⟩
theorem Vals.two : ∀ {x y : V} {us : List Value}, Vals [x, y] us → ∃ u v, us = [u, v] ∧ RelV x u ∧ RelV y v
  | _, _, _, .cons r (.cons q .nil) => ⟨_, _, rfl, r, q⟩
theorem Vals.zero : ∀ {us : List Value}, Vals [] us → us = []
  | _, .nil => rfl
theorem Vals.dropLast {xs : List V} {us : List Value} (h : Vals xs us) : Vals xs.dropLast us.dropLast := by
  induction h with
  | nil => exact .nil
  | cons r t ih =>
    cases t with
    | nil => exact .nil
    | cons q t' => exact .cons r ih
theorem Vals.reverse {xs : List V} {us : List Value} (h : Vals xs us) : Vals xs.reverse us.reverse := by
  induction h with
  | nil => exact .nil
  | cons r t ih => rw [List.reverse_cons, List.reverse_cons]; exact Vals.append ih (.cons r .nil)
theorem Vals.rep {xs : List V} {us : List Value} (h : Vals xs us) : ∀ k : Nat, Vals (List.replicate k xs).flatten (List.replicate k us).flatten
  | 0 => .nil
  | k + 1 => by
    rw [List.replicate_succ, List.replicate_succ, List.flatten_cons, List.flatten_cons]
    exact Vals.append h (Vals.rep h k)
theorem foldl_rep (its : List Value) : ∀ (k : Nat) (acc : List Value),
    List.foldl (fun x1 x2 => x1 ++ x2) acc.toArray (List.replicate k its.toArray) = (acc ++ (List.replicate k its).flatten).toArray
  | 0, acc => by simp
  | k + 1, acc => by
    have e : acc.toArray ++ its.toArray = (acc ++ its).toArray := by simp
    have e2 : (acc ++ its) ++ (List.replicate k its).flatten = acc ++ (List.replicate (k + 1) its).flatten := by
      rw [List.replicate_succ, List.flatten_cons, List.append_assoc]
    rw [← e2, ← foldl_rep its k (acc ++ its), ← e, List.replicate_succ, List.foldl_cons]

section
variable {X : Cx} {pins : List (Addr × Obj)} {σ : St} {H : Hp} {s : Shared} {l b : Addr} {xs ys zs : List V}

theorem Inv.lset {its its' : List Value} {n : Nat} {f : Array Value → Array Value} {t' : Nat} (I : Inv X pins σ H s) (hH : H l = some (.lst xs))
    (e : s.heap.get? l = some { cls := .type "list", data := .seq its.toArray n }) (hf : f its.toArray = its'.toArray) (hv : Vals ys its') (hz : ys.length ≤ sizeLine) :
    Inv X pins σ (upd H l (.lst ys)) { s with heap := s.heap.update l (Obj.mapSeq f), toks := t' } := by
  have q := PySem.IsL.update e f
  rw [hf] at q
  refine I.write (x := l) (e := l) (by rw [hH]; exact trivial) (.inl rfl) (fun b' u hb hu => (Heap.get?_update_other s.heap (Obj.mapSeq f) (Ne.symm hb)).trans hu) ⟨_, q⟩ ?_
  exact ⟨hz, its', _, hv, q⟩
theorem Inv.lnew {its : List Value} {t' : Nat} (I : Inv X pins σ H s) (hv : Vals ys its) (hz : ys.length ≤ sizeLine) :
    Inv X pins σ (upd H s.heap.objs.size (.lst ys)) { s with heap := s.heap.push { cls := .type "list", data := .seq its.toArray }, toks := t' } :=
  I.laid (fun _ _ q => Heap.get?_push_of_some _ q) (Nat.le_refl _) ⟨hz, its, 0, hv, Heap.get?_push_size _ rfl⟩
theorem Inv.fresh (I : Inv X pins σ H s) : H s.heap.objs.size = none := I.hok.fresh (Nat.le_refl _)
theorem Inv.lstM (I : Inv X pins σ H s) (hH : H l = some (.lst xs)) : xs.length ≤ sizeLine ∧ ∃ (its : List Value) (n : Nat), Vals xs its ∧ xs.length = its.length ∧ s.heap.get? l = some { cls := .type "list", data := .seq its.toArray n } := by
  obtain ⟨z, its, n, r, e⟩ := I.hok l _ hH
  exact ⟨z, its, n, r, r.length, e⟩

theorem notLongL {n : Nat} (h : n ≤ sizeLine) : Builtin.List.listTooLong n = false := by
  unfold Builtin.List.listTooLong
  exact decide_eq_false (by omega)
end

section
variable {X : Cx}

noncomputable def rAppend : V → List V → Hp → VK → Prop := fun x vs H Q => ∃ l xs y, x = .ref l ∧ vs = [y] ∧ H l = some (.lst xs) ∧ xs.length < sizeLine ∧ Q .non (upd H l (.lst (xs ++ [y])))
theorem mt_append : MtM X "list.append" rAppend := by
  intro pins s σ H x vs v us Q I rx rv h
  obtain ⟨l, xs, y, rfl, rfl, hH, hz, q⟩ := h
  cases rx
  obtain ⟨u, rfl, ru⟩ := rv.one
  obtain ⟨z, its, n, r, hl, e⟩ := I.lstM hH
  refine call_meets F.slot_list_append ⟨_, e, rfl⟩ F.entry_list_append (F.args_list_append_2 _ _) (PySem.list_append l its.toArray n u (by rw [List.size_toArray]; omega)) ⟨e, ?_⟩
  refine ⟨.non, _, I.lset (its' := its ++ [u]) hH e (by simp) (r.append (.cons ru .nil)) ?_, rfl, q⟩
  rw [List.length_append, List.length_singleton]
  omega

noncomputable def rExtend : V → List V → Hp → VK → Prop := fun x vs H Q => ∃ l b xs zs, x = .ref l ∧ vs = [.ref b] ∧ H l = some (.lst xs) ∧ H b = some (.lst zs) ∧ xs.length + zs.length ≤ sizeLine ∧ Q .non (upd H l (.lst (xs ++ zs)))
theorem mt_extend : MtM X "list.extend" rExtend := by
  intro pins s σ H x vs v us Q I rx rv h
  obtain ⟨l, b, xs, zs, rfl, rfl, hH, hB, hz, q⟩ := h
  cases rx
  obtain ⟨u, rfl, ru⟩ := rv.one
  cases ru
  obtain ⟨z, its, n, r, hl, e⟩ := I.lstM hH
  obtain ⟨z2, its2, n2, r2, hl2, e2⟩ := I.lstM hB
  have hsz : its.toArray.size + its2.toArray.size ≤ sizeLine := by rw [List.size_toArray, List.size_toArray]; omega
  have hlong : ¬ (!its.toArray.isEmpty && Builtin.List.listTooLong (its.toArray.size + its2.toArray.size)) = true := by
    rw [notLongL hsz, Bool.and_false]
    exact Bool.false_ne_true
  refine call_meets F.slot_list_extend ⟨_, e, rfl⟩ F.entry_list_extend (F.args_list_extend_2 _ _)
    (AutoSeq1.list_extend_list_list_0 l its.toArray n b its2.toArray n2 hlong (by rw [List.size_toArray]; omega) (by omega)) ⟨e, e2, ?_⟩
  refine ⟨.non, _, I.lset (its' := its ++ its2) hH e (by simp) (r.append r2) ?_, rfl, q⟩
  rw [List.length_append]
  omega

noncomputable def rReverse : V → List V → Hp → VK → Prop := fun x vs H Q => ∃ l xs, x = .ref l ∧ vs = [] ∧ H l = some (.lst xs) ∧ Q .non (upd H l (.lst xs.reverse))
theorem mt_reverse : MtM X "list.reverse" rReverse := by
  intro pins s σ H x vs v us Q I rx rv h
  obtain ⟨l, xs, rfl, rfl, hH, q⟩ := h
  cases rx
  have hus := rv.zero
  subst hus
  obtain ⟨z, its, n, r, hl, e⟩ := I.lstM hH
  refine call_meets F.slot_list_reverse ⟨_, e, rfl⟩ F.entry_list_reverse (F.args_list_reverse_1 _) (AutoSeq1.list_reverse_list_0 l its.toArray n (by rw [List.size_toArray]; omega)) ⟨e, ?_⟩
  refine ⟨.non, _, I.lset (its' := its.reverse) hH e (by simp) r.reverse ?_, rfl, q⟩
  rw [List.length_reverse]
  omega

noncomputable def rCat : R2 := fun x y H Q => ∃ l b xs zs, x = .ref l ∧ y = .ref b ∧ H l = some (.lst xs) ∧ H b = some (.lst zs) ∧ xs.length + zs.length ≤ sizeLine ∧ ∀ p, H p = none → Q (.ref p) (upd H p (.lst (xs ++ zs)))
theorem op_cat : OpR X (binaryOp .Add) rCat := by
  intro pins s σ H x y v u Q I rx ry h
  obtain ⟨l, b, xs, zs, rfl, rfl, hH, hB, hz, q⟩ := h
  cases rx
  cases ry
  obtain ⟨z, its, n, r, hl, e⟩ := I.lstM hH
  obtain ⟨z2, its2, n2, r2, hl2, e2⟩ := I.lstM hB
  refine PySem.P.add_list e e2 ?_ (by rw [List.size_toArray, List.size_toArray]; omega)
  have ea : its.toArray ++ its2.toArray = (its ++ its2).toArray := by simp
  rw [ea]
  exact ⟨.ref _, _, I.lnew (t' := s.toks) (r.append r2) (by rw [List.length_append]; omega), rfl, q _ I.fresh⟩
noncomputable def rRep : R2 := fun x y H Q => ∃ l k xs, x = .ref l ∧ y = .int k ∧ H l = some (.lst xs) ∧ -(2 ^ 63) ≤ k ∧ k < 2 ^ 63 ∧ xs.length * k.toNat ≤ sizeLine ∧
  ∀ p, H p = none → Q (.ref p) (upd H p (.lst (List.replicate k.toNat xs).flatten))
theorem len_rep {α : Type} (xs : List α) (k : Nat) : (List.replicate k xs).flatten.length = k * xs.length := by
  induction k with
  | zero => simp
  | succ k ih => rw [List.replicate_succ, List.flatten_cons, List.length_append, ih, Nat.succ_mul, Nat.add_comm]
theorem op_rep : OpR X (binaryOp .Mult) rRep := by
  intro pins s σ H x y v u Q I rx ry h
  obtain ⟨l, k, xs, rfl, rfl, hH, h1, h2, hz, q⟩ := h
  cases rx
  obtain ⟨t, rfl⟩ := ry
  obtain ⟨z, its, n, r, hl, e⟩ := I.lstM hH
  have hlen : its.toArray.size * k.toNat ≤ sizeLine := by rw [List.size_toArray, ← hl]; exact hz
  have hcap : ¬ its.toArray.size * k.toNat > (2 ^ 63 - 1) / 8 := by
    have : (sizeLine : Nat) ≤ (2 ^ 63 - 1) / 8 := by decide
    omega
  have hfit : ¬ (!Builtin.List.listFitsIndex k) = true := by
    rw [fitsIndex_both h1 h2]
    exact Bool.false_ne_true
  have hlong : ¬ Builtin.List.listTooLong (its.toArray.size * k.toNat) = true := by
    rw [notLongL hlen]
    exact Bool.false_ne_true
  have hnew : List.foldl (fun x1 x2 => x1 ++ x2) #[] (List.replicate (if its.toArray.isEmpty = true then 0 else k.toNat) its.toArray) = (List.replicate k.toNat its).flatten.toArray := by
    have f0 : ∀ m : Nat, List.foldl (fun x1 x2 => x1 ++ x2) #[] (List.replicate m its.toArray) = (List.replicate m its).flatten.toArray := fun m => by
      have := foldl_rep its m []
      rw [List.nil_append] at this
      exact this
    rw [f0]
    cases its with
    | nil => simp
    | cons a r' => rw [if_neg (by simp)]
  refine wpAny_binaryOp_repeat_ref (T := "list") (U := "int") (by decide) ⟨_, e, rfl⟩ (fun s' => typeIs_int s' k t) noFill_list_mul F.fills_int_mul F.slot_int_rmul repeat_list F.slot_int_index.lookup
    (call_meets F.slot_int_rmul (typeIs_int s k t) F.entry_int_rmul (F.args_int_rmul_2 _ _) (int___rmul___int_list k t l its.toArray n)
      ⟨e, rfl, ⟨_, e, rfl⟩, call_meets F.slot_list_mul ⟨_, e, rfl⟩ F.entry_list_mul (F.args_list_mul_2 _ _) (AutoListH.list___mul___list_int_3 l its.toArray n k t hfit hcap hlong) ⟨e, ?_⟩⟩)
  rw [hnew]
  exact ⟨.ref _, _, I.lnew (t' := s.toks) (r.rep k.toNat) (by rw [len_rep, Nat.mul_comm]; exact hz), rfl, q _ I.fresh⟩

end

section
variable {prog : Program} {w : World} {A : Around} {E : Value → Shared → Prop} {s : Shared}
set_option maxRecDepth 100000 in
end

section
variable {X : Cx}
end
end L2

namespace Att
open PySem PySem.W PySem.Calls PyProof.Rows

theorem ints_of_wellAll {P : Params} {h : Heap} : ∀ (ns : List Int) (vs : List Value), WellAll P h vs (ns.map WData.int) → IntsAre vs ns := by
  intro ns
  induction ns with
  | nil =>
    intro vs w
    rw [List.map_nil] at w
    cases w
    exact .nil
  | cons n ns ih =>
    intro vs w
    rw [List.map_cons] at w
    cases w with
    | cons a b =>
      cases a
      exact .cons _ _ (ih _ b)

theorem script_of {l : OpenLaw} {n : Nat} (hn : l.most = some n) {P : Params} {h : Heap} {args : List WData} {vals : List Value}
    (hpre : l.row.toRowW.claim.pre args = true) (hwl : WellAll P h vals args) :
    ∃ a vs ns, vals = [Value.ref a] ∧ args = [WData.list (ns.map WData.int)] ∧ h.get? a = some { cls := .type "list", data := .seq vs.toArray } ∧ IntsAre vs ns ∧ ns.length ≤ n := by
  have hsh : WShape.hasAll [] args [.list .int] = true := (pre_splitW hpre).1
  have hc : l.pre.holds [] { args := args } = true := (pre_splitW hpre).2
  obtain ⟨d, r, rfl, h1, h2⟩ := hasAllW_cons hsh
  obtain rfl := hasAllW_nil h2
  obtain ⟨xs, rfl, h3⟩ := hasW_list h1
  obtain ⟨ns, rfl⟩ := items_int h3
  have hlen : ns.length ≤ n := by
    unfold OpenLaw.pre at hc
    have h4 : (WTm.not (.lt (.lit (.int (n : Int))) (.len (.arg 0)))).holds [] { args := [.list (ns.map .int)] } = true := by
      have h4 := (holds_andW hc).1
      rw [hn] at h4
      exact h4
    have h5 := condW_of h4 (w_not (w_lt w_lit (w_len_list (w_arg rfl))))
    rw [List.length_map] at h5
    refine Nat.le_of_not_lt fun q => ?_
    have q' : (n : Int) < ((ns.length : Nat) : Int) := by omega
    first
      | (rw [decide_eq_true q'] at h5; exact absurd h5 (by decide))
      | (simp at h5; omega)
  cases hwl with
  | cons w1 w2 =>
    cases w2
    cases w1 with
    | list ho hall => exact ⟨_, _, ns, rfl, rfl, ho, ints_of_wellAll ns _ hall, hlen⟩

theorem post_true (l : OpenLaw) (args : List WData) : l.row.toRowW.claim.post args (.bool true) args = true :=
  postW_of (r := l.row.toRowW) (X := (true == true))
    (show WShape.has [] (.bool true) .bool = true by first | rfl | decide | simp [WShape.has, WShape.arms, WShape.armsAll])
    (show (WTm.eq .res (.lit (.bool true))).value [] { args := args, res := some (.bool true), after := args } = some (.bool (true == true)) from w_eq_bool (w_res rfl) w_lit) rfl

theorem attach_call {l : OpenLaw} {n : Nat} {q : Program} {loose : List Str} {XP : (Str → Option Value) → Heap → Prop} {YP : World → Heap → Prop} {d : DefRec}
    (hn : l.most = some n) (hdf : d.params.defaults = [])
    (call : ∀ (w : World) (s₀ s₁ : Shared) (mg mb : Str → Option Value) (fa : Addr) (o : Obj) (pm cd doc : Value) (a : Addr) (vs : List Value) (ns : List Int),
      Ground q loose [] XP w s₀ mg mb s₁.heap → YP w s₁.heap →
      s₁.heap.get? fa = some o → o.data = .func (docDef d.name d.params d.body d.scope pm cd doc) → s₁.heap.CodeRec cd d.name → mg d.name = some (.ref fa) →
      s₁.heap.get? a = some { cls := .type "list", data := .seq vs.toArray } → IntsAre vs ns → ns.length ≤ n → s₁.gens = #[] →
      codeAny (model l.prog w) callerA (.call (.ref fa) ⟨[.ref a], []⟩) (fun r s' => r = .ok (.ret (.bool true)) ∧ OldK s₁.heap s'.heap ∧ s'.os = s₁.os ∧ AllBare s'.gens) s₁) :
    WalkO q loose XP YP l.row.toRowW d [] (fun f vs => PySem.call f vs) := by
  intro w s₀ s₁ mg mb G Y fa o pm cd doc dV kV ho hd hcd hD hmg hg args vals as hpre hlay hrd hwl hlo
  obtain rfl : dV = .none := Dflts.none hD hdf
  obtain rfl : kV = .none := Dflts.noKw hD
  obtain ⟨a, vs, ns, rfl, rfl, hobj, hints, hlen⟩ := script_of hn hpre hwl
  refine enter_call (codeAny_mono (call w s₀ s₁ mg mb fa o pm cd doc a vs ns G Y ho (fd_plain hd) hcd hmg hobj hints hlen hg) fun r s' hq => ?_)
  obtain ⟨rfl, h2, h3, h4⟩ := hq
  exact ⟨.inl ⟨.bool true, .bool true, [], rfl, fun _ => rfl, .bool true, post_true l _, fun _ => ⟨List.Pairwise.nil, fun _ hm => (nomatch hm)⟩⟩, h2, h3, h4⟩

section
variable {prog : Program} {w : World} {A : Around} {E : Value → Shared → Prop} {s : Shared} {K : Frag}

noncomputable def ledger (h : Heap) (L d : Addr) : List (Addr × Obj) := (List.range h.objs.size).filterMap fun a => if a = L ∨ a = d then none else (h.get? a).map fun o => (a, o)
end
end Att

namespace L2
open PySem PySem.Spec PyProof.Rows

theorem vals_ints : ∀ {vs : List Value} {ns : List Int}, IntsAre vs ns → Vals (ns.map V.int) vs
  | _, _, .nil => .nil
  | _, _, .cons n t h => .cons ⟨t, rfl⟩ (vals_ints h)

noncomputable def Only (H : Hp) : Prop := ∀ b, H b = none ∨ ∃ o xs, H b = some (.frz o (.lst xs))

theorem law_call {P : Program} {w : World} {K : PySem.W.Frag} {mg mb : Str → Option Value} {CX : CXT} {k : Nat} {fa a : Addr} {fd : FuncData} {x : Str} {sp : Sp} {s₁ : Shared} {vs : List Value} {ns : List Int}
    (KX : K.In s₁.heap) (hns : s₁.heap.Ns mainGlobals mg) (hb : s₁.heap.Ns builtinsNs mb) (hbb : ∀ x : Str, x ≠ "__name__" → mb x = bootBuiltins x) (hlim : s₁.heap.NoLimit) (hg : s₁.gens = #[])
    (ha : s₁.heap.get? a = some { cls := .type "list", data := .seq vs.toArray }) (hi : IntsAre vs ns) (hl : ns.length ≤ sizeLine) (hr : Room k callerA)
    (F : ∀ base : Heap, K.In base → base.Ns mainGlobals mg → FnOk P w K mg base CX k fa fd [x] sp) (hbind : ∀ (s : Shared) (u : Value), BindsTo s fd ⟨[u], []⟩ [(x, u)])
    (hsp : ∀ H : Hp, Only H → SqL K H a (ns.map V.int) → sp [.ref a] H (fun v _ => v = .bl true) fun _ _ _ => False)
    (hCX : ∀ H e s', CX [] H s₁ (fun _ _ _ => False) e s' → False) :
    codeAny (model P w) callerA (.call (.ref fa) ⟨[.ref a], []⟩) (fun r s' => r = .ok (.ret (.bool true)) ∧ OldK s₁.heap s'.heap ∧ s'.os = s₁.os ∧ AllBare s'.gens) s₁ := by
  have rv := vals_ints hi
  have lenV := hi.length
  -- from an abstract heap in which nothing but the script may be tracked
  have core : ∀ H : Hp, Only H → SqL K H a (ns.map V.int) → HOk P w H s₁.heap → (∀ b, H b ≠ none → b = a) → (H a ≠ none → K.lookup a = none) →
      codeAny (model P w) callerA (.call (.ref fa) ⟨[.ref a], []⟩) (fun r s' => r = .ok (.ret (.bool true)) ∧ OldK s₁.heap s'.heap ∧ s'.os = s₁.os ∧ AllBare s'.gens) s₁ := by
    intro H hO hS hok hA hK
    have base_of : ∀ {b : Addr} {o : Obj}, s₁.heap.get? b = some o → H b = none → (hidT s₁.heap H).get? b = some o := fun e n => hidT_get e n
    have noA : ∀ {b : Addr} {o : Obj} {es : Array DictEntry} {ep : Nat}, s₁.heap.get? b = some o → o.data = .dict es ep → H b = none := fun {b o es ep} e d => by
      cases q : H b with
      | none => rfl
      | some u =>
        have e' : b = a := hA b (by rw [q]; simp)
        subst e'
        rw [ha] at e; cases e
        have d' : Data.seq vs.toArray _ = Data.dict es ep := d
        cases d'
    have nsK : ∀ {b : Addr} {m : Str → Option Value}, s₁.heap.Ns b m → (hidT s₁.heap H).Ns b m := fun {b m} ⟨o, es, ep, e, d, r⟩ => ⟨o, es, ep, base_of e (noA e d), d, r⟩
    have hKb : K.In (hidT s₁.heap H) := fun b o e => base_of (KX b o e) (by
      cases q : H b with
      | none => rfl
      | some u =>
        have e' : b = a := hA b (by rw [q]; simp)
        subst e'
        rw [hK (by rw [q]; simp)] at e; cases e)
    have hM : Mod K mg (hidT s₁.heap H) := ⟨hKb, nsK hns, ⟨mb, nsK hb, hbb⟩, let ⟨mc, h1, h2⟩ := hlim; ⟨mc, nsK h1, h2⟩⟩
    have e0 : Env0 P w K mg (hidT s₁.heap H) callerA [] s₁ H := ⟨rfl, hM, fun b o e => of_hidT e, Nat.le_of_eq (hidT_size _ _), trivial, fun b hb => absurd (show b ∈ ([] : List Addr) from hb) (by simp), hok, .of_eq hg⟩
    refine codeAny_mono ((F _ hKb (nsK hns)).run callerA [] s₁ H ⟨[.ref a], []⟩ [.ref a] [.ref a] _ _ hr e0 (hbind s₁ (.ref a)) (.cons rfl .nil) (hsp H hO hS)) fun r s' h => ?_
    cases r with
    | error e => exact (hCX H e s' h).elim
    | ok fl =>
      cases fl with
      | next => exact False.elim h
      | brk => exact False.elim h
      | cont => exact False.elim h
      | ret u =>
        obtain ⟨v, H', os, bare, un, hok', r', q⟩ := h
        have q' : v = .bl true := q
        subst q'
        obtain rfl : u = Value.bool true := r'
        refine ⟨rfl, OldK.of_keep fun b o e => ?_, os, bare⟩
        cases q : H b with
        | none => exact un.keep b o e q (by intro z; exact absurd (show b ∈ ([] : List Addr) from z) (by simp)) (by simp)
        | some u =>
          rcases hO b with z | ⟨ob, xs, z⟩
          · rw [q] at z; cases z
          · have z2 := un.frzs b ob _ z
            obtain ⟨e1, _⟩ := hok b _ z
            obtain ⟨e2, _⟩ := hok' b _ z2
            rw [e] at e1; cases e1
            exact e2
  cases hk : K.lookup a with
  | some o =>
    -- the script is one of the module's own objects
    have e := KX a o hk
    rw [ha] at e
    cases e
    refine core (fun _ => none) (fun _ => .inl rfl) (.inr ⟨_, vs.toArray, _, hk, rfl, rfl, rfl, by rw [List.size_toArray, lenV]; exact hl, by simpa using rv⟩) (fun b u z => by have z' : (none : Option HO) = some u := z; cases z') (fun b z => absurd rfl z) fun z => absurd rfl z
  | none =>
    refine core (fun b => if b = a then some (.frz { cls := .type "list", data := .seq vs.toArray } (.lst (ns.map V.int))) else none) (fun b => ?_) (.inl (.inr ⟨{ cls := .type "list", data := .seq vs.toArray }, if_pos rfl⟩)) (fun b u z => ?_) (fun b z => ?_) fun _ => hk
    · by_cases hb : b = a
      · exact .inr ⟨_, _, if_pos hb⟩
      · exact .inl (if_neg hb)
    · by_cases hb : b = a
      · have z' := (if_pos hb).symm.trans z
        cases z'
        subst hb
        exact ⟨ha, by rw [List.length_map]; exact hl, vs, _, rv, ha⟩
      · have z' := (if_neg hb).symm.trans z
        cases z'
    · by_cases hb : b = a
      · exact hb
      · exact absurd (if_neg hb) z
end L2

namespace L2
open PySem PySem.Spec PyProof.Rows

theorem walk_of {l : PySem.W.OpenLaw} {n k : Nat} {q : Program} {loose : List Str} {XP : (Str → Option Value) → Heap → Prop} {YP : World → Heap → Prop} {d : DefRec} {K : Params → PySem.W.Frag} {CX : World → CXT} {sp : World → Sp} {x : Str}
    (hn : l.most = some n) (hn2 : n ≤ sizeLine) (hdf : d.params.defaults = []) (hr : Room k callerA)
    (hY : ∀ (w : World) (h : Heap), YP w h → (K w.params).In h)
    (F : ∀ (w : World) (mg : Str → Option Value) (fa : Addr) (h : Heap), (K w.params).In h → h.Ns mainGlobals mg → mg d.name = some (.ref fa) →
      ∃ fd : FuncData, (∀ (s : Shared) (u : Value), BindsTo s fd ⟨[u], []⟩ [(x, u)]) ∧
        ∀ base : Heap, (K w.params).In base → base.Ns mainGlobals mg → FnOk l.prog w (K w.params) mg base (CX w) k fa fd [x] (sp w))
    (hsp : ∀ (w : World) (H : Hp) (a : Addr) (ns : List Int), ns.length ≤ n → Only H → SqL (K w.params) H a (ns.map V.int) → sp w [.ref a] H (fun v _ => v = .bl true) fun _ _ _ => False)
    (hCX : ∀ (w : World) (H : Hp) (s : Shared) (e : Value) (s' : Shared), CX w [] H s (fun _ _ _ => False) e s' → False) :
    PySem.W.WalkO q loose XP YP l.row.toRowW d [] (fun f vs => PySem.call f vs) := by
  refine Att.attach_call hn hdf fun w s₀ s₁ mg mb fa o pm cd doc a vs ns G Y ho hd hcd hmg hobj hints hlen hg => ?_
  have KX := hY w _ Y
  obtain ⟨fd, hb, hF⟩ := F w mg fa _ KX G.T.g hmg
  exact law_call KX G.T.g G.T.b G.T.builtins G.T.nolimit hg hobj hints (Nat.le_trans hlen hn2) hr hF hb (fun H hO hS => hsp w H a ns hlen hO hS) fun H e s' => hCX w H s₁ e s'
end L2



namespace L2
open PySem PySem.Spec PyProof.Rows

noncomputable def defArgs (s : Stmt) : Arguments := match s with
  | .FunctionDef _ a _ _ _ _ _ _ _ _ => a
  | _ => { posonlyargs := [], args := [], vararg := none, kwonlyargs := [], kw_defaults := [], kwarg := none, defaults := [] }
noncomputable def defBody (s : Stmt) : List Stmt := match s with
  | .FunctionDef _ _ b _ _ _ _ _ _ _ => b
  | _ => []
noncomputable def defScope (s : Stmt) : Scope := match s with
  | .FunctionDef _ _ _ _ _ _ sc _ _ _ => sc
  | _ => { kind := .function, names := [], isGenerator := false, isCoroutine := false }

noncomputable abbrev CX0 : CXT := fun _ _ _ _ _ _ => False
noncomputable abbrev E0 : XK := fun _ _ _ => False
theorem pass0 {X : Cx} : Passes CX0 X E0 := fun _ _ _ _ _ _ _ h => h.elim

structure Fun (K : PySem.W.Frag) (x qual : Str) (st : Stmt) (f : Addr) (fd : FuncData) : Prop where
  ex : ∃ (oc : Value) (od : Option Addr) (kV doc pm : Value) (an : Option Addr) (cdv ct : Value) (osl : Array (Option Value)),
    fd = PySem.W.fnOf x qual (defArgs st) (defBody st) (defScope st) .none kV doc pm an cdv ct ∧ K.lookup f = some ⟨oc, od, .func fd, osl⟩ ∧ PySem.W.codeIn K cdv qual = true
  kp : PySem.W.keepIn K (.ref f) = true
section
variable {P : Program} {w : World} {K : PySem.W.Frag} {mg : Str → Option Value} {base : Heap}
theorem Fun.ok {x qual : Str} {st : Stmt} {f : Addr} {fd : FuncData} {N ps : List Str} {k : Nat} {sp : Sp} (F : Fun K x qual st f fd) (S : FnScope N ps (defScope st)) (len : ∀ vs H Q E, sp vs H Q E → vs.length = ps.length)
    (hbody : ∀ (cdv : Value) (A : Around) (outer : List Env) (s : Shared) (H : Hp) (vs : List V) (Q : VK) (E : XK), Room k (A.deeper (envOfC qual (defScope st) s.heap.objs.size f cdv)) → sp vs H Q E →
      ∃ t, PSs (cxOf CX0 P w K mg base N qual (defScope st) f cdv A outer s H E).nox (defBody st) t ∧ t { nx := fun _ H' => Q .non H', rt := Q } (start N vs) H) : FnOk P w K mg base CX0 (k + 1) f fd ps sp := by
  obtain ⟨oc, od, kV, doc, pm, an, cdv, ct, osl, rfl, lk, hcd⟩ := F.ex
  refine fn_of lk hcd S len fun A outer s H vs Q E hr hsp => ?_
  obtain ⟨t, h, q⟩ := hbody cdv A outer s H vs Q E hr hsp
  exact ⟨t, h.nox, q⟩
theorem Fun.binds {x qual : Str} {st : Stmt} {f : Addr} {fd : FuncData} {ps : List Str} (F : Fun K x qual st f fd)
    (h : ∀ (kV doc pm : Value) (an : Option Addr) (cdv ct : Value) (us : List Value), us.length = ps.length → bindArgs (PySem.W.fnOf x qual (defArgs st) (defBody st) (defScope st) .none kV doc pm an cdv ct) ⟨us, []⟩ = pure (ps.zip us)) : Binds K fd ps [] := by
  obtain ⟨oc, od, kV, doc, pm, an, cdv, ct, osl, rfl, lk, hcd⟩ := F.ex
  exact .all (h kV doc pm an cdv ct)
theorem fun_mk {x qual : Str} {st : Stmt} {f : Addr} {oc : Value} {od an : Option Addr} {osl : Array (Option Value)} {kV doc pm cdv ct : Value} (l : K.lookup f = some ⟨oc, od, .func (PySem.W.fnOf x qual (defArgs st) (defBody st) (defScope st) .none kV doc pm an cdv ct), osl⟩)
    (c : PySem.W.codeIn K cdv qual = true) (k : PySem.W.keepIn K (.ref f) = true) : Fun K x qual st f (PySem.W.fnOf x qual (defArgs st) (defBody st) (defScope st) .none kV doc pm an cdv ct) := ⟨⟨oc, od, kV, doc, pm, an, cdv, ct, osl, rfl, l, c⟩, k⟩
end
theorem small1000 {n : Nat} (h : n ≤ 1000) : n < sizeLine := Nat.lt_of_le_of_lt h (by decide)

section
variable {X : Cx}
theorem pv (i : Nat) {x : Str} {pos : Pos} (hN : autoParam (X.N[i]? = some x) au0_._auto_1) (hv : Vis X.env.scope x := by first | exact Or.inl rfl | exact Or.inr (Or.inl rfl) | exact Or.inr (Or.inr rfl)) (hd : autoParam ((x == ("__debug__" : Str)) = false) au1_._auto_1)
    (hcd : autoParam ((x == ("__classdict__" : Str)) = false) au1_._auto_1) : PE X (.Name x pos) (tVar i) := pe_var hN hv hd hcd
end

theorem iteF {A B : Prop} (h : B) : if false = true then A else B := by
  rw [if_neg Bool.false_ne_true]
  exact h
theorem iteT {A B : Prop} (h : A) : if true = true then A else B := by
  rw [if_pos rfl]
  exact h
theorem ite2 {c A B : Prop} [Decidable c] (h1 : c → A) (h2 : ¬ c → B) : if c then A else B := by
  by_cases h : c
  · rw [if_pos h]
    exact h1 h
  · rw [if_neg h]
    exact h2 h
noncomputable def Same (H H' : Hp) : Prop := ∀ b o, H b = some o → H' b = some o
theorem Same.refl (H : Hp) : Same H H := fun _ _ h => h
theorem Same.trans {H H1 H2 : Hp} (a : Same H H1) (b : Same H1 H2) : Same H H2 := fun c o h => b c o (a c o h)
theorem Same.free {H H' : Hp} (e : Same H H') {l : Addr} (h : H' l = Option.none) : H l = Option.none := by
  cases q : H l with
  | none => rfl
  | some o =>
    rw [e l o q] at h
    cases h
theorem Same.seq {K : PySem.W.Frag} {H H' : Hp} {a : Addr} {xs : List V} (e : Same H H') (h : SqL K H a xs) : SqL K H' a xs := by
  rcases h with (h | ⟨o, h⟩) | h
  · exact .inl (.inl (e _ _ h))
  · exact .inl (.inr ⟨o, e _ _ h⟩)
  · exact .inr h

end L2

set_option maxHeartbeats 4000000
namespace Mth

noncomputable def Sz (n : Nat) (x : Int) : Prop := x.natAbs < 2 ^ n
noncomputable instance {n : Nat} {x : Int} : Decidable (Sz n x) := inferInstanceAs (Decidable (x.natAbs < 2 ^ n))
theorem Sz.mono {m n : Nat} {x : Int} (h : Sz m x) (hm : m ≤ n) : Sz n x :=
  Nat.lt_of_lt_of_le h (Nat.pow_le_pow_right (by decide) hm)
theorem Sz.mul {m n : Nat} {x y : Int} (hx : Sz m x) (hy : Sz n y) : Sz (m + n) (x * y) := by
  unfold Sz at *
  rw [Int.natAbs_mul, Nat.pow_add]
  exact Nat.mul_lt_mul'' hx hy
theorem Sz.add {m : Nat} {x y : Int} (hx : Sz m x) (hy : Sz m y) : Sz (m + 1) (x + y) := by
  unfold Sz at *
  rw [Nat.pow_succ]
  have := Int.natAbs_add_le x y
  (first | lia | omega)
theorem Sz.neg {m : Nat} {x : Int} (hx : Sz m x) : Sz m (-x) := by
  unfold Sz at *
  rw [Int.natAbs_neg]; exact hx
theorem Sz.sub {m : Nat} {x y : Int} (hx : Sz m x) (hy : Sz m y) : Sz (m + 1) (x - y) := by
  rw [Int.sub_eq_add_neg]; exact hx.add hy.neg
theorem Sz.of_le {m : Nat} {x y : Int} (hx : Sz m x) (h : y.natAbs ≤ x.natAbs) : Sz m y := Nat.lt_of_le_of_lt h hx
theorem Sz.log {m : Nat} {x : Int} (hx : Sz m x) (hm : m ≤ 9000) (h0 : 0 < m) : x.natAbs.log2 < 9000 := by
  by_cases h : x.natAbs = 0
  · rw [h]; decide
  · have := (Nat.log2_lt h).mpr hx
    (first | lia | omega)
theorem Sz.of_lt {m k : Nat} {x : Int} (h : x.natAbs < k) (hk : k ≤ 2 ^ m) : Sz m x := Nat.lt_of_lt_of_le h hk

structure Low (t b t' b' : Int) : Prop where
  pos : 1 ≤ b'
  co : Int.gcd t' b' = 1
  eq : t' * b = t * b'
  tb : t'.natAbs ≤ t.natAbs
  bb : b'.natAbs ≤ b.natAbs

theorem gcd_step (x y : Nat) : Nat.gcd y (x % y) = Nat.gcd x y := by
  rw [Nat.gcd_comm y, ← Nat.gcd_rec, Nat.gcd_comm]

theorem ediv_gcd {t b : Int} (hb : b ≠ 0) : Int.gcd (t / (Int.gcd t b : Int)) (b / (Int.gcd t b : Int)) = 1 := by
  have hp : 0 < Int.gcd t b := Int.gcd_pos_of_ne_zero_right t hb
  rw [Int.gcd_ediv (Int.gcd_dvd_left ..) (Int.gcd_dvd_right ..)]
  rw [Int.natAbs_natCast]
  exact Nat.div_self hp
theorem le_of_mul {a : Int} {g : Nat} {c : Int} (hg : 0 < g) (e : a * (g : Int) = c) : a.natAbs ≤ c.natAbs := by
  subst e
  rw [Int.natAbs_mul, Int.natAbs_natCast]
  exact Nat.le_mul_of_pos_right _ hg

theorem low_mk {t b t' b' : Int} {g : Nat} (hg : 0 < g) (e1 : t' * (g : Int) = t) (e2 : b' * (g : Int) = b) (hb : 0 < b) (hc : Int.gcd t' b' = 1) : Low t b t' b' := by
  refine ⟨?_, hc, ?_, le_of_mul hg e1, le_of_mul hg e2⟩
  · have : 0 < b' := Int.pos_of_mul_pos_left (b := (g : Int)) (by rw [e2]; exact hb) (by (first | lia | omega))
    (first | lia | omega)
  · rw [← e1, ← e2, Int.mul_assoc, Int.mul_comm (g : Int) b']

theorem low_pos {t b : Int} (hb : 0 < b) : Low t b (t.fdiv (Int.gcd t b : Int)) (b.fdiv (Int.gcd t b : Int)) := by
  have hp : 0 < Int.gcd t b := Int.gcd_pos_of_ne_zero_right t (by (first | lia | omega))
  have h1 : (Int.gcd t b : Int) ∣ t := Int.gcd_dvd_left ..
  have h2 : (Int.gcd t b : Int) ∣ b := Int.gcd_dvd_right ..
  rw [Int.fdiv_eq_ediv_of_nonneg _ (by (first | lia | omega)), Int.fdiv_eq_ediv_of_nonneg _ (by (first | lia | omega))]
  exact low_mk hp (Int.ediv_mul_cancel h1) (Int.ediv_mul_cancel h2) hb (ediv_gcd (by (first | lia | omega)))

theorem co_dvd {b a d : Int} (hc : Int.gcd b a = 1) (h : b ∣ a * d) : b ∣ d := by
  have h' : b.natAbs ∣ a.natAbs * d.natAbs := by rw [← Int.natAbs_mul]; exact Int.natAbs_dvd_natAbs.mpr h
  have hc' : Nat.Coprime b.natAbs a.natAbs := hc
  exact Int.natAbs_dvd_natAbs.mp (hc'.dvd_of_dvd_mul_left h')
theorem low_unique {a b c d : Int} (hb : 1 ≤ b) (hd : 1 ≤ d) (h1 : Int.gcd a b = 1) (h2 : Int.gcd c d = 1) (e : a * d = c * b) : a = c ∧ b = d := by
  have k1 : b ∣ d := by
    have : b ∣ a * d := ⟨c, by rw [e, Int.mul_comm]⟩
    exact co_dvd (by rw [Int.gcd_comm]; exact h1) this
  have k2 : d ∣ b := by
    have : d ∣ c * b := ⟨a, by rw [← e, Int.mul_comm]⟩
    exact co_dvd (by rw [Int.gcd_comm]; exact h2) this
  have hbd : b = d := Int.dvd_antisymm (by (first | lia | omega)) (by (first | lia | omega)) k1 k2
  subst hbd
  exact ⟨Int.eq_of_mul_eq_mul_right (by (first | lia | omega)) e, rfl⟩

theorem Low.self {t b t' b' : Int} (h : Low t b t' b') (hb : 1 ≤ b) (hc : Int.gcd t b = 1) : t' = t ∧ b' = b :=
  let ⟨a, c⟩ := low_unique hb h.pos hc h.co h.eq.symm
  ⟨a.symm, c.symm⟩
theorem Low.same {t b t1 b1 t2 b2 : Int} (h1 : Low t b t1 b1) (h2 : Low t b t2 b2) (hb : b ≠ 0) : t1 = t2 ∧ b1 = b2 := by
  refine low_unique h1.pos h2.pos h1.co h2.co ?_
  have e1 := h1.eq
  have e2 := h2.eq
  have : t1 * b2 * b = t2 * b1 * b := by
    rw [Int.mul_right_comm, e1, Int.mul_right_comm t2 b1 b, e2, Int.mul_right_comm]
  exact Int.eq_of_mul_eq_mul_right hb this
end Mth

namespace Mth
structure Steps (H L high low x0 y0 x1 y1 : Int) : Prop where
  sg : (x0 * y1 - x1 * y0 = 1 ∧ 0 ≤ x0 ∧ y0 ≤ 0 ∧ x1 ≤ 0 ∧ 1 ≤ y1) ∨ (x0 * y1 - x1 * y0 = -1 ∧ x0 ≤ 0 ∧ 0 ≤ y0 ∧ 0 ≤ x1 ∧ y1 ≤ -1)
  eh : x0 * H + y0 * L = high
  el : x1 * H + y1 * L = low
  l0 : 0 ≤ low
  lh : low ≤ high
  st : (x0 = 1 ∧ y0 = 0 ∧ x1 = 0 ∧ y1 = 1) ∨ (y0 ≠ 0 ∧ high ≤ L ∧ 340282366920938463463374607431768211456 ≤ high ∧ x0.natAbs ≤ x1.natAbs ∧ y0.natAbs ≤ y1.natAbs)

theorem Steps.init {H L : Int} (h0 : 0 ≤ L) (h : L ≤ H) : Steps H L H L 1 0 0 1 := ⟨.inl (by (first | lia | omega)), by (first | lia | omega), by (first | lia | omega), h0, h, .inl (by (first | lia | omega))⟩

theorem mul_ge {q z : Int} (hq : 1 ≤ q) (hz : 0 ≤ z) : z ≤ q * z := by
  have := Int.mul_le_mul_of_nonneg_right hq hz
  (first | lia | omega)

theorem Steps.step {H L high low x0 y0 x1 y1 q : Int} (h : Steps H L high low x0 y0 x1 y1) (hl : 340282366920938463463374607431768211456 ≤ low) (hq : q = high / low) :
    Steps H L low (high - q * low) x1 y1 (x0 - q * x1) (y0 - q * y1) := by
  obtain ⟨sg, eh, el, l0, lh, st⟩ := h
  have q1 : 1 ≤ q := by
    rw [hq]; exact (Int.le_ediv_iff_mul_le (by (first | lia | omega))).mpr (by (first | lia | omega))
  have em : high - q * low = high % low := by
    have := Int.mul_ediv_add_emod high low
    rw [hq, Int.mul_comm]; (first | lia | omega)
  have m0 : 0 ≤ high % low := Int.emod_nonneg _ (by (first | lia | omega))
  have m1 : high % low < low := Int.emod_lt_of_pos _ (by (first | lia | omega))
  have hlL : low ≤ L := by
    rcases st with ⟨a, b, c, d⟩ | ⟨_, a, _⟩
    · subst a b c d; (first | lia | omega)
    · (first | lia | omega)
  have det : x1 * (y0 - q * y1) - (x0 - q * x1) * y1 = -(x0 * y1 - x1 * y0) := by grind
  have hel : (x0 - q * x1) * H + (y0 - q * y1) * L = high - q * low := by rw [← eh, ← el]; grind
  refine ⟨?_, el, hel, by (first | lia | omega), by (first | lia | omega), .inr ⟨?_, hlL, hl, ?_, ?_⟩⟩
  · rcases sg with ⟨d, a, b, c, e⟩ | ⟨d, a, b, c, e⟩
    · right
      have k1 := mul_ge q1 (z := -x1) (by (first | lia | omega))
      have k2 := mul_ge q1 (z := y1) (by (first | lia | omega))
      rw [Int.mul_neg] at k1
      exact ⟨by (first | lia | omega), by (first | lia | omega), by (first | lia | omega), by (first | lia | omega), by (first | lia | omega)⟩
    · left
      have k1 := mul_ge q1 (z := x1) (by (first | lia | omega))
      have k2 := mul_ge q1 (z := -y1) (by (first | lia | omega))
      rw [Int.mul_neg] at k2
      exact ⟨by (first | lia | omega), by (first | lia | omega), by (first | lia | omega), by (first | lia | omega), by (first | lia | omega)⟩
  · rcases sg with ⟨d, a, b, c, e⟩ | ⟨d, a, b, c, e⟩ <;> (first | lia | omega)
  · rcases sg with ⟨d, a, b, c, e⟩ | ⟨d, a, b, c, e⟩
    · have k1 := mul_ge q1 (z := -x1) (by (first | lia | omega))
      rw [Int.mul_neg] at k1
      (first | lia | omega)
    · have k1 := mul_ge q1 (z := x1) (by (first | lia | omega))
      (first | lia | omega)
  · rcases sg with ⟨d, a, b, c, e⟩ | ⟨d, a, b, c, e⟩
    · have k1 := mul_ge q1 (z := y1) (by (first | lia | omega))
      (first | lia | omega)
    · have k1 := mul_ge q1 (z := -y1) (by (first | lia | omega))
      rw [Int.mul_neg] at k1
      (first | lia | omega)

theorem small_of_mul {y h B : Int} (hy : 0 ≤ y) (hh : 340282366920938463463374607431768211456 ≤ h) (hm : y * h ≤ B) (hB : B < 115792089237316195423570985008687907853269984665640564039457584007913129639936) : y ≤ 340282366920938463463374607431768211456 := by
  by_cases c : y ≤ 340282366920938463463374607431768211456
  · exact c
  · have := Int.mul_le_mul (a := 340282366920938463463374607431768211456) (c := y) (b := 340282366920938463463374607431768211456) (d := h) (by (first | lia | omega)) hh (by (first | lia | omega)) hy
    (first | lia | omega)

theorem Steps.small {H L high low x0 y0 x1 y1 : Int} (h : Steps H L high low x0 y0 x1 y1) (hy : y0 ≠ 0) (hL : L ≤ H) (hH : H < 115792089237316195423570985008687907853269984665640564039457584007913129639936) :
    x0.natAbs ≤ 340282366920938463463374607431768211456 ∧ y0.natAbs ≤ 340282366920938463463374607431768211456 ∧ x1.natAbs ≤ 340282366920938463463374607431768211456 ∧ y1.natAbs ≤ 340282366920938463463374607431768211456 := by
  obtain ⟨sg, eh, el, l0, lh, st⟩ := h
  rcases st with ⟨_, z, _⟩ | ⟨_, hl, hh, ax, ay⟩
  · exact absurd z hy
  rcases sg with ⟨d, a, b, c, e⟩ | ⟨d, a, b, c, e⟩
  · have e1 : y1 * high + (-y0) * low = H := by
      have : y1 * high + (-y0) * low = (x0 * y1 - x1 * y0) * H := by rw [← eh, ← el]; grind
      rw [this, d]; (first | lia | omega)
    have e2 : (-x1) * high + x0 * low = L := by
      have : (-x1) * high + x0 * low = (x0 * y1 - x1 * y0) * L := by rw [← eh, ← el]; grind
      rw [this, d]; (first | lia | omega)
    have n1 : 0 ≤ (-y0) * low := Int.mul_nonneg (by (first | lia | omega)) l0
    have n2 : 0 ≤ x0 * low := Int.mul_nonneg (by (first | lia | omega)) l0
    have k1 := small_of_mul (y := y1) (B := H) (by (first | lia | omega)) hh (by (first | lia | omega)) hH
    have k2 := small_of_mul (y := -x1) (B := H) (by (first | lia | omega)) hh (by (first | lia | omega)) hH
    (first | lia | omega)
  · have e1 : (-y1) * high + y0 * low = H := by
      have : (-y1) * high + y0 * low = -(x0 * y1 - x1 * y0) * H := by rw [← eh, ← el]; grind
      rw [this, d]; (first | lia | omega)
    have e2 : x1 * high + (-x0) * low = L := by
      have : x1 * high + (-x0) * low = -(x0 * y1 - x1 * y0) * L := by rw [← eh, ← el]; grind
      rw [this, d]; (first | lia | omega)
    have n1 : 0 ≤ y0 * low := Int.mul_nonneg (by (first | lia | omega)) l0
    have n2 : 0 ≤ (-x0) * low := Int.mul_nonneg (by (first | lia | omega)) l0
    have k1 := small_of_mul (y := -y1) (B := H) (by (first | lia | omega)) hh (by (first | lia | omega)) hH
    have k2 := small_of_mul (y := x1) (B := H) (by (first | lia | omega)) hh (by (first | lia | omega)) hH
    (first | lia | omega)

theorem gcd_mix {a b x0 y0 x1 y1 : Int} (d : x0 * y1 - x1 * y0 = 1 ∨ x0 * y1 - x1 * y0 = -1) : Int.gcd (x0 * a + y0 * b) (x1 * a + y1 * b) = Int.gcd a b := by
  refine Nat.dvd_antisymm ?_ ?_
  · have h1 : (Int.gcd (x0 * a + y0 * b) (x1 * a + y1 * b) : Int) ∣ x0 * a + y0 * b := Int.gcd_dvd_left ..
    have h2 : (Int.gcd (x0 * a + y0 * b) (x1 * a + y1 * b) : Int) ∣ x1 * a + y1 * b := Int.gcd_dvd_right ..
    generalize (Int.gcd (x0 * a + y0 * b) (x1 * a + y1 * b)) = g at h1 h2
    obtain ⟨u, hu⟩ := h1
    obtain ⟨v, hv⟩ := h2
    refine Int.dvd_gcd ?_ ?_
    · rcases d with d | d
      · exact ⟨y1 * u - y0 * v, by
          have : (x0 * y1 - x1 * y0) * a = g * (y1 * u - y0 * v) := by grind
          rw [d] at this; (first | lia | omega)⟩
      · exact ⟨-(y1 * u - y0 * v), by
          have : -(x0 * y1 - x1 * y0) * a = g * (-(y1 * u - y0 * v)) := by grind
          rw [d] at this; (first | lia | omega)⟩
    · rcases d with d | d
      · exact ⟨x0 * v - x1 * u, by
          have : (x0 * y1 - x1 * y0) * b = g * (x0 * v - x1 * u) := by grind
          rw [d] at this; (first | lia | omega)⟩
      · exact ⟨-(x0 * v - x1 * u), by
          have : -(x0 * y1 - x1 * y0) * b = g * (-(x0 * v - x1 * u)) := by grind
          rw [d] at this; (first | lia | omega)⟩
  · have h1 : (Int.gcd a b : Int) ∣ a := Int.gcd_dvd_left ..
    have h2 : (Int.gcd a b : Int) ∣ b := Int.gcd_dvd_right ..
    exact Int.dvd_gcd (Int.dvd_add (Int.dvd_mul_of_dvd_right h1) (Int.dvd_mul_of_dvd_right h2)) (Int.dvd_add (Int.dvd_mul_of_dvd_right h1) (Int.dvd_mul_of_dvd_right h2))
theorem Steps.gcd {H L high low x0 y0 x1 y1 a b : Int} (h : Steps H L high low x0 y0 x1 y1) : Int.gcd (x0 * a + y0 * b) (x1 * a + y1 * b) = Int.gcd a b :=
  gcd_mix (h.sg.imp (·.1) (·.1))

end Mth

namespace Mth
structure Qt (t b : Int) (q : Rat) : Prop where
  pos : 1 ≤ b
  eq : (t : Rat) = q * (b : Rat)
structure Fr (t b : Int) (q : Rat) : Prop where
  pos : 1 ≤ b
  co : Int.gcd t b = 1
  eq : (t : Rat) = q * (b : Rat)
theorem Fr.qt {t b : Int} {q : Rat} (h : Fr t b q) : Qt t b q := ⟨h.pos, h.eq⟩
theorem cast_ne {b : Int} (h : b ≠ 0) : (b : Rat) ≠ 0 := by
  intro e
  apply h
  have : ((b : Int) : Rat) = ((0 : Int) : Rat) := by rw [e]; rfl
  exact Rat.intCast_inj.mp this
theorem Fr.of_low {T B t b : Int} {q : Rat} (h : Low T B t b) (hB : B ≠ 0) (e : (T : Rat) = q * (B : Rat)) : Fr t b q := by
  refine ⟨h.pos, h.co, ?_⟩
  have k := congrArg (fun x : Int => (x : Rat)) h.eq
  simp only [Rat.intCast_mul] at k
  have hB' := cast_ne hB
  grind
theorem Fr.unique {t b t' b' : Int} {q : Rat} (h : Fr t b q) (h' : Fr t' b' q) : t = t' ∧ b = b' := by
  refine low_unique h.pos h'.pos h.co h'.co ?_
  have e : ((t * b' : Int) : Rat) = ((t' * b : Int) : Rat) := by
    have e1 := h.eq
    have e2 := h'.eq
    simp only [Rat.intCast_mul]
    grind
  exact Rat.intCast_inj.mp e
theorem Fr.worth {t b t' b' : Int} {q q' : Rat} (h : Fr t b q) (h' : Fr t' b' q') (e : t = t') (e' : b = b') : q = q' := by
  subst e e'
  have hb := cast_ne (b := b) (by have := h.pos; (first | lia | omega))
  have e1 := h.eq
  have e2 := h'.eq
  grind
theorem mul_pos1 {b d : Int} (hb : 1 ≤ b) (hd : 1 ≤ d) : 1 ≤ b * d := by
  have := Int.mul_pos (show 0 < b by (first | lia | omega)) (show 0 < d by (first | lia | omega))
  (first | lia | omega)
theorem Qt.plus {a b c d : Int} {q r : Rat} (h : Qt a b q) (k : Qt c d r) : Qt (a * d + c * b) (b * d) (q + r) := by
  refine ⟨mul_pos1 h.pos k.pos, ?_⟩
  have e1 := h.eq
  have e2 := k.eq
  simp only [Rat.intCast_mul, Rat.intCast_add]
  grind
theorem Qt.minus {a b c d : Int} {q r : Rat} (h : Qt a b q) (k : Qt c d r) : Qt (a * d - c * b) (b * d) (q - r) := by
  refine ⟨mul_pos1 h.pos k.pos, ?_⟩
  have e1 := h.eq
  have e2 := k.eq
  simp only [Rat.intCast_mul, Rat.intCast_sub]
  grind
theorem Qt.times {a b c d : Int} {q r : Rat} (h : Qt a b q) (k : Qt c d r) : Qt (a * c) (b * d) (q * r) := by
  refine ⟨mul_pos1 h.pos k.pos, ?_⟩
  have e1 := h.eq
  have e2 := k.eq
  simp only [Rat.intCast_mul]
  grind
theorem Qt.neg {a b : Int} {q : Rat} (h : Qt a b q) : Qt (-a) b (-q) := by
  refine ⟨h.pos, ?_⟩
  have e1 := h.eq
  simp only [Rat.intCast_neg]
  grind
theorem Qt.whole (m : Int) : Qt m 1 (m : Rat) := ⟨by (first | lia | omega), by simp⟩
theorem Fr.whole (m : Int) : Fr m 1 (m : Rat) := ⟨by (first | lia | omega), by simp, by simp⟩
theorem Fr.neg {a b : Int} {q : Rat} (h : Fr a b q) : Fr (-a) b (-q) := ⟨h.pos, by rw [Int.neg_gcd]; exact h.co, h.qt.neg.eq⟩
theorem Qt.div {a b s : Int} {q : Rat} (h : Qt a b q) (hs : 0 < s) : Qt a (b * s) (q / (s : Rat)) := by
  refine ⟨mul_pos1 h.pos (by (first | lia | omega)), ?_⟩
  have e1 := h.eq
  have hs' := cast_ne (b := s) (by (first | lia | omega))
  simp only [Rat.intCast_mul]
  grind
theorem Qt.divN {a b s : Int} {q : Rat} (h : Qt a b q) (hs : s < 0) : Qt (-a) (b * -s) (q / (s : Rat)) := by
  have k := h.neg.div (s := -s) (by (first | lia | omega))
  have hs' := cast_ne (b := s) (by (first | lia | omega))
  have e : -q / ((-s : Int) : Rat) = q / (s : Rat) := by
    simp only [Rat.intCast_neg]
    grind
  rw [e] at k
  exact k
theorem Qt.lt_iff {a b c d : Int} {q r : Rat} (h : Qt a b q) (k : Qt c d r) : a * d < c * b ↔ q < r := by
  have e1 := h.eq
  have e2 := k.eq
  have hb : (0 : Rat) < (b : Rat) := by have := h.pos; exact Rat.intCast_pos.mpr (by (first | lia | omega))
  have hd : (0 : Rat) < (d : Rat) := by have := k.pos; exact Rat.intCast_pos.mpr (by (first | lia | omega))
  have hbd : (0 : Rat) < (b : Rat) * (d : Rat) := Rat.mul_pos hb hd
  have l : ((a * d : Int) : Rat) = q * ((b : Rat) * (d : Rat)) := by simp only [Rat.intCast_mul]; grind
  have m : ((c * b : Int) : Rat) = r * ((b : Rat) * (d : Rat)) := by simp only [Rat.intCast_mul]; grind
  rw [← Rat.intCast_lt_intCast, l, m]
  exact Rat.mul_lt_mul_right hbd
end Mth

namespace Mth
noncomputable def rabs (q : Rat) : Rat := if q < 0 then -q else q
theorem rabs_le {q w : Rat} : rabs q ≤ w ↔ -w ≤ q ∧ q ≤ w := by unfold rabs; split <;> grind
theorem Qt.abs {a b : Int} {q : Rat} (h : Qt a b q) : Qt (a.natAbs : Int) b (rabs q) := by
  have hb : (0 : Rat) < (b : Rat) := by have := h.pos; exact Rat.intCast_pos.mpr (by (first | lia | omega))
  have z : a < 0 ↔ q < 0 := by
    have l := Qt.lt_iff h (Qt.whole 0)
    simp at l
    exact l
  unfold rabs
  by_cases h0 : a < 0
  · rw [if_pos (z.mp h0)]
    have e : (a.natAbs : Int) = -a := by (first | lia | omega)
    rw [e]
    exact h.neg
  · rw [if_neg (fun q => h0 (z.mpr q))]
    have e : (a.natAbs : Int) = a := by (first | lia | omega)
    rw [e]
    exact h
theorem Fr.abs {a b : Int} {q : Rat} (h : Fr a b q) : Fr (a.natAbs : Int) b (rabs q) :=
  ⟨h.pos, by have := h.co; rw [Int.gcd, Int.natAbs_natCast]; exact this, h.qt.abs.eq⟩
noncomputable def chord (t : Rat) (q : Rat) (u : Rat) (t' : Rat) (q' : Rat) : Rat := (q * (t' - u) + q' * (u - t)) / (t' - t)
theorem chord_along {t q u t' q' : Rat} (h : t ≠ t') : q + (q' - q) / (t' - t) * (u - t) = chord t q u t' q' := by
  unfold chord
  have : t' - t ≠ 0 := by grind
  grind
end Mth

namespace Mth
theorem Fr.own (q : Rat) : Fr q.num (q.den : Int) q := by
  have hp := q.den_pos
  have hd : ((q.den : Int) : Rat) ≠ 0 := cast_ne (by (first | lia | omega))
  refine ⟨by (first | lia | omega), ?_, ?_⟩
  · have := q.reduced
    exact this
  · have h := Rat.num_divInt_den q
    rw [Rat.divInt_eq_div] at h
    grind
theorem Fr.num_den {t b : Int} {q : Rat} (h : Fr t b q) : t = q.num ∧ b = (q.den : Int) := h.unique (Fr.own q)
noncomputable def inRun {α : Type} (s : α → Bool) (es : List α) (i : Nat) : Bool := decide (0 < i) && ((es[i - 1]?).map s).getD false
noncomputable def parts {α : Type} (s : α → Bool) (es : List α) : Nat → List (List α)
  | 0 => []
  | i + 1 => match es[i]? with
    | none => parts s es i
    | some e => if s e = true then (if inRun s es i = true then (parts s es i).dropLast ++ [((parts s es i).getLast?.getD []) ++ [e]] else parts s es i ++ [[e]]) else parts s es i
section
variable {α : Type} {s : α → Bool} {es : List α} {i : Nat} {e : α}
theorem parts_gap (h : es[i]? = some e) (hs : s e = false) : parts s es (i + 1) = parts s es i := by
  show (match es[i]? with | none => _ | some e => _) = _
  rw [h]
  show (if s e = true then _ else _) = _
  rw [hs]
  rfl
theorem parts_new (h : es[i]? = some e) (hs : s e = true) (hi : inRun s es i = false) : parts s es (i + 1) = parts s es i ++ [[e]] := by
  show (match es[i]? with | none => _ | some e => _) = _
  rw [h]
  show (if s e = true then (if inRun s es i = true then _ else _) else _) = _
  rw [hs, hi]
  rfl
theorem parts_on {t : List (List α)} {r : List α} (h : es[i]? = some e) (hs : s e = true) (hi : inRun s es i = true) (hp : parts s es i = t ++ [r]) : parts s es (i + 1) = t ++ [r ++ [e]] := by
  show (match es[i]? with | none => _ | some e => _) = _
  rw [h]
  show (if s e = true then (if inRun s es i = true then _ else _) else _) = _
  rw [hs, hi, hp]
  simp
theorem parts_len : ∀ i : Nat, (parts s es i).length ≤ i
  | 0 => Nat.le_refl _
  | i + 1 => by
    have ih := parts_len i
    show (match es[i]? with | none => _ | some e => _ : List (List α)).length ≤ i + 1
    cases es[i]? with
    | none => exact Nat.le_succ_of_le ih
    | some e =>
      show (if s e = true then (if inRun s es i = true then _ else _) else _ : List (List α)).length ≤ i + 1
      split
      · split
        · rw [List.length_append, List.length_dropLast]
          simp
          (first | lia | omega)
        · rw [List.length_append]
          simp
          (first | lia | omega)
      · exact Nat.le_succ_of_le ih
theorem parts_ne (h : inRun s es i = true) : ∃ t r, parts s es i = t ++ [r] := by
  unfold inRun at h
  rw [Bool.and_eq_true] at h
  obtain ⟨h0, h1⟩ := h
  have h0 := of_decide_eq_true h0
  obtain ⟨j, rfl⟩ : ∃ j, i = j + 1 := ⟨i - 1, by (first | lia | omega)⟩
  rw [Nat.add_sub_cancel] at h1
  cases e : es[j]? with
  | none => rw [e] at h1; simp at h1
  | some d =>
    rw [e] at h1
    have hd : s d = true := by simpa using h1
    cases hr : inRun s es j with
    | true =>
      refine ⟨(parts s es j).dropLast, ((parts s es j).getLast?.getD []) ++ [d], ?_⟩
      show (match es[j]? with | none => _ | some e => _) = _
      rw [e]
      show (if s d = true then (if inRun s es j = true then _ else _) else _) = _
      rw [hd, hr]
      rfl
    | false => exact ⟨_, _, parts_new e hd hr⟩
theorem inRun_succ (h : es[i]? = some e) : inRun s es (i + 1) = s e := by
  unfold inRun
  rw [Nat.add_sub_cancel, h]
  simp
end
end Mth

namespace Mth
theorem rabs_mul {q s : Rat} (h : 0 < s) : rabs (q * s) = rabs q * s := by
  unfold rabs
  by_cases h0 : q < 0
  · have : q * s < 0 := by
      have := Rat.mul_lt_mul_of_pos_right h0 h
      grind
    rw [if_pos h0, if_pos this]
    grind
  · have : ¬ q * s < 0 := by
      have h1 : 0 ≤ q := by grind
      have := Rat.mul_nonneg h1 (show 0 ≤ s by grind)
      grind
    rw [if_neg h0, if_neg this]
theorem cast_pos {b : Int} (h : 0 < b) : (0 : Rat) < (b : Rat) := Rat.intCast_pos.mpr h
theorem cast_sub_ne {t t' : Int} (h : t < t') : ((t' : Rat) - (t : Rat)) ≠ 0 := by
  have : (t : Rat) < (t' : Rat) := Rat.intCast_lt_intCast.mpr h
  grind
theorem chord_mul {t q u t' q' : Rat} (h : t' - t ≠ 0) : chord t q u t' q' * (t' - t) = q * (t' - u) + q' * (u - t) := by
  unfold chord
  grind
theorem far_qt {a b a' b' c e ti tj tp : Int} {qi qj qp : Rat} (hi : Fr a b qi) (hj : Fr a' b' qj) (hp : Fr c e qp) (h : ti < tj) :
    Qt (c * (b' * b * (tj - ti)) - e * (a * (b' * (tj - ti)) + (a' * b - a * b') * (tp - ti))) e ((qp - chord ti qi tp tj qj) * ((b' * b * (tj - ti) : Int) : Rat)) := by
  refine ⟨hp.pos, ?_⟩
  have e1 := hi.eq
  have e2 := hj.eq
  have e3 := hp.eq
  have hX := chord_mul (t := (ti : Rat)) (q := qi) (u := (tp : Rat)) (t' := (tj : Rat)) (q' := qj) (cast_sub_ne h)
  simp only [Rat.intCast_mul, Rat.intCast_sub, Rat.intCast_add]
  generalize chord (ti : Rat) qi (tp : Rat) (tj : Rat) qj = X at *
  grind
structure FarTo (s : Nat → Rat) (i m k : Nat) : Prop where
  lo : i < k
  hi : k < m
  top : ∀ k', i < k' → k' < m → s k' ≤ s k
  fst : ∀ k', i < k' → k' < k → s k' < s k
section
variable {s s' : Nat → Rat} {i m k k' : Nat} {c : Rat}
theorem FarTo.first : FarTo s i (i + 2) (i + 1) := ⟨by (first | lia | omega), by (first | lia | omega), fun k' h1 h2 => by
  obtain rfl : k' = i + 1 := by (first | lia | omega)
  exact Rat.le_refl, fun k' h1 h2 => by (first | lia | omega)⟩
theorem FarTo.keep (h : FarTo s i m k) (h1 : s m ≤ s k) : FarTo s i (m + 1) k := ⟨h.lo, by have := h.hi; (first | lia | omega), fun k' h2 h3 => by
  by_cases e : k' = m
  · subst e; exact h1
  · exact h.top k' h2 (by (first | lia | omega)), h.fst⟩
theorem FarTo.next (h : FarTo s i m k) (h1 : s k < s m) : FarTo s i (m + 1) m := ⟨by have := h.lo; have := h.hi; (first | lia | omega), by (first | lia | omega), fun k' h2 h3 => by
  by_cases e : k' = m
  · subst e; exact Rat.le_refl
  · have := h.top k' h2 (by (first | lia | omega))
    grind, fun k' h2 h3 => by
  have := h.top k' h2 (by (first | lia | omega))
  grind⟩
theorem FarTo.unique (h : FarTo s i m k) (h' : FarTo s i m k') : k = k' := by
  by_cases e : k < k'
  · have h1 := h'.fst k h.lo e
    have h2 := h.top k' h'.lo h'.hi
    grind
  · by_cases e' : k' < k
    · have h1 := h.fst k' h'.lo e'
      have h2 := h'.top k h.lo h.hi
      grind
    · (first | lia | omega)
end
end Mth

namespace Mth
structure Fair (L : Nat → Nat → Prop) (N : Nat) (t : Nat → Int) : Prop where
  first : t 0 = 0
  le : ∀ i j, i < j → j < N → L i j → t j ≤ t i + 1
  ex : ∀ j, 0 < j → j < N → ∃ i, i < j ∧ L i j ∧ t j = t i + 1
structure FairTo (L : Nat → Nat → Prop) (N f : Nat) (t : Nat → Int) : Prop where
  first : t 0 = 0
  le : ∀ i j, i < f → i < j → j < N → L i j → t j ≤ t i + 1
  ex : ∀ j, 0 < j → j < N → t j = (N : Int) ∨ ∃ i, i < f ∧ i < j ∧ L i j ∧ t j = t i + 1
  lo : ∀ j, j < N → 0 ≤ t j
  hi : ∀ j, j < N → t j ≤ (N : Int)
section
variable {L : Nat → Nat → Prop} {N f : Nat} {t u : Nat → Int}
theorem FairTo.start : FairTo L N 0 (fun j => if j = 0 then 0 else (N : Int)) := by
  refine ⟨rfl, fun i j h => absurd h (Nat.not_lt_zero _), fun j h0 _ => .inl (if_neg (by (first | lia | omega))), fun j _ => ?_, fun j _ => ?_⟩ <;> (show _ ≤ _; split <;> (first | lia | omega))
theorem FairTo.step (h : FairTo L N f t) (hL : ∀ j, L f j → f < j) (e : ∀ j, j < N → (L f j → u j = if t f + 1 < t j then t f + 1 else t j) ∧ (¬ L f j → u j = t j)) (hf : f < N) : FairTo L N (f + 1) u := by
  have same : ∀ i, i ≤ f → i < N → u i = t i := fun i hi hN => (e i hN).2 fun z => by have := hL i z; (first | lia | omega)
  have h0 : u 0 = 0 := by rw [same 0 (by (first | lia | omega)) (by (first | lia | omega))]; exact h.first
  have hl := h.lo f hf
  refine ⟨h0, fun i j hi hij hj hLij => ?_, fun j h0j hj => ?_, fun j hj => ?_, fun j hj => ?_⟩
  · rw [same i (by (first | lia | omega)) (by (first | lia | omega))]
    by_cases hi' : i = f
    · subst hi'
      rw [(e j hj).1 hLij]
      split <;> (first | lia | omega)
    · have h1 := h.le i j (by (first | lia | omega)) hij hj hLij
      by_cases hLf : L f j
      · rw [(e j hj).1 hLf]
        split <;> (first | lia | omega)
      · rw [(e j hj).2 hLf]
        exact h1
  · by_cases hLf : L f j
    · have hfj := hL j hLf
      have ej := (e j hj).1 hLf
      by_cases hc : t f + 1 < t j
      · rw [if_pos hc] at ej
        exact .inr ⟨f, by (first | lia | omega), hfj, hLf, by rw [ej, same f (by (first | lia | omega)) hf]⟩
      · rw [if_neg hc] at ej
        rcases h.ex j h0j hj with z | ⟨i, i1, i2, i3, i4⟩
        · exact .inl (ej.trans z)
        · exact .inr ⟨i, by (first | lia | omega), i2, i3, by rw [ej, same i (by (first | lia | omega)) (by (first | lia | omega))]; exact i4⟩
    · have ej := (e j hj).2 hLf
      rcases h.ex j h0j hj with z | ⟨i, i1, i2, i3, i4⟩
      · exact .inl (ej.trans z)
      · exact .inr ⟨i, by (first | lia | omega), i2, i3, by rw [ej, same i (by (first | lia | omega)) (by (first | lia | omega))]; exact i4⟩
  · have h1 := h.lo j hj
    by_cases hLf : L f j
    · rw [(e j hj).1 hLf]
      split <;> (first | lia | omega)
    · rw [(e j hj).2 hLf]
      exact h1
  · have h1 := h.hi j hj
    by_cases hLf : L f j
    · rw [(e j hj).1 hLf]
      split <;> (first | lia | omega)
    · rw [(e j hj).2 hLf]
      exact h1
theorem FairTo.done (h : FairTo L N f t) (hs : ∀ j, 0 < j → j < N → L (j - 1) j) (hf : N ≤ f + 1) : Fair L N t := by
  have up : ∀ j, j < N → t j ≤ (j : Int) := by
    intro j
    induction j with
    | zero => intro _; rw [h.first]; (first | lia | omega)
    | succ j ih =>
      intro hj
      have h1 := ih (by (first | lia | omega))
      have h2 := h.le j (j + 1) (by (first | lia | omega)) (by (first | lia | omega)) hj (hs (j + 1) (by (first | lia | omega)) hj)
      (first | lia | omega)
  refine ⟨h.first, fun i j hij hj hL => h.le i j (by (first | lia | omega)) hij hj hL, fun j h0 hj => ?_⟩
  rcases h.ex j h0 hj with z | ⟨i, i1, i2, i3, i4⟩
  · have := up j hj
    (first | lia | omega)
  · exact ⟨i, i2, i3, i4⟩
end
theorem map_range_set {α : Type} (N : Nat) (f : Nat → α) (j : Nat) (v : α) : ((List.range N).map f).set j v = (List.range N).map (fun i => if i = j then v else f i) := by
  apply List.ext_getElem?
  intro i
  rw [List.getElem?_set]
  by_cases hi : i < N
  · rw [List.getElem?_map, List.getElem?_range hi, List.getElem?_map, List.getElem?_range hi]
    by_cases e : j = i
    · subst e
      simp [hi]
    · have e' : ¬ i = j := fun z => e z.symm
      simp [e, e']
  · have h1 : (List.range N)[i]? = none := by simp; (first | lia | omega)
    rw [List.getElem?_map, List.getElem?_map, h1]
    by_cases e : j = i
    · subst e
      simp; (first | lia | omega)
    · simp [e]
theorem map_range_at {α : Type} {N j : Nat} {f : Nat → α} (h : j < N) : ((List.range N).map f)[j]? = some (f j) := by
  rw [List.getElem?_map, List.getElem?_range h]
  rfl
theorem rdiv_le {a b c : Rat} (h : 0 < c) : a / c ≤ b ↔ a ≤ b * c := by
  have e : a / c * c = a := by grind
  constructor
  · intro z
    have := Rat.mul_le_mul_of_nonneg_right z (show 0 ≤ c by grind)
    rw [e] at this
    exact this
  · intro z
    exact Rat.le_of_mul_le_mul_right (by rw [e]; exact z) h
theorem rle_div {a b c : Rat} (h : 0 < c) : a ≤ b / c ↔ a * c ≤ b := by
  have e : b / c * c = b := by grind
  constructor
  · intro z
    have := Rat.mul_le_mul_of_nonneg_right z (show 0 ≤ c by grind)
    rw [e] at this
    exact this
  · intro z
    exact Rat.le_of_mul_le_mul_right (by rw [e]; exact z) h
theorem chord_slopes {ti tk tj : Rat} {qi qk qj β : Rat} (h1 : ti < tk) (h2 : tk < tj) :
    rabs (qk - chord ti qi tk tj qj) ≤ β ↔ (qk - β - qi) / (tk - ti) ≤ (qj - qi) / (tj - ti) ∧ (qj - qi) / (tj - ti) ≤ (qk + β - qi) / (tk - ti) := by
  rw [← chord_along (u := tk) (show ti ≠ tj by grind)]
  have hd : 0 < tk - ti := by grind
  generalize (qj - qi) / (tj - ti) = s
  rw [rabs_le, rdiv_le hd, rle_div hd]
  constructor <;> rintro ⟨a, b⟩ <;> constructor <;> grind
end Mth

namespace Mth
section
variable {t v : Nat → Rat} {B s : Rat} {n i j k l : Nat}
end
end Mth

namespace My
open PySem PySem.Spec PyProof.Rows L2 Mth

theorem mulOk {m n : Nat} {x y : Int} (hx : Sz m x) (hy : Sz n y) (h : autoParam (m + n ≤ 134217728) au1_._auto_1) : IntMulOk x y :=
  IntMulOk.of_le (intBits_le_iff.mpr hx) (intBits_le_iff.mpr hy) h
theorem mulR {x y : Int} (h1 : -(2 ^ 64) < y) (h2 : y < 2 ^ 64) : IntMulOk x y := CMul.ok (.inr ⟨h1, h2⟩)
theorem mulL {x y : Int} (h1 : -(2 ^ 64) < x) (h2 : x < 2 ^ 64) : IntMulOk x y := CMul.ok (.inl ⟨h1, h2⟩)
noncomputable def CDivB (_ j : Int) : Prop := j ≠ 0 ∧ j.natAbs.log2 < 9000

section
variable {X : Cx}
theorem op_mulB : OpR X (binaryOp .Mult) (rI IntMulOk fun i j => .int (i * j)) := opI fun _ _ _ _ _ _ _ hc q => mul_int q hc
theorem op_fdivB : OpR X (binaryOp .FloorDiv) (rI CDivB fun i j => .int (i.fdiv j)) := opI fun _ _ _ _ _ _ _ hc q => floordiv_int hc.1 q (.inl (PyProof.noPylong_of_log2 hc.2))
end

mutual
inductive Den (H : Hp) : V → PyData → Prop where
  | non : Den H .non .none
  | bl (b : Bool) : Den H (.bl b) (.bool b)
  | int (i : Int) : Den H (.int i) (.int i)
  | str (x : Str) : Den H (.str x) (.str x)
  | tup {a : Addr} {xs : List V} {ds : List PyData} : H a = some (.tup xs) → Dens H xs ds → Den H (.ref a) (.tuple ds)
  | lst {a : Addr} {xs : List V} {ds : List PyData} : H a = some (.lst xs) → Dens H xs ds → Den H (.ref a) (.list ds)
inductive Dens (H : Hp) : List V → List PyData → Prop where
  | nil : Dens H [] []
  | cons {x : V} {xs : List V} {d : PyData} {ds : List PyData} : Den H x d → Dens H xs ds → Dens H (x :: xs) (d :: ds)
end
section
variable {P : Program} {w : World} {H : Hp} {h : Heap}
mutual
theorem Den.reads (ok : HOk P w H h) : ∀ {v : V} {d : PyData}, Den H v d → ∀ {u : Value}, RelV v u → ∃ as, Reads h u d as
  | _, _, .non, u, r => by cases (show u = Value.none from r); exact ⟨_, Reads.none⟩
  | _, _, .bl b, u, r => by cases (show u = Value.bool b from r); exact ⟨_, Reads.bool b⟩
  | _, _, .int i, u, r => by obtain ⟨t, q⟩ := (show ∃ t, u = Value.int i t from r); cases q; exact ⟨_, Reads.int i t⟩
  | _, _, .str x, u, r => by obtain ⟨t, q⟩ := (show ∃ t, u = Value.str x t from r); cases q; exact ⟨_, Reads.str x t⟩
  | _, _, @Den.tup _ a xs ds e dd, u, r => by
    cases (show u = Value.ref a from r)
    obtain ⟨_, its, rv, o, h1, h2, n, h3⟩ := (show ObjOk P w H h a (.tup xs) from ok a _ e)
    obtain ⟨as, q⟩ := Dens.reads ok dd rv
    exact ⟨as, reads_tuple_at h1 h2 h3 (by simpa using q)⟩
  | _, _, @Den.lst _ a xs ds e dd, u, r => by
    cases (show u = Value.ref a from r)
    obtain ⟨_, its, n, rv, h1⟩ := (show ObjOk P w H h a (.lst xs) from ok a _ e)
    obtain ⟨as, q⟩ := Dens.reads ok dd rv
    exact ⟨_, reads_list_at h1 rfl rfl (by simpa using q)⟩
theorem Dens.reads (ok : HOk P w H h) : ∀ {vs : List V} {ds : List PyData}, Dens H vs ds → ∀ {us : List Value}, Vals vs us → ∃ as, ReadsAll h us ds as
  | _, _, .nil, _, .nil => ⟨_, ReadsAll.nil⟩
  | _, _, .cons d dd, _, .cons r rr => by
    obtain ⟨as, q⟩ := Den.reads ok d r
    obtain ⟨bs, p⟩ := Dens.reads ok dd rr
    exact ⟨_, ReadsAll.cons q p⟩
end
end
noncomputable def rEqD : R2 := fun x y H Q => ∃ d e, Den H x d ∧ Den H y e ∧ SeqAt.shaped d = true ∧ SeqAt.shaped e = true ∧ Q (.bl (PyData.eqv d e)) H
section
variable {X : Cx}
theorem op_eqD (hu : X.A.units + 64 < cLine) : OpR X (compareOp .Eq) rEqD := by
  intro pins s σ H x y v u Q I rx ry h
  obtain ⟨d, e, hd, he, s1, s2, q⟩ := h
  obtain ⟨as, r1⟩ := hd.reads I.hok rx
  obtain ⟨bs, r2⟩ := he.reads I.hok ry
  exact eq_dataH r1 r2 s1 s2 hu ⟨.bl _, H, I, rfl, q⟩
end
section
variable {K : PySem.W.Frag}
end

section
variable {es : List Expr} {env : Env} {pos : Pos}
theorem any0 : (backTo pos (starEach [] env)).any (·.1) = false := by rfl
theorem anyc {e : Expr} (h : starEach (e :: es) env = (false, eval e env) :: starEach es env) (k : (backTo pos (starEach es env)).any (·.1) = false) : (backTo pos (starEach (e :: es) env)).any (·.1) = false := by
  rw [h]
  exact k
theorem st_C {c : Const} {k : Nat} : starEach (.Constant c k pos :: es) env = (false, eval (.Constant c k pos) env) :: starEach es env := by rfl
theorem st_N {x : Str} : starEach (.Name x pos :: es) env = (false, eval (.Name x pos) env) :: starEach es env := by rfl
theorem st_B {a b : Expr} {op : Operator} : starEach (.BinOp a op b pos :: es) env = (false, eval (.BinOp a op b pos) env) :: starEach es env := by rfl
theorem st_S {a b : Expr} : starEach (.Subscript a b pos :: es) env = (false, eval (.Subscript a b pos) env) :: starEach es env := by rfl
theorem st_K {f : Expr} {as : List Expr} {kw : List Keyword} : starEach (.Call f as kw pos :: es) env = (false, eval (.Call f as kw pos) env) :: starEach es env := by rfl
theorem st_T {as : List Expr} {k : Nat} : starEach (.Tuple as k pos :: es) env = (false, eval (.Tuple as k pos) env) :: starEach es env := by rfl
theorem st_L {as : List Expr} : starEach (.List as pos :: es) env = (false, eval (.List as pos) env) :: starEach es env := by rfl
theorem st_U {a : Expr} {op : UnaryOp} : starEach (.UnaryOp op a pos :: es) env = (false, eval (.UnaryOp op a pos) env) :: starEach es env := by rfl
theorem st_G {e : Expr} {gs : List Comprehension} {sc : Scope} : starEach (.ListComp e gs sc pos :: es) env = (false, eval (.ListComp e gs sc pos) env) :: starEach es env := by rfl
end

section
variable {tg : Option Expr} {l : Nat} {env : Env} {pos : Pos}
theorem sw_C {c : Const} {k : Nat} : swapsWith (.Constant c k pos) tg l env = pure false := by rfl
theorem sw_N {x : Str} : swapsWith (.Name x pos) tg l env = pure false := by rfl
theorem sw_B {a b : Expr} {op : Operator} : swapsWith (.BinOp a op b pos) tg l env = pure false := by rfl
theorem sw_S {a b : Expr} : swapsWith (.Subscript a b pos) tg l env = pure false := by rfl
theorem sw_K {f : Expr} {as : List Expr} {kw : List Keyword} : swapsWith (.Call f as kw pos) tg l env = pure false := by rfl
theorem sw_T {as : List Expr} {k : Nat} : swapsWith (.Tuple as k pos) tg l env = pure false := by rfl
theorem sw_L {as : List Expr} : swapsWith (.List as pos) tg l env = pure false := by rfl
theorem sw_Q {a : Expr} {ops : List CmpOp} {bs : List Expr} : swapsWith (.Compare a ops bs pos) tg l env = pure false := by rfl
theorem sw_I {a b c : Expr} : swapsWith (.IfExp a b c pos) tg l env = pure false := by rfl
end
structure Dn (P : Program) (w : World) (K : PySem.W.Frag) (mg : Str → Option Value) (base : Heap) (k : Nat) (x : Str) (ps : List Str) (sp : Sp) : Prop where
  ex : ∃ (f : Addr) (fd : FuncData), FnOk P w K mg base CX0 k f fd ps sp ∧ mg x = some (.ref f) ∧ PySem.W.keepIn K (.ref f) = true ∧ Binds K fd ps []
section
variable {X : Cx} {k : Nat} {x : Str} {ps : List Str} {sp : Sp} {p pos : Pos} {e : Expr} {es : List Expr} {t : TA}
theorem pe_dn (D : Dn X.prog X.w X.K X.mg X.base k x ps sp) (hr : Room k X.A) (hg : Gl X x) (ha : PA X (e :: es) t) (hdb : autoParam ((x == ("__debug__" : Str)) = false) au1_._auto_1)
    (he : autoParam (starEach (e :: es) X.env = (false, eval e X.env) :: starEach es X.env) au0_._auto_1) (hpl : autoParam ((backTo pos (starEach es X.env)).any (·.1) = false) au0_._auto_1) : PE X (.Call (.Name x p) (e :: es) [] pos) (tCall sp [] E0 t) := by
  obtain ⟨f, fd, ok, hm, hk, hb⟩ := D.ex
  exact pe_call ok hr hg hm hk hb .nil pass0 ha hdb he hpl
end
theorem dn_mk {P : Program} {w : World} {K : PySem.W.Frag} {mg : Str → Option Value} {base : Heap} {k : Nat} {x qual : Str} {ps : List Str} {sp : Sp} {st : Stmt} {f : Addr} {fd : FuncData} (F : Fun K x qual st f fd) (ok : FnOk P w K mg base CX0 k f fd ps sp)
    (hm : mg x = some (.ref f)) (hb : Binds K fd ps []) : Dn P w K mg base k x ps sp := ⟨f, fd, ok, hm, F.kp, hb⟩

section
variable {σ : L2.St} {H : Hp} {Q : VK} {D : Ends} {te ta tb : TE} {t u : TS} {c : TT} {B : Bool → Hp → Prop} {i : Nat} {v : V} {m n : Int} {K : PySem.W.Frag}
theorem r_seq (h : t { D with nx := u D } σ H) : tSeq t u D σ H := h
theorem r_set (h : te σ H fun x H1 => D.nx (σ.set i (some x)) H1) : tAsg te (gName i) D σ H := h
theorem r_ret (h : te σ H D.rt) : tRet te D σ H := h
theorem r_drop (h : te σ H fun _ H1 => D.nx σ H1) : tDrop te D σ H := h
theorem r_if (h : c σ H fun b H1 => if b = true then t D σ H1 else u D σ H1) : tIfS c t u D σ H := h
theorem r_next (h : D.nx σ H) : tNext D σ H := h
theorem r_var (e : σ[i]? = some (some v)) (q : Q v H) : tVar i σ H Q := ⟨v, e, q⟩
theorem r_c (q : Q v H) : tC v σ H Q := q
theorem r_op {r : R2} (h : ta σ H fun x H1 => tb σ H1 fun y H2 => r x y H2 Q) : tOp r ta tb σ H Q := h
theorem r_un {r : V → Hp → VK → Prop} (h : ta σ H fun x H1 => r x H1 Q) : tUn r ta σ H Q := h
theorem r_I0 {g : Int → Int → V} (q : Q (g m n) H) : rI0 g (.int m) (.int n) H Q := ⟨m, n, rfl, rfl, q⟩
theorem r_I {C : Int → Int → Prop} {g : Int → Int → V} (hc : C m n) (q : Q (g m n) H) : rI C g (.int m) (.int n) H Q := ⟨m, n, rfl, rfl, hc, q⟩
theorem r_U {g : Int → V} (q : Q (g m) H) : rU g (.int m) H Q := ⟨m, rfl, q⟩
theorem r_test (h : te σ H fun x H' => ∃ k, x = .bl k ∧ B k H') : tTest te σ H B := h
theorem r_B (h : te σ H fun x H' => ∃ k, x = .bl k ∧ B k H') : tB te σ H B := h
theorem r_bl {b : Bool} {R : Bool → Prop} (h : R b) : ∃ k, V.bl b = .bl k ∧ R k := ⟨b, rfl, h⟩
theorem r_cb {r : List V → Hp → VK → Prop} {ts : TA} (h : ts σ H fun vs H1 => r vs H1 Q) : tCB r ts σ H Q := h
theorem r_cons {ts : TA} {R : List V → Hp → Prop} (h : te σ H fun x H1 => ts σ H1 fun xs H2 => R (x :: xs) H2) : tCons te ts σ H R := h
theorem r_nil {R : List V → Hp → Prop} (h : R [] H) : tNil σ H R := h
noncomputable def Nw (mk : List V → HO) (xs : List V) (H : Hp) (Q : VK) : Prop := xs.length ≤ sizeLine ∧ ∀ p, H p = none → Q (.ref p) (upd H p (mk xs))
theorem r_tup {ts : TA} (h : ts σ H fun xs H1 => Nw .tup xs H1 Q) : tTup ts σ H Q := h
theorem r_lst {ts : TA} (h : ts σ H fun xs H1 => Nw .lst xs H1 Q) : tLst ts σ H Q := h
theorem r_call {sp : Sp} {ts : TA} (h : ts σ H fun vs H1 => sp (vs ++ []) H1 Q E0) : tCall sp [] E0 ts σ H Q := h
theorem r_par {a b : Nat} {ts : TA} (h : ts σ H fun vs H1 => ∃ v w, vs = [v, w] ∧ D.nx ((σ.set a (some v)).set b (some w)) H1) : tPar a b ts D σ H := h
theorem r_not (h : c σ H fun b H1 => B (!b) H1) : tNot c σ H B := h
theorem r_and {d : TT} (h : c σ H fun b H1 => if b = true then d σ H1 B else B false H1) : tAnd c d σ H B := h
theorem r_or {d : TT} (h : c σ H fun b H1 => if b = true then B true H1 else d σ H1 B) : tOr c d σ H B := h
theorem r_andV (h : ta σ H fun x H1 => ∃ k, x = .bl k ∧ if k = true then tb σ H1 Q else Q (.bl false) H1) : tAndV ta tb σ H Q := h
theorem r_orV (h : ta σ H fun x H1 => ∃ k, x = .bl k ∧ if k = true then Q (.bl true) H1 else tb σ H1 Q) : tOrV ta tb σ H Q := h
theorem r_notV (h : ta σ H fun x H1 => ∃ k, x = .bl k ∧ Q (.bl (!k)) H1) : tNotV ta σ H Q := h
theorem r_ife (h : c σ H fun b H1 => if b = true then ta σ H1 Q else tb σ H1 Q) : tIf c ta tb σ H Q := h
theorem r_eq (hs : scal (.int m) (.int n) = true) (q : Q (.bl (decide (m = n))) H) : rEq (.int m) (.int n) H Q := ⟨hs, by
  have e : decide (V.int m = V.int n) = decide (m = n) := by simp
  rw [e]; exact q⟩
theorem r_ne (hs : scal (.int m) (.int n) = true) (q : Q (.bl (!decide (m = n))) H) : rNe (.int m) (.int n) H Q := ⟨hs, by
  have e : decide (V.int m = V.int n) = decide (m = n) := by simp
  rw [e]; exact q⟩
theorem at0 {x : V} {xs : List V} : atI (x :: xs) 0 = some x := atI_nat (j := 0) rfl
theorem at1 {x y : V} {xs : List V} : atI (x :: y :: xs) 1 = some y := atI_nat (j := 1) rfl
theorem at2 {x y z : V} {xs : List V} : atI (x :: y :: z :: xs) 2 = some z := atI_nat (j := 2) rfl
theorem r_t0 {p : Addr} {x : V} {xs : List V} (h : H p = some (.tup (x :: xs))) (q : Q x H) : rIxT K (.ref p) (.int 0) H Q := ⟨p, _, 0, x, rfl, rfl, SqT.of h, at0, q⟩
theorem r_t1 {p : Addr} {x y : V} {xs : List V} (h : H p = some (.tup (x :: y :: xs))) (q : Q y H) : rIxT K (.ref p) (.int 1) H Q := ⟨p, _, 1, y, rfl, rfl, SqT.of h, at1, q⟩
theorem r_t2 {p : Addr} {x y z : V} {xs : List V} (h : H p = some (.tup (x :: y :: z :: xs))) (q : Q z H) : rIxT K (.ref p) (.int 2) H Q := ⟨p, _, 2, z, rfl, rfl, SqT.of h, at2, q⟩
noncomputable def rLen (K : PySem.W.Frag) : List V → Hp → VK → Prop := fun xs H Q => ∃ p ys, xs = [.ref p] ∧ (SqL K H p ys ∨ SqT K H p ys) ∧ Q (.int ys.length) H
theorem r_len {p : Addr} {ys : List V} (h : SqL K H p ys ∨ SqT K H p ys) (q : Q (.int ys.length) H) : rLen K [.ref p] H Q := ⟨p, ys, rfl, h, q⟩
noncomputable def rAbs : List V → Hp → VK → Prop := fun xs H Q => ∃ i, xs = [.int i] ∧ Q (.int (if i < 0 then -i else i)) H
theorem r_absC (q : Q (.int (if m < 0 then -m else m)) H) : rAbs [.int m] H Q := ⟨m, rfl, q⟩
section
variable {X : Cx} (K : PySem.W.Frag)
theorem ixL (h : autoParam (X.K = K) au0_._auto_1) : IxR X (rIxL K) := h ▸ ix_list
theorem ixT (h : autoParam (X.K = K) au0_._auto_1) : IxR X (rIxT K) := h ▸ ix_tup
theorem slL (h : autoParam (X.K = K) au0_._auto_1) : SlR X (rSlL K) := h ▸ sl_list
theorem lenC (h : autoParam (X.K = K) au0_._auto_1) : CallR X (.builtin "len") (rLen K) := h ▸ call_len_seq
theorem absC : CallR X (.builtin "abs") rAbs := call_abs
theorem piL {tg l : Expr} {tl : TE} (hl : PE X l tl) (h : autoParam (X.K = K) au0_._auto_1) : PI X tg l (iList K tl) := h ▸ pi_list hl
theorem pgT {es : List Expr} {k : Nat} {t : TGs} {n : Nat} {pos : Pos} (hc : X.calm = true) (g : PGs X es t)
    (hn : autoParam ((assignEach es X.env).length = n) au0_._auto_1) (hst : autoParam ((assignEach es X.env).findIdx? (·.1) = none) au0_._auto_1) (h : autoParam (X.K = K) au0_._auto_1) : PG X (.Tuple es k pos) (gTup K n t) := h ▸ pg_tup hc g hn hst
theorem appC {o e : Expr} {to te : TE} {apos cpos : Pos} (ho : PE X o to) (he : PE X e te) (h : autoParam (X.K = K) au0_._auto_1)
    (hbase : autoParam (attributeBase o "append" X.env (eval o X.env) = eval o X.env) au0_._auto_1)
    (hfew : autoParam (((backTo cpos (starEach (e :: []) X.env)).all (fun x => !x.1) && (backToKw cpos (keywordEach [] X.env)).all (fun x => x.1.isSome)
      && decide ((e :: ([] : List Expr)).length + ([] : List Keyword).length + (if ([] : List Keyword).isEmpty then 0 else 1) < 30)) = true) au0_._auto_1)
    (hline : autoParam ((apos.endLine == cpos.line) = true) au0_._auto_1) (hs : autoParam (starEach (e :: []) X.env = (false, eval e X.env) :: starEach [] X.env) au0_._auto_1) (hplain : autoParam ((backTo cpos (starEach [] X.env)).any (·.1) = false) au0_._auto_1) :
    PE X (.Call (.Attribute o "append" apos) [e] [] cpos) (tBM K "list" rAppend to (tCons te tNil)) :=
  h ▸ pe_bm PySem.F.plainAttrs_list PySem.F.slot_list_append PySem.F.type_list_append mt_append ho (pa_cons he pa_nil hs) hbase hfew hline hs hplain
end
theorem same_new {p : Addr} (h : H p = none) (o : HO) : Same H (upd H p o) := fun b u q => by rw [upd_ne (ne_of_none q h)]; exact q
theorem r_new {xs : List V} {mk : List V → HO} (hl : xs.length ≤ 1000) (h : ∀ p H1, Same H H1 → H p = none → H1 p = some (mk xs) → Q (.ref p) H1) : Nw mk xs H Q :=
  ⟨Nat.le_of_lt (small1000 hl), fun p hp => h p _ (same_new hp _) hp upd_same⟩
theorem r_g {R : L2.St → Hp → Prop} (h : R (σ.set i (some v)) H) : gName i v σ H R := h
theorem r_l {p : Addr} {xs : List V} {j : Int} (h : H p = some (.lst xs)) (e : atI xs j = some v) (q : Q v H) : rIxL K (.ref p) (.int j) H Q := ⟨p, _, j, v, rfl, rfl, SqL.of h, e, q⟩
theorem r_bm {T : String} {r : V → List V → Hp → VK → Prop} {ts : TA} (h : te σ H fun x H1 => tyV K T x H1 ∧ ts σ H1 fun xs H2 => r x xs H2 Q) : tBM K T r te ts σ H Q := h
theorem r_app {p : Addr} {xs : List V} (h : H p = some (.lst xs)) (hl : xs.length < sizeLine) (q : Q .non (upd H p (.lst (xs ++ [v])))) : rAppend (.ref p) [v] H Q := ⟨p, xs, v, rfl, rfl, h, hl, q⟩
theorem same_at {H1 H2 : Hp} {p : Addr} {o : HO} (s : Same H1 H2) (n : H1 p = none) : Same H1 (upd H2 p o) := fun b x e => by rw [upd_ne (ne_of_none e n)]; exact s b x e
theorem at_ints {xs : List Int} {j : Nat} {x k : Int} (h : xs[j]? = some x) (hk : k = (j : Int)) : atI (xs.map V.int) k = some (.int x) := by
  subst hk
  exact atI_nat (by rw [List.getElem?_map, h]; rfl)
theorem r_two {R : V → V → Prop} {x y : V} (h : R x y) : ∃ v w, [x, y] = [v, w] ∧ R v w := ⟨x, y, rfl, h⟩
theorem r_for {wi : TI} {g : TG} {tb : TS} (h : wi σ H fun J H1 => ∃ W : Nat → Nat → L2.St → Hp → Prop, (∃ m, W 0 m σ H1) ∧ ∀ i m σ H, W i m σ H →
  (J.stop i H ∧ D.nx σ H) ∨ (J.go i H ∧ ∃ N : L2.St → Hp → Prop, (∀ σ' H', N σ' H' → ∃ m', m' < m ∧ W (i + 1) m' σ' H') ∧ ∀ x H', J.yld i H x H' → g x σ H' fun σ2 H2 => tb { D with nx := N, ct := N, bk := D.nx } σ2 H2)) : tFor wi g tb D σ H := h
theorem r_iL {R : It → Hp → Prop} (h : te σ H fun x H1 => ∃ a, x = .ref a ∧ (∃ xs, SqL K H1 a xs) ∧ R (Itl K a) H1) : iList K te σ H R := h
end
end My

namespace My
open PySem PySem.Spec PyProof.Rows L2 Mth
section
variable {prog : Program} {w : World} {A : Around} {E : Value → Shared → Prop} {s : Shared}
end
section
variable {X : Cx} {pos : Pos}
end
section
variable {σ : L2.St} {H : Hp} {Q : VK} {a b : Bool} {K : PySem.W.Frag}
end
end My

namespace My
open PySem PySem.Spec PyProof.Rows L2 Mth
noncomputable def cxComp (X : Cx) (N' : List Str) (scope : Scope) (cl : List (Str × Addr)) (C : Addr) (s0 : Shared) (H0 : Hp) (ex' : List Addr) (pn' : List (Addr × Obj)) : Cx :=
  { X with N := N', s₀ := s0, H₀ := H0, env := compEnvC scope cl C X.env, outer := X.stack, ex := ex', fn := fun _ => false, pn := pn', xe := fun _ _ => False }
noncomputable def capV (cap : List Nat) (σ : L2.St) : L2.St := cap.map fun j => (σ[j]?).getD none
theorem hok_but {P : Program} {w : World} {H : Hp} {h h' : Heap} {C : Addr} (x : HOk P w H h) (n : H C = none) (k : ∀ b o, b ≠ C → h.get? b = some o → h'.get? b = some o) : HOk P w H h' := fun b u e =>
  (x b u e).stay (fun c v hc q => k c v (by
    rcases hc with z | z
    · rw [z]; exact ne_of_none e n
    · exact ne_of_none z n) q) (fun _ q => q) fun _ _ q => q
theorem compLoop_gen {prog : Program} {w : World} {A : Around} {R : Result → Shared → Prop} {s : Shared} {elt iter tg : Expr} {ifs : List Expr} {scope : Scope} {pos : Pos} {it acc : Value} {env : Env} (I : Nat → Shared → Prop)
    (turn : ∀ n s, I n s → wpAny (model prog w) A (pyNext it) (fun r s₁ => match r with
      | none => R (.ok .next) s₁
      | some v => wpAny (model prog w) A (letOwnedTupleGo tg it v) (fun _ s₁' => wpAny (model prog w) A (assign tg env v) (fun _ s₂ =>
          wpAny (model prog w) A (forIn ifs true fun c r => if r = true then do let ok ← isTrue c env (eval c env); pure (ForInStep.yield ok) else pure (ForInStep.yield r)) (fun ok s₃ =>
            if ok = true then wpAny (model prog w) A (eval elt env) (fun x s₄ =>
              wpAny (model prog w) A (call (.builtin "list.append") [acc, x]) (fun _ s₅ => ∃ m, m < n ∧ I m s₅) (notedBy (model prog w) A env fun e s' => R (.error e) s') s₄) (notedBy (model prog w) A env fun e s' => R (.error e) s') s₃
            else ∃ m, m < n ∧ I m s₃) (notedBy (model prog w) A env fun e s' => R (.error e) s') s₂) (notedBy (model prog w) A env fun e s' => R (.error e) s') s₁') (notedBy (model prog w) A env fun e s' => R (.error e) s') s₁) (notedBy (model prog w) A env fun e s' => R (.error e) s') s)
    (n : Nat) (h : I n s) : codeAny (model prog w) A (.compLoop (.ListComp elt [⟨tg, iter, ifs, 0⟩] scope pos) 0 it acc env) R s := by
  refine codeAny_loop rfl I (fun n s hI => ?_) n h
  show wpAny _ A ((compTurn (.ListComp elt [⟨tg, iter, ifs, 0⟩] scope pos) 0 it acc env).onRaise (fun x => do noteFrame x env; theTreesLotGoes x)) _ _ s
  refine wpAny_noted ?_
  rw [compTurn_list]
  refine wpAny_bind (wpAny_standAt (wpAny_bind (wpAny_mono (turn n s hI) (fun r s₁ h₁ => ?_) fun _ _ h' => h')))
  cases r with
  | none => exact wpAny_pure h₁
  | some v =>
    refine wpAny_bind (wpAny_mono h₁ (fun _ s₂ h₂ => wpAny_bind (wpAny_mono h₂ (fun _ s₃ h₃ => wpAny_bind (wpAny_mono h₃ (fun ok s₄ h₄ => ?_) fun _ _ h' => h')) fun _ _ h' => h')) fun _ _ h' => h')
    cases ok with
    | false => exact wpAny_pure ⟨rfl, h₄⟩
    | true =>
      exact wpAny_bind (wpAny_bind (wpAny_mono h₄ (fun x s₄ h₄ => wpAny_bind (wpAny_mono h₄ (fun _ s₅ h₅ => wpAny_pure (wpAny_pure ⟨rfl, h₅⟩)) fun _ _ h' => h')) fun _ _ h' => h'))
noncomputable def PTs (X : Cx) (ifs : List Expr) (t : TT) : Prop :=
  ∀ (pins : List (Addr × Obj)) (s : Shared) (σ : L2.St) (H : Hp) (Q : Bool → Hp → Prop), Inv X pins σ H s → t σ H Q →
    wpAny (model X.prog X.w) X.A (forIn ifs true fun c r => if r = true then do let ok ← isTrue c X.env (eval c X.env); pure (ForInStep.yield ok) else pure (ForInStep.yield r)) (TP X pins σ Q) X.xe s
noncomputable def tYes : TT := fun _ H B => B true H
theorem pts_nil {X : Cx} : PTs X [] tYes := fun _ _ _ H _ I h => wpAny_tests_nil ⟨H, I, h⟩
theorem pts_one {X : Cx} {c : Expr} {t : TT} (h : PT X c t) : PTs X [c] t := fun pins s σ H Q I q => wpAny_tests_one (h pins s σ H Q I q)
noncomputable def CapOk (X : Cx) (scope : Scope) (cl : List (Str × Addr)) : List Str → List Nat → Prop
  | [], [] => True
  | y :: ys, j :: js => (X.N[j]? = some y ∧ X.env.kindOf y = some .cell ∧ (relabel scope X.env).names.lookup y = some .cell ∧ cl.lookup y = X.env.cells.lookup y) ∧ CapOk X scope cl ys js
  | _, _ => False
theorem CapOk.len {X : Cx} {scope : Scope} {cl : List (Str × Addr)} : ∀ {ys : List Str} {js : List Nat}, CapOk X scope cl ys js → ys.length = js.length
  | [], [], _ => rfl
  | _ :: _, _ :: _, h => congrArg (· + 1) h.2.len
theorem CapOk.at {X : Cx} {scope : Scope} {cl : List (Str × Addr)} : ∀ {ys : List Str} {js : List Nat}, CapOk X scope cl ys js → ∀ (i j : Nat) (y : Str), ys[i]? = some y → js[i]? = some j →
    X.N[j]? = some y ∧ X.env.kindOf y = some .cell ∧ (relabel scope X.env).names.lookup y = some .cell ∧ cl.lookup y = X.env.cells.lookup y
  | [], [], _, i, _, _, e, _ => by simp at e
  | _ :: _, _ :: _, h, 0, j, y, e1, e2 => by
    simp at e1 e2
    subst e1 e2
    exact h.1
  | _ :: _, _ :: _, h, i + 1, j, y, e1, e2 => h.2.at i j y (by simpa using e1) (by simpa using e2)
noncomputable def tComp (wi : TI) (n : Nat) (cap : List Nat) (g : TG) (tt : TT) (te : TE) : TE := fun σ H Q => wi σ H fun J H1 => ∀ D, H1 D = none → ∃ W : Nat → Nat → List V → Hp → Prop, (∃ m, W 0 m [] (upd H1 D (.lst []))) ∧
  ∀ i m xs H2, W i m xs H2 → H2 D = some (.lst xs) ∧ ((J.stop i H2 ∧ Q (.ref D) H2) ∨ (J.go i H2 ∧ xs.length < sizeLine ∧ ∀ x H3 σ0, σ0.length = n → J.yld i H2 x H3 →
    g x (σ0 ++ capV cap σ) H3 fun σ2 H4 => (∃ σ1, σ1.length = n ∧ σ2 = σ1 ++ capV cap σ) ∧ tt σ2 H4 fun b H5 => if b = true then te σ2 H5 fun y H6 => H6 D = some (.lst xs) ∧ ∃ m', m' < m ∧ W (i + 1) m' (xs ++ [y]) (upd H6 D (.lst (xs ++ [y])))
      else ∃ m', m' < m ∧ W (i + 1) m' xs H5))
section
variable {X : Cx} {elt iter tg : Expr} {ifs : List Expr} {pos : Pos} {scope : Scope} {cl : List (Str × Addr)} {wi : TI} {te : TE} {tt : TT} {g : TG} {O N' : List Str} {cap : List Nat} {n : Nat}
theorem inv_but {pins : List (Addr × Obj)} {σ : L2.St} {H : Hp} {s : Shared} {C : Addr} {h' : Heap} (I : L2.Inv X pins σ H s) (hC : FpOk X pins H C) (sb : Heap.SameBut C s.heap h') : L2.Inv X pins σ H { s with heap := h' } := by
  have k : ∀ b o, s.heap.get? b = some o → b ∉ [C] → h'.get? b = some o := fun b o e hb => (sb.2 b (fun z => hb (by rw [z]; exact List.mem_singleton.mpr rfl))).trans e
  refine I.call' (s' := { s with heap := h' }) (ch := [C]) rfl ⟨fun b o e _ _ hb => k b o e hb, fun b o e _ _ hb => ⟨o.slots, k b o e hb⟩, fun b o _ n _ => n, fun b o e hb => ⟨o, k b o e hb⟩, fun _ _ q => q, fun _ _ _ q => q, fun _ ps q => ⟨#[], by simpa using q⟩⟩
    (hok_but I.hok hC.1 fun b o hb e => (sb.2 b hb).trans e) I.bare fun b hb => ?_
  obtain rfl : b = C := List.mem_singleton.mp hb
  exact ⟨hC.2.2.2.1, hC.2.1, hC.2.2.2.2.1, hC.2.2.2.2.2⟩
theorem comp_gen {pins : List (Addr × Obj)} {s : Shared} {σ : L2.St} {H : Hp} {Q : VK} {cpos : Pos} (use : Option (Value → Sem Unit)) (Q' : Value → Shared → Prop) (hc : X.calm = true) (hi : PI X tg iter wi)
    (hg : ∀ (C : Addr) (s0 : Shared) (H0 : Hp) (ex' : List Addr) (pn' : List (Addr × Obj)), PG (cxComp X (O ++ N') scope cl C s0 H0 ex' pn') tg g)
    (htt : ∀ (C : Addr) (s0 : Shared) (H0 : Hp) (ex' : List Addr) (pn' : List (Addr × Obj)), PTs (cxComp X (O ++ N') scope cl C s0 H0 ex' pn') ifs tt)
    (helt : ∀ (C : Addr) (s0 : Shared) (H0 : Hp) (ex' : List Addr) (pn' : List (Addr × Obj)), PE (cxComp X (O ++ N') scope cl C s0 H0 ex' pn') elt te)
    (hO : O.length = n) (hcap : CapOk X scope cl N' cap)
    (hclos : closureFor scope X.env = pure cl) (hcell : ∀ y ∈ scope.names, y.2 ≠ .cell) (hkind : scope.kind = .function) (hnames : ∀ y ∈ scope.names, y.2 = .local → scope.names.lookup y.1 = some .local)
    (hclx : ∀ y c, cl.lookup y = some c → X.env.cells.lookup y = some c) (hhas : ∀ y, ((relabel scope X.env).names.lookup y = some .cell ∨ (relabel scope X.env).names.lookup y = some .free) → ∃ c, cl.lookup y = some c)
    (hs : ∀ z, foldedSetIterable iter X.env z = pure z)
    (I : L2.Inv X pins σ H s) (h : tComp wi n cap g tt te σ H Q)
    (fin : ∀ (D : Addr) (H5 : Hp) (s6 : Shared) (C : Addr), L2.Inv X pins σ H5 s6 → FpOk X pins H5 C → (∃ m, s6.heap.Ns C m) → Q (.ref D) H5 → compPost (model X.prog X.w) X.A X.xe use Q' (.ref D) C (.ok .next) s6) :
    wpAny (model X.prog X.w) X.A (comprehension (.ListComp elt [⟨tg, iter, ifs, 0⟩] scope pos) scope X.env cpos (newList []) false (eval iter X.env) use) Q' X.xe s := by
  refine wpAny_comprehension_free (use := use) rfl hs hclos hkind hnames (thn (hi pins s σ H _ I h) fun v s1 h1 => thn h1 fun itv s2 h2 => ?_)
  obtain ⟨it, fp, tn, J, H2, e, I2, T, st2, f2, q2⟩ := h2
  subst e
  refine wpAny_newObj_type (wpAny_newFunctionEnv hcell (by intro y hy; simp at hy) (fun h₁ hns₁ hsb₁ => ?_) hkind)
  dsimp only at hns₁ hsb₁ ⊢
  -- the list, then the block's own names
  have I3 : Inv X pins σ (upd H2 s2.heap.objs.size (.lst [])) { s2 with heap := s2.heap.push { cls := .type "list", data := .seq ([] : List Value).toArray }, toks := s2.toks } := I2.lnew (its := []) (t' := s2.toks) .nil (Nat.zero_le _)
  generalize hH3 : s2.heap.push { cls := .type "list", dict := none, data := .seq ([] : List Value).toArray } = h3 at hns₁ hsb₁ I3 ⊢
  have q3 := q2 s2.heap.objs.size (I2.hok.fresh (Nat.le_refl _))
  generalize hD : s2.heap.objs.size = D at I3 q3 hns₁ hsb₁ ⊢
  obtain ⟨W, ⟨m0, w0⟩, turn⟩ := q3
  have hC : ∀ b o, h3.get? b = some o → b ≠ h3.objs.size := fun b o e => Nat.ne_of_lt (Heap.lt_size e)
  have old : ∀ b o, h3.get? b = some o → h₁.get? b = some o := fun b o e => hsb₁.extBut b o (hC b o e) (Heap.get?_push_of_some _ e)
  have fpThere : ∀ b ∈ fp, ∃ o, h3.get? b = some o := fun b hb => by
    obtain ⟨o, e, _⟩ := T.obj _ _ st2 b hb
    exact ⟨o, by rw [← hH3]; exact Heap.get?_push_of_some _ e⟩
  have fp3 : ∀ b ∈ fp, upd H2 D (.lst []) b = none := fun b hb => by
    have n := (f2 b hb).1
    obtain ⟨o, e, _⟩ := T.obj _ _ st2 b hb
    rw [upd_ne (by rw [← hD]; exact Nat.ne_of_lt (Heap.lt_size e))]
    exact n
  have stk : ∀ b ∈ fp, b ∉ frs X.stack := fun b hb z => by
    rcases List.mem_cons.mp (I3.stkSub b z) with e | e
    · exact (f2 b hb).2.1 e
    · exact (f2 b hb).2.2.1 e
  have ok : (cxComp X (O ++ N') scope cl h3.objs.size { s2 with heap := h3, toks := s2.toks } (upd H2 D (.lst [])) fp (X.pn ++ pins)).Ok :=
    ⟨I.ok.mod, hkind, I.ok.glob, I.ok.blt, Nat.le_refl _, fun y z c a b => I.ok.inj y z c (hclx y c a) (hclx z c b), hhas, fun _ _ z => absurd z Bool.false_ne_true, I.ok.hd, I.ok.frames, .inl rfl,
      fun b hb => ⟨by obtain ⟨o, e⟩ := fpThere b hb; exact hC b o e, fun y c a => (f2 b hb).2.2.2.2.1 y c (hclx y c a)⟩, I3.bs, Nat.le_trans I3.ok.bsz I3.sz,
      fun b o e hb => by
        rcases (f2 b hb).2.2.2.1 with z | z
        · exact I.ok.noex b o e z
        · exact absurd (Nat.lt_of_lt_of_le (Heap.lt_size (I.ok.bs b o e).1) z) (Nat.lt_irrefl _),
      stk, I3.stack, I3.stkFree⟩
  have I4 : Inv (cxComp X (O ++ N') scope cl h3.objs.size { s2 with heap := h3, toks := s2.toks } (upd H2 D (.lst [])) fp (X.pn ++ pins)) [] (List.replicate n none ++ capV cap σ) (upd H2 D (.lst [])) { s2 with heap := h₁, toks := s2.toks + ([] : List (Str × Value)).length } := by
    refine ⟨ok, rfl, I3.bare, Un.kept old, ⟨_, hns₁, fun i y v e1 e2 e3 => ?_⟩, fun y c a => ?_, I3.hok.fresh (Nat.le_refl _), fun y c a => I3.freeC y c (hclx y c a), fun p hp => ?_, I3.hok.kept old, ?_⟩
    · by_cases hin : i < n
      · rw [List.getElem?_append_left (by rw [List.length_replicate]; exact hin), List.getElem?_replicate, if_pos hin] at e2
        cases e2
      · have e1' : N'[i - n]? = some y := by
          have z : (O ++ N')[i]? = some y := e1
          rw [List.getElem?_append_right (by (first | lia | omega)), hO] at z
          exact z
        have hi' : i - n < cap.length := by rw [← hcap.len]; exact (List.getElem?_eq_some_iff.mp e1').1
        obtain ⟨j, ej⟩ : ∃ j, cap[i - n]? = some j := ⟨_, List.getElem?_eq_getElem hi'⟩
        obtain ⟨a1, a2, a3, a4⟩ := hcap.at (i - n) j y e1' ej
        have e2' : σ[j]? = some (some v) := by
          have z : (capV cap σ)[i - n]? = some (some v) := by
            rw [List.getElem?_append_right (by rw [List.length_replicate]; (first | lia | omega)), List.length_replicate] at e2
            exact e2
          unfold capV at z
          rw [List.getElem?_map, ej] at z
          have z2 : (σ[j]?).getD none = some v := by simpa using z
          cases q : σ[j]? with
          | none => rw [q] at z2; cases z2
          | some o => rw [q] at z2; exact congrArg some z2
        obtain ⟨m, hn, hl⟩ := I3.loc
        obtain ⟨u, r, l⟩ := hl j y v a1 e2' (.inr (.inl a2))
        refine ⟨u, r, .inr ⟨.inl a3, ?_⟩⟩
        rcases l with ⟨k, _⟩ | ⟨_, c, ec, o, ho, hd⟩
        · rw [a2] at k; cases k
        · exact ⟨c, a4.trans ec, o, old c o ho, hd⟩
    · obtain ⟨v, o, ho, hd⟩ := I3.cell y c (hclx y c a)
      exact ⟨v, o, old c o ho, hd⟩
    · have hp' : p ∈ X.pn ++ pins := by simpa [cxComp] using hp
      obtain ⟨e, n, ne, nf, d⟩ := I3.pin p hp'
      refine ⟨old _ _ e, n, hC _ _ e, fun z => ?_, d⟩
      rcases List.mem_cons.mp (I3.stkSub p.1 z) with e | e
      · exact ne e
      · exact nf e
    · show (List.replicate n none ++ capV cap σ).length = (O ++ N').length
      unfold capV
      rw [List.length_append, List.length_append, List.length_replicate, List.length_map, hcap.len, hO]
  have loop : codeAny (model X.prog X.w) X.A (.compLoop (.ListComp elt [⟨tg, iter, ifs, 0⟩] scope pos) 0 (.ref it) (.ref D) (compEnvC scope cl h3.objs.size X.env))
      (compPost (model X.prog X.w) X.A X.xe use Q' (.ref D) h3.objs.size) { s2 with heap := h₁, toks := s2.toks + ([] : List (Str × Value)).length } := by
    have fpk : ∀ {H' : Hp}, (∀ b ∈ fp, H' b = none) → ∀ b ∈ fp, FpOk (cxComp X (O ++ N') scope cl h3.objs.size { s2 with heap := h3, toks := s2.toks } (upd H2 D (.lst [])) fp (X.pn ++ pins)) [] H' b := fun hn b hb => by
      obtain ⟨o, e⟩ := fpThere b hb
      refine ⟨hn b hb, hC b o e, stk b hb, .inl hb, fun y c a => (f2 b hb).2.2.2.2.1 y c (hclx y c a), fun p hp => ?_⟩
      have hp' : p ∈ X.pn ++ pins := by simpa [cxComp] using hp
      exact (f2 b hb).2.2.2.2.2 p hp'
    refine compLoop_gen (fun mm s' => ∃ (i : Nat) (xs : List V) (H' : Hp) (σ0 : L2.St), σ0.length = n ∧ Inv (cxComp X (O ++ N') scope cl h3.objs.size { s2 with heap := h3, toks := s2.toks } (upd H2 D (.lst [])) fp (X.pn ++ pins)) [] (σ0 ++ capV cap σ) H' s' ∧ tn i s'.heap ∧ (∀ b ∈ fp, H' b = none) ∧ W i mm xs H') ?_ m0
      ⟨0, [], _, List.replicate n none, List.length_replicate, I4, T.keep _ _ _ st2 fun b hb o e => old b o (by rw [← hH3]; exact Heap.get?_push_of_some _ e), fp3, w0⟩
    rintro mm s5 ⟨i, xs, H5, σ0, hσ0, I5, st5, fr5, w5⟩
    obtain ⟨e5, tw⟩ := turn i mm xs H5 w5
    rcases tw with ⟨stop, qn⟩ | ⟨go, hz, step⟩
    · refine thn (T.done (cxComp X (O ++ N') scope cl h3.objs.size { s2 with heap := h3, toks := s2.toks } (upd H2 D (.lst [])) fp (X.pn ++ pins)) rfl rfl rfl hc i [] s5 _ H5 _ I5 (fpk fr5) st5 stop) fun r s6 ⟨hr, I6⟩ => ?_
      subst hr
      obtain ⟨m, hn, _⟩ := id I6.loc
      have J6 : L2.Inv X pins σ H5 s6 := I3.call' (s' := s6) (ch := fp) I6.os I6.base I6.hok I6.bare fun b hb => by
        obtain ⟨_, g1, _, g3, g4, g5⟩ := f2 b hb
        exact ⟨g3, g1, g4, g5⟩
      exact fin D H5 s6 _ J6 (I3.fpOk (Nat.le_refl _) I6.free) ⟨m, hn⟩ qn
    · refine thn (T.item (cxComp X (O ++ N') scope cl h3.objs.size { s2 with heap := h3, toks := s2.toks } (upd H2 D (.lst [])) fp (X.pn ++ pins)) rfl rfl rfl hc i [] s5 _ H5 _ I5 (fpk fr5) st5 go) fun r s6 ⟨u, hr, h6⟩ => ?_
      subst hr
      refine thn h6 fun _ s7 ⟨xv, H7, I7, r7, y7, st7, fr7⟩ => ?_
      have I7' := I7.pinned (fpk fr7) (T.obj _ _ st7)
      refine wpAny_mono (hg _ _ _ _ _ _ s7 _ H7 xv u _ I7' r7 (step xv H7 σ0 hσ0 y7)) (fun _ s8 ⟨σ2, H8, I8, ⟨σ1, hσ1, e2⟩, q8⟩ => ?_) fun _ _ z => z.elim
      refine wpAny_mono (htt _ _ _ _ _ _ s8 σ2 H8 _ I8 q8) (fun ok s9 ⟨H9, I9, q9⟩ => ?_) fun _ _ z => z.elim
      subst e2
      have keep : ∀ {s' : Shared} {σ' : L2.St} {H' : Hp}, Inv (cxComp X (O ++ N') scope cl h3.objs.size { s2 with heap := h3, toks := s2.toks } (upd H2 D (.lst [])) fp (X.pn ++ pins)) ([] ++ pinsAt fp s7.heap) σ' H' s' → tn (i + 1) s'.heap ∧ ∀ b ∈ fp, H' b = none := fun {s' σ' H'} J =>
        ⟨T.keep _ _ _ st7 fun b hb o e => (J.pin (b, o) (List.mem_append_right _ (List.mem_append_right _ (mem_pinsAt hb e)))).1, fun b hb => by
          obtain ⟨o, e, d⟩ := T.obj _ _ st7 b hb
          exact (J.pin (b, o) (List.mem_append_right _ (List.mem_append_right _ (mem_pinsAt hb e)))).2.1⟩
      cases ok with
      | false =>
        rw [if_neg Bool.false_ne_true] at q9 ⊢
        obtain ⟨m', hm, w9⟩ := q9
        exact ⟨m', hm, i + 1, xs, H9, σ1, hσ1, I9.unpinned, (keep I9).1, (keep I9).2, w9⟩
      | true =>
        rw [if_pos rfl] at q9 ⊢
        refine wpAny_mono (helt _ _ _ _ _ _ s9 _ H9 _ I9 q9) (fun yv s10 ⟨y, H10, I10, r10, e10, m', hm, w10⟩ => ?_) fun _ _ z => z.elim
        refine wpAny_mono (mt_append (X := cxComp X (O ++ N') scope cl h3.objs.size { s2 with heap := h3, toks := s2.toks } (upd H2 D (.lst [])) fp (X.pn ++ pins)) _ s10 _ H10 (.ref D) [y] (.ref D) [yv] (fun _ H' => H' = upd H10 D (.lst (xs ++ [y]))) I10 rfl (.cons r10 .nil) ⟨D, xs, y, rfl, rfl, e10, hz, rfl⟩) (fun _ s11 ⟨_, H11, I11, _, e11⟩ => ?_) fun _ _ z => z.elim
        subst e11
        exact ⟨m', hm, i + 1, xs ++ [y], _, σ1, hσ1, I11.unpinned, (keep I11).1, (keep I11).2, w10⟩
  exact codeAny_compStart_list loop (T.self _ 0 _ _ _ (T.keep _ _ _ st2 fun b hb o e => old b o (by rw [← hH3]; exact Heap.get?_push_of_some _ e)) loop)
theorem pe_comp (hc : X.calm = true) (hi : PI X tg iter wi)
    (hg : ∀ (C : Addr) (s0 : Shared) (H0 : Hp) (ex' : List Addr) (pn' : List (Addr × Obj)), PG (cxComp X (O ++ N') scope cl C s0 H0 ex' pn') tg g)
    (htt : ∀ (C : Addr) (s0 : Shared) (H0 : Hp) (ex' : List Addr) (pn' : List (Addr × Obj)), PTs (cxComp X (O ++ N') scope cl C s0 H0 ex' pn') ifs tt)
    (helt : ∀ (C : Addr) (s0 : Shared) (H0 : Hp) (ex' : List Addr) (pn' : List (Addr × Obj)), PE (cxComp X (O ++ N') scope cl C s0 H0 ex' pn') elt te)
    (hO : O.length = n) (hcap : CapOk X scope cl N' cap)
    (hclos : closureFor scope X.env = pure cl) (hcell : ∀ y ∈ scope.names, y.2 ≠ .cell) (hkind : scope.kind = .function) (hnames : ∀ y ∈ scope.names, y.2 = .local → scope.names.lookup y.1 = some .local)
    (hclx : ∀ y c, cl.lookup y = some c → X.env.cells.lookup y = some c) (hhas : ∀ y, ((relabel scope X.env).names.lookup y = some .cell ∨ (relabel scope X.env).names.lookup y = some .free) → ∃ c, cl.lookup y = some c)
    (hs : autoParam (∀ z, foldedSetIterable iter X.env z = pure z) au2_._auto_1) :
    PE X (.ListComp elt [⟨tg, iter, ifs, 0⟩] scope pos) (tComp wi n cap g tt te) := by
  intro pins s σ H Q I h
  rw [eval_ListComp]
  exact comp_gen none (EP X pins σ Q) hc hi hg htt helt hO hcap hclos hcell hkind hnames hclx hhas hs I h fun D H5 s6 C J fC ⟨m, hn⟩ q => ⟨m, hn, fun h' sb => ⟨.ref D, H5, inv_but J fC sb, rfl, q⟩⟩
theorem ps_comp {i : Nat} {x : Str} {pos' spos : Pos} (hN : X.N.Nodup) (hix : X.N[i]? = some x) (hx : Loc X.env.scope x) (hc : X.calm = true) (hi : PI X tg iter wi)
    (hg : ∀ (C : Addr) (s0 : Shared) (H0 : Hp) (ex' : List Addr) (pn' : List (Addr × Obj)), PG (cxComp X (O ++ N') scope cl C s0 H0 ex' pn') tg g)
    (htt : ∀ (C : Addr) (s0 : Shared) (H0 : Hp) (ex' : List Addr) (pn' : List (Addr × Obj)), PTs (cxComp X (O ++ N') scope cl C s0 H0 ex' pn') ifs tt)
    (helt : ∀ (C : Addr) (s0 : Shared) (H0 : Hp) (ex' : List Addr) (pn' : List (Addr × Obj)), PE (cxComp X (O ++ N') scope cl C s0 H0 ex' pn') elt te)
    (hO : O.length = n) (hcap : CapOk X scope cl N' cap)
    (hclos : closureFor scope X.env = pure cl) (hcell : ∀ y ∈ scope.names, y.2 ≠ .cell) (hkind : scope.kind = .function) (hnames : ∀ y ∈ scope.names, y.2 = .local → scope.names.lookup y.1 = some .local)
    (hclx : ∀ y c, cl.lookup y = some c → X.env.cells.lookup y = some c) (hhas : ∀ y, ((relabel scope X.env).names.lookup y = some .cell ∨ (relabel scope X.env).names.lookup y = some .free) → ∃ c, cl.lookup y = some c)
    (hsw : swapsWith (.ListComp elt [⟨tg, iter, ifs, 0⟩] scope pos) (some (.Name x pos')) spos.line X.env = pure true)
    (hs : autoParam (∀ z, foldedSetIterable iter X.env z = pure z) au2_._auto_1) (hf : X.fn x = true ∨ X.env.scope.names.lookup x = some .local := by first | exact .inl rfl | exact .inr rfl | assumption) :
    PS X (.Assign [.Name x pos'] (.ListComp elt [⟨tg, iter, ifs, 0⟩] scope pos) spos) (tAsg (tComp wi n cap g tt te) (gName i)) := by
  intro pins s σ H D I h
  rw [exec_Assign_Name_used _ _ _ _ hsw]
  refine wpAny_bind (wpAny_standAt (wpAny_bind ?_))
  show wpAny _ _ (comprehension (.ListComp elt [⟨tg, iter, ifs, 0⟩] scope pos) scope X.env _ (newList []) false (eval iter X.env) (some (assign (.Name x pos') X.env)) >>= fun _ => pure ()) _ _ s
  refine wpAny_bind (comp_gen (some (assign (.Name x pos') X.env)) (fun _ s' => wpAny _ _ (pure ()) _ _ s') hc hi hg htt helt hO hcap hclos hcell hkind hnames hclx hhas hs I h fun Dl H5 s6 C J fC ⟨m, hn⟩ q => ?_)
  refine wpAny_assign_Name (store_ok2 J hN hix hx (show RelV (.ref Dl) (.ref Dl) from rfl) (fun s7 I7 ⟨a, sb, ha⟩ => ⟨m, hn.sameBut sb ?_, fun h' sb' => wpAny_pure (wpAny_pure ⟨_, H5, inv_but I7 fC sb', q⟩)⟩) hf)
  rcases ha with rfl | e
  · exact fC.2.1
  · exact fun z => fC.2.2.2.2.1 x a e z.symm
end
end My

namespace My
open PySem PySem.Spec PyProof.Rows L2 Mth
structure Cn (mg : Str → Option Value) (x : Str) (n : Int) : Prop where
  ex : ∃ t, mg x = some (.int n t)
section
variable {X : Cx} {x : Str} {n : Int} {pos apos cpos : Pos} {o : Expr} {to : TE}
noncomputable def rBits : V → Hp → VK → Prop := fun x H Q => ∃ i : Int, x = .int i ∧ Q (.int ((Builtin.Int.intBits i : Nat) : Int)) H
end
section
variable {σ : L2.St} {H : Hp} {Q : VK} {m n : Int} {K : PySem.W.Frag} {X : Cx}
theorem r_bits (q : Q (.int ((Builtin.Int.intBits m : Nat) : Int)) H) : tyV K "int" (.int m) H ∧ ([] : List V) = [] ∧ rBits (.int m) H Q := ⟨rfl, rfl, m, rfl, q⟩
noncomputable def rMax : List V → Hp → VK → Prop := fun xs H Q => ∃ i j : Int, xs = [.int i, .int j] ∧ Q (.int (if j > i then j else i)) H
noncomputable def rMin : List V → Hp → VK → Prop := fun xs H Q => ∃ i j : Int, xs = [.int i, .int j] ∧ Q (.int (if j < i then j else i)) H
theorem minC (hc : X.calm = true) : CallR X (.builtin "min") rMin := call_min2 hc
theorem r_max (q : Q (.int (if n > m then n else m)) H) : rMax [.int m, .int n] H Q := ⟨m, n, rfl, q⟩
theorem r_min (q : Q (.int (if n < m then n else m)) H) : rMin [.int m, .int n] H Q := ⟨m, n, rfl, q⟩
theorem r_cat {p r : Addr} {xs ys : List V} (hp : H p = some (.lst xs)) (hr : H r = some (.lst ys)) (h : Nw .lst (xs ++ ys) H Q) : rCat (.ref p) (.ref r) H Q := ⟨p, r, _, _, rfl, rfl, hp, hr, by have := h.1; rw [List.length_append] at this; exact this, h.2⟩
theorem r_rep {p : Addr} {xs : List V} {k : Int} (hp : H p = some (.lst xs)) (h1 : -(2 ^ 63) ≤ k) (h2 : k < 2 ^ 63) (h : Nw .lst (List.replicate k.toNat xs).flatten H Q) : rRep (.ref p) (.int k) H Q :=
  ⟨p, k, xs, rfl, rfl, hp, h1, h2, by have := h.1; rw [len_rep] at this; rw [Nat.mul_comm]; exact this, h.2⟩
theorem at3 {x y z u : V} {xs : List V} : atI (x :: y :: z :: u :: xs) 3 = some u := atI_nat (j := 3) rfl
theorem r_t3 {p : Addr} {x y z u : V} {xs : List V} (h : H p = some (.tup (x :: y :: z :: u :: xs))) (q : Q u H) : rIxT K (.ref p) (.int 3) H Q := ⟨p, _, 3, u, rfl, rfl, SqT.of h, at3, q⟩
end
section
variable {σ : L2.St} {H : Hp} {to ti : TE} {ts : TSet} {R : L2.St → Hp → Prop} {v : V}
theorem r_asg {te : TE} {g : TG} {D : Ends} (h : te σ H fun x H1 => g x σ H1 D.nx) : tAsg te g D σ H := h
theorem r_gsub (h : to σ H fun o H1 => ti σ H1 fun i H2 => ts o i v H2 fun H3 => R σ H3) : gSub to ti ts v σ H R := h
theorem r_setL {p : Addr} {xs : List V} {k : Int} {j : Nat} {Q : Hp → Prop} (h : H p = some (.lst xs)) (e : ixN xs.length k = some j) (q : Q (upd H p (.lst (xs.set j v)))) : rSetL (.ref p) (.int k) v H Q := ⟨p, xs, k, j, rfl, rfl, h, e, q⟩
end
end My

namespace Jd
open PySem PySem.Spec PyProof.Rows L2 My
structure QE (X : Cx) (e : Expr) (t : TE) : Prop where
  h : PE X e t
structure QT (X : Cx) (e : Expr) (t : TT) : Prop where
  h : PT X e t
structure QW (X : Cx) (e : Expr) (t : TT) : Prop where
  h : PW X e t
structure QA (X : Cx) (es : List Expr) (t : TA) : Prop where
  h : PA X es t
structure QS (X : Cx) (st : Stmt) (t : TS) : Prop where
  h : PS X st t
structure QSs (X : Cx) (st : List Stmt) (t : TS) : Prop where
  h : PSs X st t
structure QG (X : Cx) (e : Expr) (t : TG) : Prop where
  h : PG X e t
structure QGs (X : Cx) (es : List Expr) (t : TGs) : Prop where
  h : PGs X es t
structure QI (X : Cx) (tg e : Expr) (t : TI) : Prop where
  h : PI X tg e t
structure QO (X : Cx) (e : Option Expr) (t : TO) : Prop where
  h : PO X e t
section
variable {X : Cx} {e a b c o : Expr} {es : List Expr} {te ta tb tc to : TE} {t : TA} {pos p p2 apos cpos : Pos} {x : Str} {tA tB' : TT} {st : Stmt} {sts rest : List Stmt} {s1 s2 : TS} {K : PySem.W.Frag}
theorem go {body : List Stmt} {D : Ends} {σ : L2.St} {H : Hp} (h : ∃ t, QSs X body t ∧ t D σ H) : ∃ t, PSs X body t ∧ t D σ H := let ⟨t, h, k⟩ := h; ⟨t, h.h, k⟩
theorem pv (i : Nat) (hN : autoParam (X.N[i]? = some x) au0_._auto_1) (hv : Vis X.env.scope x := by first | exact Or.inl rfl | exact Or.inr (Or.inl rfl) | exact Or.inr (Or.inr rfl)) (hd : autoParam ((x == ("__debug__" : Str)) = false) au1_._auto_1)
    (hcd : autoParam ((x == ("__classdict__" : Str)) = false) au1_._auto_1) : QE X (.Name x pos) (tVar i) := ⟨L2.pv i hN hv hd hcd⟩
theorem pe_int {i j} : QE X (.Constant (.int i) j pos) (tC (.int i)) := ⟨L2.pe_int⟩
theorem pe_bl {i j} : QE X (.Constant (.bool i) j pos) (tC (.bl i)) := ⟨L2.pe_bl⟩
theorem pe_non {j} : QE X (.Constant .none j pos) (tC .non) := ⟨L2.pe_non⟩
theorem pe_op {op : Operator} {r : R2} (ho : OpR X (binaryOp op) r) (ha : QE X a ta) (hb : QE X b tb) : QE X (.BinOp a op b pos) (tOp r ta tb) := ⟨L2.pe_op ho ha.h hb.h⟩
theorem pe_un {op : UnaryOp} {r : V → Hp → VK → Prop} (ho : UnR X (unaryOp op) r) (ha : QE X a ta) : QE X (.UnaryOp op a pos) (tUn r ta) := ⟨L2.pe_un ho ha.h⟩
theorem pe_cmpR {op : CmpOp} {r : R2} (ho : OpR X (compareOp op) r) (ha : QE X a ta) (hb : QE X b tb) (hm : behindInMarks op b = false) : QE X (.Compare a [op] [b] pos) (tOp r ta tb) := ⟨L2.pe_cmpR ho ha.h hb.h hm⟩
theorem pt_cmpR {op : CmpOp} {r : R2} (ho : OpR X (compareOp op) r) (ha : QE X a ta) (hb : QE X b tb) (hm : behindInMarks op b = false) : QT X (.Compare a [op] [b] pos) (tTest (tOp r ta tb)) := ⟨L2.pt_cmpR ho ha.h hb.h hm⟩
theorem pt_not (ha : QT X a tA) : QT X (.UnaryOp .Not a pos) (tNot tA) := ⟨L2.pt_not ha.h⟩
theorem pt_val (h : QE X e te) (he : autoParam (∀ whole, isTrue e X.env whole = (do let v ← whole; standAt e.pos; holding [v] (truthy v))) au2_._auto_1) : QT X e (tB te) := ⟨L2.pt_val h.h he⟩
theorem PWpt (h : QW X e tA) : QT X e tA := ⟨h.h.pt⟩
theorem pw_and1 (ha : QT X a tA) : QW X (.BoolOp .And [a] pos) tA := ⟨L2.pw_and1 ha.h⟩
theorem pw_or1 (ha : QT X a tA) : QW X (.BoolOp .Or [a] pos) tA := ⟨L2.pw_or1 ha.h⟩
theorem pw_and (ha : QT X a tA) (hb : QW X (.BoolOp .And (b :: es) pos) tB') : QW X (.BoolOp .And (a :: b :: es) pos) (tAnd tA tB') := ⟨L2.pw_and ha.h hb.h⟩
theorem pw_or (ha : QT X a tA) (hb : QW X (.BoolOp .Or (b :: es) pos) tB') : QW X (.BoolOp .Or (a :: b :: es) pos) (tOr tA tB') := ⟨L2.pw_or ha.h hb.h⟩
theorem pe_ifExp (hc : QT X c tA) (ha : QE X a ta) (hb : QE X b tb) : QE X (.IfExp c a b pos) (tIf tA ta tb) := ⟨L2.pe_ifExp hc.h ha.h hb.h⟩
theorem pa_nil : QA X [] tNil := ⟨L2.pa_nil⟩
theorem pa_cons (ha : QE X e te) (hr : QA X es t) (hs : autoParam (starEach (e :: es) X.env = (false, eval e X.env) :: starEach es X.env) au0_._auto_1) : QA X (e :: es) (tCons te t) := ⟨L2.pa_cons ha.h hr.h hs⟩
theorem pe_tup {k : Nat} (h : QA X es t) : QE X (.Tuple es k pos) (tTup t) := ⟨L2.pe_tup h.h⟩
theorem pe_lst (h : QA X es t) : QE X (.List es pos) (tLst t) := ⟨L2.pe_lst h.h⟩
theorem po_none : QO X none tNoPart := ⟨L2.po_none⟩
theorem po_some (h : QE X e te) : QO X (some e) (tPart te) := ⟨L2.po_some h.h⟩
theorem pe_slice {r : V → Option Int → Option Int → Hp → VK → Prop} {lo hi : Option Expr} {tl th : TO} (hr : SlR X r) (he : QE X e te) (hl : QO X lo tl) (hu : QO X hi th) : QE X (.Subscript e (.Slice lo hi none p2) pos) (tSl r te tl th) := ⟨L2.pe_slice hr he.h hl.h hu.h⟩
theorem pe_ix {r : R2} (hr : IxR X r) (ha : QE X a ta) (hb : QE X b tb) (hs : PlainIx b) : QE X (.Subscript a b pos) (tOp r ta tb) := ⟨L2.pe_ix hr ha.h hb.h hs⟩
theorem pe_callB {id : String} {r : List V → Hp → VK → Prop} (hc : CallR X (.builtin id) r) (hg : Gl X x) (hm : X.mg x = none) (hv : bootBuiltins x = some (.builtin id)) (ha : QA X (e :: es) t) (hn : autoParam (x ≠ "__name__") au1_._auto_1) (hdb : autoParam ((x == ("__debug__" : Str)) = false) au1_._auto_1)
    (he : autoParam (starEach (e :: es) X.env = (false, eval e X.env) :: starEach es X.env) au0_._auto_1) (hpl : autoParam ((backTo pos (starEach es X.env)).any (·.1) = false) au0_._auto_1) : QE X (.Call (.Name x p) (e :: es) [] pos) (tCB r t) := ⟨L2.pe_callB hc hg hm hv ha.h hn hdb he hpl⟩
theorem pe_callTy {T : String} {r : List V → Hp → VK → Prop} (hc : CallR X (.type T) r) (hg : Gl X x) (hm : X.mg x = none) (hv : bootBuiltins x = some (.type T)) (ha : QA X (e :: es) t) (hn : autoParam (x ≠ "__name__") au1_._auto_1) (hdb : autoParam ((x == ("__debug__" : Str)) = false) au1_._auto_1)
    (he : autoParam (starEach (e :: es) X.env = (false, eval e X.env) :: starEach es X.env) au0_._auto_1) (hpl : autoParam ((backTo pos (starEach es X.env)).any (·.1) = false) au0_._auto_1) : QE X (.Call (.Name x p) (e :: es) [] pos) (tCB r t) := ⟨L2.pe_callTy hc hg hm hv ha.h hn hdb he hpl⟩
theorem pe_dn {k : Nat} {ps : List Str} {sp : Sp} (D : Dn X.prog X.w X.K X.mg X.base k x ps sp) (hr : Room k X.A) (hg : Gl X x) (ha : QA X (e :: es) t) (hdb : autoParam ((x == ("__debug__" : Str)) = false) au1_._auto_1)
    (he : autoParam (starEach (e :: es) X.env = (false, eval e X.env) :: starEach es X.env) au0_._auto_1) (hpl : autoParam ((backTo pos (starEach es X.env)).any (·.1) = false) au0_._auto_1) : QE X (.Call (.Name x p) (e :: es) [] pos) (tCall sp [] E0 t) := ⟨My.pe_dn D hr hg ha.h hdb he hpl⟩
theorem appC (K : PySem.W.Frag) (ho : QE X o to) (he : QE X e te) (h : autoParam (X.K = K) au0_._auto_1)
    (hbase : autoParam (attributeBase o "append" X.env (eval o X.env) = eval o X.env) au0_._auto_1)
    (hfew : autoParam (((backTo cpos (starEach (e :: []) X.env)).all (fun x => !x.1) && (backToKw cpos (keywordEach [] X.env)).all (fun x => x.1.isSome)
      && decide ((e :: ([] : List Expr)).length + ([] : List Keyword).length + (if ([] : List Keyword).isEmpty then 0 else 1) < 30)) = true) au0_._auto_1)
    (hline : autoParam ((apos.endLine == cpos.line) = true) au0_._auto_1) (hs : autoParam (starEach (e :: []) X.env = (false, eval e X.env) :: starEach [] X.env) au0_._auto_1) (hplain : autoParam ((backTo cpos (starEach [] X.env)).any (·.1) = false) au0_._auto_1) :
    QE X (.Call (.Attribute o "append" apos) [e] [] cpos) (tBM K "list" rAppend to (tCons te tNil)) := ⟨My.appC K ho.h he.h h hbase hfew hline hs hplain⟩
theorem pss_nil : QSs X [] tNext := ⟨L2.pss_nil⟩
theorem pss_cons (h1 : QS X st s1) (h2 : QSs X rest s2) : QSs X (st :: rest) (tSeq s1 s2) := ⟨L2.pss_cons h1.h h2.h⟩
theorem pss_one (h1 : QS X st s1) : QSs X [st] s1 := ⟨L2.pss_one h1.h⟩
theorem ps_ret (he : QE X e te) : QS X (.Return (some e) pos) (tRet te) := ⟨L2.ps_ret he.h⟩
theorem ps_expr (he : QE X e te) (hs : autoParam (swapsWith e none pos.line X.env = pure false) au0_._auto_1) : QS X (.Expr e pos) (tDrop te) := ⟨L2.ps_expr he.h hs⟩
theorem ps_set {i : Nat} {pos' : Pos} (hN : X.N.Nodup) (hi : X.N[i]? = some x) (hx : Loc X.env.scope x) (he : QE X e te) (hs : autoParam (swapsWith e (some (.Name x pos')) pos.line X.env = pure false) au0_._auto_1) (hf : X.fn x = true ∨ X.env.scope.names.lookup x = some .local := by first | exact .inl rfl | exact .inr rfl | assumption) :
    QS X (.Assign [.Name x pos'] e pos) (tAsg te (gName i)) := ⟨L2.ps_set hN hi hx he.h hs hf⟩
theorem ps_asg {tg : Expr} {g : TG} (he : QE X e te) (hg : QG X tg g) (hs : autoParam (swapsWithSole [tg] e pos.line X.env = pure false) au0_._auto_1) (hw : autoParam (swappedStores [tg] e X.env = pure none) au0_._auto_1)
    (h1 : autoParam ((assignEach [tg] X.env).map (·.2) = [assign tg X.env]) au0_._auto_1) : QS X (.Assign [tg] e pos) (tAsg te g) := ⟨L2.ps_asg he.h hg.h hs hw h1⟩
theorem ps_par {i j : Nat} {y : Str} {ta : TA} {px py pt : Pos} {kt k2 pt2} (hc : X.calm = true) (hN : X.N.Nodup) (hi : X.N[i]? = some x) (hj : X.N[j]? = some y) (hij : i ≠ j)
    (hx : X.env.scope.names.lookup x = some .local) (hy : X.env.scope.names.lookup y = some .local) (ha : QA X [a, b] ta)
    (hw : swappedStores [.Tuple [.Name x px, .Name y py] kt pt] (.Tuple [a, b] k2 pt2) X.env = pure (some [x, y]))
    (hs : autoParam (swapsWithSole [.Tuple [.Name x px, .Name y py] kt pt] (.Tuple [a, b] k2 pt2) pos.line X.env = pure false) au0_._auto_1) :
    QS X (.Assign [.Tuple [.Name x px, .Name y py] kt pt] (.Tuple [a, b] k2 pt2) pos) (tPar i j ta) := ⟨L2.ps_par hc hN hi hj hij hx hy ha.h hw hs⟩
theorem ps_if {ss ss' : List Stmt} {tc : TT} (hc : QT X c tc) (ha : QSs X ss s1) (hb : QSs X ss' s2) : QS X (.If c ss ss' pos) (tIfS tc s1 s2) := ⟨L2.ps_if hc.h ha.h hb.h⟩
theorem ps_while {tc : TT} (hp : PassesOwn (model X.prog X.w) X.A X.env X.xe) (hc : QT X c tc) (hb : QSs X sts s1) : QS X (.While c sts [] pos) (tWhile tc s1) := ⟨L2.ps_while hp hc.h hb.h⟩
theorem ps_for {tg : Expr} {wi : TI} {g : TG} (hp : PassesOwn (model X.prog X.w) X.A X.env X.xe) (hc : X.calm = true) (hi : QI X tg e wi) (hg : QG X tg g) (hb : QSs X sts s1)
    (hs : autoParam (∀ x, foldedSetIterable e X.env x = pure x) au2_._auto_1) : QS X (.For tg e sts [] pos) (tFor wi g s1) := ⟨L2.ps_for hp hc hi.h hg.h hb.h hs⟩
theorem pg_name {i : Nat} (hN : X.N.Nodup) (hi : X.N[i]? = some x) (hx : Loc X.env.scope x) (hf : X.fn x = true ∨ X.env.scope.names.lookup x = some .local := by first | exact .inl rfl | exact .inr rfl | assumption) : QG X (.Name x pos) (gName i) := ⟨L2.pg_name hN hi hx hf⟩
theorem pgs_nil : QGs X [] gNil := ⟨L2.pgs_nil⟩
theorem pgs_cons {g : TG} {u : TGs} (h1 : QG X e g) (h2 : QGs X es u) (hs : autoParam ((assignEach (e :: es) X.env).map (·.2) = assign e X.env :: (assignEach es X.env).map (·.2)) au0_._auto_1) : QGs X (e :: es) (gCons g u) := ⟨L2.pgs_cons h1.h h2.h hs⟩
theorem pgT (K : PySem.W.Frag) {k : Nat} {g : TGs} {n : Nat} (hc : X.calm = true) (h2 : QGs X es g) (hn : autoParam ((assignEach es X.env).length = n) au0_._auto_1) (hst : autoParam ((assignEach es X.env).findIdx? (·.1) = none) au0_._auto_1) (h : autoParam (X.K = K) au0_._auto_1) : QG X (.Tuple es k pos) (gTup K n g) := ⟨My.pgT K hc h2.h hn hst h⟩
theorem piL (K : PySem.W.Frag) {tg : Expr} (hl : QE X e te) (h : autoParam (X.K = K) au0_._auto_1) : QI X tg e (iList K te) := ⟨My.piL K hl.h h⟩
theorem pi_range1 {tg : Expr} (hg : Gl X "range") (hm : X.mg "range" = none) (ha : QA X [a] t) (hs : autoParam (starEach [a] X.env = [(false, eval a X.env)]) au0_._auto_1) : QI X tg (.Call (.Name "range" p) [a] [] pos) (iRng1 t) := ⟨L2.pi_range1 hg hm ha.h hs⟩
end
end Jd

namespace Jd
open PySem PySem.Spec PyProof.Rows L2 My
section
variable {X : Cx} {x : Str} {n : Int} {pos apos cpos : Pos} {o : Expr} {to : TE}
theorem pg_sub {i : Expr} {ti : TE} {ts : TSet} (ho : QE X o to) (hi : QE X i ti) (hs : PSet X ts)
    (ha : autoParam (∀ v, assign (.Subscript o i pos) X.env v = (holding [v] (eval o X.env) >>= fun ov => holding [v, ov] (eval i X.env) >>= fun iv => standAt pos >>= fun _ => holding [v, ov, iv] (setItem ov iv v) >>= fun _ => release [v, ov, iv] [])) au2_._auto_1) :
    QG X (.Subscript o i pos) (gSub to ti ts) := ⟨L2.pg_sub ho.h hi.h hs ha⟩
end
end Jd

namespace My
open PySem PySem.Spec PyProof.Rows L2 Mth
noncomputable def closL (cells : List (Str × Addr)) : List (Str × NameKind) → List (Str × Addr) → List (Str × Addr)
  | [], cs => cs
  | (y, k) :: r, cs => closL cells r (if k = .free then ((cells.lookup y).map fun c => (y, c)).toList ++ cs else cs)
noncomputable def freeHas (cells : List (Str × Addr)) (names : List (Str × NameKind)) : Bool := names.all fun p => !(p.2 == NameKind.free) || (cells.lookup p.1).isSome
theorem closure_go {env : Env} : ∀ (names : List (Str × NameKind)) (cs : List (Str × Addr)), freeHas env.cells names = true →
    (forIn (m := Sem) names cs fun x r => match x with | (name, kind) => if (kind == NameKind.free) = true then do let a ← cellOf env name; pure (ForInStep.yield ((name, a) :: r)) else pure (ForInStep.yield r)) = pure (closL env.cells names cs)
  | [], cs, _ => rfl
  | (y, k) :: r, cs, h => by
    have h2 : freeHas env.cells r = true := by
      unfold freeHas at h ⊢
      rw [List.all_cons, Bool.and_eq_true] at h
      exact h.2
    rw [List.forIn_cons]
    by_cases hk : k = .free
    · subst hk
      have h1 : (env.cells.lookup y).isSome = true := by
        unfold freeHas at h
        rw [List.all_cons, Bool.and_eq_true] at h
        simpa using h.1
      obtain ⟨c, hc⟩ := Option.isSome_iff_exists.mp h1
      have ih := closure_go r ((y, c) :: cs) h2
      have e : cellOf env y = pure c := by unfold cellOf; rw [hc]
      show (((if (NameKind.free == NameKind.free) = true then do let a ← cellOf env y; pure (ForInStep.yield ((y, a) :: cs)) else pure (ForInStep.yield cs)) : Sem _) >>= _) = _
      rw [if_pos (by rfl), e, pure_bind, pure_bind]
      show forIn (m := Sem) r ((y, c) :: cs) _ = _
      rw [ih]
      show _ = pure (closL env.cells r (if NameKind.free = .free then ((env.cells.lookup y).map fun c => (y, c)).toList ++ cs else cs))
      rw [if_pos rfl, hc]
      rfl
    · have ih := closure_go r cs h2
      have hk' : (k == NameKind.free) = false := by simpa using hk
      show (((if (k == NameKind.free) = true then do let a ← cellOf env y; pure (ForInStep.yield ((y, a) :: cs)) else pure (ForInStep.yield cs)) : Sem _) >>= _) = _
      rw [hk', if_neg Bool.false_ne_true, pure_bind]
      show forIn (m := Sem) r cs _ = _
      rw [ih]
      show _ = pure (closL env.cells r (if k = .free then _ else cs))
      rw [if_neg hk]
theorem closure_of {scope : Scope} {env : Env} (h : freeHas env.cells scope.names = true) : closureFor scope env = pure (closL env.cells scope.names []) := by
  have e := closure_go (env := env) scope.names [] h
  show (forIn (m := Sem) scope.names [] _ >>= fun cs => pure cs) = _
  exact (congrArg (· >>= fun cs => pure cs) e).trans (pure_bind _ _)
theorem closL_mem {cells : List (Str × Addr)} : ∀ (names : List (Str × NameKind)) (cs : List (Str × Addr)) (p : Str × Addr), p ∈ closL cells names cs → p ∈ cs ∨ cells.lookup p.1 = some p.2
  | [], _, _, h => .inl h
  | (y, k) :: r, cs, p, h => by
    rcases closL_mem r _ p h with q | q
    · by_cases hk : k = .free
      · rw [if_pos hk] at q
        rcases List.mem_append.mp q with z | z
        · cases e : cells.lookup y with
          | none => rw [e] at z; simp at z
          | some c => rw [e] at z; simp at z; subst z; exact .inr e
        · exact .inl z
      · rw [if_neg hk] at q
        exact .inl q
    · exact .inr q
theorem closL_has {cells : List (Str × Addr)} : ∀ (names : List (Str × NameKind)) (cs : List (Str × Addr)) (y : Str) (c : Addr), ((y, NameKind.free) ∈ names ∧ cells.lookup y = some c) ∨ (y, c) ∈ cs → (y, c) ∈ closL cells names cs
  | [], _, _, _, h => h.elim (fun z => by simp at z) id
  | (z, k) :: r, cs, y, c, h => by
    refine closL_has r _ y c ?_
    rcases h with ⟨m, e⟩ | m
    · rcases List.mem_cons.mp m with q | q
      · cases q
        right
        rw [if_pos rfl, e]
        simp
      · exact .inl ⟨q, e⟩
    · right
      by_cases hk : k = .free
      · rw [if_pos hk]; exact List.mem_append_right _ m
      · rw [if_neg hk]; exact m
theorem lookup_in {α : Type} : ∀ {l : List (Str × α)} {x : Str} {v : α}, l.lookup x = some v → (x, v) ∈ l
  | (y, u) :: r, x, v, h => by
    rw [List.lookup_cons] at h
    cases e : x == y with
    | true =>
      rw [e] at h
      cases h
      have : x = y := by simpa using e
      subst this
      exact List.mem_cons_self
    | false =>
      rw [e] at h
      exact List.mem_cons_of_mem _ (lookup_in h)
theorem lookup_ex {α : Type} : ∀ {l : List (Str × α)} {x : Str} {v : α}, (x, v) ∈ l → ∃ u, l.lookup x = some u
  | (y, u) :: r, x, v, h => by
    rw [List.lookup_cons]
    cases e : x == y with
    | true => exact ⟨_, rfl⟩
    | false =>
      rcases List.mem_cons.mp h with q | q
      · cases q; simp at e
      · exact lookup_ex q
theorem closL_look {cells : List (Str × Addr)} {names : List (Str × NameKind)} {y : Str} {c : Addr} (h : (closL cells names []).lookup y = some c) : cells.lookup y = some c :=
  (closL_mem names [] (y, c) (lookup_in h)).elim (fun z => by simp at z) id
theorem closL_some {cells : List (Str × Addr)} {names : List (Str × NameKind)} {y : Str} {c : Addr} (h : (y, NameKind.free) ∈ names) (e : cells.lookup y = some c) : (closL cells names []).lookup y = some c := by
  obtain ⟨u, q⟩ := lookup_ex (closL_has names [] y c (.inl ⟨h, e⟩))
  rw [q]
  rw [closL_look q] at e
  exact e
noncomputable def Caps (X : Cx) (scope : Scope) : List Str → List Nat → Prop
  | [], [] => True
  | y :: ys, j :: js => (X.N[j]? = some y ∧ X.env.kindOf y = some .cell ∧ scope.names.lookup y = some .free ∧ (relabel scope X.env).names.lookup y = some .cell) ∧ Caps X scope ys js
  | _, _ => False
theorem free_cell {cells : List (Str × Addr)} {names : List (Str × NameKind)} {y : Str} (h : freeHas cells names = true) (m : (y, NameKind.free) ∈ names) : ∃ c, cells.lookup y = some c := by
  unfold freeHas at h
  have q := List.all_eq_true.mp h _ m
  exact Option.isSome_iff_exists.mp (by simpa using q)
theorem Caps.ok {X : Cx} {scope : Scope} (h : freeHas X.env.cells scope.names = true) : ∀ {ys : List Str} {js : List Nat}, Caps X scope ys js → CapOk X scope (closL X.env.cells scope.names []) ys js
  | [], [], _ => trivial
  | y :: ys, j :: js, ⟨⟨a, b, c, d⟩, r⟩ => by
    have m := lookup_in c
    obtain ⟨e, he⟩ := free_cell h m
    exact ⟨⟨a, b, d, by rw [closL_some m he, he]⟩, Caps.ok h r⟩
theorem relabel_has {scope : Scope} {env : Env} (h : freeHas env.cells scope.names = true) (hcell : ∀ y ∈ scope.names, y.2 ≠ .cell) (y : Str)
    (q : (relabel scope env).names.lookup y = some .cell ∨ (relabel scope env).names.lookup y = some .free) : ∃ c, (closL env.cells scope.names []).lookup y = some c := by
  have m : (y, NameKind.free) ∈ scope.names := by
    rcases q with q | q
    all_goals
      have m := lookup_in q
      unfold relabel at m
      obtain ⟨⟨n, k⟩, hm, e⟩ := List.mem_map.mp m
      dsimp only at e
      split at e
      · rename_i hc
        rw [Bool.and_eq_true, Bool.and_eq_true] at hc
        have hk : k = .free := by simpa using hc.1.1
        subst hk
        cases e
        first | exact hm | done
      · cases e
        first | exact hm | exact absurd rfl (hcell _ hm)
  obtain ⟨c, hc⟩ := free_cell h m
  exact ⟨c, closL_some m hc⟩
section
variable {X : Cx} {elt iter tg : Expr} {ifs : List Expr} {pos : Pos} {scope : Scope} {wi : TI} {te : TE} {tt : TT} {g : TG} {O N' : List Str} {cap : List Nat} {n : Nat}
theorem pe_compC (hc : X.calm = true) (hi : PI X tg iter wi)
    (hg : ∀ (C : Addr) (s0 : Shared) (H0 : Hp) (ex' : List Addr) (pn' : List (Addr × Obj)), PG (cxComp X (O ++ N') scope (closL X.env.cells scope.names []) C s0 H0 ex' pn') tg g)
    (htt : ∀ (C : Addr) (s0 : Shared) (H0 : Hp) (ex' : List Addr) (pn' : List (Addr × Obj)), PTs (cxComp X (O ++ N') scope (closL X.env.cells scope.names []) C s0 H0 ex' pn') ifs tt)
    (helt : ∀ (C : Addr) (s0 : Shared) (H0 : Hp) (ex' : List Addr) (pn' : List (Addr × Obj)), PE (cxComp X (O ++ N') scope (closL X.env.cells scope.names []) C s0 H0 ex' pn') elt te)
    (hO : O.length = n) (hcap : Caps X scope N' cap) (hf : freeHas X.env.cells scope.names = true) (hcell : ∀ y ∈ scope.names, y.2 ≠ .cell) (hkind : scope.kind = .function) (hnames : ∀ y ∈ scope.names, y.2 = .local → scope.names.lookup y.1 = some .local)
    (hs : autoParam (∀ z, foldedSetIterable iter X.env z = pure z) au2_._auto_1) :
    PE X (.ListComp elt [⟨tg, iter, ifs, 0⟩] scope pos) (tComp wi n cap g tt te) :=
  pe_comp hc hi hg htt helt hO (hcap.ok hf) (closure_of hf) hcell hkind hnames (fun _ _ => closL_look) (relabel_has hf hcell) hs
end
section
variable {X : Cx} {elt iter tg : Expr} {ifs : List Expr} {pos : Pos} {scope : Scope} {wi : TI} {te : TE} {tt : TT} {g : TG} {O N' : List Str} {cap : List Nat} {n : Nat}
theorem ps_compC {i : Nat} {x : Str} {pos' spos : Pos} (hN : X.N.Nodup) (hix : X.N[i]? = some x) (hx : Loc X.env.scope x) (hc : X.calm = true) (hi : PI X tg iter wi)
    (hg : ∀ (C : Addr) (s0 : Shared) (H0 : Hp) (ex' : List Addr) (pn' : List (Addr × Obj)), PG (cxComp X (O ++ N') scope (closL X.env.cells scope.names []) C s0 H0 ex' pn') tg g)
    (htt : ∀ (C : Addr) (s0 : Shared) (H0 : Hp) (ex' : List Addr) (pn' : List (Addr × Obj)), PTs (cxComp X (O ++ N') scope (closL X.env.cells scope.names []) C s0 H0 ex' pn') ifs tt)
    (helt : ∀ (C : Addr) (s0 : Shared) (H0 : Hp) (ex' : List Addr) (pn' : List (Addr × Obj)), PE (cxComp X (O ++ N') scope (closL X.env.cells scope.names []) C s0 H0 ex' pn') elt te)
    (hO : O.length = n) (hcap : Caps X scope N' cap) (hf : freeHas X.env.cells scope.names = true) (hcell : ∀ y ∈ scope.names, y.2 ≠ .cell) (hkind : scope.kind = .function) (hnames : ∀ y ∈ scope.names, y.2 = .local → scope.names.lookup y.1 = some .local)
    (hsw : swapsWith (.ListComp elt [⟨tg, iter, ifs, 0⟩] scope pos) (some (.Name x pos')) spos.line X.env = pure true)
    (hs : autoParam (∀ z, foldedSetIterable iter X.env z = pure z) au2_._auto_1) (hfn : X.fn x = true ∨ X.env.scope.names.lookup x = some .local := by first | exact .inl rfl | exact .inr rfl | assumption) :
    PS X (.Assign [.Name x pos'] (.ListComp elt [⟨tg, iter, ifs, 0⟩] scope pos) spos) (tAsg (tComp wi n cap g tt te) (gName i)) :=
  ps_comp hN hix hx hc hi hg htt helt hO (hcap.ok hf) (closure_of hf) hcell hkind hnames (fun _ _ => closL_look) (relabel_has hf hcell) hsw hs hfn
end
noncomputable def rm (D : Addr) (H : Hp) : Hp := fun b => if b = D then none else H b
theorem rm_at {D : Addr} {H : Hp} {b : Addr} (h : b ≠ D) : rm D H b = H b := if_neg h
theorem rm_same {D : Addr} {H : Hp} : Same (rm D H) H := fun b o e => by
  unfold rm at e
  by_cases h : b = D
  · rw [if_pos h] at e; cases e
  · rw [if_neg h] at e; exact e
theorem rm_rm {D : Addr} {H H' : Hp} (s : Same H H') : Same (rm D H) (rm D H') := fun b o e => by
  unfold rm at e ⊢
  by_cases h : b = D
  · rw [if_pos h] at e; cases e
  · rw [if_neg h] at e ⊢; exact s b o e
theorem rm_upd {D : Addr} {H : Hp} {o : HO} : rm D (upd H D o) = rm D H := by
  funext b
  unfold rm
  by_cases h : b = D
  · rw [if_pos h, if_pos h]
  · rw [if_neg h, if_neg h, upd_ne h]
theorem rm_tup {D p : Addr} {H : Hp} {xs ys : List V} (hD : H D = some (.lst ys)) (h : H p = some (.tup xs)) : rm D H p = some (.tup xs) := by
  rw [rm_at (fun e => by rw [e, hD] at h; cases h)]; exact h
theorem rm_up (D : Addr) (H : Hp) (o : HO) : Same (rm D H) (upd H D o) := fun b u e => by
  unfold rm at e
  by_cases h : b = D
  · rw [if_pos h] at e; cases e
  · rw [if_neg h] at e; rw [upd_ne h]; exact e
theorem ix_last {n m : Nat} (h : n = m + 1) : ixN n (-1) = some m := by
  subst h
  unfold ixN
  rw [if_neg (by (first | lia | omega)), if_pos (by (first | lia | omega))]
  congr 1
  (first | lia | omega)
theorem ix_nat {n : Nat} {i : Int} (h0 : 0 ≤ i) (h : i < (n : Int)) : ixN n i = some i.toNat := by
  unfold ixN
  rw [if_pos h0, if_pos h]
structure Tells (J : It) (ok : Hp → Prop) (xs : List V) : Prop where
  go : ∀ i H, ok H → i < xs.length → J.go i H ∧ ∀ x H', J.yld i H x H' → H' = H ∧ xs[i]? = some x
  stop : ∀ H, ok H → J.stop xs.length H
theorem tells_list {K : PySem.W.Frag} {a : Addr} {xs : List V} : Tells (Itl K a) (fun H => SqL K H a xs) xs :=
  ⟨fun i H h hi => ⟨⟨xs, xs[i], h, by simp [hi]⟩, fun x H' y => ⟨y.1, y.2 xs h⟩⟩, fun H h => ⟨xs, h, Nat.le_refl _⟩⟩
theorem tells_rng {lo : Int} {n : Nat} : Tells (Itr lo n) (fun _ => True) ((List.range n).map fun (i : Nat) => V.int (lo + (i : Int))) :=
  ⟨fun i H h hi => ⟨show i < n by simpa using hi, fun x H' y => ⟨y.1, by
    have hi' : i < n := by simpa using hi
    rw [List.getElem?_map, List.getElem?_range hi']
    exact congrArg some y.2.symm⟩⟩, fun H h => by show n ≤ _; simp⟩
noncomputable def CompB (n : Nat) (cap : List Nat) (g : TG) (tt : TT) (te : TE) (σ : L2.St) (Q : VK) (J : It) (H1 : Hp) : Prop := ∀ D, H1 D = none → ∃ W : Nat → Nat → List V → Hp → Prop, (∃ m, W 0 m [] (upd H1 D (.lst []))) ∧
  ∀ i m xs H2, W i m xs H2 → H2 D = some (.lst xs) ∧ ((J.stop i H2 ∧ Q (.ref D) H2) ∨ (J.go i H2 ∧ xs.length < sizeLine ∧ ∀ x H3 σ0, σ0.length = n → J.yld i H2 x H3 →
    g x (σ0 ++ capV cap σ) H3 fun σ2 H4 => (∃ σ1, σ1.length = n ∧ σ2 = σ1 ++ capV cap σ) ∧ tt σ2 H4 fun b H5 => if b = true then te σ2 H5 fun y H6 => H6 D = some (.lst xs) ∧ ∃ m', m' < m ∧ W (i + 1) m' (xs ++ [y]) (upd H6 D (.lst (xs ++ [y])))
      else ∃ m', m' < m ∧ W (i + 1) m' xs H5))
section
variable {wi : TI} {n : Nat} {cap : List Nat} {g : TG} {tt : TT} {te : TE} {σ : L2.St} {H : Hp} {Q : VK} {K : PySem.W.Frag}
theorem r_comp (h : wi σ H fun J H1 => CompB n cap g tt te σ Q J H1) : tComp wi n cap g tt te σ H Q := h
theorem r_rng1 {ta : TA} {R : It → Hp → Prop} (h : ta σ H fun vs H1 => ∃ j : Int, vs = [.int j] ∧ -(2 ^ 62) ≤ j ∧ j < 2 ^ 62 ∧ R (Itr 0 j.toNat) H1) : iRng1 ta σ H R := h
theorem r_yes {B : Bool → Hp → Prop} (h : B true H) : tYes σ H B := h
theorem compB_of {J : It} {ok : Hp → Prop} {xs : List V} (T : Tells J ok xs) (hok : ∀ H2, Same H H2 → ok H2) (hl : xs.length ≤ 1000) (P : Nat → List V → Hp → Prop) (h0 : P 0 [] H)
    (step : ∀ (D : Addr) (i : Nat) (x : V) (ys : List V) (H2 : Hp) (σ0 : L2.St) (N : VK) (N0 : Hp → Prop), σ0.length = n → H D = none → H2 D = some (.lst ys) → Same H H2 → xs[i]? = some x → ys.length ≤ i → P i ys (rm D H2) →
      (∀ y H6, Same H2 H6 → P (i + 1) (ys ++ [y]) (rm D H6) → N y H6) → (∀ H5, Same H2 H5 → P (i + 1) ys (rm D H5) → N0 H5) →
      g x (σ0 ++ capV cap σ) H2 fun σ2 H4 => (∃ σ1, σ1.length = n ∧ σ2 = σ1 ++ capV cap σ) ∧ tt σ2 H4 fun b H5 => if b = true then te σ2 H5 N else N0 H5)
    (done : ∀ (D : Addr) (ys : List V) (H2 : Hp), H D = none → H2 D = some (.lst ys) → Same H H2 → ys.length ≤ xs.length → P xs.length ys (rm D H2) → Q (.ref D) H2) : CompB n cap g tt te σ Q J H := by
  intro D hD
  refine ⟨fun i m ys H2 => H2 D = some (.lst ys) ∧ Same H H2 ∧ ys.length ≤ i ∧ i ≤ xs.length ∧ m = xs.length - i ∧ P i ys (rm D H2), ⟨xs.length, upd_same, same_at (Same.refl _) hD, Nat.zero_le _, Nat.zero_le _, rfl, ?_⟩, ?_⟩
  · rw [rm_upd]
    have e : rm D H = H := by
      funext b
      by_cases h : b = D
      · rw [h, hD]; exact if_pos rfl
      · exact rm_at h
    rw [e]; exact h0
  · rintro i m ys H2 ⟨e, s, hy, hi, rfl, p⟩
    refine ⟨e, ?_⟩
    by_cases hlt : i < xs.length
    · obtain ⟨go, yld⟩ := T.go i H2 (hok H2 s) hlt
      refine .inr ⟨go, Nat.lt_of_le_of_lt (Nat.le_trans hy hi) (small1000 hl), fun x H3 σ0 h0 y => ?_⟩
      obtain ⟨rfl, hx⟩ := yld x H3 y
      refine step D i x ys _ σ0 _ _ h0 hD e s hx hy p (fun y H6 s6 p6 => ?_) fun H5 s5 p5 => ?_
      · refine ⟨s6 _ _ e, xs.length - (i + 1), by (first | lia | omega), upd_same, same_at (s.trans s6) hD, ?_, by (first | lia | omega), rfl, ?_⟩
        · rw [List.length_append, List.length_singleton]; (first | lia | omega)
        · rw [rm_upd]; exact p6
      · exact ⟨xs.length - (i + 1), by (first | lia | omega), s5 _ _ e, s.trans s5, by (first | lia | omega), by (first | lia | omega), rfl, p5⟩
    · have ei : i = xs.length := by (first | lia | omega)
      subst ei
      exact .inl ⟨T.stop H2 (hok H2 s), done D ys H2 hD e s hy p⟩
theorem r_own1 {x : V} {σ0 : L2.St} {R : L2.St → Hp → Prop} (h0 : σ0.length = 1) (h : R (some x :: capV cap σ) H) : gName 0 x (σ0 ++ capV cap σ) H fun σ2 H4 => (∃ σ1, σ1.length = 1 ∧ σ2 = σ1 ++ capV cap σ) ∧ R σ2 H4 := by
  match σ0, h0 with
  | [v], _ => exact ⟨⟨[some x], rfl, rfl⟩, h⟩
theorem r_own2 {p : Addr} {x y : V} {σ0 : L2.St} {R : L2.St → Hp → Prop} (h0 : σ0.length = 2) (hp : H p = some (.tup [x, y])) (h : R (some x :: some y :: capV cap σ) H) :
    gTup K 2 (gCons (gName 0) (gCons (gName 1) gNil)) (.ref p) (σ0 ++ capV cap σ) H fun σ2 H4 => (∃ σ1, σ1.length = 2 ∧ σ2 = σ1 ++ capV cap σ) ∧ R σ2 H4 := by
  match σ0, h0 with
  | [v, u], _ => exact ⟨p, _, rfl, SqT.of hp, rfl, x, _, rfl, y, _, rfl, rfl, ⟨[some x, some y], rfl, rfl⟩, h⟩
end
end My
namespace Jd
open PySem PySem.Spec PyProof.Rows L2 My
structure QTs (X : Cx) (ifs : List Expr) (t : TT) : Prop where
  h : PTs X ifs t
section
variable {X : Cx} {c elt iter tg : Expr} {ifs : List Expr} {pos : Pos} {scope : Scope} {wi : TI} {te : TE} {tt : TT} {g : TG} {O N' : List Str} {cap : List Nat} {n : Nat}
theorem pts_nil : QTs X [] tYes := ⟨My.pts_nil⟩
theorem pts_one (h : QT X c tt) : QTs X [c] tt := ⟨My.pts_one h.h⟩
theorem pe_comp (hc : X.calm = true) (hi : QI X tg iter wi)
    (hg : ∀ (C : Addr) (s0 : Shared) (H0 : Hp) (ex' : List Addr) (pn' : List (Addr × Obj)), QG (cxComp X (O ++ N') scope (closL X.env.cells scope.names []) C s0 H0 ex' pn') tg g)
    (htt : ∀ (C : Addr) (s0 : Shared) (H0 : Hp) (ex' : List Addr) (pn' : List (Addr × Obj)), QTs (cxComp X (O ++ N') scope (closL X.env.cells scope.names []) C s0 H0 ex' pn') ifs tt)
    (helt : ∀ (C : Addr) (s0 : Shared) (H0 : Hp) (ex' : List Addr) (pn' : List (Addr × Obj)), QE (cxComp X (O ++ N') scope (closL X.env.cells scope.names []) C s0 H0 ex' pn') elt te)
    (hO : O.length = n) (hcap : Caps X scope N' cap) (hf : freeHas X.env.cells scope.names = true) (hcell : ∀ y ∈ scope.names, y.2 ≠ .cell) (hkind : scope.kind = .function) (hnames : ∀ y ∈ scope.names, y.2 = .local → scope.names.lookup y.1 = some .local)
    (hs : autoParam (∀ z, foldedSetIterable iter X.env z = pure z) au2_._auto_1) :
    QE X (.ListComp elt [⟨tg, iter, ifs, 0⟩] scope pos) (tComp wi n cap g tt te) :=
  ⟨My.pe_compC hc hi.h (fun C s0 H0 ex' pn' => (hg C s0 H0 ex' pn').h) (fun C s0 H0 ex' pn' => (htt C s0 H0 ex' pn').h) (fun C s0 H0 ex' pn' => (helt C s0 H0 ex' pn').h) hO hcap hf hcell hkind hnames hs⟩
theorem ps_comp {i : Nat} {x : Str} {pos' spos : Pos} (hN : X.N.Nodup) (hix : X.N[i]? = some x) (hx : Loc X.env.scope x) (hc : X.calm = true) (hi : QI X tg iter wi)
    (hg : ∀ (C : Addr) (s0 : Shared) (H0 : Hp) (ex' : List Addr) (pn' : List (Addr × Obj)), QG (cxComp X (O ++ N') scope (closL X.env.cells scope.names []) C s0 H0 ex' pn') tg g)
    (htt : ∀ (C : Addr) (s0 : Shared) (H0 : Hp) (ex' : List Addr) (pn' : List (Addr × Obj)), QTs (cxComp X (O ++ N') scope (closL X.env.cells scope.names []) C s0 H0 ex' pn') ifs tt)
    (helt : ∀ (C : Addr) (s0 : Shared) (H0 : Hp) (ex' : List Addr) (pn' : List (Addr × Obj)), QE (cxComp X (O ++ N') scope (closL X.env.cells scope.names []) C s0 H0 ex' pn') elt te)
    (hO : O.length = n) (hcap : Caps X scope N' cap) (hf : freeHas X.env.cells scope.names = true) (hcell : ∀ y ∈ scope.names, y.2 ≠ .cell) (hkind : scope.kind = .function) (hnames : ∀ y ∈ scope.names, y.2 = .local → scope.names.lookup y.1 = some .local)
    (hsw : swapsWith (.ListComp elt [⟨tg, iter, ifs, 0⟩] scope pos) (some (.Name x pos')) spos.line X.env = pure true)
    (hs : autoParam (∀ z, foldedSetIterable iter X.env z = pure z) au2_._auto_1) (hfn : X.fn x = true ∨ X.env.scope.names.lookup x = some .local := by first | exact .inl rfl | exact .inr rfl | assumption) :
    QS X (.Assign [.Name x pos'] (.ListComp elt [⟨tg, iter, ifs, 0⟩] scope pos) spos) (tAsg (tComp wi n cap g tt te) (gName i)) :=
  ⟨My.ps_compC hN hix hx hc hi.h (fun C s0 H0 ex' pn' => (hg C s0 H0 ex' pn').h) (fun C s0 H0 ex' pn' => (htt C s0 H0 ex' pn').h) (fun C s0 H0 ex' pn' => (helt C s0 H0 ex' pn').h) hO hcap hf hcell hkind hnames hsw hs hfn⟩
end
end Jd

namespace My
open PySem PySem.Spec PyProof.Rows L2 Mth
noncomputable def tRev (K : PySem.W.Frag) (te ts : TE) : TE := fun σ H Q => te σ H fun x H1 => ts σ H1 fun z H2 => ∃ a xs, x = .ref a ∧ z = .int (-1) ∧ SqL K H2 a xs ∧ Nw .lst xs.reverse H2 Q
section
variable {X : Cx} {e st : Expr} {te ts : TE} {pos p2 : Pos}
end
section
variable {σ : L2.St} {H : Hp} {Q : VK} {K : PySem.W.Frag} {te ts : TE} {x z : V}
theorem r_rev (h : te σ H fun x H1 => ts σ H1 fun z H2 => ∃ a xs, x = .ref a ∧ z = .int (-1) ∧ SqL K H2 a xs ∧ Nw .lst xs.reverse H2 Q) : tRev K te ts σ H Q := h
end
end My
namespace Jd
open PySem PySem.Spec PyProof.Rows L2 My
end Jd

namespace My
open PySem PySem.Spec PyProof.Rows L2 Mth
section
variable {X : Cx} {tg a : Expr} {ta : TA} {p pos : Pos}
end
end My
namespace Jd
open PySem PySem.Spec PyProof.Rows L2 My
end Jd

namespace My
open PySem PySem.Spec PyProof.Rows L2 Mth
noncomputable def CXe (P : Program) (w : World) : CXT := fun outer H s E ev s' => ∃ (e t : Addr) (C : Value) (H' : Hp) (B : Heap), ev = .ref e ∧ s'.os = s.os ∧ AllBare s'.gens ∧ Un (frs outer) [] H H' s.heap s'.heap ∧ HOk P w H' s'.heap ∧
  Heap.FlyingW B outer e C (.ref t) s'.heap ∧ (∀ b o, s'.heap.get? b = some o → (H' b ≠ none ∨ s.heap.get? b ≠ none) → b ∉ frs outer → B.get? b = some o) ∧ E C none H'
section
variable {P : Program} {w : World} {K : PySem.W.Frag} {mg : Str → Option Value} {base : Heap} {N : List Str} {qual : Str} {scope : Scope} {f : Addr} {cd : Value} {A : Around} {outer : List Env} {s0 : Shared} {H0 : Hp} {E : XK}
end
structure Xc (K : PySem.W.Frag) (mg : Str → Option Value) (x : Str) (C : Addr) : Prop where
  at_ : mg x = some (.ref C)
  is_ : PySem.W.excIn K C [.type "ValueError", .type "Exception", .type "BaseException", .type "object"] "ValueError.__new__" = true
  self_ : PySem.W.exmOne K (.ref C) (.ref C) = some true
theorem Xc.own {K : PySem.W.Frag} {mg : Str → Option Value} {x : Str} {C : Addr} {h : Heap} (X : K.In h) (c : Xc K mg x C) : OwnCls x C [.type "ValueError", .type "Exception", .type "BaseException", .type "object"] "ValueError.__new__" mg h := by
  have q := c.is_
  refine ⟨c.at_, ?_⟩
  unfold PySem.W.excIn at q
  split at q
  · next dd cd sl ho =>
    split at q
    · next C' bm a0 a1 a2 a3 n a5 hm hs =>
      simp only [Bool.and_eq_true, beq_iff_eq, Bool.not_eq_true'] at q
      obtain ⟨⟨⟨⟨⟨e1, e2⟩, e3⟩, e4⟩, e5⟩, e6⟩ := q
      subst e1 e2
      obtain ⟨f1, f2, f3, f4, f5, f6, f7, f8, f9, f10, f11⟩ := cd
      dsimp only at hm e3 e5 e6
      subst hm e3
      obtain ⟨sll⟩ := sl
      have hs' : sll = [a0, a1, a2, a3, some (.builtin _), a5] := hs
      subst hs'
      exact ⟨bm, f4, f1, f5, f2, f6, f7, f8, f9, f10, dd, a0, a1, a2, a3, a5, _, X _ _ ho, .of_isNs (PySem.W.isNs_of_in X e5), PySem.W.nsMap_none_of_in X e5 e6, PySem.W.tail_of_in X e4⟩
    · cases q
  · cases q
noncomputable def tRaise (ta : TA) (E : XK) (C : Addr) : TS := fun _ σ H => ta σ H fun vs H1 => vs.length ≤ sizeLine ∧ E (.ref C) none H1
section
variable {P : Program} {w : World} {K : PySem.W.Frag} {mg : Str → Option Value} {base : Heap} {N : List Str} {qual : Str} {scope : Scope} {f : Addr} {cd : Value} {A : Around} {outer : List Env} {s0 : Shared} {H0 : Hp} {E : XK}
end
structure DnX (P : Program) (w : World) (K : PySem.W.Frag) (mg : Str → Option Value) (base : Heap) (k : Nat) (x : Str) (ps : List Str) (sp : Sp) : Prop where
  ex : ∃ (f : Addr) (fd : FuncData), FnOk P w K mg base (CXe P w) k f fd ps sp ∧ mg x = some (.ref f) ∧ PySem.W.keepIn K (.ref f) = true ∧ Binds K fd ps []
section
variable {X : Cx} {k : Nat} {x : Str} {ps : List Str} {sp : Sp} {p pos : Pos} {e : Expr} {es : List Expr} {t : TA} {E : XK}
end
section
variable {X : Cx} {pins : List (Addr × Obj)} {σ : L2.St} {H : Hp} {s : Shared}
end
noncomputable def tTry (K : PySem.W.Frag) (n : Nat) (tb : XK → TS) (Cc : Addr) (ts : TS) : TS := fun D σ H => tb (fun C _ H2 => PySem.W.exmOne K C (.ref Cc) = some true ∧ ∀ σ', σ'.length = n → ts D σ' H2) D σ H
section
variable {X : Cx} {body suite : List Stmt} {b0 : Stmt} {tb : XK → TS} {ts : TS} {x : Str} {Cc : Addr} {np hpos pos : Pos}
end
section
variable {σ : L2.St} {H : Hp} {Q : VK} {D : Ends}
theorem r_try {K : PySem.W.Frag} {n : Nat} {tb : XK → TS} {Cc : Addr} {ts : TS} (h : tb (fun C _ H2 => PySem.W.exmOne K C (.ref Cc) = some true ∧ ∀ σ', σ'.length = n → ts D σ' H2) D σ H) : tTry K n tb Cc ts D σ H := h
theorem r_callX {sp : Sp} {ts : TA} {E : XK} (h : ts σ H fun vs H1 => sp (vs ++ []) H1 Q E) : tCall sp [] E ts σ H Q := h
theorem r_raise {ta : TA} {E : XK} {C : Addr} (h : ta σ H fun vs H1 => vs.length ≤ sizeLine ∧ E (.ref C) none H1) : tRaise ta E C D σ H := h
end
end My
namespace Jd
open PySem PySem.Spec PyProof.Rows L2 My
section
variable {P : Program} {w : World} {K : PySem.W.Frag} {mg : Str → Option Value} {base : Heap} {N : List Str} {qual : Str} {scope : Scope} {f : Addr} {cd : Value} {A : Around} {outer : List Env} {s0 : Shared} {H0 : Hp} {E : XK}
end
section
variable {X : Cx} {k : Nat} {x : Str} {ps : List Str} {sp : Sp} {p pos : Pos} {e : Expr} {es : List Expr} {t : TA} {E : XK}
end
section
variable {X : Cx} {body suite : List Stmt} {b0 : Stmt} {tb : XK → TS} {ts : TS} {x : Str} {Cc : Addr} {np hpos pos : Pos}
end
end Jd

namespace My
open PySem PySem.Spec PyProof.Rows L2 Mth
noncomputable def tTryAs (K : PySem.W.Frag) (n j : Nat) (tb : XK → TS) (Cc : Addr) (ts : Addr → Value → TS) : TS := fun D σ H =>
  tb (fun C _ H2 => PySem.W.exmOne K C (.ref Cc) = some true ∧ ∀ (e : Addr) (σ' : L2.St), σ'.length = n → ts e C { nx := fun _ _ => False, rt := D.rt } (σ'.set j (some (.ref e))) H2) D σ H
section
variable {X : Cx} {body suite : List Stmt} {b0 : Stmt} {tb : XK → TS} {ts : Addr → Value → TS} {x nm : Str} {j : Nat} {Cc : Addr} {np hpos pos : Pos}
end
section
variable {σ : L2.St} {H : Hp} {Q : VK} {D : Ends}
theorem r_tryAs {K : PySem.W.Frag} {n j : Nat} {tb : XK → TS} {Cc : Addr} {ts : Addr → Value → TS} (h : tb (fun C _ H2 => PySem.W.exmOne K C (.ref Cc) = some true ∧ ∀ (e : Addr) (σ' : L2.St), σ'.length = n → ts e C { nx := fun _ _ => False, rt := D.rt } (σ'.set j (some (.ref e))) H2) D σ H) : tTryAs K n j tb Cc ts D σ H := h
end
end My
namespace Jd
open PySem PySem.Spec PyProof.Rows L2 My
section
variable {X : Cx} {body suite : List Stmt} {b0 : Stmt} {tb : XK → TS} {ts : Addr → Value → TS} {x nm : Str} {j : Nat} {Cc : Addr} {np hpos pos : Pos}
end
end Jd

namespace My
open PySem PySem.Spec PyProof.Rows L2 Mth
theorem vals_ints : ∀ {us : List Value} {ns : List Int}, IntsAre us ns → Vals (ns.map V.int) us
  | _, _, .nil => .nil
  | _, _, .cons n t r => .cons ⟨t, rfl⟩ (vals_ints r)
section
variable {σ : L2.St} {H : Hp} {R : It → Hp → Prop}
theorem r_chain {r r' : R2} {ta tb tc : TE} {Q : VK} (h : ta σ H fun x H1 => tb σ H1 fun y H2 => r x y H2 fun z H3 => ∃ k, z = .bl k ∧ (if k = true then tc σ H3 fun w' H4 => r' y w' H4 Q else Q (.bl false) H3)) : tChain r r' ta tb tc σ H Q := h
theorem r_rng2 {ta : TA} (h : ta σ H fun vs H1 => ∃ i j : Int, vs = [.int i, .int j] ∧ (-(2 ^ 62) ≤ i ∧ i < 2 ^ 62 ∧ -(2 ^ 62) ≤ j ∧ j < 2 ^ 62) ∧ R (Itr i (j - i).toNat) H1) : iRng2 ta σ H R := h
end
end My
namespace Jd
open PySem PySem.Spec PyProof.Rows L2 My
theorem pi_range2 {X : Cx} {a b tg : Expr} {t : TA} {p pos : Pos} (hg : Gl X "range") (hm : X.mg "range" = none) (ha : QA X [a, b] t) (hs : autoParam (starEach [a, b] X.env = [(false, eval a X.env), (false, eval b X.env)]) au0_._auto_1) (hs2 : autoParam (starEach [b] X.env = [(false, eval b X.env)]) au0_._auto_1) :
    QI X tg (.Call (.Name "range" p) [a, b] [] pos) (iRng2 t) := ⟨L2.pi_range2 hg hm ha.h hs hs2⟩
end Jd

namespace My
open PySem PySem.Spec PyProof.Rows L2 Mth
theorem inv_turned_new {X : Cx} {pins : List (Addr × Obj)} {σ : L2.St} {H : Hp} {s : Shared} {h' : Heap} {t' : Nat} {T : Addr} {o : HO} (ch : List Addr) (I : L2.Inv X pins σ H s) (k : ∀ b u, b ∉ ch → s.heap.get? b = some u → h'.get? b = some u)
    (hf : ∀ b ∈ ch, FpOk X pins H b) (hT : s.heap.objs.size ≤ T) (new : ObjOk X.prog X.w (upd H T o) h' T o) : L2.Inv X pins σ (upd H T o) { s with heap := h', toks := t' } := by
  have hn : H T = none := I.hok.fresh hT
  have out : ∀ b u, H b = some u → b ∉ ch := fun b u e z => by rw [(hf b z).1] at e; cases e
  have old : ∀ b u, H b = some u → upd H T o b = some u := fun b u e => by rw [upd_ne (ne_of_none e hn)]; exact e
  refine I.step (g' := s.gens) (d' := s.drawn) (ch := ch) (fun b hb => ?_) (fun b u _ _ hc e _ => k b u hc e) (fun b u _ _ hc e _ => ⟨u.slots, k b u hc e⟩) (fun b u hc e z => ?_) (fun b u hc e => ⟨u, k b u hc e⟩)
    (fun b xs e => old b _ e) (fun b u v e => old b _ e) (fun b ps e => ⟨#[], by rw [old b _ e]; simp⟩) (fun m hm => ?_) (fun b u e => ?_) I.bare
  · obtain ⟨_, f1, _, f3, f4, f5⟩ := hf b hb
    exact ⟨f3, f1, f4, f5⟩
  · have hb : b ≠ T := Nat.ne_of_lt (Nat.lt_of_lt_of_le (Heap.lt_size e) hT)
    rw [upd_ne hb]
    exact z
  · obtain ⟨u, es, ep, hu, r⟩ := hm
    exact ⟨u, es, ep, k _ u (fun z => (hf _ z).2.1 rfl) hu, r⟩
  · by_cases hb : b = T
    · subst hb
      rw [upd_same] at e
      cases e
      exact new
    · rw [upd_ne hb] at e
      exact ObjOk.stay (I.hok b u e) (fun c v hc q => k c v (hc.elim (fun z => z ▸ out b u e) fun z => out c _ z) q) (fun c q => old c _ q) fun c xs q => old c _ q
noncomputable def Ite (K : PySem.W.Frag) (a : Addr) : It :=
  ⟨fun i H => ∃ xs x, SqL K H a xs ∧ xs[i]? = some x, fun i H v H' => ∃ (p : Addr) (x : V), H p = none ∧ v = .ref p ∧ H' = upd H p (.tup [.int (i : Int), x]) ∧ ∀ xs, SqL K H a xs → xs[i]? = some x, fun i H => ∃ xs, SqL K H a xs ∧ xs.length ≤ i⟩
theorem turn_enum {P : Program} {w : World} {K : PySem.W.Frag} {elts : List Expr} {kt : Nat} {tpos : Pos} (a e it : Addr) (hei : e ≠ it) :
    Turn P w K (.Tuple elts kt tpos) (Ite K a) [e, it] e (fun i h => (∃ old, IsEnum h e it (i : Int) old) ∧ h.IsListIter it a i) where
  mem := by simp
  obj := fun i h st b hb => by
    obtain ⟨⟨old, he⟩, o, eo, c, d⟩ := st
    rcases (show b = e ∨ b = it by simpa using hb) with rfl | rfl
    · exact ⟨_, he, fun v z => by cases z⟩
    · exact ⟨o, eo, fun v z => by rw [d] at z; cases z⟩
  keep := fun i h h' st k => ⟨let ⟨old, he⟩ := st.1; ⟨old, k e (by simp) _ he⟩, st.2.at fun o q => k it (by simp) o q⟩
  item := by
    intro X hP hw hK hc i pins s σ H E I hf st hg
    subst hP hw hK
    obtain ⟨⟨old, he⟩, hit⟩ := st
    obtain ⟨xs, x, hq, hx⟩ := hg
    obtain ⟨its, rv, p, hz⟩ := I.list hq
    obtain ⟨u, hu, ru⟩ := rv.get hx
    refine wpAny_pyNext_enum_item he hit p.isList (x := u) (by simpa using hu) hei fun h1 ho hit1 hT hsz hk => ?_
    refine ⟨_, rfl, wpAny_letOwnedTupleGo_enum (s := { s with heap := h1, toks := s.toks + 1 }) ho fun h2 he2 hs2 => ?_⟩
    have hs2' : Heap.SameBut e h1 h2 := hs2
    have ke : ∀ b o, b ∉ [e, it] → s.heap.get? b = some o → h2.get? b = some o := fun b o hb q => by
      have hb1 : b ≠ e := fun z => hb (by simp [z])
      have hb2 : b ≠ it := fun z => hb (by simp [z])
      exact (hs2'.2 b hb1).trans (hk b o hb1 hb2 q)
    have elt : e < s.heap.objs.size := Heap.lt_size he
    have hT2 : h2.get? s.heap.objs.size = some { cls := .type "tuple", data := .seq #[.int i s.toks, u] } := (hs2'.2 _ (Nat.ne_of_gt elt)).trans hT
    have hn : H s.heap.objs.size = none := I.hok.fresh (Nat.le_refl _)
    have I2 : L2.Inv X pins σ (upd H s.heap.objs.size (.tup [.int (i : Int), x])) { s with heap := h2, toks := s.toks + 1 } := by
      refine inv_turned_new [e, it] I ke hf (Nat.le_refl _) ?_
      exact ⟨by show 2 ≤ sizeLine; decide, [.int (i : Int) s.toks, u], .cons ⟨_, rfl⟩ (.cons ru .nil), _, hT2, rfl, _, rfl⟩
    refine ⟨.ref s.heap.objs.size, upd H s.heap.objs.size (.tup [.int (i : Int), x]), I2, rfl, ⟨s.heap.objs.size, x, hn, rfl, rfl, fun ys hy => by rw [I.list_inj hy hq]; exact hx⟩, ⟨⟨u, ?_⟩, hit1.at fun o q => (hs2'.2 it (Ne.symm hei)).trans q⟩, fun b hb => ?_⟩
    · have := he2
      simpa using this
    · have hb1 := (hf b hb).1
      have ilt : it < s.heap.objs.size := by
        obtain ⟨o, eo, _⟩ := hit
        exact Heap.lt_size eo
      have hb2 : b ≠ s.heap.objs.size := by
        rcases (show b = e ∨ b = it by simpa using hb) with rfl | rfl
        · exact Nat.ne_of_lt elt
        · exact Nat.ne_of_lt ilt
      rw [upd_ne hb2]
      exact hb1
  done := by
    intro X hP hw hK hc i pins s σ H E I hf st hg
    subst hP hw hK
    obtain ⟨⟨old, he⟩, hit⟩ := st
    obtain ⟨xs, hq, hx⟩ := hg
    obtain ⟨its, rv, p, hz⟩ := I.list hq
    have hl := rv.length
    obtain ⟨f0, f1, f2, f3, f4, f5⟩ := hf it (by simp)
    exact wpAny_pyNext_enum_end (I.ok.hd hc) he hit p.isList (by simp; (first | lia | omega)) fun h' eb => ⟨rfl, I.turned (t' := s.toks) (fun b o hb q => eb b o hb q) f0 f1 f3 f4 f5⟩
  self := fun _ _ _ _ _ st h => let ⟨_, he⟩ := st.1; wpAny_pyIter_enum he h
noncomputable def iEnum (K : PySem.W.Frag) (ta : TA) : TI := fun σ H R => ta σ H fun vs H1 => ∃ a xs, vs = [.ref a] ∧ SqL K H1 a xs ∧ R (Ite K a) H1
section
variable {X : Cx} {a : Expr} {ta : TA} {p pos : Pos} {elts : List Expr} {kt : Nat} {tpos : Pos}
theorem pi_enum (K : PySem.W.Frag) (hg : Gl X "enumerate") (hm : X.mg "enumerate" = none) (ha : PA X [a] ta) (hs : autoParam (starEach [a] X.env = [(false, eval a X.env)]) au0_._auto_1) (hK : autoParam (X.K = K) au0_._auto_1) :
    PI X (.Tuple elts kt tpos) (.Call (.Name "enumerate" p) [a] [] pos) (iEnum K ta) := by
  subst hK
  intro pins s σ H R I h
  refine Call_ (ld_blt I hg hm boot_enumerate (PyProof.Rows.callWith_type1 (thn (ha pos pins s σ H _ I h) fun us s1 ⟨vs, H1, I1, r1, q1⟩ => ?_) hs rfl))
  obtain ⟨l, xs, e, hq, q⟩ := q1
  subst e
  cases r1 with
  | cons r rr =>
    cases rr
    cases r
    obtain ⟨its, rv, pl, hz⟩ := I1.list hq
    refine call_enumerate_list pl.isList fun h' he hit hsz hk => ?_
    have I2 : L2.Inv X pins σ H1 { s1 with heap := h' } := I1.kept (t' := s1.toks) hk
    refine wpAny_pyIter_enum (s := { s1 with heap := h' }) he ?_
    refine ⟨s1.heap.objs.size + 1, [s1.heap.objs.size + 1, s1.heap.objs.size], _, _, H1, rfl, I2, turn_enum l (s1.heap.objs.size + 1) s1.heap.objs.size (Nat.succ_ne_self _), ⟨⟨_, he⟩, hit⟩, fun b hb => ?_, q⟩
    rcases (show b = s1.heap.objs.size + 1 ∨ b = s1.heap.objs.size by simpa using hb) with rfl | rfl
    · exact I1.fpOk (Nat.le_succ _) (I1.hok.fresh (Nat.le_succ _))
    · exact I1.fpOk (Nat.le_refl _) (I1.hok.fresh (Nat.le_refl _))
end
section
variable {σ : L2.St} {H : Hp} {K : PySem.W.Frag}
theorem r_enum {ta : TA} {R : It → Hp → Prop} (h : ta σ H fun vs H1 => ∃ a xs, vs = [.ref a] ∧ SqL K H1 a xs ∧ R (Ite K a) H1) : iEnum K ta σ H R := h
theorem for_enum {a : Addr} {xs : List V} {g : TG} {tb : TS} {D : Ends} (Pv : Nat → L2.St → Hp → Prop) (h0 : Pv 0 σ H) (hl : ∀ i σ H, i ≤ xs.length → Pv i σ H → SqL K H a xs)
    (hs : ∀ (i : Nat) (x : V) (σ : L2.St) (H : Hp) (p : Addr) (H' : Hp), xs[i]? = some x → Pv i σ H → Same H H' → H p = none → H' p = some (.tup [.int (i : Int), x]) → g (.ref p) σ H' fun σ2 H2 => tb { D with nx := Pv (i + 1), ct := Pv (i + 1), bk := D.nx } σ2 H2)
    (hd : ∀ σ H, Pv xs.length σ H → D.nx σ H) :
    ∃ W : Nat → Nat → L2.St → Hp → Prop, (∃ m, W 0 m σ H) ∧ ∀ i m σ H, W i m σ H →
      ((Ite K a).stop i H ∧ D.nx σ H) ∨ ((Ite K a).go i H ∧ ∃ N : L2.St → Hp → Prop, (∀ σ' H', N σ' H' → ∃ m', m' < m ∧ W (i + 1) m' σ' H') ∧ ∀ x H', (Ite K a).yld i H x H' → g x σ H' fun σ2 H2 => tb { D with nx := N, ct := N, bk := D.nx } σ2 H2) := by
  refine ⟨fun i m σ H => m = xs.length - i ∧ i ≤ xs.length ∧ Pv i σ H, ⟨xs.length, rfl, Nat.zero_le _, h0⟩, ?_⟩
  rintro i m σ H ⟨rfl, hi, p⟩
  have q := hl i σ H hi p
  rcases Nat.lt_or_ge i xs.length with hlt | hge
  · refine .inr ⟨⟨xs, xs[i], q, List.getElem?_eq_getElem hlt⟩, Pv (i + 1), fun σ' H' p' => ⟨xs.length - (i + 1), by (first | lia | omega), rfl, hlt, p'⟩, fun x H' y => ?_⟩
    obtain ⟨pt, y', hn, rfl, rfl, hy⟩ := y
    exact hs i y' σ H pt _ (hy xs q) p (same_new hn _) hn upd_same
  · have ei : i = xs.length := by (first | lia | omega)
    subst ei
    exact .inl ⟨⟨xs, q, Nat.le_refl _⟩, hd σ H p⟩
end
section
variable {σ : L2.St} {H : Hp} {D : Ends}
theorem r_break (h : D.bk σ H) : tBreak D σ H := h
theorem r_cont (h : D.ct σ H) : tCont D σ H := h
end
section
variable {X : Cx}
theorem inSeq (K : PySem.W.Frag) (h : autoParam (X.K = K) au0_._auto_1) : OpR X (compareOp .In) (rIn K false) := h ▸ op_in_seq
end
end My
namespace Jd
open PySem PySem.Spec PyProof.Rows L2 My
theorem ps_continue {X : Cx} {pos : Pos} : QS X (.Continue pos) tCont := ⟨L2.ps_continue⟩
theorem pi_enum {X : Cx} (K : PySem.W.Frag) {a : Expr} {ta : TA} {p pos : Pos} {elts : List Expr} {kt : Nat} {tpos : Pos} (hg : Gl X "enumerate") (hm : X.mg "enumerate" = none) (ha : QA X [a] ta) (hs : autoParam (starEach [a] X.env = [(false, eval a X.env)]) au0_._auto_1) (hK : autoParam (X.K = K) au0_._auto_1) :
    QI X (.Tuple elts kt tpos) (.Call (.Name "enumerate" p) [a] [] pos) (iEnum K ta) := ⟨My.pi_enum K hg hm ha.h hs hK⟩
end Jd

namespace My
open PySem PySem.Spec PyProof.Rows L2 Mth
noncomputable def NoAttrs (K : PySem.W.Frag) (C : Addr) : List Str → Prop
  | [] => True
  | f :: fs => NoAttr K C f ∧ NoAttrs K C fs
theorem NoAttrs.of {K : PySem.W.Frag} {C : Addr} {f : Str} : ∀ {fs : List Str}, NoAttrs K C fs → f ∈ fs → NoAttr K C f
  | g :: fs, h, hm => by
    rcases List.mem_cons.mp hm with z | z
    · rw [z]; exact h.1
    · exact NoAttrs.of h.2 z
structure Cl (K : PySem.W.Frag) (mg : Str → Option Value) (x : Str) (C : Addr) (fs : List Str) : Prop where
  cl : Cls K C
  at_ : mg x = some (.ref C)
  no : NoAttrs K C fs
structure Dm (P : Program) (w : World) (K : PySem.W.Frag) (mg : Str → Option Value) (base : Heap) (k : Nat) (C : Addr) (m : Str) (ps : List Str) (sp : Sp) : Prop where
  ex : ∃ (f : Addr) (fd : FuncData), FnOk P w K mg base CX0 k f fd ps sp ∧ Meth K C m f ∧ Binds K fd ps []
structure Dk (P : Program) (w : World) (K : PySem.W.Frag) (mg : Str → Option Value) (base : Heap) (k : Nat) (x : Str) (C : Addr) (ps : List Str) (sp : Sp) : Prop where
  ex : ∃ (f : Addr) (fd : FuncData), FnOk P w K mg base CX0 k f fd ps sp ∧ Mk K C f ∧ Binds K fd ps [] ∧ mg x = some (.ref C)
noncomputable def rFld (K : PySem.W.Frag) (f : Str) : V → Hp → VK → Prop := fun x H Q => ∃ a C dx fs v, x = .ref a ∧ H a = some (.ins C dx fs) ∧ Cls K C ∧ NoAttr K C f ∧ fs.lookup f = some v ∧ Q v H
noncomputable def rFldS (K : PySem.W.Frag) (f : Str) (y : V) (N : Hp → Prop) : V → Hp → Prop := fun x H => ∃ a C dx fs, x = .ref a ∧ H a = some (.ins C dx fs) ∧ Cls K C ∧ NoAttr K C f ∧ fs.length < 1000 ∧ N (upd H a (.ins C dx (putF f y fs)))
noncomputable def rMeth (C : Addr) (m : Str) (sp : Sp) (σ : L2.St) (t : TA) : V → Hp → VK → Prop := fun x H1 Q => ∃ a dx fs, x = .ref a ∧ H1 a = some (.ins C dx fs) ∧ fs.lookup m = none ∧ t σ H1 fun vs H2 => sp (x :: (vs ++ [])) H2 Q E0
section
variable {σ : L2.St} {H : Hp} {Q : VK} {K : PySem.W.Frag} {f m x : Str} {to tv : TE} {t : TA} {D : Ends} {C a dx : Addr} {fs : List (Str × V)} {fn : List Str} {mg : Str → Option Value} {v y : V} {N : Hp → Prop} {sp : Sp}
theorem r_fld (h : to σ H fun x H1 => rFld K f x H1 Q) : tFld K to f σ H Q := h
theorem r_sfld (h : tv σ H fun y H1 => to σ H1 fun x H2 => rFldS K f y (fun H3 => D.nx σ H3) x H2) : sFld K to tv f D σ H := h
theorem r_meth (h : to σ H fun x H1 => rMeth C m sp σ t x H1 Q) : tMeth C m sp [] E0 to t σ H Q := h
theorem r_make (h : t σ H fun vs H1 => ∀ x dx, H1 x = none → H1 dx = none → dx ≠ x → sp (.ref x :: (vs ++ [])) (upd (upd H1 dx (.own x)) x (.ins C dx [])) (fun v H2 => v = .non ∧ Q (.ref x) H2) E0) : tMake C sp [] E0 t σ H Q := h
end
end My
namespace Jd
open PySem PySem.Spec PyProof.Rows L2 My
section
variable {X : Cx} {k : Nat} {x m f : Str} {ps : List Str} {sp : Sp} {p pos apos : Pos} {o e value : Expr} {es : List Expr} {to tv : TE} {t : TA} {C : Addr}
end
end Jd

namespace My
open PySem PySem.Spec PyProof.Rows L2 Mth
theorem rvsC {X : Cx} (K : PySem.W.Frag) {o : Expr} {to : TE} {apos cpos : Pos} (ho : PE X o to) (h : autoParam (X.K = K) au0_._auto_1) (hbase : autoParam (attributeBase o "reverse" X.env (eval o X.env) = eval o X.env) au0_._auto_1) (hline : autoParam ((apos.endLine == cpos.line) = true) au0_._auto_1) :
    PE X (.Call (.Attribute o "reverse" apos) [] [] cpos) (tUn (fun x H Q => tyV K "list" x H ∧ rReverse x [] H Q) to) :=
  h ▸ pe_bm0 PySem.F.plainAttrs_list PySem.F.slot_list_reverse PySem.F.type_list_reverse mt_reverse ho hbase hline
theorem r_rvs {p : Addr} {xs : List V} {H : Hp} {Q : VK} (h : H p = some (.lst xs)) (q : Q .non (upd H p (.lst xs.reverse))) : rReverse (.ref p) [] H Q := ⟨p, xs, rfl, rfl, h, q⟩
theorem extC {X : Cx} (K : PySem.W.Frag) {o e : Expr} {to te : TE} {apos cpos : Pos} (ho : PE X o to) (he : PE X e te) (h : autoParam (X.K = K) au0_._auto_1)
    (hbase : autoParam (attributeBase o "extend" X.env (eval o X.env) = eval o X.env) au0_._auto_1)
    (hfew : autoParam (((backTo cpos (starEach (e :: []) X.env)).all (fun x => !x.1) && (backToKw cpos (keywordEach [] X.env)).all (fun x => x.1.isSome)
      && decide ((e :: ([] : List Expr)).length + ([] : List Keyword).length + (if ([] : List Keyword).isEmpty then 0 else 1) < 30)) = true) au0_._auto_1)
    (hline : autoParam ((apos.endLine == cpos.line) = true) au0_._auto_1) (hs : autoParam (starEach (e :: []) X.env = (false, eval e X.env) :: starEach [] X.env) au0_._auto_1) (hplain : autoParam ((backTo cpos (starEach [] X.env)).any (·.1) = false) au0_._auto_1) :
    PE X (.Call (.Attribute o "extend" apos) [e] [] cpos) (tBM K "list" rExtend to (tCons te tNil)) :=
  h ▸ pe_bm PySem.F.plainAttrs_list PySem.F.slot_list_extend PySem.F.type_list_extend mt_extend ho (pa_cons he pa_nil hs) hbase hfew hline hs hplain
theorem r_ext {p b : Addr} {xs zs : List V} {H : Hp} {Q : VK} (h : H p = some (.lst xs)) (hb : H b = some (.lst zs)) (hl : xs.length + zs.length ≤ sizeLine) (q : Q .non (upd H p (.lst (xs ++ zs)))) : rExtend (.ref p) [.ref b] H Q := ⟨p, b, xs, zs, rfl, rfl, h, hb, hl, q⟩
end My
namespace Jd
open PySem PySem.Spec PyProof.Rows L2 Mth
theorem rvsC {X : Cx} (K : PySem.W.Frag) {o : Expr} {to : TE} {apos cpos : Pos} (ho : QE X o to) (h : autoParam (X.K = K) au0_._auto_1) (hbase : autoParam (attributeBase o "reverse" X.env (eval o X.env) = eval o X.env) au0_._auto_1) (hline : autoParam ((apos.endLine == cpos.line) = true) au0_._auto_1) :
    QE X (.Call (.Attribute o "reverse" apos) [] [] cpos) (tUn (fun x H Q => tyV K "list" x H ∧ rReverse x [] H Q) to) := ⟨My.rvsC K ho.h h hbase hline⟩
theorem extC {X : Cx} (K : PySem.W.Frag) {o e : Expr} {to te : TE} {apos cpos : Pos} (ho : QE X o to) (he : QE X e te) (h : autoParam (X.K = K) au0_._auto_1)
    (hbase : autoParam (attributeBase o "extend" X.env (eval o X.env) = eval o X.env) au0_._auto_1)
    (hfew : autoParam (((backTo cpos (starEach (e :: []) X.env)).all (fun x => !x.1) && (backToKw cpos (keywordEach [] X.env)).all (fun x => x.1.isSome)
      && decide ((e :: ([] : List Expr)).length + ([] : List Keyword).length + (if ([] : List Keyword).isEmpty then 0 else 1) < 30)) = true) au0_._auto_1)
    (hline : autoParam ((apos.endLine == cpos.line) = true) au0_._auto_1) (hs : autoParam (starEach (e :: []) X.env = (false, eval e X.env) :: starEach [] X.env) au0_._auto_1) (hplain : autoParam ((backTo cpos (starEach [] X.env)).any (·.1) = false) au0_._auto_1) :
    QE X (.Call (.Attribute o "extend" apos) [e] [] cpos) (tBM K "list" rExtend to (tCons te tNil)) := ⟨My.extC K ho.h he.h h hbase hfew hline hs hplain⟩
end Jd
namespace L2
open PySem PySem.Spec PyProof.Rows
theorem lenS {α : Type} {n : Nat} : ∀ {us : List α}, us.length = n + 1 → ∃ (a : α) (as : List α), us = a :: as ∧ as.length = n
  | [], h => nomatch h
  | a :: as, h => ⟨a, as, rfl, Nat.succ.inj h⟩
theorem len0 {α : Type} : ∀ {us : List α}, us.length = 0 → us = []
  | [], _ => rfl
  | _ :: _, h => nomatch h
theorem Fun.binds1 {K : PySem.W.Frag} {x qual : Str} {st : Stmt} {f : Addr} {fd : FuncData} {pa : Str} (F : Fun K x qual st f fd) (h : ∀ (kV doc pm : Value) (an : Option Addr) (cdv ct ua : Value), bindArgs (PySem.W.fnOf x qual (defArgs st) (defBody st) (defScope st) .none kV doc pm an cdv ct) ⟨[ua], []⟩ = pure [(pa, ua)]) : Binds K fd [pa] [] :=
  F.binds fun kV doc pm an cdv ct us hl => by
    obtain ⟨ua, us0, rfl, hl0⟩ := lenS (n := 0) hl
    obtain rfl := len0 hl0
    exact h kV doc pm an cdv ct ua
theorem Fun.binds2 {K : PySem.W.Frag} {x qual : Str} {st : Stmt} {f : Addr} {fd : FuncData} {pa pb : Str} (F : Fun K x qual st f fd) (h : ∀ (kV doc pm : Value) (an : Option Addr) (cdv ct ua ub : Value), bindArgs (PySem.W.fnOf x qual (defArgs st) (defBody st) (defScope st) .none kV doc pm an cdv ct) ⟨[ua, ub], []⟩ = pure [(pa, ua), (pb, ub)]) : Binds K fd [pa, pb] [] :=
  F.binds fun kV doc pm an cdv ct us hl => by
    obtain ⟨ua, us1, rfl, hl1⟩ := lenS (n := 1) hl
    obtain ⟨ub, us0, rfl, hl0⟩ := lenS (n := 0) hl1
    obtain rfl := len0 hl0
    exact h kV doc pm an cdv ct ua ub
theorem Fun.binds3 {K : PySem.W.Frag} {x qual : Str} {st : Stmt} {f : Addr} {fd : FuncData} {pa pb pc : Str} (F : Fun K x qual st f fd) (h : ∀ (kV doc pm : Value) (an : Option Addr) (cdv ct ua ub uc : Value), bindArgs (PySem.W.fnOf x qual (defArgs st) (defBody st) (defScope st) .none kV doc pm an cdv ct) ⟨[ua, ub, uc], []⟩ = pure [(pa, ua), (pb, ub), (pc, uc)]) : Binds K fd [pa, pb, pc] [] :=
  F.binds fun kV doc pm an cdv ct us hl => by
    obtain ⟨ua, us2, rfl, hl2⟩ := lenS (n := 2) hl
    obtain ⟨ub, us1, rfl, hl1⟩ := lenS (n := 1) hl2
    obtain ⟨uc, us0, rfl, hl0⟩ := lenS (n := 0) hl1
    obtain rfl := len0 hl0
    exact h kV doc pm an cdv ct ua ub uc
theorem Fun.binds4 {K : PySem.W.Frag} {x qual : Str} {st : Stmt} {f : Addr} {fd : FuncData} {pa pb pc pd : Str} (F : Fun K x qual st f fd) (h : ∀ (kV doc pm : Value) (an : Option Addr) (cdv ct ua ub uc ud : Value), bindArgs (PySem.W.fnOf x qual (defArgs st) (defBody st) (defScope st) .none kV doc pm an cdv ct) ⟨[ua, ub, uc, ud], []⟩ = pure [(pa, ua), (pb, ub), (pc, uc), (pd, ud)]) : Binds K fd [pa, pb, pc, pd] [] :=
  F.binds fun kV doc pm an cdv ct us hl => by
    obtain ⟨ua, us3, rfl, hl3⟩ := lenS (n := 3) hl
    obtain ⟨ub, us2, rfl, hl2⟩ := lenS (n := 2) hl3
    obtain ⟨uc, us1, rfl, hl1⟩ := lenS (n := 1) hl2
    obtain ⟨ud, us0, rfl, hl0⟩ := lenS (n := 0) hl1
    obtain rfl := len0 hl0
    exact h kV doc pm an cdv ct ua ub uc ud
end L2
namespace My
open PySem PySem.Spec PyProof.Rows L2
theorem seq_cut {t u : TS} {D : Ends} {σ : L2.St} {H : Hp} (Pv : L2.St → Hp → Prop) (rest : ∀ σ' H', Pv σ' H' → u D σ' H') (h : ∀ N : L2.St → Hp → Prop, (∀ σ' H', Pv σ' H' → N σ' H') → t { D with nx := N } σ H) : tSeq t u D σ H := h (u D) rest
theorem nx_of {N : L2.St → Hp → Prop} {rt : VK} {bk ct : L2.St → Hp → Prop} {σ : L2.St} {H : Hp} (h : N σ H) : (Ends.mk N rt bk ct).nx σ H := h
theorem body_cut {g : TG} {tb : TS} {x : V} {σ : L2.St} {H : Hp} {Pv bk : L2.St → Hp → Prop} {rt : VK} (h : ∀ (M B : L2.St → Hp → Prop) (R : VK), (∀ σ H, Pv σ H → M σ H) → (∀ σ H, bk σ H → B σ H) → (∀ v H, rt v H → R v H) → g x σ H fun σ2 H2 => tb (Ends.mk M R B M) σ2 H2) : g x σ H fun σ2 H2 => tb (Ends.mk Pv rt bk Pv) σ2 H2 := h Pv bk rt (fun _ _ z => z) (fun _ _ z => z) (fun _ _ z => z)
end My

namespace My
open PySem PySem.Spec PyProof.Rows L2 Mth
noncomputable def tLink (r : R2) (t : TE) (rest : V → TE) (y : V) : TE := fun σ H Q => t σ H fun u H2 => r y u H2 fun z H3 => ∃ k, z = .bl k ∧ (if k = true then rest u σ H3 Q else Q (.bl false) H3)
noncomputable def tEnd (r : R2) (t : TE) (y : V) : TE := fun σ H Q => t σ H fun u H2 => r y u H2 Q
noncomputable def tChain4 (r1 r2 r3 r4 : R2) (ta tb tc td te : TE) : TE := fun σ H Q => ta σ H fun x H1 => tLink r1 tb (tLink r2 tc (tLink r3 td (tEnd r4 te))) x σ H1 Q
theorem r_chain4 {r1 r2 r3 r4 : R2} {ta tb tc td te : TE} {σ : L2.St} {H : Hp} {Q : VK} (h : ta σ H fun x H1 => tLink r1 tb (tLink r2 tc (tLink r3 td (tEnd r4 te))) x σ H1 Q) : tChain4 r1 r2 r3 r4 ta tb tc td te σ H Q := h
theorem r_link {r : R2} {t : TE} {rest : V → TE} {y : V} {σ : L2.St} {H : Hp} {Q : VK} (h : t σ H fun u H2 => r y u H2 fun z H3 => ∃ k, z = .bl k ∧ (if k = true then rest u σ H3 Q else Q (.bl false) H3)) : tLink r t rest y σ H Q := h
theorem r_end {r : R2} {t : TE} {y : V} {σ : L2.St} {H : Hp} {Q : VK} (h : t σ H fun u H2 => r y u H2 Q) : tEnd r t y σ H Q := h
end My
namespace Jd
open PySem PySem.Spec PyProof.Rows L2 Mth
end Jd

local macro_rules | `(tactic| walk_at "vc") => `(tactic| repeat (first
  | with_reducible refine My.r_seq ?_
  | with_reducible refine My.r_set ?_
  | with_reducible refine My.r_ret ?_
  | with_reducible refine My.r_drop ?_
  | with_reducible refine My.r_if ?_
  | with_reducible refine My.r_next ?_
  | with_reducible refine My.r_cont ?_
  | with_reducible refine My.r_break ?_
  | with_reducible refine My.r_chain ?_
  | with_reducible refine My.r_chain4 ?_
  | with_reducible refine My.r_link ?_
  | with_reducible refine My.r_end ?_
  | with_reducible refine My.r_fld ?_
  | with_reducible refine My.r_sfld ?_
  | with_reducible refine My.r_meth ?_
  | with_reducible refine My.r_make ?_
  | ((with_reducible refine' My.r_var ?e1 ?_); (case e1 => rfl))
  | with_reducible refine My.r_c ?_
  | with_reducible refine My.r_op ?_
  | with_reducible refine My.r_un ?_
  | with_reducible refine My.r_I0 ?_
  | with_reducible refine My.r_U ?_
  | with_reducible refine My.r_test ?_
  | with_reducible refine My.r_B ?_
  | with_reducible refine My.r_bl ?_
  | with_reducible refine My.r_cb ?_
  | with_reducible refine My.r_cons ?_
  | with_reducible refine My.r_nil ?_
  | with_reducible refine My.r_tup ?_
  | with_reducible refine My.r_lst ?_
  | with_reducible refine My.r_call ?_
  | with_reducible refine My.r_try ?_
  | with_reducible refine My.r_tryAs ?_
  | with_reducible refine My.r_callX ?_
  | with_reducible refine My.r_raise ?_
  | with_reducible refine My.r_par ?_
  | with_reducible refine My.r_g ?_
  | with_reducible refine My.r_absC ?_
  | with_reducible refine My.r_bits ?_
  | with_reducible refine My.r_comp ?_
  | with_reducible refine My.r_yes ?_
  | with_reducible refine My.r_gsub ?_
  | with_reducible refine My.r_rev ?_
  | with_reducible refine My.r_max ?_
  | with_reducible refine My.r_min ?_
  | with_reducible refine My.r_two ?_
  | with_reducible refine My.r_bm ?_
  | ((with_reducible refine My.r_I ?e7 ?_); (case e7 => first | decide | assumption | exact ⟨by decide, by decide, by decide⟩ | (show (0 : Int) < _; first | decide | omega) | exact My.mulR (by decide) (by decide) | exact My.mulL (by decide) (by decide)))
  | with_reducible refine My.r_not ?_
  | with_reducible refine My.r_and ?_
  | with_reducible refine My.r_or ?_
  | with_reducible refine My.r_andV ?_
  | with_reducible refine My.r_orV ?_
  | with_reducible refine My.r_notV ?_
  | with_reducible refine My.r_ife ?_
  | ((with_reducible refine My.r_eq ?e2 ?_); (case e2 => rfl))
  | ((with_reducible refine My.r_ne ?e3 ?_); (case e3 => rfl))
  | ((with_reducible refine' My.r_t0 ?e4 ?_); (case e4 => assumption))
  | ((with_reducible refine' My.r_t1 ?e5 ?_); (case e5 => assumption))
  | ((with_reducible refine' My.r_t2 ?e6 ?_); (case e6 => assumption))
  | ((with_reducible refine' My.r_t3 ?e8 ?_); (case e8 => assumption))))
local macro_rules | `(tactic| walk_at "om") => `(tactic| first
  | assumption
  | exact Nat.le_of_lt (by assumption)
  | exact Nat.lt_trans (by assumption) (by assumption)
  | exact Nat.lt_of_lt_of_le (by assumption) (by assumption)
  | exact Nat.le_trans (by assumption) (by assumption)
  | exact Int.le_of_lt (by assumption)
  | exact Int.ne_of_gt (by assumption)
  | exact Int.ne_of_lt (by assumption)
  | exact Int.natCast_nonneg _
  | lia
  | omega)
namespace Lw
open PySem L2 Mth My
noncomputable def top (i : Nat) : Stmt := PySem.Challenge.pw_lath_k58_planted_ways.main.body.getD i (.Pass ⟨0, 0, 0, 0⟩)
noncomputable abbrev s_law_cell : Stmt := top 24
noncomputable abbrev s_law_mix : Stmt := top 25
noncomputable abbrev s_law_row : Stmt := top 26
noncomputable abbrev s_law_ratio : Stmt := top 27
noncomputable abbrev s_loose_plus : Stmt := top 1
noncomputable abbrev s_loose_minus : Stmt := top 2
noncomputable abbrev s_loose_slope : Stmt := top 7
noncomputable abbrev s_order : Stmt := top 3
noncomputable abbrev s_runs : Stmt := top 15
noncomputable abbrev s_loose_farthest : Stmt := top 9
noncomputable abbrev s_law_handed : Stmt := top 28
noncomputable abbrev s_greatest : Stmt := top 4
noncomputable abbrev s_smallest : Stmt := top 5
noncomputable abbrev s_good_behind : Stmt := top 10
noncomputable abbrev s_leaps : Stmt := top 11
noncomputable abbrev s_labels_by : Stmt := top 12
noncomputable abbrev s_bars_by : Stmt := top 13
noncomputable abbrev s_places_of_pieces : Stmt := top 17
noncomputable abbrev s_piece_between : Stmt := top 18
noncomputable abbrev s_tied_run : Stmt := top 19
noncomputable abbrev s_tied_row : Stmt := top 20
noncomputable abbrev s_spans : Stmt := top 21
noncomputable abbrev s_chain : Stmt := top 22
noncomputable abbrev s_law_planted : Stmt := top 29
noncomputable abbrev s_law_count : Stmt := top 31
noncomputable abbrev s_law_exact : Stmt := top 30
noncomputable abbrev s_law : Stmt := top 32
noncomputable def spCell (K : PySem.W.Frag) : Sp := fun vs H Q _ => ∃ (a : Addr) (ns : List Int) (i : Int), vs = [.ref a, .int i] ∧ SqL K H a (ns.map V.int) ∧ 0 ≤ i ∧ i < 1000 ∧ ∀ (c : Int) (H' : Hp), Same H H' → Q (.int c) H'
noncomputable def spMix : Sp := fun vs H Q _ => ∃ (c k : Int), vs = [.int c, .int k] ∧ 0 ≤ k ∧ k < 1000 ∧ ∀ z : Int, Q (.int z) H
noncomputable def spRow (K : PySem.W.Frag) : Sp := fun vs H Q _ => ∃ (a : Addr) (ns : List Int) (i : Int) (l : Addr) (zs : List Int), vs = [.ref a, .int i, .ref l] ∧ SqL K H a (ns.map V.int) ∧ 0 ≤ i ∧ i < 900 ∧ H l = some (.lst (zs.map V.int)) ∧ zs.length ≤ 900 ∧ (∀ z ∈ zs, 0 < z ∧ z < 2 ^ 60) ∧
  ∀ (p : Addr) (xs : List Int) (H' : Hp), Same H H' → H p = none → H' p = some (.lst (xs.map V.int)) → xs.length = zs.length → (∀ (j : Nat) (x z : Int), xs[j]? = some x → zs[j]? = some z → 0 ≤ x ∧ x < z) → Q (.ref p) H'
noncomputable def spRatio : Sp := fun vs H Q _ => ∃ (t b : Int), vs = [.int t, .int b] ∧ 0 < b ∧ Sz 8000 b ∧ ∀ (p : Addr) (t' b' : Int) (H' : Hp), Same H H' → H' p = some (.tup [.int t', .int b']) → Low t b t' b' → Q (.ref p) H'
structure Txt (mg : Str → Option Value) : Prop where
  len_ : mg "len" = none
  abs_ : mg "abs" = none
  range : mg "range" = none
  isinstance_ : mg "isinstance" = none
  int_ : mg "int" = none
  bool_ : mg "bool" = none
  tuple_ : mg "tuple" = none
  list_ : mg "list" = none
  max_ : mg "max" = none
  min_ : mg "min" = none
  enumerate_ : mg "enumerate" = none
  zip_ : mg "zip" = none
  all_ : mg "all" = none
  any_ : mg "any" = none
  sum_ : mg "sum" = none
  sorted_ : mg "sorted" = none
  reversed_ : mg "reversed" = none
  str_ : mg "str" = none
theorem small {n : Nat} (h : n ≤ 1000) : n ≤ sizeLine := Nat.le_of_lt (small1000 h)
theorem ints_at {ns : List Int} {i : Int} (h0 : 0 ≤ i) (h : i < (ns.length : Int)) : ∃ v : Int, atI (ns.map V.int) i = some (.int v) := by
  have hk : i.toNat < ns.length := by walk_at "om"
  exact ⟨ns[i.toNat], at_ints (List.getElem?_eq_getElem hk) (by walk_at "om")⟩
theorem cut_int {ns : List Int} {lo hi : Option Int} {i : Nat} {y : V} (h : (cutV (ns.map V.int) lo hi)[i]? = some y) : ∃ m : Int, y = .int m := by
  have hm : y ∈ cutV (ns.map V.int) lo hi := List.mem_of_getElem? h
  unfold cutV at hm
  obtain ⟨m, _, e⟩ := List.mem_map.mp (List.mem_of_mem_drop (List.mem_of_mem_take hm))
  exact ⟨m, e.symm⟩
theorem mcast (x y : Nat) : ((x : Int) % (y : Int)) = ((x % y : Nat) : Int) := (Int.natCast_emod x y).symm
theorem abs_cast (t : Int) : (if t < 0 then -t else t) = (t.natAbs : Int) := by split <;> walk_at "om"
noncomputable def third (σ : St) : Nat := match σ[3]? with | some (some (V.int n)) => n.toNat | _ => 0
section
variable {P : Program} {w : World} {K : PySem.W.Frag} {mg : Str → Option Value} {base : Heap} {f : Addr} {fd : FuncData}
theorem sc_law_cell : FnScope ["_law_script", "_law_place", "_law_seed", "_law_cell_here"] ["_law_script", "_law_place"] (defScope s_law_cell) := ⟨rfl, rfl, rfl, by decide +kernel, rfl, by decide +kernel, by decide +kernel⟩
theorem ok_law_cell (F : Fun K "_law_cell" "_law_cell" s_law_cell f fd) (T : Txt mg) : FnOk P w K mg base CX0 1 f fd ["_law_script", "_law_place"] (spCell K) := by
  refine F.ok sc_law_cell (fun vs H Q E h => ?_) (fun cdv A outer s H vs Q E hr h => ?_)
  · obtain ⟨a, ns, i, rfl, _⟩ := h
    rfl
  obtain ⟨a, ns, i, rfl, hS, h0, h1, k⟩ := h
  refine Jd.go ⟨_, (Jd.pss_cons (Jd.ps_if (Jd.pt_cmpR op_lt (Jd.pv 1) (Jd.pe_callB (lenC K) rfl T.len_ PySem.boot_len (Jd.pa_cons (Jd.pv 0) Jd.pa_nil st_N) (he := st_N) (hpl := any0)) (nomark _))
      (Jd.pss_one (Jd.ps_ret (Jd.pe_ix (ixL K) (Jd.pv 0) (Jd.pv 1) (fun _ _ => rfl))))
      Jd.pss_nil)
      (Jd.pss_cons (Jd.ps_set (i := 2) sc_law_cell.nd rfl (Or.inl rfl) Jd.pe_int (hs := sw_C))
      (Jd.pss_cons (Jd.ps_for PassesOwn.never rfl (Jd.piL K (Jd.pe_slice (slL K) (Jd.pv 0) Jd.po_none (Jd.po_some Jd.pe_int))) (Jd.pg_name (i := 3) sc_law_cell.nd rfl (Or.inl rfl))
      (Jd.pss_one (Jd.ps_set (i := 2) sc_law_cell.nd rfl (Or.inl rfl) (Jd.pe_op op_mod (Jd.pe_op op_add (Jd.pe_op op_add (Jd.pe_op op_mulB (Jd.pv 2) Jd.pe_int) (Jd.pe_op op_mod (Jd.pv 3) Jd.pe_int)) Jd.pe_int) Jd.pe_int) (hs := sw_B))))
      (Jd.pss_one (Jd.ps_ret (Jd.pe_op op_mod (Jd.pe_op op_add (Jd.pv 2) (Jd.pe_op op_mulB Jd.pe_int (Jd.pv 1))) Jd.pe_int)))))), ?_⟩
  walk_at "vc"
  refine r_len (.inl hS) ?_
  walk_at "vc"
  refine ite2 (fun c => ?_) (fun c => ?_)
  · have c' := of_decide_eq_true c
    rw [List.length_map] at c'
    obtain ⟨v, hv⟩ := ints_at (ns := ns) h0 c'
    walk_at "vc"
    exact ⟨a, _, i, _, rfl, rfl, hS, hv, k v H (Same.refl _)⟩
  · walk_at "vc"
    refine ⟨_, rfl, _, rfl, a, _, rfl, hS, fun p hp => ?_⟩
    have s1 : Same H (upd H p (.lst (cutV (ns.map V.int) none (some 63)))) := same_new hp _
    have e1 : upd H p (.lst (cutV (ns.map V.int) none (some 63))) p = some (.lst (cutV (ns.map V.int) none (some 63))) := upd_same
    refine ⟨p, rfl, ⟨_, SqL.of e1⟩, for_list (K := K) (a := p) (xs := cutV (ns.map V.int) none (some 63)) (fun _ σ H2 => ∃ (z : Int) (v : Option V), σ = [some (.ref a), some (.int i), some (.int z), v] ∧ 0 ≤ z ∧ z < 2147483647 ∧ Same (upd H p (.lst (cutV (ns.map V.int) none (some 63)))) H2)
      ⟨5, none, rfl, by decide, by decide, Same.refl _⟩ (fun _ σ H2 _ ⟨_, _, _, _, _, s2⟩ => SqL.of (s2 _ _ e1)) ?_ ?_⟩
    · rintro j y σ H2 hj ⟨z, v, rfl, z0, z1, s2⟩
      obtain ⟨m, rfl⟩ := cut_int hj
      walk_at "vc"
      exact ⟨_, _, rfl, Int.emod_nonneg _ (by decide), Int.emod_lt_of_pos _ (by decide), s2⟩
    · rintro σ H2 ⟨z, v, rfl, z0, z1, s2⟩
      walk_at "vc"
      exact k _ _ (s1.trans s2)
theorem sc_law_mix : FnScope ["_law_cell_here", "_law_k", "_law_one", "_law_two"] ["_law_cell_here", "_law_k"] (defScope s_law_mix) := ⟨rfl, rfl, rfl, by decide +kernel, rfl, by decide +kernel, by decide +kernel⟩
theorem ok_law_mix (F : Fun K "_law_mix" "_law_mix" s_law_mix f fd) : FnOk P w K mg base CX0 1 f fd ["_law_cell_here", "_law_k"] spMix := by
  refine F.ok sc_law_mix (fun vs H Q E h => ?_) (fun cdv A outer s H vs Q E hr h => ?_)
  · obtain ⟨c, k, rfl, _⟩ := h
    rfl
  obtain ⟨c, j, rfl, h0, h1, k⟩ := h
  refine Jd.go ⟨_, (Jd.pss_cons (Jd.ps_set (i := 2) sc_law_mix.nd rfl (Or.inl rfl) (Jd.pe_op op_mod (Jd.pe_op op_pow (Jd.pe_op op_add (Jd.pe_op op_add (Jd.pe_op op_mod (Jd.pv 0) Jd.pe_int) (Jd.pe_op op_mulB Jd.pe_int (Jd.pv 1))) Jd.pe_int) Jd.pe_int) Jd.pe_int) (hs := sw_B))
      (Jd.pss_cons (Jd.ps_set (i := 3) sc_law_mix.nd rfl (Or.inl rfl) (Jd.pe_op op_mod (Jd.pe_op op_add (Jd.pe_op op_add (Jd.pe_op op_mulB (Jd.pv 2) Jd.pe_int) (Jd.pe_op op_mulB (Jd.pe_op op_mulB Jd.pe_int (Jd.pv 1)) (Jd.pv 1))) Jd.pe_int) Jd.pe_int) (hs := sw_B))
      (Jd.pss_one (Jd.ps_ret (Jd.pe_op op_fdivB (Jd.pv 3) Jd.pe_int))))), ?_⟩
  have b0 : 0 ≤ c % 2147483629 := Int.emod_nonneg _ (by decide)
  have b1 : c % 2147483629 < 2147483629 := Int.emod_lt_of_pos _ (by decide)
  walk_at "vc"
  refine r_I (show CPow _ _ from ⟨by decide, by decide, by walk_at "om"⟩) ?_
  walk_at "vc"
  refine r_I (mulR (by walk_at "om") (by walk_at "om")) ?_
  walk_at "vc"
  refine r_I (show CDivB _ _ from ⟨by decide, by decide +kernel⟩) ?_
  exact k _
theorem sc_law_row : FnScope ["_law_script", "_law_place", "_law_sizes", "_law_cell_here", "_law_left", "_law_some", "_law_k", "_law_other"] ["_law_script", "_law_place", "_law_sizes"] (defScope s_law_row) := ⟨rfl, rfl, rfl, by decide +kernel, rfl, by decide +kernel, by decide +kernel⟩
theorem ok_law_row (F : Fun K "_law_row" "_law_row" s_law_row f fd) (T : Txt mg) (D_law_cell : Dn P w K mg base 1 "_law_cell" ["_law_script", "_law_place"] (spCell K)) (D_law_mix : Dn P w K mg base 1 "_law_mix" ["_law_cell_here", "_law_k"] spMix) :
    FnOk P w K mg base CX0 3 f fd ["_law_script", "_law_place", "_law_sizes"] (spRow K) := by
  refine F.ok sc_law_row (fun vs H Q E h => ?_) (fun cdv A outer s H vs Q E hr h => ?_)
  · obtain ⟨a, ns, i, l, zs, rfl, _⟩ := h
    rfl
  obtain ⟨a, ns, i, l, zs, rfl, hS, h0, h1, hl, hz, hzs, k⟩ := h
  refine Jd.go ⟨_, (Jd.pss_cons (Jd.ps_set (i := 3) sc_law_row.nd rfl (Or.inl rfl) (Jd.pe_dn D_law_cell (hr.mono (by decide)) rfl (Jd.pa_cons (Jd.pv 0) (Jd.pa_cons (Jd.pv 1) Jd.pa_nil st_N) st_N) (he := st_N) (hpl := (anyc st_N any0))) (hs := sw_K))
      (Jd.pss_cons (Jd.ps_set (i := 4) sc_law_row.nd rfl (Or.inl rfl) (Jd.pv 3) (hs := sw_N))
      (Jd.pss_cons (Jd.ps_set (i := 5) sc_law_row.nd rfl (Or.inl rfl) (Jd.pe_lst Jd.pa_nil) (hs := sw_L))
      (Jd.pss_cons (Jd.ps_for PassesOwn.never rfl (Jd.pi_range1 rfl T.range (Jd.pa_cons (Jd.pe_callB (lenC K) rfl T.len_ PySem.boot_len (Jd.pa_cons (Jd.pv 2) Jd.pa_nil st_N) (he := st_N) (hpl := any0)) Jd.pa_nil st_K)) (Jd.pg_name (i := 6) sc_law_row.nd rfl (Or.inl rfl))
      (Jd.pss_one (Jd.ps_if (Jd.pt_cmpR op_lt (Jd.pv 3) (Jd.pe_op op_pow Jd.pe_int Jd.pe_int) (nomark _))
      (Jd.pss_one (Jd.ps_expr (Jd.appC K (Jd.pv 5) (Jd.pe_op op_mod (Jd.pe_dn D_law_mix (hr.mono (by decide)) rfl (Jd.pa_cons (Jd.pv 3) (Jd.pa_cons (Jd.pv 6) Jd.pa_nil st_N) st_N) (he := st_N) (hpl := (anyc st_N any0))) (Jd.pe_ix (ixL K) (Jd.pv 2) (Jd.pv 6) (fun _ _ => rfl)))) (hs := sw_K)))
      (Jd.pss_one (Jd.ps_if (Jd.pt_cmpR op_gt (Jd.pv 4) Jd.pe_int (nomark _))
      (Jd.pss_cons (Jd.ps_expr (Jd.appC K (Jd.pv 5) (Jd.pe_op op_mod (Jd.pv 4) (Jd.pe_ix (ixL K) (Jd.pv 2) (Jd.pv 6) (fun _ _ => rfl)))) (hs := sw_K))
      (Jd.pss_one (Jd.ps_set (i := 4) sc_law_row.nd rfl (Or.inl rfl) (Jd.pe_op op_fdivB (Jd.pv 4) (Jd.pe_ix (ixL K) (Jd.pv 2) (Jd.pv 6) (fun _ _ => rfl))) (hs := sw_B))))
      (Jd.pss_cons (Jd.ps_set (i := 7) sc_law_row.nd rfl (Or.inl rfl) (Jd.pe_dn D_law_cell (hr.mono (by decide)) rfl (Jd.pa_cons (Jd.pv 0) (Jd.pa_cons (Jd.pe_op op_mod (Jd.pe_op op_add (Jd.pe_op op_add (Jd.pv 1) Jd.pe_int) (Jd.pv 6)) Jd.pe_int) Jd.pa_nil st_B) st_N) (he := st_N) (hpl := (anyc st_B any0))) (hs := sw_K))
      (Jd.pss_one (Jd.ps_expr (Jd.appC K (Jd.pv 5) (Jd.pe_op op_mod (Jd.pe_dn D_law_mix (hr.mono (by decide)) rfl (Jd.pa_cons (Jd.pv 7) (Jd.pa_cons (Jd.pv 6) Jd.pa_nil st_N) st_N) (he := st_N) (hpl := (anyc st_N any0))) (Jd.pe_ix (ixL K) (Jd.pv 2) (Jd.pv 6) (fun _ _ => rfl)))) (hs := sw_K)))))))))
      (Jd.pss_one (Jd.ps_ret (Jd.pv 5))))))), ?_⟩
  walk_at "vc"
  refine ⟨a, ns, i, rfl, hS, h0, by walk_at "om", fun c H1 s1 => ?_⟩
  walk_at "vc"
  refine r_new (mk := .lst) (by simp) fun p H2 s2 n2 e2 => ?_
  walk_at "vc"
  have hl2 : H2 l = some (.lst (zs.map V.int)) := s2 _ _ (s1 _ _ hl)
  refine ⟨_, rfl, l, _, rfl, .inl (SqL.of hl2), _, rfl, by lia, by rw [List.length_map]; lia, for_range (fun j σ H3 => ∃ (left : Int) (xs : List Int) (v6 v7 : Option V),
    σ = [some (.ref a), some (.int i), some (.ref l), some (.int c), some (.int left), some (.ref p), v6, v7] ∧ Same H1 H3 ∧ H3 p = some (.lst (xs.map V.int)) ∧ xs.length = j ∧ (∀ (j : Nat) (x z : Int), xs[j]? = some x → zs[j]? = some z → 0 ≤ x ∧ x < z)) ?_ ?_ ?_⟩
  · exact ⟨c, [], none, none, rfl, s2, e2, rfl, fun j x z e _ => by simp at e⟩
  · rintro j σ H3 hj ⟨left, xs, v6, v7, rfl, s3, e3, hx, hxs⟩
    have hj' : j < zs.length := by simpa using hj
    obtain ⟨z, ez⟩ : ∃ z, zs[j]? = some z := ⟨_, List.getElem?_eq_getElem hj'⟩
    obtain ⟨zp, zq⟩ := hzs z (List.mem_of_getElem? ez)
    have hl3 : H3 l = some (.lst (zs.map V.int)) := s3 _ _ (s1 _ _ hl)
    have ea : atI (zs.map V.int) (0 + (j : Int)) = some (.int z) := at_ints ez (by walk_at "om")
    have hS3 : SqL K H3 a (ns.map V.int) := (s1.trans s3).seq hS
    -- one more item
    have fin : ∀ (y left' : Int) (v6 v7 : Option V) (H4 : Hp), Same H3 H4 → H4 p = some (.lst (xs.map V.int)) → ∃ (left : Int) (xs' : List Int) (v6' v7' : Option V),
        [some (.ref a), some (.int i), some (.ref l), some (.int c), some (.int left'), some (.ref p), v6, v7] = [some (.ref a), some (.int i), some (.ref l), some (.int c), some (.int left), some (.ref p), v6', v7'] ∧
        Same H1 (upd H4 p (.lst (xs.map V.int ++ [.int (y % z)]))) ∧ upd H4 p (.lst (xs.map V.int ++ [.int (y % z)])) p = some (.lst (xs'.map V.int)) ∧ xs'.length = j + 1 ∧ (∀ (j : Nat) (x z : Int), xs'[j]? = some x → zs[j]? = some z → 0 ≤ x ∧ x < z) := by
      intro y left' v6 v7 H4 s4 e4
      refine ⟨left', xs ++ [y % z], v6, v7, rfl, same_at (s3.trans s4) n2, ?_, by rw [List.length_append, hx]; rfl, fun m x z' e1 e2 => ?_⟩
      · rw [upd_same, List.map_append]; rfl
      · by_cases hm : m < xs.length
        · rw [List.getElem?_append_left hm] at e1
          exact hxs m x z' e1 e2
        · have hm2 : m = j := by
            have := (List.getElem?_eq_some_iff.mp e1).1
            rw [List.length_append] at this
            simp at this
            walk_at "om"
          subst hm2
          rw [List.getElem?_append_right (by walk_at "om"), hx] at e1
          simp at e1
          rw [ez] at e2
          cases e2
          subst e1
          exact ⟨Int.emod_nonneg _ (by walk_at "om"), Int.emod_lt_of_pos _ zp⟩
    have small3 : (xs.map V.int).length < sizeLine := by rw [List.length_map]; exact small1000 (by walk_at "om")
    walk_at "vc"
    refine ite2 (fun _ => ?_) (fun _ => ?_)
    · walk_at "vc"
      refine ⟨.inl ⟨rfl, _, SqL.of e3⟩, ?_⟩
      walk_at "vc"
      refine ⟨_, _, rfl, by walk_at "om", by walk_at "om", fun y => ?_⟩
      walk_at "vc"
      refine r_l hl3 ea ?_
      refine r_I (show (0 : Int) < z from zp) ?_
      walk_at "vc"
      refine r_app e3 small3 ?_
      exact fin y _ _ _ _ (Same.refl _) e3
    · walk_at "vc"
      refine ite2 (fun _ => ?_) (fun _ => ?_)
      · walk_at "vc"
        refine ⟨.inl ⟨rfl, _, SqL.of e3⟩, ?_⟩
        walk_at "vc"
        refine r_l hl3 ea ?_
        refine r_I (show (0 : Int) < z from zp) ?_
        walk_at "vc"
        refine r_app e3 small3 ?_
        walk_at "vc"
        refine r_l (by rw [upd_ne (ne_of_none (s1 _ _ hl) n2)]; exact hl3) ea ?_
        refine r_I (show CDivB _ _ from ⟨by walk_at "om", Sz.log (m := 60) (Sz.of_lt (k := 2 ^ 60) (by walk_at "om") (Nat.le_refl _)) (by decide) (by decide)⟩) ?_
        exact fin left _ _ _ _ (Same.refl _) e3
      · walk_at "vc"
        have q0 : 0 ≤ (i + 1 + (0 + (j : Int))) % 63 := Int.emod_nonneg _ (by decide)
        have q1 : (i + 1 + (0 + (j : Int))) % 63 < 63 := Int.emod_lt_of_pos _ (by decide)
        refine ⟨a, ns, _, rfl, hS3, q0, by walk_at "om", fun c2 H4 s4 => ?_⟩
        walk_at "vc"
        refine ⟨.inl ⟨rfl, _, SqL.of (s4 _ _ e3)⟩, ?_⟩
        walk_at "vc"
        refine ⟨_, _, rfl, by walk_at "om", by walk_at "om", fun y => ?_⟩
        walk_at "vc"
        refine r_l (s4 _ _ hl3) ea ?_
        refine r_I (show (0 : Int) < z from zp) ?_
        walk_at "vc"
        refine r_app (s4 _ _ e3) small3 ?_
        exact fin y _ _ _ _ s4 (s4 _ _ e3)
  · rintro σ H3 ⟨left, xs, v6, v7, rfl, s3, e3, hx, hxs⟩
    walk_at "vc"
    exact k p xs H3 (s1.trans s3) (s1.free n2) e3 (by simpa using hx) hxs
theorem sc_law_ratio : FnScope ["_law_top", "_law_bottom", "_law_one", "_law_two"] ["_law_top", "_law_bottom"] (defScope s_law_ratio) := ⟨rfl, rfl, rfl, by decide +kernel, rfl, by decide +kernel, by decide +kernel⟩
theorem ok_law_ratio (F : Fun K "_law_ratio" "_law_ratio" s_law_ratio f fd) (T : Txt mg) : FnOk P w K mg base CX0 1 f fd ["_law_top", "_law_bottom"] spRatio := by
  refine F.ok sc_law_ratio (fun vs H Q E h => ?_) (fun cdv A outer s H vs Q E hr h => ?_)
  · obtain ⟨t, b, rfl, _⟩ := h
    rfl
  obtain ⟨t, b, rfl, hb, hz, k⟩ := h
  refine Jd.go ⟨_, (Jd.pss_cons (Jd.ps_par (i := 2) (j := 3) rfl sc_law_ratio.nd rfl rfl (by decide) rfl rfl (Jd.pa_cons (Jd.pe_callB absC rfl T.abs_ PyProof.Rows.boot_abs (Jd.pa_cons (Jd.pv 0) Jd.pa_nil st_N) (he := st_N) (hpl := any0)) (Jd.pa_cons (Jd.pv 1) Jd.pa_nil st_N) st_K) rfl)
      (Jd.pss_cons (Jd.ps_while PassesOwn.never (Jd.pt_cmpR op_gt (Jd.pv 3) Jd.pe_int (nomark _))
      (Jd.pss_one (Jd.ps_par (i := 2) (j := 3) rfl sc_law_ratio.nd rfl rfl (by decide) rfl rfl (Jd.pa_cons (Jd.pv 3) (Jd.pa_cons (Jd.pe_op op_mod (Jd.pv 2) (Jd.pv 3)) Jd.pa_nil st_B) st_N) rfl)))
      (Jd.pss_one (Jd.ps_ret (Jd.pe_tup (Jd.pa_cons (Jd.pe_op op_fdivB (Jd.pv 0) (Jd.pv 2)) (Jd.pa_cons (Jd.pe_op op_fdivB (Jd.pv 1) (Jd.pv 2)) Jd.pa_nil st_B) st_B)))))), ?_⟩
  walk_at "vc"
  have hgb : Int.gcd t b ≤ b.natAbs := by
    have := Int.gcd_le_right (a := t) (b := b) (by walk_at "om")
    walk_at "om"
  refine while_by (fun σ H' => H' = H ∧ ∃ x y : Nat, σ = [some (.int t), some (.int b), some (.int x), some (.int y)] ∧ Nat.gcd x y = Int.gcd t b) (fun σ _ => third σ) ?_ ?_ ?_
  · refine ⟨rfl, t.natAbs, b.natAbs, ?_, rfl⟩
    rw [abs_cast]
    have e : b = ((b.natAbs : Nat) : Int) := by walk_at "om"
    rw [← e]
    rfl
  · rintro σ H' ⟨rfl, x, y, rfl, hg⟩
    walk_at "vc"
    refine ite2 (fun c => ?_) (fun c => ?_)
    · have c' : (0 : Int) < (y : Int) := of_decide_eq_true c
      walk_at "vc"
      refine ⟨⟨rfl, y, x % y, ?_, by rw [gcd_step]; exact hg⟩, ?_⟩
      · rw [← mcast]; rfl
      · show ((x : Int) % (y : Int)).toNat < (y : Int).toNat
        rw [mcast]
        have := Nat.mod_lt x (y := y) (by walk_at "om")
        walk_at "om"
    · have c' : ¬ (0 : Int) < (y : Int) := of_decide_eq_false (Bool.eq_false_iff.mpr c)
      have y0 : y = 0 := by walk_at "om"
      subst y0
      rw [Nat.gcd_zero_right] at hg
      subst hg
      have gp : 0 < Int.gcd t b := Int.gcd_pos_of_ne_zero_right t (by walk_at "om")
      have cd : CDivB t ((Int.gcd t b : Nat) : Int) := ⟨by walk_at "om", Sz.log (m := 8000) (Sz.of_le hz (by walk_at "om")) (by decide) (by decide)⟩
      walk_at "vc"
      refine r_new (mk := .tup) (by simp) fun p H1 s1 n1 e1 => ?_
      exact k p _ _ H1 s1 e1 (low_pos hb)
  · intro σ H Q Q' h q
    obtain ⟨v, e, i, j, e1, e2, b, e3, q⟩ := q
    exact ⟨v, e, i, j, e1, e2, b, e3, h _ _ q⟩
end

noncomputable def QtAt (H : Hp) (p : Addr) (q : Rat) (n : Nat) : Prop := ∃ t b : Int, H p = some (.tup [.int t, .int b]) ∧ Qt t b q ∧ Sz n t ∧ Sz n b
noncomputable def FrAt (H : Hp) (p : Addr) (q : Rat) (n : Nat) : Prop := ∃ t b : Int, H p = some (.tup [.int t, .int b]) ∧ Fr t b q ∧ Sz n t ∧ Sz n b
noncomputable def SaAt (H : Hp) (p : Addr) (m : Int) (q : Rat) (n : Nat) : Prop := ∃ v : Addr, H p = some (.tup [.int m, .ref v]) ∧ FrAt H v q n ∧ Sz n m
section
variable {H H' : Hp} {p : Addr} {q h : Rat} {m n : Nat} {t : Int}
theorem FrAt.qt (f : FrAt H p q n) : QtAt H p q n := let ⟨t, b, e, f, z⟩ := f; ⟨t, b, e, f.qt, z⟩
theorem QtAt.mono (f : QtAt H p q m) (h : m ≤ n) : QtAt H p q n := let ⟨t, b, e, f, z1, z2⟩ := f; ⟨t, b, e, f, z1.mono h, z2.mono h⟩
theorem FrAt.mono (f : FrAt H p q m) (h : m ≤ n) : FrAt H p q n := let ⟨t, b, e, f, z1, z2⟩ := f; ⟨t, b, e, f, z1.mono h, z2.mono h⟩
theorem SaAt.mono (f : SaAt H p t q m) (h : m ≤ n) : SaAt H p t q n := let ⟨v, e, f, z⟩ := f; ⟨v, e, f.mono h, z.mono h⟩
theorem QtAt.up (f : QtAt H p q n) (s : Same H H') : QtAt H' p q n := let ⟨t, b, e, f⟩ := f; ⟨t, b, s _ _ e, f⟩
theorem FrAt.up (f : FrAt H p q n) (s : Same H H') : FrAt H' p q n := let ⟨t, b, e, f⟩ := f; ⟨t, b, s _ _ e, f⟩
theorem SaAt.up (f : SaAt H p t q n) (s : Same H H') : SaAt H' p t q n := let ⟨v, e, f, z⟩ := f; ⟨v, s _ _ e, f.up s, z⟩
theorem FrAt.den (f : FrAt H p q n) : ∃ t b : Int, Den H (.ref p) (.tuple [.int t, .int b]) ∧ Fr t b q := let ⟨t, b, e, f, _⟩ := f; ⟨t, b, .tup e (.cons (.int _) (.cons (.int _) .nil)), f⟩
end
noncomputable def spTwo (f : Rat → Rat → Rat) (k : Nat) : Sp := fun vs H Q _ => ∃ (p r : Addr) (q q' : Rat) (m n : Nat), vs = [.ref p, .ref r] ∧ QtAt H p q m ∧ QtAt H r q' n ∧ m + n ≤ 100000 ∧ ∀ (s : Addr) (H' : Hp), Same H H' → QtAt H' s (f q q') (m + n + k) → Q (.ref s) H'
noncomputable def spLslope : Sp := fun vs H Q _ => ∃ (p r : Addr) (t t' : Int) (q q' : Rat) (n : Nat), vs = [.ref p, .ref r] ∧ SaAt H p t q n ∧ SaAt H r t' q' n ∧ t ≠ t' ∧ n ≤ 2000 ∧ ∀ (s : Addr) (H' : Hp), Same H H' → QtAt H' s ((q' - q) / ((t' - t : Int) : Rat)) (4 * n + 3) → Q (.ref s) H'
section
variable {P : Program} {w : World} {K : PySem.W.Frag} {mg : Str → Option Value} {base : Heap} {f : Addr} {fd : FuncData}
theorem sc_loose_plus : FnScope ["one", "other"] ["one", "other"] (defScope s_loose_plus) := ⟨rfl, rfl, rfl, by decide +kernel, rfl, by decide +kernel, by decide +kernel⟩
theorem ok_loose_plus (F : Fun K "loose_plus" "loose_plus" s_loose_plus f fd) : FnOk P w K mg base CX0 1 f fd ["one", "other"] (spTwo (· + ·) 1) := by
  refine F.ok sc_loose_plus (fun vs H Q E h => ?_) (fun cdv A outer s H vs Q E hr h => ?_)
  · obtain ⟨p, r, q, q', m, n, rfl, _⟩ := h
    rfl
  obtain ⟨p, r, q, q', m, n, rfl, ⟨a, b, hp, hq, za, zb⟩, ⟨c, d, hr', hq', zc, zd⟩, hn, k⟩ := h
  refine Jd.go ⟨_, (Jd.pss_one (Jd.ps_ret (Jd.pe_tup (Jd.pa_cons (Jd.pe_op op_add (Jd.pe_op op_mulB (Jd.pe_ix (ixT K) (Jd.pv 0) Jd.pe_int (fun _ _ => rfl)) (Jd.pe_ix (ixT K) (Jd.pv 1) Jd.pe_int (fun _ _ => rfl))) (Jd.pe_op op_mulB (Jd.pe_ix (ixT K) (Jd.pv 1) Jd.pe_int (fun _ _ => rfl)) (Jd.pe_ix (ixT K) (Jd.pv 0) Jd.pe_int (fun _ _ => rfl)))) (Jd.pa_cons (Jd.pe_op op_mulB (Jd.pe_ix (ixT K) (Jd.pv 0) Jd.pe_int (fun _ _ => rfl)) (Jd.pe_ix (ixT K) (Jd.pv 1) Jd.pe_int (fun _ _ => rfl))) Jd.pa_nil st_B) st_B)))), ?_⟩
  walk_at "vc"
  refine r_I (mulOk za zd (by walk_at "om")) ?_
  walk_at "vc"
  refine r_I (mulOk zc zb (by walk_at "om")) ?_
  walk_at "vc"
  refine r_I (mulOk zb zd (by walk_at "om")) ?_
  walk_at "vc"
  refine r_new (mk := .tup) (by simp) fun x H1 s1 n1 e1 => ?_
  exact k x H1 s1 ⟨_, _, e1, hq.plus hq', (za.mul zd).add ((zc.mul zb).mono (by walk_at "om")), (zb.mul zd).mono (by walk_at "om")⟩
theorem sc_loose_minus : FnScope ["one", "other"] ["one", "other"] (defScope s_loose_minus) := ⟨rfl, rfl, rfl, by decide +kernel, rfl, by decide +kernel, by decide +kernel⟩
theorem ok_loose_minus (F : Fun K "loose_minus" "loose_minus" s_loose_minus f fd) : FnOk P w K mg base CX0 1 f fd ["one", "other"] (spTwo (· - ·) 1) := by
  refine F.ok sc_loose_minus (fun vs H Q E h => ?_) (fun cdv A outer s H vs Q E hr h => ?_)
  · obtain ⟨p, r, q, q', m, n, rfl, _⟩ := h
    rfl
  obtain ⟨p, r, q, q', m, n, rfl, ⟨a, b, hp, hq, za, zb⟩, ⟨c, d, hr', hq', zc, zd⟩, hn, k⟩ := h
  refine Jd.go ⟨_, (Jd.pss_one (Jd.ps_ret (Jd.pe_tup (Jd.pa_cons (Jd.pe_op op_sub (Jd.pe_op op_mulB (Jd.pe_ix (ixT K) (Jd.pv 0) Jd.pe_int (fun _ _ => rfl)) (Jd.pe_ix (ixT K) (Jd.pv 1) Jd.pe_int (fun _ _ => rfl))) (Jd.pe_op op_mulB (Jd.pe_ix (ixT K) (Jd.pv 1) Jd.pe_int (fun _ _ => rfl)) (Jd.pe_ix (ixT K) (Jd.pv 0) Jd.pe_int (fun _ _ => rfl)))) (Jd.pa_cons (Jd.pe_op op_mulB (Jd.pe_ix (ixT K) (Jd.pv 0) Jd.pe_int (fun _ _ => rfl)) (Jd.pe_ix (ixT K) (Jd.pv 1) Jd.pe_int (fun _ _ => rfl))) Jd.pa_nil st_B) st_B)))), ?_⟩
  walk_at "vc"
  refine r_I (mulOk za zd (by walk_at "om")) ?_
  walk_at "vc"
  refine r_I (mulOk zc zb (by walk_at "om")) ?_
  walk_at "vc"
  refine r_I (mulOk zb zd (by walk_at "om")) ?_
  walk_at "vc"
  refine r_new (mk := .tup) (by simp) fun x H1 s1 n1 e1 => ?_
  exact k x H1 s1 ⟨_, _, e1, hq.minus hq', (za.mul zd).sub ((zc.mul zb).mono (by walk_at "om")), (zb.mul zd).mono (by walk_at "om")⟩
end

theorem one_sz {n : Nat} (h : 1 ≤ n) : Sz n 1 := by
  have : (2 : Nat) ^ 1 ≤ 2 ^ n := Nat.pow_le_pow_right (by decide) h
  show Int.natAbs 1 < 2 ^ n
  have e : Int.natAbs 1 = 1 := rfl
  walk_at "om"
section
variable {P : Program} {w : World} {K : PySem.W.Frag} {mg : Str → Option Value} {base : Heap} {f : Addr} {fd : FuncData}
theorem sc_loose_slope : FnScope ["one", "other", "rise", "step"] ["one", "other"] (defScope s_loose_slope) := ⟨rfl, rfl, rfl, by decide +kernel, rfl, by decide +kernel, by decide +kernel⟩
theorem ok_loose_slope (F : Fun K "loose_slope" "loose_slope" s_loose_slope f fd) (D_loose_minus : Dn P w K mg base 1 "loose_minus" ["one", "other"] (spTwo (· - ·) 1)) : FnOk P w K mg base CX0 3 f fd ["one", "other"] spLslope := by
  refine F.ok sc_loose_slope (fun vs H Q E h => ?_) (fun cdv A outer s H vs Q E hr h => ?_)
  · obtain ⟨p, r, t, t', q, q', n, rfl, _⟩ := h
    rfl
  obtain ⟨p, r, t, t', q, q', n, rfl, ⟨v, hp, hv, zt⟩, ⟨v', hr', hv', zt'⟩, ht, hn, k⟩ := h
  refine Jd.go ⟨_, (Jd.pss_cons (Jd.ps_set (i := 2) sc_loose_slope.nd rfl (Or.inl rfl) (Jd.pe_dn D_loose_minus (hr.mono (by decide)) rfl (Jd.pa_cons (Jd.pe_ix (ixT K) (Jd.pv 1) Jd.pe_int (fun _ _ => rfl)) (Jd.pa_cons (Jd.pe_ix (ixT K) (Jd.pv 0) Jd.pe_int (fun _ _ => rfl)) Jd.pa_nil st_S) st_S) (he := st_S) (hpl := (anyc st_S any0))) (hs := sw_K))
      (Jd.pss_cons (Jd.ps_set (i := 3) sc_loose_slope.nd rfl (Or.inl rfl) (Jd.pe_op op_sub (Jd.pe_ix (ixT K) (Jd.pv 1) Jd.pe_int (fun _ _ => rfl)) (Jd.pe_ix (ixT K) (Jd.pv 0) Jd.pe_int (fun _ _ => rfl))) (hs := sw_B))
      (Jd.pss_cons (Jd.ps_if (Jd.pt_cmpR op_lt (Jd.pv 3) Jd.pe_int (nomark _))
      (Jd.pss_one (Jd.ps_ret (Jd.pe_tup (Jd.pa_cons (Jd.pe_un un_neg (Jd.pe_ix (ixT K) (Jd.pv 2) Jd.pe_int (fun _ _ => rfl))) (Jd.pa_cons (Jd.pe_op op_mulB (Jd.pe_ix (ixT K) (Jd.pv 2) Jd.pe_int (fun _ _ => rfl)) (Jd.pe_un un_neg (Jd.pv 3))) Jd.pa_nil st_B) st_U))))
      Jd.pss_nil)
      (Jd.pss_one (Jd.ps_ret (Jd.pe_tup (Jd.pa_cons (Jd.pe_ix (ixT K) (Jd.pv 2) Jd.pe_int (fun _ _ => rfl)) (Jd.pa_cons (Jd.pe_op op_mulB (Jd.pe_ix (ixT K) (Jd.pv 2) Jd.pe_int (fun _ _ => rfl)) (Jd.pv 3)) Jd.pa_nil st_B) st_S))))))), ?_⟩
  walk_at "vc"
  refine ⟨v', v, q', q, n, n, rfl, hv'.qt, hv.qt, by walk_at "om", fun x H1 s1 e1 => ?_⟩
  obtain ⟨a, b, hx, hq, za, zb⟩ := e1
  have hp1 := s1 _ _ hp
  have hr1 := s1 _ _ hr'
  have zs : Sz (n + 1) (t' - t) := zt'.sub zt
  walk_at "vc"
  refine ite2 (fun c => ?_) (fun c => ?_)
  · have c' : t' - t < 0 := of_decide_eq_true c
    walk_at "vc"
    refine r_I (mulOk zb zs.neg (by walk_at "om")) ?_
    walk_at "vc"
    refine r_new (mk := .tup) (by simp) fun y H2 s2 n2 e2 => ?_
    exact k y H2 (s1.trans s2) ⟨_, _, e2, hq.divN c', za.neg.mono (by walk_at "om"), (zb.mul zs.neg).mono (by walk_at "om")⟩
  · have c' : ¬ t' - t < 0 := of_decide_eq_false (Bool.eq_false_iff.mpr c)
    walk_at "vc"
    refine r_I (mulOk zb zs (by walk_at "om")) ?_
    walk_at "vc"
    refine r_new (mk := .tup) (by simp) fun y H2 s2 n2 e2 => ?_
    exact k y H2 (s1.trans s2) ⟨_, _, e2, hq.div (by walk_at "om"), za.mono (by walk_at "om"), (zb.mul zs).mono (by walk_at "om")⟩
end

noncomputable def spOrderQ : Sp := fun vs H Q _ => ∃ (p r : Addr) (q q' : Rat) (m n : Nat), vs = [.ref p, .ref r] ∧ QtAt H p q m ∧ QtAt H r q' n ∧ m + n ≤ 100000 ∧ ∀ o : Int, (0 < o ↔ q' < q) → (o < 0 ↔ q < q') → Q (.int o) H
section
variable {P : Program} {w : World} {K : PySem.W.Frag} {mg : Str → Option Value} {base : Heap} {f : Addr} {fd : FuncData}
theorem sc_order : FnScope ["one", "other", "left", "right"] ["one", "other"] (defScope s_order) := ⟨rfl, rfl, rfl, by decide +kernel, rfl, by decide +kernel, by decide +kernel⟩
theorem ok_order (F : Fun K "order" "order" s_order f fd) : FnOk P w K mg base CX0 1 f fd ["one", "other"] spOrderQ := by
  refine F.ok sc_order (fun vs H Q E h => ?_) (fun cdv A outer s H vs Q E hr h => ?_)
  · obtain ⟨p, r, q, q', m, n, rfl, _⟩ := h
    rfl
  obtain ⟨p, r, q, q', m, n, rfl, ⟨a, b, hp, hq, za, zb⟩, ⟨c, d, hr', hq', zc, zd⟩, hn, k⟩ := h
  have l1 := hq.lt_iff hq'
  have l2 := hq'.lt_iff hq
  refine Jd.go ⟨_, (Jd.pss_cons (Jd.ps_set (i := 2) sc_order.nd rfl (Or.inl rfl) (Jd.pe_op op_mulB (Jd.pe_ix (ixT K) (Jd.pv 0) Jd.pe_int (fun _ _ => rfl)) (Jd.pe_ix (ixT K) (Jd.pv 1) Jd.pe_int (fun _ _ => rfl))) (hs := sw_B))
      (Jd.pss_cons (Jd.ps_set (i := 3) sc_order.nd rfl (Or.inl rfl) (Jd.pe_op op_mulB (Jd.pe_ix (ixT K) (Jd.pv 1) Jd.pe_int (fun _ _ => rfl)) (Jd.pe_ix (ixT K) (Jd.pv 0) Jd.pe_int (fun _ _ => rfl))) (hs := sw_B))
      (Jd.pss_cons (Jd.ps_if (Jd.pt_cmpR op_lt (Jd.pv 2) (Jd.pv 3) (nomark _))
      (Jd.pss_one (Jd.ps_ret (Jd.pe_un un_neg Jd.pe_int)))
      Jd.pss_nil)
      (Jd.pss_cons (Jd.ps_if (Jd.pt_cmpR op_gt (Jd.pv 2) (Jd.pv 3) (nomark _))
      (Jd.pss_one (Jd.ps_ret Jd.pe_int))
      Jd.pss_nil)
      (Jd.pss_one (Jd.ps_ret Jd.pe_int)))))), ?_⟩
  walk_at "vc"
  refine r_I (mulOk za zd (by walk_at "om")) ?_
  walk_at "vc"
  refine r_I (mulOk zc zb (by walk_at "om")) ?_
  walk_at "vc"
  refine ite2 (fun c1 => ?_) (fun c1 => ?_)
  · have c' := of_decide_eq_true c1
    walk_at "vc"
    have x1 := l1.mp c'
    exact k _ ⟨fun z => absurd z (by decide), fun z => by grind⟩ ⟨fun _ => x1, fun _ => by decide⟩
  · have c' := of_decide_eq_false (Bool.eq_false_iff.mpr c1)
    walk_at "vc"
    refine ite2 (fun c2 => ?_) (fun c2 => ?_)
    · have c'' := of_decide_eq_true c2
      walk_at "vc"
      have x1 := l2.mp c''
      exact k _ ⟨fun _ => x1, fun _ => by decide⟩ ⟨fun z => absurd z (by decide), fun z => by grind⟩
    · have c'' := of_decide_eq_false (Bool.eq_false_iff.mpr c2)
      walk_at "vc"
      exact k _ ⟨fun z => absurd z (by decide), fun z => absurd (l2.mpr z) c''⟩ ⟨fun z => absurd z (by decide), fun z => absurd (l1.mpr z) c'⟩
end
section
variable {P : Program} {w : World} {K : PySem.W.Frag} {mg : Str → Option Value} {base : Heap} {f : Addr} {fd : FuncData}
end

theorem pickP {zs : List Int} {i : Int} (P : Int → Prop) (hz : ∀ z ∈ zs, P z) (h0 : 0 ≤ i) (h1 : i < (zs.length : Int)) : ∃ v : Int, atI (zs.map V.int) i = some (.int v) ∧ P v := by
  have hk : i.toNat < zs.length := by walk_at "om"
  exact ⟨zs[i.toNat], at_ints (List.getElem?_eq_getElem hk) (by walk_at "om"), hz _ (List.getElem_mem hk)⟩
theorem row_get {xs zs : List Int} (hlen : xs.length = zs.length) (hxs : ∀ (j : Nat) (x z : Int), xs[j]? = some x → zs[j]? = some z → 0 ≤ x ∧ x < z) (j : Nat) {z : Int} (ez : zs[j]? = some z) : ∃ x, xs[j]? = some x ∧ 0 ≤ x ∧ x < z := by
  have hj := (List.getElem?_eq_some_iff.mp ez).1
  rw [← hlen] at hj
  exact ⟨xs[j], List.getElem?_eq_getElem hj, hxs j _ z (List.getElem?_eq_getElem hj) ez⟩
theorem of_low' {T B t b : Int} (h : Low T B t b) (hB : B ≠ 0) : Fr t b ((T : Rat) / (B : Rat)) := by
  refine Fr.of_low h hB ?_
  have := cast_ne hB
  grind
theorem r_unpack2 {σ : St} {H : Hp} {K : PySem.W.Frag} {p : Addr} {x y : V} {i j : Nat} {R : St → Hp → Prop} (h : H p = some (.tup [x, y])) (q : R ((σ.set i (some x)).set j (some y)) H) : gTup K 2 (gCons (gName i) (gCons (gName j) gNil)) (.ref p) σ H R :=
  ⟨p, _, rfl, SqT.of h, rfl, x, _, rfl, y, _, rfl, rfl, q⟩

noncomputable abbrev En := Addr × Int × Option Rat
noncomputable def EnAt (H : Hp) (x : En) (n : Nat) : Prop := Sz n x.2.1 ∧ match x.2.2 with
  | none => H x.1 = some (.tup [.int x.2.1, .non])
  | some q => ∃ p, H x.1 = some (.tup [.int x.2.1, .ref p]) ∧ FrAt H p q n
theorem EnAt.up {H H' : Hp} {x : En} {n : Nat} (f : EnAt H x n) (s : Same H H') : EnAt H' x n := by
  obtain ⟨a, m, v⟩ := x
  cases v with
  | none => exact ⟨f.1, s _ _ f.2⟩
  | some q => exact ⟨f.1, let ⟨p, e, g⟩ := f.2; ⟨p, s _ _ e, g.up s⟩⟩
theorem EnAt.rm {H : Hp} {D : Addr} {x : En} {n : Nat} {ys : List V} (hD : H D = some (.lst ys)) (f : EnAt H x n) : EnAt (rm D H) x n := by
  obtain ⟨a, m, v⟩ := x
  cases v with
  | none => exact ⟨f.1, rm_tup hD f.2⟩
  | some q =>
    obtain ⟨z, p, e, t, b, et, g⟩ := f
    exact ⟨z, p, rm_tup hD e, t, b, rm_tup hD et, g⟩
theorem EnAt.obj {H : Hp} {x : En} {n : Nat} (f : EnAt H x n) : ∃ v, H x.1 = some (.tup [.int x.2.1, v]) ∧ (decide (v = .non) = !x.2.2.isSome) ∧ (v = .non ∨ ∃ p q, v = .ref p ∧ x.2.2 = some q ∧ FrAt H p q n) := by
  obtain ⟨a, m, v⟩ := x
  cases v with
  | none => exact ⟨.non, f.2, rfl, .inl rfl⟩
  | some q =>
    obtain ⟨z, p, e, g⟩ := f
    exact ⟨.ref p, e, rfl, .inr ⟨p, q, rfl, rfl, g⟩⟩
noncomputable def Row (H : Hp) (es : List En) (n : Nat) : Prop := ∀ x ∈ es, EnAt H x n
theorem Row.up {H H' : Hp} {es : List En} {n : Nat} (h : Row H es n) (s : Same H H') : Row H' es n := fun x hx => (h x hx).up s
theorem Row.rm {H : Hp} {D : Addr} {es : List En} {n : Nat} {ys : List V} (hD : H D = some (.lst ys)) (h : Row H es n) : Row (rm D H) es n := fun x hx => (h x hx).rm hD
theorem Row.snoc {H : Hp} {es : List En} {x : En} {n : Nat} (h : Row H es n) (hx : EnAt H x n) : Row H (es ++ [x]) n := fun y hy => by
  rcases List.mem_append.mp hy with z | z
  · exact h y z
  · obtain rfl : y = x := by simpa using z
    exact hx
noncomputable def vals (es : List En) : List V := es.map fun x => V.ref x.1
theorem vals_at {es : List En} {i : Nat} {v : V} (h : (vals es)[i]? = some v) : ∃ x, es[i]? = some x ∧ v = .ref x.1 := by
  unfold vals at h
  rw [List.getElem?_map] at h
  cases e : es[i]? with
  | none => rw [e] at h; cases h
  | some x => rw [e] at h; cases h; exact ⟨x, rfl, rfl⟩
theorem vals_get {es : List En} {i : Nat} {x : En} (h : es[i]? = some x) : (vals es)[i]? = some (.ref x.1) := by
  unfold vals
  rw [List.getElem?_map, h]
  rfl
theorem vals_len (es : List En) : (vals es).length = es.length := List.length_map ..
theorem vals_snoc (es : List En) (x : En) : vals es ++ [.ref x.1] = vals (es ++ [x]) := by simp [vals]
noncomputable def dat (v : Int × Option Rat) : PyData := .tuple [.int v.1, match v.2 with | none => .none | some q => .tuple [.int q.num, .int (q.den : Int)]]
theorem EnAt.den {H : Hp} {x : En} {n : Nat} (f : EnAt H x n) : Den H (.ref x.1) (dat x.2) := by
  obtain ⟨a, m, v⟩ := x
  cases v with
  | none => exact .tup f.2 (.cons (.int _) (.cons .non .nil))
  | some q =>
    obtain ⟨z, p, e, t, b, et, g, _⟩ := f
    obtain ⟨rfl, rfl⟩ := g.num_den
    exact .tup e (.cons (.int _) (.cons (.tup et (.cons (.int _) (.cons (.int _) .nil))) .nil))
theorem Row.dens {H : Hp} : ∀ {es : List En} {n : Nat}, Row H es n → Dens H (vals es) (es.map fun x => dat x.2)
  | [], _, _ => .nil
  | x :: es, n, h => .cons (h x List.mem_cons_self).den (Row.dens fun y hy => h y (List.mem_cons_of_mem _ hy))
theorem dat_eqv (v : Int × Option Rat) : PyData.eqv (dat v) (dat v) = true := by
  obtain ⟨m, v⟩ := v
  cases v with
  | none =>
    show (m == m && (true && true)) = true
    simp
  | some q =>
    show (m == m && ((q.num == q.num && ((q.den : Int) == (q.den : Int) && true)) && true)) = true
    simp
theorem dats_eqv : ∀ vs : List (Int × Option Rat), PyData.eqvAll (vs.map dat) (vs.map dat) = true
  | [] => rfl
  | v :: vs => by
    show (PyData.eqv (dat v) (dat v) && PyData.eqvAll (vs.map dat) (vs.map dat)) = true
    rw [dat_eqv, dats_eqv vs]; rfl
theorem dat_shape : ∀ v : Int × Option Rat, (dat v).canLay0 = true ∧ (dat v).depth ≤ 3 := by
  intro ⟨m, v⟩
  cases v with
  | none => exact ⟨by rfl, by show _ ≤ _; simp [dat, PyData.depth, PyData.depthAll]⟩
  | some q => exact ⟨by rfl, by show _ ≤ _; simp [dat, PyData.depth, PyData.depthAll]⟩
theorem dats_shape : ∀ vs : List (Int × Option Rat), PyData.canLayAll0 (vs.map dat) = true ∧ PyData.depthAll (vs.map dat) ≤ 3
  | [] => ⟨rfl, by decide⟩
  | v :: vs => by
    obtain ⟨a, b⟩ := dat_shape v
    obtain ⟨c, d⟩ := dats_shape vs
    refine ⟨?_, ?_⟩
    · show ((dat v).canLay0 && PyData.canLayAll0 (vs.map dat)) = true
      rw [a, c]; rfl
    · show max (dat v).depth (PyData.depthAll (vs.map dat)) ≤ 3
      walk_at "om"
theorem row_shaped (vs : List (Int × Option Rat)) : SeqAt.shaped (.list (vs.map dat)) = true := by
  obtain ⟨a, b⟩ := dats_shape vs
  unfold SeqAt.shaped
  rw [Bool.and_eq_true]
  refine ⟨a, decide_eq_true ?_⟩
  show PyData.depthAll (vs.map dat) + 1 ≤ 64
  walk_at "om"
theorem Row.list_den {H : Hp} {l : Addr} {es : List En} {n : Nat} (h : Row H es n) (hl : H l = some (.lst (vals es))) : Den H (.ref l) (.list ((es.map (·.2)).map dat)) := by
  have := h.dens
  rw [show (es.map fun x => dat x.2) = (es.map (·.2)).map dat by rw [List.map_map]; rfl] at this
  exact .lst hl this
theorem rows_eq {H : Hp} {l l' : Addr} {es es' : List En} {n n' : Nat} {Q : VK} (h : Row H es n) (h' : Row H es' n') (hl : H l = some (.lst (vals es))) (hl' : H l' = some (.lst (vals es'))) (e : es.map (·.2) = es'.map (·.2)) (q : Q (.bl true) H) :
    rEqD (.ref l) (.ref l') H Q := by
  refine ⟨_, _, h.list_den hl, h'.list_den hl', row_shaped _, row_shaped _, ?_⟩
  rw [e]
  have : PyData.eqv (.list ((es'.map (·.2)).map dat)) (.list ((es'.map (·.2)).map dat)) = true := dats_eqv _
  rw [this]
  exact q
theorem EnAt.app {H : Hp} {R : Addr} {x : En} {n : Nat} {ys : List V} {o : HO} (f : EnAt H x n) (h : H R = some (.lst ys)) : EnAt (upd H R o) x n := (f.rm h).up (rm_up R H o)
theorem Row.app {H : Hp} {R : Addr} {es : List En} {n : Nat} {ys : List V} {o : HO} (f : Row H es n) (h : H R = some (.lst ys)) : Row (upd H R o) es n := (f.rm h).up (rm_up R H o)
noncomputable def rising (es : List En) : Prop := es.Pairwise fun a b => a.2.1 < b.2.1
theorem frac_gen {T B : Int} {n : Nat} {H : Hp} {Q : VK} (hB : 0 < B) (zT : Sz n T) (zB : Sz n B) (hn : n ≤ 8000) (kk : ∀ (p : Addr) (H' : Hp), Same H H' → FrAt H' p ((T : Rat) / (B : Rat)) n → Q (.ref p) H') : spRatio ([.int T, .int B] ++ []) H Q E0 :=
  ⟨_, _, rfl, hB, zB.mono hn, fun p t b H' s e lo => kk p H' s ⟨t, b, e, of_low' lo (by walk_at "om"), zT.of_le lo.tb, zB.of_le lo.bb⟩⟩
section
variable {P : Program} {w : World} {K : PySem.W.Frag} {mg : Str → Option Value} {base : Heap} {f : Addr} {fd : FuncData}
end

noncomputable def smp (x : En) : Bool := x.2.2.isSome
noncomputable abbrev Ls := List (Addr × List En)
noncomputable def lrefs (ls : Ls) : List V := ls.map fun x => V.ref x.1
theorem lrefs_at {ls : Ls} {i : Nat} {v : V} (h : (lrefs ls)[i]? = some v) : ∃ x, ls[i]? = some x ∧ v = .ref x.1 := by
  unfold lrefs at h
  rw [List.getElem?_map] at h
  cases e : ls[i]? with
  | none => rw [e] at h; cases h
  | some x => rw [e] at h; cases h; exact ⟨x, rfl, rfl⟩
theorem lrefs_len (ls : Ls) : (lrefs ls).length = ls.length := List.length_map ..
structure LL (H H2 : Hp) (T : Addr) (ls : Ls) : Prop where
  new : H T = none
  at_ : H2 T = some (.lst (lrefs ls))
  each : ∀ x ∈ ls, H x.1 = none ∧ H2 x.1 = some (.lst (vals x.2)) ∧ x.1 ≠ T
  nd : (ls.map (·.1)).Nodup
section
variable {H H2 H3 : Hp} {T R : Addr} {ls : Ls} {o : HO} {rn : List En}
theorem LL.up (h : LL H H2 T ls) (s : Same H2 H3) : LL H H3 T ls := ⟨h.new, s _ _ h.at_, fun x hx => let ⟨a, b, c⟩ := h.each x hx; ⟨a, s _ _ b, c⟩, h.nd⟩
theorem LL.other (h : LL H H2 T ls) (hT : R ≠ T) (hl : ∀ x ∈ ls, x.1 ≠ R) : LL H (upd H2 R o) T ls :=
  ⟨h.new, by rw [upd_ne (Ne.symm hT)]; exact h.at_, fun x hx => let ⟨a, b, c⟩ := h.each x hx; ⟨a, by rw [upd_ne (hl x hx)]; exact b, c⟩, h.nd⟩
theorem LL.push (h : LL H H2 T ls) (hR : H R = none) (eR : H2 R = some (.lst (vals rn))) (hT : R ≠ T) (hl : ∀ x ∈ ls, x.1 ≠ R) : LL H (upd H2 T (.lst (lrefs ls ++ [.ref R]))) T (ls ++ [(R, rn)]) := by
  refine ⟨h.new, by rw [upd_same]; simp [lrefs], fun x hx => ?_, ?_⟩
  · rcases List.mem_append.mp hx with z | z
    · obtain ⟨a, b, c⟩ := h.each x z
      exact ⟨a, by rw [upd_ne c]; exact b, c⟩
    · obtain rfl : x = (R, rn) := by simpa using z
      exact ⟨hR, by rw [upd_ne hT]; exact eR, hT⟩
  · rw [List.map_append]
    refine List.nodup_append.mpr ⟨h.nd, by simp, fun a ha b hb => ?_⟩
    obtain ⟨x, hx, rfl⟩ := List.mem_map.mp ha
    obtain rfl : b = R := by simpa using hb
    exact hl x hx
theorem LL.last {L : Addr} {c : List En} {x : En} (h : LL H H2 T (ls ++ [(L, c)])) : LL H (upd H2 L (.lst (vals c ++ [.ref x.1]))) T (ls ++ [(L, c ++ [x])]) := by
  obtain ⟨hL, eL, nL⟩ := h.each (L, c) (by simp)
  have hnd := h.nd
  rw [List.map_append] at hnd
  have hne : ∀ y ∈ ls, y.1 ≠ L := fun y hy z => (List.nodup_append.mp hnd).2.2 y.1 (List.mem_map.mpr ⟨y, hy, rfl⟩) L (by simp) z
  refine ⟨h.new, ?_, fun y hy => ?_, by rw [List.map_append]; exact hnd⟩
  · rw [upd_ne (Ne.symm nL)]
    have := h.at_
    simpa [lrefs] using this
  · rcases List.mem_append.mp hy with z | z
    · obtain ⟨a, b, c'⟩ := h.each y (List.mem_append_left _ z)
      exact ⟨a, by rw [upd_ne (hne y z)]; exact b, c'⟩
    · obtain rfl : y = (L, c ++ [x]) := by simpa using z
      exact ⟨hL, by rw [upd_same, vals_snoc], nL⟩
end
theorem at_last {α : Type} {xs : List α} {x : α} : atI (xs ++ [x]) (-1) = some x := by
  unfold atI
  rw [ix_last (m := xs.length) (by simp)]
  simp
noncomputable def spRuns : Sp := fun vs H Q _ => ∃ (l : Addr) (es : List En) (n : Nat), vs = [.ref l] ∧ H l = some (.lst (vals es)) ∧ Row H es n ∧ es.length ≤ 40 ∧
  ∀ (T : Addr) (ls : Ls) (H' : Hp), Same H H' → LL H H' T ls → ls.map (·.2) = parts smp es es.length → ls.length ≤ 40 → (∀ x ∈ ls, x.2.length ≤ 40) → Q (.ref T) H'
section
variable {P : Program} {w : World} {K : PySem.W.Frag} {mg : Str → Option Value} {base : Heap} {f : Addr} {fd : FuncData}
theorem sc_runs : FnScope ["row", "told", "run", "entry"] ["row"] (defScope s_runs) := ⟨rfl, rfl, rfl, by decide +kernel, rfl, by decide +kernel, by decide +kernel⟩
theorem ok_runs (F : Fun K "runs" "runs" s_runs f fd) (T : Txt mg) : FnOk P w K mg base CX0 1 f fd ["row"] spRuns := by
  refine F.ok sc_runs (fun vs H Q E h => ?_) (fun cdv A outer s H vs Q E hr h => ?_)
  · obtain ⟨l, es, n, rfl, _⟩ := h
    rfl
  obtain ⟨l, es, n, rfl, hl, hes, hn, k⟩ := h
  refine Jd.go ⟨_, (Jd.pss_cons (Jd.ps_set (i := 1) sc_runs.nd rfl (Or.inl rfl) (Jd.pe_lst Jd.pa_nil) (hs := sw_L))
      (Jd.pss_cons (Jd.ps_set (i := 2) sc_runs.nd rfl (Or.inl rfl) (Jd.pe_lst Jd.pa_nil) (hs := sw_L))
      (Jd.pss_cons (Jd.ps_for PassesOwn.never rfl (Jd.piL K (Jd.pv 0)) (Jd.pg_name (i := 3) sc_runs.nd rfl (Or.inl rfl))
      (Jd.pss_one (Jd.ps_if (Jd.pt_cmpR op_notN (Jd.pe_ix (ixT K) (Jd.pv 3) Jd.pe_int (fun _ _ => rfl)) Jd.pe_non (nomark _))
      (Jd.pss_one (Jd.ps_expr (Jd.appC K (Jd.pv 2) (Jd.pv 3)) (hs := sw_K)))
      (Jd.pss_one (Jd.ps_if (Jd.pt_cmpR op_gt (Jd.pe_callB (lenC K) rfl T.len_ PySem.boot_len (Jd.pa_cons (Jd.pv 2) Jd.pa_nil st_N) (he := st_N) (hpl := any0)) Jd.pe_int (nomark _))
      (Jd.pss_cons (Jd.ps_expr (Jd.appC K (Jd.pv 1) (Jd.pv 2)) (hs := sw_K))
      (Jd.pss_one (Jd.ps_set (i := 2) sc_runs.nd rfl (Or.inl rfl) (Jd.pe_lst Jd.pa_nil) (hs := sw_L))))
      Jd.pss_nil)))))
      (Jd.pss_cons (Jd.ps_if (Jd.pt_cmpR op_gt (Jd.pe_callB (lenC K) rfl T.len_ PySem.boot_len (Jd.pa_cons (Jd.pv 2) Jd.pa_nil st_N) (he := st_N) (hpl := any0)) Jd.pe_int (nomark _))
      (Jd.pss_one (Jd.ps_expr (Jd.appC K (Jd.pv 1) (Jd.pv 2)) (hs := sw_K)))
      Jd.pss_nil)
      (Jd.pss_one (Jd.ps_ret (Jd.pv 1))))))), ?_⟩
  walk_at "vc"
  refine r_new (mk := .lst) (by simp) fun TT H1 s1 n1 e1 => ?_
  walk_at "vc"
  refine r_new (mk := .lst) (by simp) fun R0 H2 s2 n2 e2 => ?_
  walk_at "vc"
  refine r_for (r_iL ?_)
  walk_at "vc"
  have s02 := s1.trans s2
  refine ⟨l, rfl, ⟨_, SqL.of (s02 _ _ hl)⟩, for_list (xs := vals es) (fun i σ H3 => ∃ (R : Addr) (ls : Ls) (rn : List En) (v : Option V), σ = [some (.ref l), some (.ref TT), some (.ref R), v] ∧ Same H H3 ∧ LL H H3 TT ls ∧ H R = none ∧ H3 R = some (.lst (vals rn)) ∧ R ≠ TT ∧ (∀ x ∈ ls, x.1 ≠ R) ∧
    (inRun smp es i = true → parts smp es i = ls.map (·.2) ++ [rn] ∧ rn ≠ []) ∧ (inRun smp es i = false → parts smp es i = ls.map (·.2) ∧ rn = []) ∧ rn.length ≤ i ∧ ls.length ≤ i ∧ (∀ x ∈ ls, x.2.length ≤ 40)) ?_ ?_ ?_ ?_⟩
  · refine ⟨R0, [], [], none, rfl, s02, ⟨n1, s2 _ _ e1, fun x hx => absurd hx (by simp), List.nodup_nil⟩, s1.free n2, e2, fun z => ?_, fun x hx => absurd hx (by simp), fun z => absurd z (by simp [inRun]), fun _ => ⟨rfl, rfl⟩, Nat.le_refl _, Nat.le_refl _, fun x hx => absurd hx (by simp)⟩
    rw [z] at n2
    rw [e1] at n2
    cases n2
  · rintro i σ H3 _ ⟨R, ls, rn, v, rfl, s3, _⟩
    exact SqL.of (s3 _ _ hl)
  · rintro i x σ H3 hx ⟨R, ls, rn, v, rfl, s3, hL, hR, eR, nR, hne, hp1, hp2, lr, ll, lx⟩
    obtain ⟨e, he, rfl⟩ := vals_at hx
    have hi : i < es.length := (List.getElem?_eq_some_iff.mp he).1
    obtain ⟨u, ee, du, _⟩ := ((hes e (List.mem_of_getElem? he)).up s3).obj
    have hsu : inRun smp es (i + 1) = smp e := inRun_succ he
    walk_at "vc"
    refine ⟨rfl, ?_⟩
    walk_at "vc"
    rw [du]
    cases hs : e.2.2.isSome with
    | true =>
      have hs' : smp e = true := hs
      refine iteT ?_
      walk_at "vc"
      refine ⟨.inl ⟨rfl, _, SqL.of eR⟩, ?_⟩
      walk_at "vc"
      refine r_app eR (by rw [vals_len]; exact small1000 (by walk_at "om")) ?_
      refine ⟨R, ls, rn ++ [e], _, rfl, same_at s3 hR, hL.other nR (fun x hx => hne x hx), hR, by rw [upd_same, vals_snoc], nR, hne, fun _ => ?_, fun z => absurd (hsu.symm.trans z) (by rw [hs']; decide), by rw [List.length_append]; exact Nat.succ_le_succ lr, by walk_at "om", lx⟩
      refine ⟨?_, by simp⟩
      cases hir : inRun smp es i with
      | true => exact parts_on he hs' hir (hp1 hir).1
      | false =>
        obtain ⟨a, rfl⟩ := hp2 hir
        rw [parts_new he hs' hir, a]
        rfl
    | false =>
      have hs' : smp e = false := hs
      refine iteF ?_
      walk_at "vc"
      refine r_len (.inl (SqL.of eR)) ?_
      walk_at "vc"
      refine ite2 (fun c => ?_) (fun c => ?_)
      · have c' := of_decide_eq_true c
        rw [vals_len] at c'
        have hir : inRun smp es i = true := by
          cases hir : inRun smp es i with
          | true => rfl
          | false =>
            obtain ⟨_, rfl⟩ := hp2 hir
            simp at c'
        walk_at "vc"
        refine ⟨.inl ⟨rfl, _, SqL.of hL.at_⟩, ?_⟩
        walk_at "vc"
        refine r_app hL.at_ (by rw [lrefs_len]; exact small1000 (by walk_at "om")) ?_
        walk_at "vc"
        have hL2 := hL.push hR eR nR hne
        refine r_new (mk := .lst) (by simp) fun R2 H4 s4 n4 e4 => ?_
        have sH : Same H H4 := (same_at s3 hL.new).trans s4
        walk_at "vc"
        refine ⟨R2, ls ++ [(R, rn)], [], _, rfl, sH, hL2.up s4, (same_at s3 hL.new).free n4, e4, fun z => ?_, fun x hx z => ?_, fun z => absurd (hsu.symm.trans z) (by rw [hs']; decide), fun _ => ⟨?_, rfl⟩, Nat.zero_le _, by rw [List.length_append]; exact Nat.succ_le_succ ll, fun x hx => ?_⟩
        · rw [z, hL2.at_] at n4
          cases n4
        · rw [← z, (hL2.each x hx).2.1] at n4
          cases n4
        · rw [parts_gap he hs', (hp1 hir).1, List.map_append]
          rfl
        · rcases List.mem_append.mp hx with z | z
          · exact lx x z
          · obtain rfl : x = (R, rn) := by simpa using z
            show rn.length ≤ 40
            walk_at "om"
      · have c' := of_decide_eq_false (Bool.eq_false_iff.mpr c)
        rw [vals_len] at c'
        have hir : inRun smp es i = false := by
          cases hir : inRun smp es i with
          | false => rfl
          | true =>
            have := List.length_pos_iff.mpr (hp1 hir).2
            walk_at "om"
        obtain ⟨a, rfl⟩ := hp2 hir
        walk_at "vc"
        exact ⟨R, ls, [], _, rfl, s3, hL, hR, eR, nR, hne, fun z => absurd (hsu.symm.trans z) (by rw [hs']; decide), fun _ => ⟨by rw [parts_gap he hs', a], rfl⟩, Nat.zero_le _, by walk_at "om", lx⟩
  · rintro σ H3 ⟨R, ls, rn, v, rfl, s3, hL, hR, eR, nR, hne, hp1, hp2, lr, ll, lx⟩
    rw [vals_len] at hp1 hp2 lr ll
    walk_at "vc"
    refine r_len (.inl (SqL.of eR)) ?_
    walk_at "vc"
    refine ite2 (fun c => ?_) (fun c => ?_)
    · have c' := of_decide_eq_true c
      rw [vals_len] at c'
      have hir : inRun smp es es.length = true := by
        cases hir : inRun smp es es.length with
        | true => rfl
        | false =>
          obtain ⟨_, rfl⟩ := hp2 hir
          simp at c'
      have hlen : (ls ++ [(R, rn)]).length ≤ 40 := by
        have e := parts_len (s := smp) (es := es) es.length
        rw [(hp1 hir).1, List.length_append, List.length_map] at e
        rw [List.length_append]
        simp at e ⊢
        walk_at "om"
      walk_at "vc"
      refine ⟨.inl ⟨rfl, _, SqL.of hL.at_⟩, ?_⟩
      walk_at "vc"
      refine r_app hL.at_ (by rw [lrefs_len]; exact small1000 (by walk_at "om")) ?_
      walk_at "vc"
      refine k TT (ls ++ [(R, rn)]) _ (same_at s3 hL.new) (hL.push hR eR nR hne) ?_ hlen fun x hx => ?_
      · rw [(hp1 hir).1, List.map_append]
        rfl
      · rcases List.mem_append.mp hx with z | z
        · exact lx x z
        · obtain rfl : x = (R, rn) := by simpa using z
          show rn.length ≤ 40
          walk_at "om"
    · have c' := of_decide_eq_false (Bool.eq_false_iff.mpr c)
      rw [vals_len] at c'
      have hir : inRun smp es es.length = false := by
        cases hir : inRun smp es es.length with
        | false => rfl
        | true =>
          have := List.length_pos_iff.mpr (hp1 hir).2
          walk_at "om"
      walk_at "vc"
      exact k TT ls H3 s3 hL (hp2 hir).1.symm (by walk_at "om") lx
end

noncomputable abbrev Nn := Addr × Int × Option Int
noncomputable def nnv : Option Int → V
  | none => .non
  | some n => .int n
noncomputable def NnAt (H : Hp) (x : Nn) (m n : Nat) : Prop := H x.1 = some (.tup [.int x.2.1, nnv x.2.2]) ∧ Sz m x.2.1 ∧ ∀ z, x.2.2 = some z → Sz n z
theorem NnAt.up {H H' : Hp} {x : Nn} {m n : Nat} (f : NnAt H x m n) (s : Same H H') : NnAt H' x m n := ⟨s _ _ f.1, f.2⟩
theorem NnAt.rm {H : Hp} {D : Addr} {x : Nn} {m n : Nat} {ys : List V} (hD : H D = some (.lst ys)) (f : NnAt H x m n) : NnAt (rm D H) x m n := ⟨rm_tup hD f.1, f.2⟩
noncomputable def NRow (H : Hp) (es : List Nn) (m n : Nat) : Prop := ∀ x ∈ es, NnAt H x m n
theorem NRow.up {H H' : Hp} {es : List Nn} {m n : Nat} (h : NRow H es m n) (s : Same H H') : NRow H' es m n := fun x hx => (h x hx).up s
theorem NRow.app {H : Hp} {R : Addr} {es : List Nn} {m n : Nat} {ys : List V} {o : HO} (f : NRow H es m n) (h : H R = some (.lst ys)) : NRow (upd H R o) es m n := fun x hx => ((f x hx).rm h).up (rm_up R H o)
theorem NRow.snoc {H : Hp} {es : List Nn} {x : Nn} {m n : Nat} (h : NRow H es m n) (hx : NnAt H x m n) : NRow H (es ++ [x]) m n := fun y hy => by
  rcases List.mem_append.mp hy with z | z
  · exact h y z
  · obtain rfl : y = x := by simpa using z
    exact hx
noncomputable def nvals (es : List Nn) : List V := es.map fun x => V.ref x.1
theorem nvals_len (es : List Nn) : (nvals es).length = es.length := List.length_map ..
theorem nvals_snoc (es : List Nn) (x : Nn) : nvals es ++ [.ref x.1] = nvals (es ++ [x]) := by simp [nvals]
theorem nvals_at {es : List Nn} {i : Nat} {v : V} (h : (nvals es)[i]? = some v) : ∃ x, es[i]? = some x ∧ v = .ref x.1 := by
  unfold nvals at h
  rw [List.getElem?_map] at h
  cases e : es[i]? with
  | none => rw [e] at h; cases h
  | some x => rw [e] at h; cases h; exact ⟨x, rfl, rfl⟩
noncomputable def nrising (es : List Nn) : Prop := es.Pairwise fun a b => a.2.1 < b.2.1
structure Shp (xs : List Int) (c : Nat) : Prop where
  x0 : xs[0]? = some (c : Int)
  x1 : ∃ x, xs[1]? = some x ∧ 0 ≤ x ∧ x < 4
  x4 : ∃ x, xs[4]? = some x ∧ 0 ≤ x ∧ x < 3
  x5 : ∃ x, xs[5]? = some x ∧ 0 ≤ x ∧ x < 4
  x12 : ∃ x, xs[12]? = some x ∧ 0 ≤ x ∧ x < 3
  each : ∀ k, k < c → ∃ x y z, xs[3 * k + 13]? = some x ∧ xs[3 * k + 14]? = some y ∧ xs[3 * k + 15]? = some z ∧ 0 ≤ x ∧ x < 3 ∧ 0 ≤ y ∧ y < 9 ∧ 0 ≤ z ∧ z < 25
section
variable {P : Program} {w : World} {K : PySem.W.Frag} {mg : Str → Option Value} {base : Heap} {f : Addr} {fd : FuncData}
end

noncomputable def nsm (x : Nn) : Bool := x.2.2.isSome
section
variable {P : Program} {w : World} {K : PySem.W.Frag} {mg : Str → Option Value} {base : Heap} {f : Addr} {fd : FuncData}
end

noncomputable def mo (es : List En) (k : Nat) : Int := ((es[k]?).map (·.2.1)).getD 0
noncomputable def wo (es : List En) (k : Nat) : Rat := ((es[k]?).bind (·.2.2)).getD 0
noncomputable def sd (es : List En) (i k j : Nat) : Rat := wo es k - chord (mo es i) (wo es i) (mo es k) (mo es j) (wo es j)
noncomputable def AllS (es : List En) : Prop := ∀ x ∈ es, smp x = true
theorem sa_at {H : Hp} {es : List En} {n k : Nat} (hR : Row H es n) (hS : AllS es) (hk : k < es.length) : ∃ x, es[k]? = some x ∧ SaAt H x.1 (mo es k) (wo es k) n := by
  have g : es[k]? = some es[k] := List.getElem?_eq_getElem hk
  have hm : es[k] ∈ es := List.getElem_mem hk
  refine ⟨es[k], g, ?_⟩
  have h1 := hR _ hm
  have h2 : (es[k]).2.2.isSome = true := hS _ hm
  unfold mo wo
  rw [g]
  generalize es[k] = x at *
  obtain ⟨a, m, v⟩ := x
  cases v with
  | none => cases h2
  | some q =>
    obtain ⟨z, p, e, f⟩ := h1
    exact ⟨p, e, f, z⟩
theorem mo_lt {es : List En} {i j : Nat} (h : rising es) (hij : i < j) (hj : j < es.length) : mo es i < mo es j := by
  have hi : i < es.length := by walk_at "om"
  unfold mo
  rw [List.getElem?_eq_getElem hi, List.getElem?_eq_getElem hj]
  exact List.pairwise_iff_getElem.mp h i j hi hj hij
theorem at_val {es : List En} {i : Nat} {j : Int} {x : En} (h : es[i]? = some x) (hj : j = (i : Int)) : atI (vals es) j = some (.ref x.1) := by
  subst hj
  exact atI_nat (vals_get h)
noncomputable def spLminusE : Sp := fun vs H Q _ => ∃ (p r : Addr) (a b c d : Int) (n : Nat), vs = [.ref p, .ref r] ∧ H p = some (.tup [.int a, .int b]) ∧ H r = some (.tup [.int c, .int d]) ∧ Sz n a ∧ Sz n b ∧ Sz n c ∧ Sz n d ∧ n ≤ 10000 ∧
  ∀ (s : Addr) (H' : Hp), Same H H' → H' s = some (.tup [.int (a * d - c * b), .int (b * d)]) → Q (.ref s) H'
noncomputable def spLslopeE : Sp := fun vs H Q _ => ∃ (p r v v' : Addr) (t t' a b a' b' : Int) (n : Nat), vs = [.ref p, .ref r] ∧ H p = some (.tup [.int t, .ref v]) ∧ H v = some (.tup [.int a, .int b]) ∧ H r = some (.tup [.int t', .ref v']) ∧ H v' = some (.tup [.int a', .int b']) ∧ t < t' ∧
  Sz n t ∧ Sz n a ∧ Sz n b ∧ Sz n t' ∧ Sz n a' ∧ Sz n b' ∧ n ≤ 10000 ∧ ∀ (s : Addr) (H' : Hp), Same H H' → H' s = some (.tup [.int (a' * b - a * b'), .int (b' * b * (t' - t))]) → Q (.ref s) H'
noncomputable def spLfar : Sp := fun vs H Q _ => ∃ (l : Addr) (es : List En) (i j n : Nat), vs = [.ref l, .int (i : Int), .int (j : Int)] ∧ H l = some (.lst (vals es)) ∧ Row H es n ∧ AllS es ∧ rising es ∧ i < j ∧ j < es.length ∧ es.length ≤ 1000 ∧ n ≤ 900 ∧ (j = i + 1 → ∀ H', Same H H' → Q .non H') ∧
  (i + 1 < j → ∀ (z p : Addr) (k : Nat) (H' : Hp), Same H H' → H' z = some (.tup [.int (k : Int), .ref p]) → QtAt H' p (rabs (sd es i k j)) (8 * n + 5) → FarTo (fun k => rabs (sd es i k j)) i j k → Q (.ref z) H')
section
variable {P : Program} {w : World} {K : PySem.W.Frag} {mg : Str → Option Value} {base : Heap} {f : Addr} {fd : FuncData}
theorem ok_loose_minusE (F : Fun K "loose_minus" "loose_minus" s_loose_minus f fd) : FnOk P w K mg base CX0 1 f fd ["one", "other"] spLminusE := by
  refine F.ok sc_loose_minus (fun vs H Q E h => ?_) (fun cdv A outer s H vs Q E hr h => ?_)
  · obtain ⟨p, r, a, b, c, d, n, rfl, _⟩ := h
    rfl
  obtain ⟨p, r, a, b, c, d, n, rfl, hp, hr', za, zb, zc, zd, hn, k⟩ := h
  refine Jd.go ⟨_, (Jd.pss_one (Jd.ps_ret (Jd.pe_tup (Jd.pa_cons (Jd.pe_op op_sub (Jd.pe_op op_mulB (Jd.pe_ix (ixT K) (Jd.pv 0) Jd.pe_int (fun _ _ => rfl)) (Jd.pe_ix (ixT K) (Jd.pv 1) Jd.pe_int (fun _ _ => rfl))) (Jd.pe_op op_mulB (Jd.pe_ix (ixT K) (Jd.pv 1) Jd.pe_int (fun _ _ => rfl)) (Jd.pe_ix (ixT K) (Jd.pv 0) Jd.pe_int (fun _ _ => rfl)))) (Jd.pa_cons (Jd.pe_op op_mulB (Jd.pe_ix (ixT K) (Jd.pv 0) Jd.pe_int (fun _ _ => rfl)) (Jd.pe_ix (ixT K) (Jd.pv 1) Jd.pe_int (fun _ _ => rfl))) Jd.pa_nil st_B) st_B)))), ?_⟩
  walk_at "vc"
  refine r_I (mulOk za zd (by walk_at "om")) ?_
  walk_at "vc"
  refine r_I (mulOk zc zb (by walk_at "om")) ?_
  walk_at "vc"
  refine r_I (mulOk zb zd (by walk_at "om")) ?_
  walk_at "vc"
  refine r_new (mk := .tup) (by simp) fun x H1 s1 n1 e1 => ?_
  exact k x H1 s1 e1
theorem ok_loose_slopeE (F : Fun K "loose_slope" "loose_slope" s_loose_slope f fd) (D_loose_minusE : Dn P w K mg base 1 "loose_minus" ["one", "other"] spLminusE) : FnOk P w K mg base CX0 3 f fd ["one", "other"] spLslopeE := by
  refine F.ok sc_loose_slope (fun vs H Q E h => ?_) (fun cdv A outer s H vs Q E hr h => ?_)
  · obtain ⟨p, r, v, v', t, t', a, b, a', b', n, rfl, _⟩ := h
    rfl
  obtain ⟨p, r, v, v', t, t', a, b, a', b', n, rfl, hp, hv, hr', hv', ht, zt, za, zb, zt', za', zb', hn, k⟩ := h
  refine Jd.go ⟨_, (Jd.pss_cons (Jd.ps_set (i := 2) sc_loose_slope.nd rfl (Or.inl rfl) (Jd.pe_dn D_loose_minusE (hr.mono (by decide)) rfl (Jd.pa_cons (Jd.pe_ix (ixT K) (Jd.pv 1) Jd.pe_int (fun _ _ => rfl)) (Jd.pa_cons (Jd.pe_ix (ixT K) (Jd.pv 0) Jd.pe_int (fun _ _ => rfl)) Jd.pa_nil st_S) st_S) (he := st_S) (hpl := (anyc st_S any0))) (hs := sw_K))
      (Jd.pss_cons (Jd.ps_set (i := 3) sc_loose_slope.nd rfl (Or.inl rfl) (Jd.pe_op op_sub (Jd.pe_ix (ixT K) (Jd.pv 1) Jd.pe_int (fun _ _ => rfl)) (Jd.pe_ix (ixT K) (Jd.pv 0) Jd.pe_int (fun _ _ => rfl))) (hs := sw_B))
      (Jd.pss_cons (Jd.ps_if (Jd.pt_cmpR op_lt (Jd.pv 3) Jd.pe_int (nomark _))
      (Jd.pss_one (Jd.ps_ret (Jd.pe_tup (Jd.pa_cons (Jd.pe_un un_neg (Jd.pe_ix (ixT K) (Jd.pv 2) Jd.pe_int (fun _ _ => rfl))) (Jd.pa_cons (Jd.pe_op op_mulB (Jd.pe_ix (ixT K) (Jd.pv 2) Jd.pe_int (fun _ _ => rfl)) (Jd.pe_un un_neg (Jd.pv 3))) Jd.pa_nil st_B) st_U))))
      Jd.pss_nil)
      (Jd.pss_one (Jd.ps_ret (Jd.pe_tup (Jd.pa_cons (Jd.pe_ix (ixT K) (Jd.pv 2) Jd.pe_int (fun _ _ => rfl)) (Jd.pa_cons (Jd.pe_op op_mulB (Jd.pe_ix (ixT K) (Jd.pv 2) Jd.pe_int (fun _ _ => rfl)) (Jd.pv 3)) Jd.pa_nil st_B) st_S))))))), ?_⟩
  walk_at "vc"
  refine ⟨v', v, a', b', a, b, n, rfl, hv', hv, za', zb', za, zb, hn, fun x H1 s1 e1 => ?_⟩
  have hp1 := s1 _ _ hp
  have hr1 := s1 _ _ hr'
  have zs : Sz (n + 1) (t' - t) := zt'.sub zt
  walk_at "vc"
  refine ite2 (fun c => ?_) (fun c => ?_)
  · have c' : t' - t < 0 := of_decide_eq_true c
    walk_at "om"
  · walk_at "vc"
    refine r_I (mulOk (zb'.mul zb) zs (by walk_at "om")) ?_
    walk_at "vc"
    refine r_new (mk := .tup) (by simp) fun y H2 s2 n2 e2 => ?_
    exact k y H2 (s1.trans s2) e2
theorem sc_loose_farthest : FnScope ["samples", "first", "last", "start", "steep", "base", "found", "miss", "place", "moment", "value", "along", "stood"] ["samples", "first", "last"] (defScope s_loose_farthest) := ⟨rfl, rfl, rfl, by decide +kernel, rfl, by decide +kernel, by decide +kernel⟩
theorem ok_loose_farthest (F : Fun K "loose_farthest" "loose_farthest" s_loose_farthest f fd) (T : Txt mg) (D_order : Dn P w K mg base 1 "order" ["one", "other"] spOrderQ) (D_loose_slopeE : Dn P w K mg base 3 "loose_slope" ["one", "other"] spLslopeE) :
    FnOk P w K mg base CX0 4 f fd ["samples", "first", "last"] spLfar := by
  refine F.ok sc_loose_farthest (fun vs H Q E h => ?_) (fun cdv A outer s H vs Q E hr h => ?_)
  · obtain ⟨l, es, i, j, n, rfl, _⟩ := h
    rfl
  obtain ⟨l, es, i, j, n, rfl, hl, hR, hS, hri, hij, hj, h40, hn, k0, k1⟩ := h
  obtain ⟨xi, gi, vi, ei, ⟨a, b, eb, fb, za, zb⟩, zti⟩ := sa_at hR hS (show i < es.length by walk_at "om")
  obtain ⟨xj, gj, vj, ej, ⟨a', b', eb', fb', za', zb'⟩, ztj⟩ := sa_at hR hS hj
  have ht := mo_lt hri hij hj
  have hb1 := fb.pos
  have hb2 := fb'.pos
  have zd : Sz (n + 1) (mo es j - mo es i) := ztj.sub zti
  have zS : Sz (3 * n + 1) (b' * b * (mo es j - mo es i)) := ((zb'.mul zb).mul zd).mono (by walk_at "om")
  have zS2 : Sz (2 * n + 1) (b' * (mo es j - mo es i)) := (zb'.mul zd).mono (by walk_at "om")
  have zT : Sz (2 * n + 1) (a' * b - a * b') := ((za'.mul zb).sub (za.mul zb')).mono (by walk_at "om")
  have hdv : (b' * b * (mo es j - mo es i)).fdiv b = b' * (mo es j - mo es i) := by
    rw [Int.fdiv_eq_ediv_of_nonneg _ (by walk_at "om"), Int.mul_right_comm]
    exact Int.mul_ediv_cancel _ (by walk_at "om")
  have Spos : 0 < b' * b * (mo es j - mo es i) := Int.mul_pos (Int.mul_pos (by walk_at "om") (by walk_at "om")) (by walk_at "om")
  refine Jd.go ⟨_, (Jd.pss_cons (Jd.ps_set (i := 3) sc_loose_farthest.nd rfl (Or.inl rfl) (Jd.pe_ix (ixL K) (Jd.pv 0) (Jd.pv 1) (fun _ _ => rfl)) (hs := sw_S))
      (Jd.pss_cons (Jd.ps_set (i := 4) sc_loose_farthest.nd rfl (Or.inl rfl) (Jd.pe_dn D_loose_slopeE (hr.mono (by decide)) rfl (Jd.pa_cons (Jd.pv 3) (Jd.pa_cons (Jd.pe_ix (ixL K) (Jd.pv 0) (Jd.pv 2) (fun _ _ => rfl)) Jd.pa_nil st_S) st_N) (he := st_N) (hpl := (anyc st_S any0))) (hs := sw_K))
      (Jd.pss_cons (Jd.ps_set (i := 5) sc_loose_farthest.nd rfl (Or.inl rfl) (Jd.pe_op op_mulB (Jd.pe_ix (ixT K) (Jd.pe_ix (ixT K) (Jd.pv 3) Jd.pe_int (fun _ _ => rfl)) Jd.pe_int (fun _ _ => rfl)) (Jd.pe_op op_fdivB (Jd.pe_ix (ixT K) (Jd.pv 4) Jd.pe_int (fun _ _ => rfl)) (Jd.pe_ix (ixT K) (Jd.pe_ix (ixT K) (Jd.pv 3) Jd.pe_int (fun _ _ => rfl)) Jd.pe_int (fun _ _ => rfl)))) (hs := sw_B))
      (Jd.pss_cons (Jd.ps_set (i := 6) sc_loose_farthest.nd rfl (Or.inl rfl) Jd.pe_non (hs := sw_C))
      (Jd.pss_cons (Jd.ps_set (i := 7) sc_loose_farthest.nd rfl (Or.inl rfl) (Jd.pe_tup (Jd.pa_cons Jd.pe_int (Jd.pa_cons Jd.pe_int Jd.pa_nil st_C) st_C)) (hs := sw_T))
      (Jd.pss_cons (Jd.ps_for PassesOwn.never rfl (Jd.pi_range2 rfl T.range (Jd.pa_cons (Jd.pe_op op_add (Jd.pv 1) Jd.pe_int) (Jd.pa_cons (Jd.pv 2) Jd.pa_nil st_N) st_B)) (Jd.pg_name (i := 8) sc_loose_farthest.nd rfl (Or.inl rfl))
      (Jd.pss_cons (Jd.ps_set (i := 9) sc_loose_farthest.nd rfl (Or.inl rfl) (Jd.pe_ix (ixT K) (Jd.pe_ix (ixL K) (Jd.pv 0) (Jd.pv 8) (fun _ _ => rfl)) Jd.pe_int (fun _ _ => rfl)) (hs := sw_S))
      (Jd.pss_cons (Jd.ps_set (i := 10) sc_loose_farthest.nd rfl (Or.inl rfl) (Jd.pe_ix (ixT K) (Jd.pe_ix (ixL K) (Jd.pv 0) (Jd.pv 8) (fun _ _ => rfl)) Jd.pe_int (fun _ _ => rfl)) (hs := sw_S))
      (Jd.pss_cons (Jd.ps_set (i := 11) sc_loose_farthest.nd rfl (Or.inl rfl) (Jd.pe_op op_add (Jd.pv 5) (Jd.pe_op op_mulB (Jd.pe_ix (ixT K) (Jd.pv 4) Jd.pe_int (fun _ _ => rfl)) (Jd.pe_op op_sub (Jd.pv 9) (Jd.pe_ix (ixT K) (Jd.pv 3) Jd.pe_int (fun _ _ => rfl))))) (hs := sw_B))
      (Jd.pss_cons (Jd.ps_set (i := 12) sc_loose_farthest.nd rfl (Or.inl rfl) (Jd.pe_tup (Jd.pa_cons (Jd.pe_callB absC rfl T.abs_ PyProof.Rows.boot_abs (Jd.pa_cons (Jd.pe_op op_sub (Jd.pe_op op_mulB (Jd.pe_ix (ixT K) (Jd.pv 10) Jd.pe_int (fun _ _ => rfl)) (Jd.pe_ix (ixT K) (Jd.pv 4) Jd.pe_int (fun _ _ => rfl))) (Jd.pe_op op_mulB (Jd.pe_ix (ixT K) (Jd.pv 10) Jd.pe_int (fun _ _ => rfl)) (Jd.pv 11))) Jd.pa_nil st_B) (he := st_B) (hpl := any0)) (Jd.pa_cons (Jd.pe_ix (ixT K) (Jd.pv 10) Jd.pe_int (fun _ _ => rfl)) Jd.pa_nil st_S) st_K)) (hs := sw_T))
      (Jd.pss_one (Jd.ps_if (Jd.PWpt (Jd.pw_or (Jd.pt_cmpR op_isN (Jd.pv 6) Jd.pe_non (nomark _)) (Jd.pw_or1 (Jd.pt_cmpR op_gt (Jd.pe_dn D_order (hr.mono (by decide)) rfl (Jd.pa_cons (Jd.pv 12) (Jd.pa_cons (Jd.pv 7) Jd.pa_nil st_N) st_N) (he := st_N) (hpl := (anyc st_N any0))) Jd.pe_int (nomark _)))))
      (Jd.pss_cons (Jd.ps_set (i := 6) sc_loose_farthest.nd rfl (Or.inl rfl) (Jd.pv 8) (hs := sw_N))
      (Jd.pss_one (Jd.ps_set (i := 7) sc_loose_farthest.nd rfl (Or.inl rfl) (Jd.pv 12) (hs := sw_N))))
      Jd.pss_nil)))))))
      (Jd.pss_one (Jd.ps_ret (Jd.pe_ifExp (Jd.pt_cmpR op_isN (Jd.pv 6) Jd.pe_non (nomark _)) Jd.pe_non (Jd.pe_tup (Jd.pa_cons (Jd.pv 6) (Jd.pa_cons (Jd.pe_tup (Jd.pa_cons (Jd.pe_ix (ixT K) (Jd.pv 7) Jd.pe_int (fun _ _ => rfl)) (Jd.pa_cons (Jd.pe_op op_mulB (Jd.pe_ix (ixT K) (Jd.pv 7) Jd.pe_int (fun _ _ => rfl)) (Jd.pe_ix (ixT K) (Jd.pv 4) Jd.pe_int (fun _ _ => rfl))) Jd.pa_nil st_B) st_S)) Jd.pa_nil st_T) st_N))))))))))), ?_⟩
  walk_at "vc"
  refine r_l hl (at_val gi rfl) ?_
  walk_at "vc"
  refine r_l hl (at_val gj rfl) ?_
  walk_at "vc"
  refine ⟨xi.1, xj.1, vi, vj, mo es i, mo es j, a, b, a', b', n, rfl, ei, eb, ej, eb', ht, zti, za, zb, ztj, za', zb', by walk_at "om", fun ps H1 s1 e1 => ?_⟩
  have ei1 := s1 _ _ ei
  have eb1 := s1 _ _ eb
  walk_at "vc"
  refine r_I ⟨by walk_at "om", zb.log (by walk_at "om") ?_⟩ ?_
  · rcases Nat.eq_zero_or_pos n with z | z
    · subst z
      have : b.natAbs < 2 ^ 0 := zb
      walk_at "om"
    · exact z
  rw [hdv]
  refine r_I (mulOk za zS2 (by walk_at "om")) ?_
  walk_at "vc"
  refine r_new (mk := .tup) (by simp) fun pm0 H2 s2 n2 e2 => ?_
  walk_at "vc"
  refine r_for (r_rng2 ?_)
  walk_at "vc"
  have one1 : Sz (5 * n + 4) 1 := one_sz (by walk_at "om")
  have zer : Sz (5 * n + 4) 0 := Nat.two_pow_pos _
  refine ⟨_, _, rfl, ⟨by lia, by lia, by lia, by lia⟩, for_range (fun m σ H3 => ∃ (fv : V) (pm : Addr) (v8 v9 v10 v11 v12 : Option V), σ = [some (.ref l), some (.int i), some (.int j), some (.ref xi.1), some (.ref ps), some (.int (a * (b' * (mo es j - mo es i)))), some fv, some (.ref pm), v8, v9, v10, v11, v12] ∧
    Same H1 H3 ∧ ((m = 0 ∧ fv = .non ∧ QtAt H3 pm 0 (5 * n + 4)) ∨ ∃ k : Nat, fv = .int (k : Int) ∧ QtAt H3 pm (rabs (sd es i k j) * ((b' * b * (mo es j - mo es i) : Int) : Rat)) (5 * n + 4) ∧ FarTo (fun k => rabs (sd es i k j)) i (i + 1 + m) k)) ?_ ?_ ?_⟩
  · exact ⟨.non, pm0, none, none, none, none, none, rfl, s2, .inl ⟨rfl, rfl, 0, 1, e2, Qt.whole 0, zer, one1⟩⟩
  · rintro m σ H3 hm ⟨fv, pm, v8, v9, v10, v11, v12, rfl, s3, hI⟩
    have hp : i + 1 + m < j := by walk_at "om"
    have s03 := s1.trans s3
    obtain ⟨xp, gp, vp, ep, ⟨c, e, ec, fc, zc, ze⟩, ztp⟩ := sa_at (hR.up s03) hS (show i + 1 + m < es.length by walk_at "om")
    have ei3 := s03 _ _ ei
    have e13 := s3 _ _ e1
    have qt := far_qt fb fb' fc (tp := mo es (i + 1 + m)) ht
    have qa := qt.abs
    rw [rabs_mul (cast_pos Spos)] at qa
    have ztt : Sz (n + 1) (mo es (i + 1 + m) - mo es i) := ztp.sub zti
    have zbase : Sz (4 * n + 2) (a * (b' * (mo es j - mo es i))) := (za.mul zS2).mono (by walk_at "om")
    have zst : Sz (4 * n + 2) ((a' * b - a * b') * (mo es (i + 1 + m) - mo es i)) := (zT.mul ztt).mono (by walk_at "om")
    have zal : Sz (4 * n + 3) (a * (b' * (mo es j - mo es i)) + (a' * b - a * b') * (mo es (i + 1 + m) - mo es i)) := zbase.add zst
    have zcS : Sz (5 * n + 3) (c * (b' * b * (mo es j - mo es i))) := (zc.mul zS).mono (by walk_at "om")
    have zea : Sz (5 * n + 3) (e * (a * (b' * (mo es j - mo es i)) + (a' * b - a * b') * (mo es (i + 1 + m) - mo es i))) := (ze.mul zal).mono (by walk_at "om")
    walk_at "vc"
    refine r_l (s03 _ _ hl) (at_val gp (by walk_at "om")) ?_
    walk_at "vc"
    refine r_l (s03 _ _ hl) (at_val gp (by walk_at "om")) ?_
    walk_at "vc"
    refine r_I (mulOk zT ztt (by walk_at "om")) ?_
    walk_at "vc"
    refine r_I (mulOk zc zS (by walk_at "om")) ?_
    walk_at "vc"
    refine r_I (mulOk ze zal (by walk_at "om")) ?_
    walk_at "vc"
    rw [abs_cast]
    refine r_new (mk := .tup) (by simp) fun pst H4 s4 n4 e4 => ?_
    have qs : QtAt H4 pst (rabs (sd es i (i + 1 + m) j) * ((b' * b * (mo es j - mo es i) : Int) : Rat)) (5 * n + 4) :=
      ⟨_, _, e4, qa, (zcS.sub zea).of_le (by simp), ze.mono (by walk_at "om")⟩
    walk_at "vc"
    rcases hI with ⟨rfl, rfl, hq⟩ | ⟨kk, rfl, hq, hF⟩
    · refine ⟨rfl, ?_⟩
      walk_at "vc"
      refine iteT ?_
      refine iteT ?_
      walk_at "vc"
      exact ⟨_, _, _, _, _, _, _, rfl, s3.trans s4, .inr ⟨i + 1, by simp, qs, FarTo.first⟩⟩
    · refine ⟨rfl, ?_⟩
      walk_at "vc"
      refine iteF ?_
      walk_at "vc"
      refine ⟨pst, pm, _, _, _, _, rfl, qs, hq.up s4, by walk_at "om", fun o ho1 ho2 => ?_⟩
      walk_at "vc"
      refine ite2 (fun c1 => ?_) (fun c1 => ?_)
      · have c' : 0 < o := of_decide_eq_true c1
        have l1 := (Rat.mul_lt_mul_right (cast_pos Spos)).mp (ho1.mp c')
        walk_at "vc"
        refine ⟨_, _, _, _, _, _, _, rfl, s3.trans s4, .inr ⟨i + 1 + m, by simp, qs, ?_⟩⟩
        exact hF.next l1
      · have c' : ¬ 0 < o := of_decide_eq_false (Bool.eq_false_iff.mpr c1)
        have l1 : ¬ rabs (sd es i kk j) < rabs (sd es i (i + 1 + m) j) := fun z => c' (ho1.mpr ((Rat.mul_lt_mul_right (cast_pos Spos)).mpr z))
        walk_at "vc"
        refine ⟨_, _, _, _, _, _, _, rfl, s3.trans s4, .inr ⟨kk, rfl, hq.up s4, ?_⟩⟩
        exact hF.keep (Rat.not_lt.mp l1)
  · rintro σ H3 ⟨fv, pm, v8, v9, v10, v11, v12, rfl, s3, hI⟩
    have e13 := s3 _ _ e1
    walk_at "vc"
    rcases hI with ⟨hm, rfl, hq⟩ | ⟨kk, rfl, ⟨x, y, exy, qxy, zx, zy⟩, hF⟩
    · refine ⟨rfl, ?_⟩
      walk_at "vc"
      refine iteT ?_
      walk_at "vc"
      exact k0 (by walk_at "om") H3 (s1.trans s3)
    · refine ⟨rfl, ?_⟩
      walk_at "vc"
      refine iteF ?_
      walk_at "vc"
      refine r_I (mulOk zy zS (by walk_at "om")) ?_
      walk_at "vc"
      refine r_new (mk := .tup) (by simp) fun p4 H4 s4 n4 e4 => ?_
      walk_at "vc"
      refine r_new (mk := .tup) (by simp) fun p5 H5 s5 n5 e5 => ?_
      have hF' : FarTo (fun k => rabs (sd es i k j)) i j kk := by
        have e : i + 1 + ((j : Int) - ((i : Int) + 1)).toNat = j := by walk_at "om"
        rw [e] at hF
        exact hF
      have hlo := hF'.lo
      have hhi := hF'.hi
      refine k1 (by walk_at "om") p5 p4 kk H5 ((s1.trans s3).trans (s4.trans s5)) e5 ?_ hF'
      have q := qxy.div (s := b' * b * (mo es j - mo es i)) Spos
      have hne := cast_ne (b := b' * b * (mo es j - mo es i)) (by walk_at "om")
      rw [show rabs (sd es i kk j) * ((b' * b * (mo es j - mo es i) : Int) : Rat) / ((b' * b * (mo es j - mo es i) : Int) : Rat) = rabs (sd es i kk j) by generalize ((b' * b * (mo es j - mo es i) : Int) : Rat) = S at hne; grind] at q
      exact ⟨_, _, s5 _ _ e4, q, zx.mono (by walk_at "om"), (zy.mul zS).mono (by walk_at "om")⟩
end

noncomputable def nworth (b : Int) (x : Int × Option Int) : Int × Option Rat := (x.1, x.2.map fun z : Int => (z : Rat) / (b : Rat))
noncomputable def nst (m1 n1 m2 n2 m3 n3 : Int) : Int := n2 * (m3 - m1) - n1 * (m3 - m2) - n3 * (m2 - m1)
noncomputable def spHanded : Sp := fun vs H Q _ => ∃ (l : Addr) (es : List Nn) (b : Int) (m n nb N : Nat), vs = [.ref l, .int b] ∧ H l = some (.lst (nvals es)) ∧ NRow H es m n ∧ es.length ≤ 900 ∧ 1 ≤ b ∧ Sz nb b ∧ m ≤ N ∧ n ≤ N ∧ nb ≤ N ∧ N ≤ 8000 ∧
  ∀ (R : Addr) (es' : List En) (H' : Hp), Same H H' → H R = none → H' R = some (.lst (vals es')) → Row H' es' N → es'.map (·.2) = es.map (fun x => nworth b x.2) → Q (.ref R) H'
section
variable {P : Program} {w : World} {K : PySem.W.Frag} {mg : Str → Option Value} {base : Heap} {f : Addr} {fd : FuncData}
theorem sc_law_handed : FnScope ["_law_row_here", "_law_bottom", "_law_handed_here", "_law_moment", "_law_number"] ["_law_row_here", "_law_bottom"] (defScope s_law_handed) := ⟨rfl, rfl, rfl, by decide +kernel, rfl, by decide +kernel, by decide +kernel⟩
theorem ok_law_handed (F : Fun K "_law_handed" "_law_handed" s_law_handed f fd) (D_law_ratio : Dn P w K mg base 1 "_law_ratio" ["_law_top", "_law_bottom"] spRatio) : FnOk P w K mg base CX0 2 f fd ["_law_row_here", "_law_bottom"] spHanded := by
  refine F.ok sc_law_handed (fun vs H Q E h => ?_) (fun cdv A outer s H vs Q E hr h => ?_)
  · obtain ⟨l, es, b, m, n, nb, N, rfl, _⟩ := h
    rfl
  obtain ⟨l, es, b, m, n, nb, N, rfl, hl, hes, h40, hb, zb, hmN, hnN, hbN, hN, k⟩ := h
  refine Jd.go ⟨_, (Jd.pss_cons (Jd.ps_set (i := 2) sc_law_handed.nd rfl (Or.inl rfl) (Jd.pe_lst Jd.pa_nil) (hs := sw_L))
      (Jd.pss_cons (Jd.ps_for PassesOwn.never rfl (Jd.piL K (Jd.pv 0)) (Jd.pgT K (n := 2) rfl (Jd.pgs_cons (Jd.pg_name (i := 3) sc_law_handed.nd rfl (Or.inl rfl)) (Jd.pgs_cons (Jd.pg_name (i := 4) sc_law_handed.nd rfl (Or.inl rfl)) Jd.pgs_nil)))
      (Jd.pss_one (Jd.ps_if (Jd.pt_cmpR op_isN (Jd.pv 4) Jd.pe_non (nomark _))
      (Jd.pss_one (Jd.ps_expr (Jd.appC K (Jd.pv 2) (Jd.pe_tup (Jd.pa_cons (Jd.pv 3) (Jd.pa_cons Jd.pe_non Jd.pa_nil st_C) st_N))) (hs := sw_K)))
      (Jd.pss_one (Jd.ps_expr (Jd.appC K (Jd.pv 2) (Jd.pe_tup (Jd.pa_cons (Jd.pv 3) (Jd.pa_cons (Jd.pe_dn D_law_ratio (hr.mono (by decide)) rfl (Jd.pa_cons (Jd.pv 4) (Jd.pa_cons (Jd.pv 1) Jd.pa_nil st_N) st_N) (he := st_N) (hpl := (anyc st_N any0))) Jd.pa_nil st_K) st_N))) (hs := sw_K))))))
      (Jd.pss_one (Jd.ps_ret (Jd.pv 2))))), ?_⟩
  walk_at "vc"
  refine r_new (mk := .lst) (by simp) fun R H1 s1 n1 e1 => ?_
  walk_at "vc"
  refine r_for (r_iL ?_)
  walk_at "vc"
  refine ⟨l, rfl, ⟨_, SqL.of (s1 _ _ hl)⟩, for_list (xs := nvals es) (fun i σ H3 => ∃ (es' : List En) (v3 v4 : Option V), σ = [some (.ref l), some (.int b), some (.ref R), v3, v4] ∧ Same H H3 ∧ H3 R = some (.lst (vals es')) ∧ Row H3 es' N ∧ es'.length = i ∧ es'.map (·.2) = (es.take i).map (fun x => nworth b x.2)) ?_ ?_ ?_ ?_⟩
  · exact ⟨[], none, none, rfl, s1, e1, fun x hx => absurd hx (by simp), rfl, rfl⟩
  · rintro i σ H3 _ ⟨es', v3, v4, rfl, s3, _⟩
    exact SqL.of (s3 _ _ hl)
  · rintro i x σ H3 hx ⟨es', v3, v4, rfl, s3, e3, hes', hl', hmap⟩
    obtain ⟨e, he, rfl⟩ := nvals_at hx
    have hi : i < es.length := (List.getElem?_eq_some_iff.mp he).1
    have fe := (hes e (List.mem_of_getElem? he)).up s3
    have tk : es.take (i + 1) = es.take i ++ [e] := by rw [List.take_add_one, he]; rfl
    have fin : ∀ (y : Addr) (H4 : Hp) (v3 v4 : Option V), Same H3 H4 → EnAt H4 (y, nworth b e.2) N → ∃ (es'' : List En) (v3' v4' : Option V), [some (.ref l), some (.int b), some (.ref R), v3, v4] = [some (.ref l), some (.int b), some (.ref R), v3', v4'] ∧
        Same H (upd H4 R (.lst (vals es' ++ [.ref y]))) ∧ upd H4 R (.lst (vals es' ++ [.ref y])) R = some (.lst (vals es'')) ∧ Row (upd H4 R (.lst (vals es' ++ [.ref y]))) es'' N ∧ es''.length = i + 1 ∧ es''.map (·.2) = (es.take (i + 1)).map (fun x => nworth b x.2) := by
      intro y H4 v3 v4 s4 f4
      have e4 := s4 _ _ e3
      refine ⟨es' ++ [(y, nworth b e.2)], v3, v4, rfl, same_at (s3.trans s4) n1, by rw [upd_same]; exact congrArg (fun z => some (HO.lst z)) (vals_snoc es' (y, nworth b e.2)), ((hes'.up s4).snoc f4).app e4, by rw [List.length_append, hl']; rfl, ?_⟩
      rw [tk, List.map_append, List.map_append, hmap]
      rfl
    obtain ⟨a, mm, v⟩ := e
    cases v with
    | none =>
      refine r_unpack2 fe.1 ?_
      walk_at "vc"
      refine ⟨rfl, ?_⟩
      walk_at "vc"
      refine iteT ?_
      walk_at "vc"
      refine ⟨.inl ⟨rfl, _, SqL.of e3⟩, ?_⟩
      walk_at "vc"
      refine r_new (mk := .tup) (by simp) fun y H4 s4 n4 e4 => ?_
      walk_at "vc"
      refine r_app (s4 _ _ e3) (by rw [vals_len]; exact small1000 (by walk_at "om")) ?_
      exact fin y H4 _ _ s4 ⟨fe.2.1.mono hmN, e4⟩
    | some z =>
      have zz := fe.2.2 z rfl
      refine r_unpack2 fe.1 ?_
      walk_at "vc"
      refine ⟨rfl, ?_⟩
      walk_at "vc"
      refine iteF ?_
      walk_at "vc"
      refine ⟨.inl ⟨rfl, _, SqL.of e3⟩, ?_⟩
      walk_at "vc"
      refine frac_gen (n := N) (by walk_at "om") (zz.mono hnN) (zb.mono hbN) hN fun p H4 s4 f4 => ?_
      walk_at "vc"
      refine r_new (mk := .tup) (by simp) fun y H5 s5 n5 e5 => ?_
      walk_at "vc"
      refine r_app ((s4.trans s5) _ _ e3) (by rw [vals_len]; exact small1000 (by walk_at "om")) ?_
      exact fin y H5 _ _ (s4.trans s5) ⟨fe.2.1.mono hmN, p, e5, f4.up s5⟩
  · rintro σ H3 ⟨es', v3, v4, rfl, s3, e3, hes', hl', hmap⟩
    rw [nvals_len, List.take_length] at hmap
    walk_at "vc"
    exact k R es' H3 s3 n1 e3 hes' hmap
end
noncomputable def nmo (hs : List Nn) (k : Nat) : Int := ((hs[k]?).map (·.2.1)).getD 0
noncomputable def nno (hs : List Nn) (k : Nat) : Int := ((hs[k]?).bind (·.2.2)).getD 0
noncomputable def nsd (hs : List Nn) (i k j : Nat) : Int := nst (nmo hs i) (nno hs i) (nmo hs k) (nno hs k) (nmo hs j) (nno hs j)
theorem nmo_lt {hs : List Nn} {i j : Nat} (h : nrising hs) (hij : i < j) (hj : j < hs.length) : nmo hs i < nmo hs j := by
  have hi : i < hs.length := by walk_at "om"
  unfold nmo
  rw [List.getElem?_eq_getElem hi, List.getElem?_eq_getElem hj]
  exact List.pairwise_iff_getElem.mp h i j hi hj hij
section
variable {es : List En} {hs : List Nn} {b : Int} (h : es.map (·.2) = hs.map (fun x => nworth b x.2))
include h
theorem link_at (k : Nat) : mo es k = nmo hs k ∧ wo es k = (nno hs k : Rat) / (b : Rat) := by
  have e : (es.map (·.2))[k]? = (hs.map (fun x => nworth b x.2))[k]? := by rw [h]
  rw [List.getElem?_map, List.getElem?_map] at e
  unfold mo nmo wo nno
  have z : (0 : Rat) = ((0 : Int) : Rat) / (b : Rat) := by
    rw [show ((0 : Int) : Rat) = 0 from rfl, Rat.div_def, Rat.zero_mul]
  cases e1 : es[k]? with
  | none =>
    rw [e1] at e
    cases e2 : hs[k]? with
    | none => exact ⟨rfl, z⟩
    | some y => rw [e2] at e; cases e
  | some x =>
    rw [e1] at e
    cases e2 : hs[k]? with
    | none => rw [e2] at e; cases e
    | some y =>
      rw [e2] at e
      have q : x.2 = nworth b y.2 := Option.some.inj e
      obtain ⟨ax, tx, vx⟩ := x
      obtain ⟨ay, ty, vy⟩ := y
      cases vy with
      | none =>
        cases q
        exact ⟨rfl, z⟩
      | some w =>
        cases q
        exact ⟨rfl, rfl⟩
theorem link_len : es.length = hs.length := by
  have := congrArg List.length h
  simpa using this
theorem link_rising (hr : nrising hs) : rising es := by
  have k : (hs.map fun x => x.2.1).Pairwise (· < ·) := List.pairwise_map.mpr hr
  have e := congrArg (List.map Prod.fst) h
  rw [List.map_map, List.map_map] at e
  have e' : es.map (fun x => x.2.1) = hs.map (fun x => x.2.1) := e
  rw [← e'] at k
  exact List.pairwise_map.mp k
theorem link_sd {i k j : Nat} (hb : 1 ≤ b) (ht : nmo hs i < nmo hs j) : ((nsd hs i k j : Int) : Rat) = sd es i k j * (((nmo hs j - nmo hs i) * b : Int) : Rat) := by
  obtain ⟨i1, i2⟩ := link_at h i
  obtain ⟨j1, j2⟩ := link_at h j
  obtain ⟨k1, k2⟩ := link_at h k
  unfold sd nsd nst
  rw [i1, i2, j1, j2, k1, k2]
  have hX := chord_mul (t := (nmo hs i : Rat)) (q := (nno hs i : Rat) / (b : Rat)) (u := (nmo hs k : Rat)) (t' := (nmo hs j : Rat)) (q' := (nno hs j : Rat) / (b : Rat)) (cast_sub_ne ht)
  have hb' := cast_ne (b := b) (by walk_at "om")
  simp only [Rat.intCast_mul, Rat.intCast_sub]
  generalize chord (nmo hs i : Rat) ((nno hs i : Rat) / (b : Rat)) (nmo hs k : Rat) (nmo hs j : Rat) ((nno hs j : Rat) / (b : Rat)) = X at *
  generalize (nmo hs i : Rat) = ti at *
  generalize (nmo hs j : Rat) = tj at *
  generalize (nmo hs k : Rat) = tk at *
  generalize (nno hs i : Rat) = ni at *
  generalize (nno hs j : Rat) = nj at *
  generalize (nno hs k : Rat) = nk at *
  grind
end
theorem natAbs_rat (x : Int) : ((x.natAbs : Int) : Rat) = rabs (x : Rat) := by
  have := (Qt.whole x).abs.eq
  simpa using this
theorem link_abs {es : List En} {hs : List Nn} {b : Int} (h : es.map (·.2) = hs.map (fun x => nworth b x.2)) {i k j : Nat} (hb : 1 ≤ b) (ht : nmo hs i < nmo hs j) : (((nsd hs i k j).natAbs : Int) : Rat) = rabs (sd es i k j) * (((nmo hs j - nmo hs i) * b : Int) : Rat) := by
  rw [natAbs_rat, link_sd h hb ht, rabs_mul (cast_pos (Int.mul_pos (by walk_at "om") (by walk_at "om")))]
theorem mo_congr {es es' : List En} (h : es.map (·.2) = es'.map (·.2)) (k : Nat) : mo es k = mo es' k ∧ wo es k = wo es' k := by
  have e : (es.map (·.2))[k]? = (es'.map (·.2))[k]? := by rw [h]
  rw [List.getElem?_map, List.getElem?_map] at e
  unfold mo wo
  cases h1 : es[k]? with
  | none =>
    cases h2 : es'[k]? with
    | none => exact ⟨rfl, rfl⟩
    | some y => rw [h1, h2] at e; cases e
  | some x =>
    cases h2 : es'[k]? with
    | none => rw [h1, h2] at e; cases e
    | some y =>
      rw [h1, h2] at e
      have e' : x.2 = y.2 := by simpa using e
      simp only [Option.map_some, Option.bind_some, e', Option.getD_some, and_self]

noncomputable abbrev Qs := List (Addr × Rat)
noncomputable def qrefs (rs : Qs) : List V := rs.map fun x => V.ref x.1
theorem qrefs_at {rs : Qs} {i : Nat} {v : V} (h : (qrefs rs)[i]? = some v) : ∃ x, rs[i]? = some x ∧ v = .ref x.1 := by
  unfold qrefs at h
  rw [List.getElem?_map] at h
  cases e : rs[i]? with
  | none => rw [e] at h; cases h
  | some x => rw [e] at h; cases h; exact ⟨x, rfl, rfl⟩
noncomputable def AllQ (H : Hp) (rs : Qs) (n : Nat) : Prop := ∀ x ∈ rs, QtAt H x.1 x.2 n
noncomputable def natsV (js : List Nat) : List V := js.map fun j : Nat => V.int (j : Int)
theorem natsV_len (js : List Nat) : (natsV js).length = js.length := List.length_map ..
theorem natsV_snoc (js : List Nat) (j : Nat) : natsV js ++ [.int (j : Int)] = natsV (js ++ [j]) := by simp [natsV]
theorem natsV_at {js : List Nat} {i : Nat} {v : V} (h : (natsV js)[i]? = some v) : ∃ j, js[i]? = some j ∧ v = .int (j : Int) := by
  unfold natsV at h
  rw [List.getElem?_map] at h
  cases e : js[i]? with
  | none => rw [e] at h; cases h
  | some x => rw [e] at h; cases h; exact ⟨x, rfl, rfl⟩
theorem QtAt.app {H : Hp} {R p : Addr} {q : Rat} {n : Nat} {ys : List V} {o : HO} (f : QtAt H p q n) (h : H R = some (.lst ys)) : QtAt (upd H R o) p q n :=
  let ⟨t, b, e, f⟩ := f
  ⟨t, b, (rm_up R H o) _ _ (rm_tup h e), f⟩
noncomputable def SaQ (H : Hp) (p : Addr) (t : Int) (q : Rat) (n m : Nat) : Prop := ∃ v : Addr, H p = some (.tup [.int t, .ref v]) ∧ QtAt H v q n ∧ Sz m t
theorem SaQ.up {H H' : Hp} {p : Addr} {t : Int} {q : Rat} {n m : Nat} (f : SaQ H p t q n m) (s : Same H H') : SaQ H' p t q n m := let ⟨v, e, f, z⟩ := f; ⟨v, s _ _ e, f.up s, z⟩
theorem SaAt.saq {H : Hp} {p : Addr} {t : Int} {q : Rat} {n : Nat} (f : SaAt H p t q n) : SaQ H p t q n n := let ⟨v, e, f, z⟩ := f; ⟨v, e, f.qt, z⟩
noncomputable def Good (es : List En) (β : Rat) (i j : Nat) : Prop := ∀ k, i < k → k < j → rabs (sd es i k j) ≤ β
noncomputable def Lead (es : List En) (β : Rat) (tied : Bool) (i j : Nat) : Prop := if tied = true then i < j ∧ j < es.length ∧ Good es β i j else i < es.length ∧ (j = i + 1 ∨ (i + 1 < j ∧ j ≤ es.length ∧ Good es β i (j - 1)))
noncomputable def slo (es : List En) (i j : Nat) : Rat := (wo es j - wo es i) / ((mo es j : Rat) - (mo es i : Rat))
noncomputable def lowS (es : List En) (β : Rat) (i k : Nat) : Rat := (wo es k - β - wo es i) / ((mo es k : Rat) - (mo es i : Rat))
noncomputable def highS (es : List En) (β : Rat) (i k : Nat) : Rat := (wo es k + β - wo es i) / ((mo es k : Rat) - (mo es i : Rat))
theorem good_iff {es : List En} {β : Rat} {i k j : Nat} (h : rising es) (hik : i < k) (hkj : k < j) (hj : j < es.length) : rabs (sd es i k j) ≤ β ↔ lowS es β i k ≤ slo es i j ∧ slo es i j ≤ highS es β i k :=
  chord_slopes (Rat.intCast_lt_intCast.mpr (mo_lt h hik (by walk_at "om"))) (Rat.intCast_lt_intCast.mpr (mo_lt h hkj hj))
noncomputable def spLslopeQ : Sp := fun vs H Q _ => ∃ (p r : Addr) (t t' : Int) (q q' : Rat) (n n' m : Nat), vs = [.ref p, .ref r] ∧ SaQ H p t q n m ∧ SaQ H r t' q' n' m ∧ t < t' ∧ n + n' + m ≤ 20000 ∧
  ∀ (s : Addr) (H' : Hp), Same H H' → QtAt H' s ((q' - q) / ((t' : Rat) - (t : Rat))) (n + n' + m + 2) → Q (.ref s) H'
noncomputable def spGreat : Sp := fun vs H Q _ => ∃ (l : Addr) (rs : Qs) (n : Nat), vs = [.ref l] ∧ H l = some (.lst (qrefs rs)) ∧ AllQ H rs n ∧ n ≤ 20000 ∧ 0 < rs.length ∧ ∀ x ∈ rs, (∀ y ∈ rs, y.2 ≤ x.2) → Q (.ref x.1) H
noncomputable def spSmall : Sp := fun vs H Q _ => ∃ (l : Addr) (rs : Qs) (n : Nat), vs = [.ref l] ∧ H l = some (.lst (qrefs rs)) ∧ AllQ H rs n ∧ n ≤ 20000 ∧ 0 < rs.length ∧ ∀ x ∈ rs, (∀ y ∈ rs, x.2 ≤ y.2) → Q (.ref x.1) H
noncomputable def spGoodB : Sp := fun vs H Q _ => ∃ (l pb : Addr) (es : List En) (i n nb : Nat) (β : Rat), vs = [.ref l, .int (i : Int), .ref pb] ∧ H l = some (.lst (vals es)) ∧ Row H es n ∧ AllS es ∧ rising es ∧ i < es.length ∧ es.length ≤ 900 ∧ QtAt H pb β nb ∧ n ≤ 1000 ∧ nb ≤ 1000 ∧
  ∀ (R : Addr) (js : List Nat) (H' : Hp), Same H H' → H R = none → H' R = some (.lst (natsV js)) → js.length ≤ es.length → (∀ j, j ∈ js ↔ i < j ∧ j < es.length ∧ Good es β i j) → Q (.ref R) H'
structure Ls2 (H : Hp) (F : Addr) (rs : List (Addr × List Nat)) : Prop where
  at_ : H F = some (.lst (rs.map fun x => V.ref x.1))
  each : ∀ x ∈ rs, H x.1 = some (.lst (natsV x.2)) ∧ x.1 ≠ F
theorem Ls2.up {H H' : Hp} {F : Addr} {rs : List (Addr × List Nat)} (h : Ls2 H F rs) (s : Same H H') : Ls2 H' F rs := ⟨s _ _ h.at_, fun x hx => ⟨s _ _ (h.each x hx).1, (h.each x hx).2⟩⟩
theorem Ls2.push {H : Hp} {F R : Addr} {rs : List (Addr × List Nat)} {js : List Nat} (h : Ls2 H F rs) (hR : H R = some (.lst (natsV js))) (ne : R ≠ F) : Ls2 (upd H F (.lst (rs.map (fun x => V.ref x.1) ++ [.ref R]))) F (rs ++ [(R, js)]) := by
  refine ⟨by rw [upd_same, List.map_append]; rfl, fun x hx => ?_⟩
  rcases List.mem_append.mp hx with z | z
  · exact ⟨by rw [upd_ne (h.each x z).2]; exact (h.each x z).1, (h.each x z).2⟩
  · obtain rfl : x = (R, js) := by simpa using z
    exact ⟨by rw [upd_ne ne]; exact hR, ne⟩
noncomputable def LeadsAre (es : List En) (β : Rat) (tied : Bool) (rs : List (Addr × List Nat)) : Prop := ∀ i x, rs[i]? = some x → (x.2.length ≤ es.length + 1) ∧ ∀ j, j ∈ x.2 ↔ Lead es β tied i j
noncomputable def spLeaps : Sp := fun vs H Q _ => ∃ (l pb : Addr) (es : List En) (n nb : Nat) (β : Rat) (tied : Bool), vs = [.ref l, .ref pb, .bl tied] ∧ H l = some (.lst (vals es)) ∧ Row H es n ∧ AllS es ∧ rising es ∧ es.length ≤ 900 ∧ QtAt H pb β nb ∧ n ≤ 1000 ∧ nb ≤ 1000 ∧
  ∀ (F : Addr) (rs : List (Addr × List Nat)) (H' : Hp), Same H H' → H F = none → Ls2 H' F rs → rs.length = es.length → LeadsAre es β tied rs → Q (.ref F) H'
noncomputable def intsV (N : Nat) (t : Nat → Int) : List V := (List.range N).map fun j => V.int (t j)
theorem intsV_len (N : Nat) (t : Nat → Int) : (intsV N t).length = N := by simp [intsV]
theorem at_intsV {N j : Nat} {t : Nat → Int} {i : Int} (h : j < N) (hi : i = (j : Int)) : atI (intsV N t) i = some (.int (t j)) := by
  subst hi
  exact atI_nat (map_range_at h)
noncomputable def spLabBy : Sp := fun vs H Q _ => ∃ (F : Addr) (rs : List (Addr × List Nat)) (N : Nat) (L : Nat → Nat → Prop), vs = [.ref F, .int (N : Int)] ∧ Ls2 H F rs ∧ 1 ≤ N ∧ N ≤ 900 ∧ N ≤ rs.length + 1 ∧ rs.length ≤ N ∧ (∀ i x, rs[i]? = some x → ∀ j, j ∈ x.2 ↔ L i j) ∧ (∀ i j, L i j → i < j ∧ j < N) ∧ (∀ j, 0 < j → j < N → L (j - 1) j) ∧
  ∀ (R : Addr) (t : Nat → Int) (H' : Hp), Same H H' → H R = none → H' R = some (.lst (intsV N t)) → Fair L N t → Q (.ref R) H'
section
variable {P : Program} {w : World} {K : PySem.W.Frag} {mg : Str → Option Value} {base : Heap} {f : Addr} {fd : FuncData}
theorem sc_greatest : FnScope ["quotients", "found", "quotient"] ["quotients"] (defScope s_greatest) := ⟨rfl, rfl, rfl, by decide +kernel, rfl, by decide +kernel, by decide +kernel⟩
theorem ok_greatest (F : Fun K "greatest" "greatest" s_greatest f fd) (D_order : Dn P w K mg base 1 "order" ["one", "other"] spOrderQ) : FnOk P w K mg base CX0 2 f fd ["quotients"] spGreat := by
  refine F.ok sc_greatest (fun vs H Q E h => ?_) (fun cdv A outer s H vs Q E hr h => ?_)
  · obtain ⟨l, rs, n, rfl, _⟩ := h
    rfl
  obtain ⟨l, rs, n, rfl, hl, hq, hn, hp, k⟩ := h
  have g0 : rs[0]? = some rs[0] := List.getElem?_eq_getElem hp
  refine Jd.go ⟨_, (Jd.pss_cons (Jd.ps_set (i := 1) sc_greatest.nd rfl (Or.inl rfl) (Jd.pe_ix (ixL K) (Jd.pv 0) Jd.pe_int (fun _ _ => rfl)) (hs := sw_S))
      (Jd.pss_cons (Jd.ps_for PassesOwn.never rfl (Jd.piL K (Jd.pv 0)) (Jd.pg_name (i := 2) sc_greatest.nd rfl (Or.inl rfl))
      (Jd.pss_one (Jd.ps_if (Jd.pt_cmpR op_gt (Jd.pe_dn D_order (hr.mono (by decide)) rfl (Jd.pa_cons (Jd.pv 2) (Jd.pa_cons (Jd.pv 1) Jd.pa_nil st_N) st_N) (he := st_N) (hpl := (anyc st_N any0))) Jd.pe_int (nomark _))
      (Jd.pss_one (Jd.ps_set (i := 1) sc_greatest.nd rfl (Or.inl rfl) (Jd.pv 2) (hs := sw_N)))
      Jd.pss_nil)))
      (Jd.pss_one (Jd.ps_ret (Jd.pv 1))))), ?_⟩
  walk_at "vc"
  refine r_l hl (v := .ref (rs[0]).1) (atI_nat (j := 0) (by unfold qrefs; rw [List.getElem?_map, g0]; rfl)) ?_
  walk_at "vc"
  refine r_for (r_iL ?_)
  walk_at "vc"
  refine ⟨l, rfl, ⟨_, SqL.of hl⟩, for_list (xs := qrefs rs) (fun i σ H3 => H3 = H ∧ ∃ (x : Addr × Rat) (v : Option V), x ∈ rs ∧ σ = [some (.ref l), some (.ref x.1), v] ∧ ∀ y ∈ rs.take i, y.2 ≤ x.2) ?_ ?_ ?_ ?_⟩
  · exact ⟨rfl, rs[0], none, List.getElem_mem hp, rfl, fun y hy => by simp at hy⟩
  · rintro i σ H3 _ ⟨rfl, _⟩
    exact SqL.of hl
  · rintro i v σ H3 hx ⟨rfl, x, v2, hm, rfl, hle⟩
    obtain ⟨y, gy, rfl⟩ := qrefs_at hx
    have hy := List.mem_of_getElem? gy
    have tk : rs.take (i + 1) = rs.take i ++ [y] := by rw [List.take_add_one, gy]; rfl
    walk_at "vc"
    refine ⟨y.1, x.1, y.2, x.2, n, n, rfl, hq y hy, hq x hm, by walk_at "om", fun o ho1 ho2 => ?_⟩
    walk_at "vc"
    refine ite2 (fun c => ?_) (fun c => ?_)
    · have c' := ho1.mp (of_decide_eq_true c)
      walk_at "vc"
      refine ⟨rfl, y, _, hy, rfl, fun z hz => ?_⟩
      rw [tk] at hz
      rcases List.mem_append.mp hz with q | q
      · have := hle z q
        grind
      · obtain rfl : z = y := by simpa using q
        exact Rat.le_refl
    · have c' : ¬ x.2 < y.2 := fun z => of_decide_eq_false (Bool.eq_false_iff.mpr c) (ho1.mpr z)
      walk_at "vc"
      refine ⟨rfl, x, _, hm, rfl, fun z hz => ?_⟩
      rw [tk] at hz
      rcases List.mem_append.mp hz with q | q
      · exact hle z q
      · obtain rfl : z = y := by simpa using q
        exact Rat.not_lt.mp c'
  · rintro σ H3 ⟨rfl, x, v2, hm, rfl, hle⟩
    walk_at "vc"
    refine k x hm fun y hy => hle y ?_
    have e : (qrefs rs).length = rs.length := List.length_map ..
    rw [e, List.take_length]
    exact hy
theorem sc_smallest : FnScope ["quotients", "found", "quotient"] ["quotients"] (defScope s_smallest) := ⟨rfl, rfl, rfl, by decide +kernel, rfl, by decide +kernel, by decide +kernel⟩
theorem ok_smallest (F : Fun K "smallest" "smallest" s_smallest f fd) (D_order : Dn P w K mg base 1 "order" ["one", "other"] spOrderQ) : FnOk P w K mg base CX0 2 f fd ["quotients"] spSmall := by
  refine F.ok sc_smallest (fun vs H Q E h => ?_) (fun cdv A outer s H vs Q E hr h => ?_)
  · obtain ⟨l, rs, n, rfl, _⟩ := h
    rfl
  obtain ⟨l, rs, n, rfl, hl, hq, hn, hp, k⟩ := h
  have g0 : rs[0]? = some rs[0] := List.getElem?_eq_getElem hp
  refine Jd.go ⟨_, (Jd.pss_cons (Jd.ps_set (i := 1) sc_smallest.nd rfl (Or.inl rfl) (Jd.pe_ix (ixL K) (Jd.pv 0) Jd.pe_int (fun _ _ => rfl)) (hs := sw_S))
      (Jd.pss_cons (Jd.ps_for PassesOwn.never rfl (Jd.piL K (Jd.pv 0)) (Jd.pg_name (i := 2) sc_smallest.nd rfl (Or.inl rfl))
      (Jd.pss_one (Jd.ps_if (Jd.pt_cmpR op_lt (Jd.pe_dn D_order (hr.mono (by decide)) rfl (Jd.pa_cons (Jd.pv 2) (Jd.pa_cons (Jd.pv 1) Jd.pa_nil st_N) st_N) (he := st_N) (hpl := (anyc st_N any0))) Jd.pe_int (nomark _))
      (Jd.pss_one (Jd.ps_set (i := 1) sc_smallest.nd rfl (Or.inl rfl) (Jd.pv 2) (hs := sw_N)))
      Jd.pss_nil)))
      (Jd.pss_one (Jd.ps_ret (Jd.pv 1))))), ?_⟩
  walk_at "vc"
  refine r_l hl (v := .ref (rs[0]).1) (atI_nat (j := 0) (by unfold qrefs; rw [List.getElem?_map, g0]; rfl)) ?_
  walk_at "vc"
  refine r_for (r_iL ?_)
  walk_at "vc"
  refine ⟨l, rfl, ⟨_, SqL.of hl⟩, for_list (xs := qrefs rs) (fun i σ H3 => H3 = H ∧ ∃ (x : Addr × Rat) (v : Option V), x ∈ rs ∧ σ = [some (.ref l), some (.ref x.1), v] ∧ ∀ y ∈ rs.take i, x.2 ≤ y.2) ?_ ?_ ?_ ?_⟩
  · exact ⟨rfl, rs[0], none, List.getElem_mem hp, rfl, fun y hy => by simp at hy⟩
  · rintro i σ H3 _ ⟨rfl, _⟩
    exact SqL.of hl
  · rintro i v σ H3 hx ⟨rfl, x, v2, hm, rfl, hle⟩
    obtain ⟨y, gy, rfl⟩ := qrefs_at hx
    have hy := List.mem_of_getElem? gy
    have tk : rs.take (i + 1) = rs.take i ++ [y] := by rw [List.take_add_one, gy]; rfl
    walk_at "vc"
    refine ⟨y.1, x.1, y.2, x.2, n, n, rfl, hq y hy, hq x hm, by walk_at "om", fun o ho1 ho2 => ?_⟩
    walk_at "vc"
    refine ite2 (fun c => ?_) (fun c => ?_)
    · have c' := ho2.mp (of_decide_eq_true c)
      walk_at "vc"
      refine ⟨rfl, y, _, hy, rfl, fun z hz => ?_⟩
      rw [tk] at hz
      rcases List.mem_append.mp hz with q | q
      · have := hle z q
        grind
      · obtain rfl : z = y := by simpa using q
        exact Rat.le_refl
    · have c' : ¬ y.2 < x.2 := fun z => of_decide_eq_false (Bool.eq_false_iff.mpr c) (ho2.mpr z)
      walk_at "vc"
      refine ⟨rfl, x, _, hm, rfl, fun z hz => ?_⟩
      rw [tk] at hz
      rcases List.mem_append.mp hz with q | q
      · exact hle z q
      · obtain rfl : z = y := by simpa using q
        exact Rat.not_lt.mp c'
  · rintro σ H3 ⟨rfl, x, v2, hm, rfl, hle⟩
    walk_at "vc"
    refine k x hm fun y hy => hle y ?_
    have e : (qrefs rs).length = rs.length := List.length_map ..
    rw [e, List.take_length]
    exact hy
theorem ok_loose_slopeQ (F : Fun K "loose_slope" "loose_slope" s_loose_slope f fd) (D_loose_minus : Dn P w K mg base 1 "loose_minus" ["one", "other"] (spTwo (· - ·) 1)) : FnOk P w K mg base CX0 3 f fd ["one", "other"] spLslopeQ := by
  refine F.ok sc_loose_slope (fun vs H Q E h => ?_) (fun cdv A outer s H vs Q E hr h => ?_)
  · obtain ⟨p, r, t, t', q, q', n, n', m, rfl, _⟩ := h
    rfl
  obtain ⟨p, r, t, t', q, q', n, n', m, rfl, ⟨v, hp, hv, zt⟩, ⟨v', hr', hv', zt'⟩, ht, hn, k⟩ := h
  refine Jd.go ⟨_, (Jd.pss_cons (Jd.ps_set (i := 2) sc_loose_slope.nd rfl (Or.inl rfl) (Jd.pe_dn D_loose_minus (hr.mono (by decide)) rfl (Jd.pa_cons (Jd.pe_ix (ixT K) (Jd.pv 1) Jd.pe_int (fun _ _ => rfl)) (Jd.pa_cons (Jd.pe_ix (ixT K) (Jd.pv 0) Jd.pe_int (fun _ _ => rfl)) Jd.pa_nil st_S) st_S) (he := st_S) (hpl := (anyc st_S any0))) (hs := sw_K))
      (Jd.pss_cons (Jd.ps_set (i := 3) sc_loose_slope.nd rfl (Or.inl rfl) (Jd.pe_op op_sub (Jd.pe_ix (ixT K) (Jd.pv 1) Jd.pe_int (fun _ _ => rfl)) (Jd.pe_ix (ixT K) (Jd.pv 0) Jd.pe_int (fun _ _ => rfl))) (hs := sw_B))
      (Jd.pss_cons (Jd.ps_if (Jd.pt_cmpR op_lt (Jd.pv 3) Jd.pe_int (nomark _))
      (Jd.pss_one (Jd.ps_ret (Jd.pe_tup (Jd.pa_cons (Jd.pe_un un_neg (Jd.pe_ix (ixT K) (Jd.pv 2) Jd.pe_int (fun _ _ => rfl))) (Jd.pa_cons (Jd.pe_op op_mulB (Jd.pe_ix (ixT K) (Jd.pv 2) Jd.pe_int (fun _ _ => rfl)) (Jd.pe_un un_neg (Jd.pv 3))) Jd.pa_nil st_B) st_U))))
      Jd.pss_nil)
      (Jd.pss_one (Jd.ps_ret (Jd.pe_tup (Jd.pa_cons (Jd.pe_ix (ixT K) (Jd.pv 2) Jd.pe_int (fun _ _ => rfl)) (Jd.pa_cons (Jd.pe_op op_mulB (Jd.pe_ix (ixT K) (Jd.pv 2) Jd.pe_int (fun _ _ => rfl)) (Jd.pv 3)) Jd.pa_nil st_B) st_S))))))), ?_⟩
  walk_at "vc"
  refine ⟨v', v, q', q, n', n, rfl, hv', hv, by walk_at "om", fun x H1 s1 e1 => ?_⟩
  obtain ⟨a, b, hx, hq, za, zb⟩ := e1
  have hp1 := s1 _ _ hp
  have hr1 := s1 _ _ hr'
  have zs : Sz (m + 1) (t' - t) := zt'.sub zt
  walk_at "vc"
  refine ite2 (fun c => ?_) (fun c => ?_)
  · have c' : t' - t < 0 := of_decide_eq_true c
    walk_at "om"
  · walk_at "vc"
    refine r_I (mulOk zb zs (by walk_at "om")) ?_
    walk_at "vc"
    refine r_new (mk := .tup) (by simp) fun y H2 s2 n2 e2 => ?_
    have q2 := hq.div (s := t' - t) (by walk_at "om")
    rw [Rat.intCast_sub] at q2
    exact k y H2 (s1.trans s2) ⟨_, _, e2, q2, za.mono (by walk_at "om"), (zb.mul zs).mono (by walk_at "om")⟩
theorem sc_good_behind : FnScope ["samples", "first", "bound", "start", "found", "gentlest", "steepest", "place", "moment", "value", "steep", "gentle", "steeper"] ["samples", "first", "bound"] (defScope s_good_behind) := ⟨rfl, rfl, rfl, by decide +kernel, rfl, by decide +kernel, by decide +kernel⟩
theorem ok_good_behind (F : Fun K "good_behind" "good_behind" s_good_behind f fd) (T : Txt mg) (D_order : Dn P w K mg base 1 "order" ["one", "other"] spOrderQ) (D_loose_plus : Dn P w K mg base 1 "loose_plus" ["one", "other"] (spTwo (· + ·) 1)) (D_loose_minus : Dn P w K mg base 1 "loose_minus" ["one", "other"] (spTwo (· - ·) 1))
    (D_loose_slopeQ : Dn P w K mg base 3 "loose_slope" ["one", "other"] spLslopeQ) (D_greatest : Dn P w K mg base 2 "greatest" ["quotients"] spGreat) (D_smallest : Dn P w K mg base 2 "smallest" ["quotients"] spSmall) : FnOk P w K mg base CX0 4 f fd ["samples", "first", "bound"] spGoodB := by
  refine F.ok sc_good_behind (fun vs H Q E h => ?_) (fun cdv A outer s H vs Q E hr h => ?_)
  · obtain ⟨l, pb, es, i, n, nb, β, rfl, _⟩ := h
    rfl
  obtain ⟨l, pb, es, i, n, nb, β, rfl, hl, hR, hS, hri, hi, h900, hb, hn, hnb, k⟩ := h
  obtain ⟨xi, gi, fi⟩ := sa_at hR hS hi
  refine Jd.go ⟨_, (Jd.pss_cons (Jd.ps_set (i := 3) sc_good_behind.nd rfl (Or.inl rfl) (Jd.pe_ix (ixL K) (Jd.pv 0) (Jd.pv 1) (fun _ _ => rfl)) (hs := sw_S))
      (Jd.pss_cons (Jd.ps_set (i := 4) sc_good_behind.nd rfl (Or.inl rfl) (Jd.pe_lst Jd.pa_nil) (hs := sw_L))
      (Jd.pss_cons (Jd.ps_set (i := 5) sc_good_behind.nd rfl (Or.inl rfl) Jd.pe_non (hs := sw_C))
      (Jd.pss_cons (Jd.ps_set (i := 6) sc_good_behind.nd rfl (Or.inl rfl) Jd.pe_non (hs := sw_C))
      (Jd.pss_cons (Jd.ps_for PassesOwn.never rfl (Jd.pi_range2 rfl T.range (Jd.pa_cons (Jd.pe_op op_add (Jd.pv 1) Jd.pe_int) (Jd.pa_cons (Jd.pe_callB (lenC K) rfl T.len_ PySem.boot_len (Jd.pa_cons (Jd.pv 0) Jd.pa_nil st_N) (he := st_N) (hpl := any0)) Jd.pa_nil st_K) st_B)) (Jd.pg_name (i := 7) sc_good_behind.nd rfl (Or.inl rfl))
      (Jd.pss_cons (Jd.ps_set (i := 8) sc_good_behind.nd rfl (Or.inl rfl) (Jd.pe_ix (ixT K) (Jd.pe_ix (ixL K) (Jd.pv 0) (Jd.pv 7) (fun _ _ => rfl)) Jd.pe_int (fun _ _ => rfl)) (hs := sw_S))
      (Jd.pss_cons (Jd.ps_set (i := 9) sc_good_behind.nd rfl (Or.inl rfl) (Jd.pe_ix (ixT K) (Jd.pe_ix (ixL K) (Jd.pv 0) (Jd.pv 7) (fun _ _ => rfl)) Jd.pe_int (fun _ _ => rfl)) (hs := sw_S))
      (Jd.pss_cons (Jd.ps_set (i := 10) sc_good_behind.nd rfl (Or.inl rfl) (Jd.pe_dn D_loose_slopeQ (hr.mono (by decide)) rfl (Jd.pa_cons (Jd.pv 3) (Jd.pa_cons (Jd.pe_ix (ixL K) (Jd.pv 0) (Jd.pv 7) (fun _ _ => rfl)) Jd.pa_nil st_S) st_N) (he := st_N) (hpl := (anyc st_S any0))) (hs := sw_K))
      (Jd.pss_cons (Jd.ps_set (i := 11) sc_good_behind.nd rfl (Or.inl rfl) (Jd.pe_dn D_loose_slopeQ (hr.mono (by decide)) rfl (Jd.pa_cons (Jd.pv 3) (Jd.pa_cons (Jd.pe_tup (Jd.pa_cons (Jd.pv 8) (Jd.pa_cons (Jd.pe_dn D_loose_minus (hr.mono (by decide)) rfl (Jd.pa_cons (Jd.pv 9) (Jd.pa_cons (Jd.pv 2) Jd.pa_nil st_N) st_N) (he := st_N) (hpl := (anyc st_N any0))) Jd.pa_nil st_K) st_N)) Jd.pa_nil st_T) st_N) (he := st_N) (hpl := (anyc st_T any0))) (hs := sw_K))
      (Jd.pss_cons (Jd.ps_set (i := 12) sc_good_behind.nd rfl (Or.inl rfl) (Jd.pe_dn D_loose_slopeQ (hr.mono (by decide)) rfl (Jd.pa_cons (Jd.pv 3) (Jd.pa_cons (Jd.pe_tup (Jd.pa_cons (Jd.pv 8) (Jd.pa_cons (Jd.pe_dn D_loose_plus (hr.mono (by decide)) rfl (Jd.pa_cons (Jd.pv 9) (Jd.pa_cons (Jd.pv 2) Jd.pa_nil st_N) st_N) (he := st_N) (hpl := (anyc st_N any0))) Jd.pa_nil st_K) st_N)) Jd.pa_nil st_T) st_N) (he := st_N) (hpl := (anyc st_T any0))) (hs := sw_K))
      (Jd.pss_cons (Jd.ps_if (Jd.pt_cmpR op_isN (Jd.pv 5) Jd.pe_non (nomark _))
      (Jd.pss_cons (Jd.ps_set (i := 5) sc_good_behind.nd rfl (Or.inl rfl) (Jd.pv 11) (hs := sw_N))
      (Jd.pss_cons (Jd.ps_set (i := 6) sc_good_behind.nd rfl (Or.inl rfl) (Jd.pv 12) (hs := sw_N))
      (Jd.pss_cons (Jd.ps_expr (Jd.appC K (Jd.pv 4) (Jd.pv 7)) (hs := sw_K))
      (Jd.pss_one Jd.ps_continue))))
      Jd.pss_nil)
      (Jd.pss_cons (Jd.ps_if (Jd.PWpt (Jd.pw_and (Jd.pt_cmpR op_le (Jd.pe_dn D_order (hr.mono (by decide)) rfl (Jd.pa_cons (Jd.pv 5) (Jd.pa_cons (Jd.pv 10) Jd.pa_nil st_N) st_N) (he := st_N) (hpl := (anyc st_N any0))) Jd.pe_int (nomark _)) (Jd.pw_and1 (Jd.pt_cmpR op_le (Jd.pe_dn D_order (hr.mono (by decide)) rfl (Jd.pa_cons (Jd.pv 10) (Jd.pa_cons (Jd.pv 6) Jd.pa_nil st_N) st_N) (he := st_N) (hpl := (anyc st_N any0))) Jd.pe_int (nomark _)))))
      (Jd.pss_one (Jd.ps_expr (Jd.appC K (Jd.pv 4) (Jd.pv 7)) (hs := sw_K)))
      Jd.pss_nil)
      (Jd.pss_cons (Jd.ps_set (i := 5) sc_good_behind.nd rfl (Or.inl rfl) (Jd.pe_dn D_greatest (hr.mono (by decide)) rfl (Jd.pa_cons (Jd.pe_lst (Jd.pa_cons (Jd.pv 5) (Jd.pa_cons (Jd.pv 11) Jd.pa_nil st_N) st_N)) Jd.pa_nil st_L) (he := st_L) (hpl := any0)) (hs := sw_K))
      (Jd.pss_one (Jd.ps_set (i := 6) sc_good_behind.nd rfl (Or.inl rfl) (Jd.pe_dn D_smallest (hr.mono (by decide)) rfl (Jd.pa_cons (Jd.pe_lst (Jd.pa_cons (Jd.pv 6) (Jd.pa_cons (Jd.pv 12) Jd.pa_nil st_N) st_N)) Jd.pa_nil st_L) (he := st_L) (hpl := any0)) (hs := sw_K))))))))))))
      (Jd.pss_one (Jd.ps_ret (Jd.pv 4)))))))), ?_⟩
  walk_at "vc"
  refine r_l hl (at_val gi rfl) ?_
  walk_at "vc"
  refine r_new (mk := .lst) (by simp) fun R H1 s1 n1 e1 => ?_
  walk_at "vc"
  refine r_for (r_rng2 ?_)
  walk_at "vc"
  refine r_len (.inl (SqL.of (s1 _ _ hl))) ?_
  rw [vals_len]
  walk_at "vc"
  refine ⟨_, _, rfl, ⟨by lia, by lia, by lia, by lia⟩, for_range (fun m σ H3 => ∃ (js : List Nat) (gv sv : V) (v7 v8 v9 v10 v11 v12 : Option V), σ = [some (.ref l), some (.int i), some (.ref pb), some (.ref xi.1), some (.ref R), some gv, some sv, v7, v8, v9, v10, v11, v12] ∧
    Same H H3 ∧ H3 R = some (.lst (natsV js)) ∧ js.length ≤ m ∧ (∀ j, j ∈ js ↔ i < j ∧ j < i + 1 + m ∧ Good es β i j) ∧ ((m = 0 ∧ gv = .non) ∨ (0 < m ∧ ∃ (pg ps : Addr) (G S : Rat), gv = .ref pg ∧ sv = .ref ps ∧ QtAt H3 pg G (3 * n + nb + 3) ∧ QtAt H3 ps S (3 * n + nb + 3) ∧
      (∀ k, i < k → k < i + 1 + m → lowS es β i k ≤ G ∧ S ≤ highS es β i k) ∧ (∃ k, i < k ∧ k < i + 1 + m ∧ lowS es β i k = G) ∧ ∃ k, i < k ∧ k < i + 1 + m ∧ highS es β i k = S))) ?_ ?_ ?_⟩
  · exact ⟨[], .non, .non, none, none, none, none, none, none, rfl, s1, e1, Nat.zero_le _, fun j => ⟨fun z => absurd z (by simp), fun z => absurd z (by walk_at "om")⟩, .inl ⟨rfl, rfl⟩⟩
  · rintro m σ H3 hm ⟨js, gv, sv, v7, v8, v9, v10, v11, v12, rfl, s3, e3, hlen, hjs, hI⟩
    have hp : i + 1 + m < es.length := by walk_at "om"
    obtain ⟨xp, gp, fp⟩ := sa_at (hR.up s3) hS hp
    obtain ⟨vp, ep, fvp, ztp⟩ := id fp
    have ht := mo_lt hri (show i < i + 1 + m by walk_at "om") hp
    have hl3 := s3 _ _ hl
    walk_at "vc"
    refine r_l hl3 (at_val gp (by walk_at "om")) ?_
    walk_at "vc"
    refine r_l hl3 (at_val gp (by walk_at "om")) ?_
    walk_at "vc"
    refine r_l hl3 (at_val gp (by walk_at "om")) ?_
    walk_at "vc"
    refine ⟨xi.1, xp.1, _, _, _, _, n, n, n, rfl, (fi.up s3).saq, fp.saq, ht, by walk_at "om", fun ps4 H4 s4 f4 => ?_⟩
    walk_at "vc"
    refine ⟨vp, pb, _, _, n, nb, rfl, (fvp.up s4).qt, hb.up (s3.trans s4), by walk_at "om", fun y5 H5 s5 f5 => ?_⟩
    walk_at "vc"
    refine r_new (mk := .tup) (by simp) fun y6 H6 s6 n6 e6 => ?_
    have s36 := s4.trans (s5.trans s6)
    refine ⟨xi.1, y6, _, _, _, _, n, n + nb + 1, n, rfl, (fi.up (s3.trans s36)).saq, ⟨y5, e6, f5.up s6, ztp⟩, ht, by walk_at "om", fun pg7 H7 s7 f7 => ?_⟩
    walk_at "vc"
    have s37 := s36.trans s7
    refine ⟨vp, pb, _, _, n, nb, rfl, (fvp.up s37).qt, hb.up (s3.trans s37), by walk_at "om", fun y8 H8 s8 f8 => ?_⟩
    walk_at "vc"
    refine r_new (mk := .tup) (by simp) fun y9 H9 s9 n9 e9 => ?_
    have s39 := s37.trans (s8.trans s9)
    refine ⟨xi.1, y9, _, _, _, _, n, n + nb + 1, n, rfl, (fi.up (s3.trans s39)).saq, ⟨y8, e9, f8.up s9, ztp⟩, ht, by walk_at "om", fun ps10 H10 s10 f10 => ?_⟩
    have s310 := s39.trans s10
    have s710 := s8.trans (s9.trans s10)
    have e10 := s310 _ _ e3
    have lowq : QtAt H10 pg7 (lowS es β i (i + 1 + m)) (3 * n + nb + 3) := (f7.up s710).mono (by walk_at "om")
    have highq : QtAt H10 ps10 (highS es β i (i + 1 + m)) (3 * n + nb + 3) := f10.mono (by walk_at "om")
    have sloq : QtAt H10 ps4 (slo es i (i + 1 + m)) (3 * n + 2) := (f4.up ((s5.trans (s6.trans s7)).trans s710)).mono (by walk_at "om")
    have spot : ((i : Int) + 1 + (m : Int)) = ((i + 1 + m : Nat) : Int) := by walk_at "om"
    walk_at "vc"
    rcases hI with ⟨rfl, rfl⟩ | ⟨hm0, pg, ps, G, S, rfl, rfl, hG, hS2, hall, hexG, hexS⟩
    · refine ⟨rfl, ?_⟩
      walk_at "vc"
      refine iteT ?_
      walk_at "vc"
      refine ⟨.inl ⟨rfl, _, SqL.of e10⟩, ?_⟩
      walk_at "vc"
      rw [spot]
      refine r_app e10 (by rw [natsV_len]; exact small1000 (by walk_at "om")) ?_
      walk_at "vc"
      refine ⟨js ++ [i + 1 + 0], _, _, _, _, _, _, _, _, rfl, same_at (s3.trans s310) n1, by rw [upd_same, ← natsV_snoc], by rw [List.length_append]; show js.length + 1 ≤ 1; walk_at "om", fun j => ?_, .inr ⟨by walk_at "om", pg7, ps10, _, _, rfl, rfl, lowq.app e10, highq.app e10, fun k h1 h2 => ?_, ⟨i + 1 + 0, by walk_at "om", by walk_at "om", rfl⟩, ⟨i + 1 + 0, by walk_at "om", by walk_at "om", rfl⟩⟩⟩
      · have hj0 : js = [] := List.length_eq_zero_iff.mp (by walk_at "om")
        rw [hj0]
        constructor
        · intro z
          obtain rfl : j = i + 1 + 0 := by simpa using z
          exact ⟨by walk_at "om", by walk_at "om", fun k h1 h2 => by walk_at "om"⟩
        · rintro ⟨h1, h2, _⟩
          have : j = i + 1 + 0 := by walk_at "om"
          simp [this]
      · obtain rfl : k = i + 1 + 0 := by walk_at "om"
        exact ⟨Rat.le_refl, Rat.le_refl⟩
    · refine ⟨rfl, ?_⟩
      walk_at "vc"
      refine iteF ?_
      walk_at "vc"
      refine ⟨pg, ps4, _, _, _, _, rfl, hG.up s310, sloq, by walk_at "om", fun o ho1 ho2 => ?_⟩
      have hgood : ∀ {P : Prop}, (G ≤ slo es i (i + 1 + m) ∧ slo es i (i + 1 + m) ≤ S) = P → (Good es β i (i + 1 + m) ↔ P) := fun e => by
        rw [← e]
        constructor
        · intro g
          obtain ⟨k1, a1, b1, c1⟩ := hexG
          obtain ⟨k2, a2, b2, c2⟩ := hexS
          exact ⟨by rw [← c1]; exact ((good_iff hri a1 b1 hp).mp (g k1 a1 b1)).1, by rw [← c2]; exact ((good_iff hri a2 b2 hp).mp (g k2 a2 b2)).2⟩
        · rintro ⟨g1, g2⟩ k h1 h2
          obtain ⟨l1, l2⟩ := hall k h1 h2
          exact (good_iff hri h1 h2 hp).mpr ⟨by grind, by grind⟩
      -- the end of the turn: the list js' stands at R in H11
      have fin : ∀ (js' : List Nat) (H11 H12 : Hp) (pg' ps' : Addr) (G' S' : Rat) (v7 v8 v9 v10 v11 v12 : Option V), Same H H12 → H12 R = some (.lst (natsV js')) → js'.length ≤ m + 1 → (∀ j, j ∈ js' ↔ i < j ∧ j < i + 1 + (m + 1) ∧ Good es β i j) →
          QtAt H12 pg' G' (3 * n + nb + 3) → QtAt H12 ps' S' (3 * n + nb + 3) → (G' = G ∧ lowS es β i (i + 1 + m) ≤ G ∨ G' = lowS es β i (i + 1 + m) ∧ G ≤ lowS es β i (i + 1 + m)) → (S' = S ∧ S ≤ highS es β i (i + 1 + m) ∨ S' = highS es β i (i + 1 + m) ∧ highS es β i (i + 1 + m) ≤ S) →
          ∃ (js : List Nat) (gv sv : V) (w7 w8 w9 w10 w11 w12 : Option V), [some (.ref l), some (.int (i : Int)), some (.ref pb), some (.ref xi.1), some (.ref R), some (.ref pg'), some (.ref ps'), v7, v8, v9, v10, v11, v12] = [some (.ref l), some (.int (i : Int)), some (.ref pb), some (.ref xi.1), some (.ref R), some gv, some sv, w7, w8, w9, w10, w11, w12] ∧
          Same H H12 ∧ H12 R = some (.lst (natsV js)) ∧ js.length ≤ m + 1 ∧ (∀ j, j ∈ js ↔ i < j ∧ j < i + 1 + (m + 1) ∧ Good es β i j) ∧ ((m + 1 = 0 ∧ gv = .non) ∨ (0 < m + 1 ∧ ∃ (pg ps : Addr) (G S : Rat), gv = .ref pg ∧ sv = .ref ps ∧ QtAt H12 pg G (3 * n + nb + 3) ∧ QtAt H12 ps S (3 * n + nb + 3) ∧
            (∀ k, i < k → k < i + 1 + (m + 1) → lowS es β i k ≤ G ∧ S ≤ highS es β i k) ∧ (∃ k, i < k ∧ k < i + 1 + (m + 1) ∧ lowS es β i k = G) ∧ ∃ k, i < k ∧ k < i + 1 + (m + 1) ∧ highS es β i k = S)) := by
        intro js' H11 H12 pg' ps' G' S' v7 v8 v9 v10 v11 v12 sH eR12 hl' hjs' qG qS hG' hS'
        refine ⟨js', _, _, v7, v8, v9, v10, v11, v12, rfl, sH, eR12, hl', hjs', .inr ⟨by walk_at "om", pg', ps', G', S', rfl, rfl, qG, qS, fun k h1 h2 => ?_, ?_, ?_⟩⟩
        · by_cases hk : k = i + 1 + m
          · subst hk
            exact ⟨by rcases hG' with ⟨a, b⟩ | ⟨a, b⟩ <;> grind, by rcases hS' with ⟨a, b⟩ | ⟨a, b⟩ <;> grind⟩
          · obtain ⟨l1, l2⟩ := hall k h1 (by walk_at "om")
            exact ⟨by rcases hG' with ⟨a, b⟩ | ⟨a, b⟩ <;> grind, by rcases hS' with ⟨a, b⟩ | ⟨a, b⟩ <;> grind⟩
        · rcases hG' with ⟨a, b⟩ | ⟨a, b⟩
          · obtain ⟨k1, a1, b1, c1⟩ := hexG
            exact ⟨k1, a1, by walk_at "om", by rw [c1, a]⟩
          · exact ⟨i + 1 + m, by walk_at "om", by walk_at "om", a.symm⟩
        · rcases hS' with ⟨a, b⟩ | ⟨a, b⟩
          · obtain ⟨k1, a1, b1, c1⟩ := hexS
            exact ⟨k1, a1, by walk_at "om", by rw [c1, a]⟩
          · exact ⟨i + 1 + m, by walk_at "om", by walk_at "om", a.symm⟩
      have keep : ¬ Good es β i (i + 1 + m) → ∀ j, j ∈ js ↔ i < j ∧ j < i + 1 + (m + 1) ∧ Good es β i j := fun ng j => by
        rw [hjs j]
        constructor
        · rintro ⟨a, b, c⟩
          exact ⟨a, by walk_at "om", c⟩
        · rintro ⟨a, b, c⟩
          refine ⟨a, ?_, c⟩
          by_cases hj : j = i + 1 + m
          · subst hj
            exact absurd c ng
          · walk_at "om"
      have more : Good es β i (i + 1 + m) → ∀ j, j ∈ js ++ [i + 1 + m] ↔ i < j ∧ j < i + 1 + (m + 1) ∧ Good es β i j := fun g j => by
        rw [List.mem_append, hjs j, List.mem_singleton]
        constructor
        · rintro (⟨a, b, c⟩ | rfl)
          · exact ⟨a, by walk_at "om", c⟩
          · exact ⟨by walk_at "om", by walk_at "om", g⟩
        · rintro ⟨a, b, c⟩
          by_cases hj : j = i + 1 + m
          · exact .inr hj
          · exact .inl ⟨a, by walk_at "om", c⟩
      -- greatest and smallest of two
      walk_at "vc"
      refine ite2 (fun c1 => ?_) (fun c1 => ?_)
      · have c1' : G ≤ slo es i (i + 1 + m) := Rat.not_lt.mp fun z => by
          have := ho1.mpr z
          have := of_decide_eq_true c1
          walk_at "om"
        walk_at "vc"
        refine ⟨ps4, ps, _, _, _, _, rfl, sloq, hS2.up s310, by walk_at "om", fun o2 ho3 ho4 => ?_⟩
        walk_at "vc"
        refine ite2 (fun c2 => ?_) (fun c2 => ?_)
        · have c2' : slo es i (i + 1 + m) ≤ S := Rat.not_lt.mp fun z => by
            have := ho3.mpr z
            have := of_decide_eq_true c2
            walk_at "om"
          walk_at "vc"
          refine ⟨.inl ⟨rfl, _, SqL.of e10⟩, ?_⟩
          walk_at "vc"
          rw [spot]
          refine r_app e10 (by rw [natsV_len]; exact small1000 (by walk_at "om")) ?_
          generalize hH11 : upd H10 R (.lst (natsV js ++ [.int ((i + 1 + m : Nat) : Int)])) = H11
          have e11 : H11 R = some (.lst (natsV (js ++ [i + 1 + m]))) := by rw [← hH11, upd_same, natsV_snoc]
          have s011 : Same H H11 := by rw [← hH11]; exact same_at (s3.trans s310) n1
          have lq : ∀ {p : Addr} {q : Rat}, QtAt H10 p q (3 * n + nb + 3) → QtAt H11 p q (3 * n + nb + 3) := fun f => by rw [← hH11]; exact f.app e10
          have g := (hgood rfl).mpr ⟨c1', c2'⟩
          walk_at "vc"
          refine r_new (mk := .lst) (by simp) fun l12 H12 s12 n12 e12 => ?_
          walk_at "vc"
          refine ⟨l12, [(pg, G), (pg7, lowS es β i (i + 1 + m))], 3 * n + nb + 3, rfl, e12, fun x hx => ?_, by walk_at "om", Nat.succ_pos _, fun x hx hmax => ?_⟩
          · rcases (show x = (pg, G) ∨ x = (pg7, lowS es β i (i + 1 + m)) by simpa using hx) with rfl | rfl
            · exact (lq (hG.up s310)).up s12
            · exact (lq lowq).up s12
          walk_at "vc"
          refine r_new (mk := .lst) (by simp) fun l13 H13 s13 n13 e13 => ?_
          walk_at "vc"
          refine ⟨l13, [(ps, S), (ps10, highS es β i (i + 1 + m))], 3 * n + nb + 3, rfl, e13, fun y hy => ?_, by walk_at "om", Nat.succ_pos _, fun y hy hmin => ?_⟩
          · rcases (show y = (ps, S) ∨ y = (ps10, highS es β i (i + 1 + m)) by simpa using hy) with rfl | rfl
            · exact (lq (hS2.up s310)).up (s12.trans s13)
            · exact (lq highq).up (s12.trans s13)
          walk_at "vc"
          have qx : QtAt H13 x.1 x.2 (3 * n + nb + 3) ∧ (x.2 = G ∧ lowS es β i (i + 1 + m) ≤ G ∨ x.2 = lowS es β i (i + 1 + m) ∧ G ≤ lowS es β i (i + 1 + m)) := by
            rcases (show x = (pg, G) ∨ x = (pg7, lowS es β i (i + 1 + m)) by simpa using hx) with rfl | rfl
            · exact ⟨(lq (hG.up s310)).up (s12.trans s13), .inl ⟨rfl, hmax (pg7, lowS es β i (i + 1 + m)) (by simp)⟩⟩
            · exact ⟨(lq lowq).up (s12.trans s13), .inr ⟨rfl, hmax (pg, G) (by simp)⟩⟩
          have qy : QtAt H13 y.1 y.2 (3 * n + nb + 3) ∧ (y.2 = S ∧ S ≤ highS es β i (i + 1 + m) ∨ y.2 = highS es β i (i + 1 + m) ∧ highS es β i (i + 1 + m) ≤ S) := by
            rcases (show y = (ps, S) ∨ y = (ps10, highS es β i (i + 1 + m)) by simpa using hy) with rfl | rfl
            · exact ⟨(lq (hS2.up s310)).up (s12.trans s13), .inl ⟨rfl, hmin (ps10, highS es β i (i + 1 + m)) (by simp)⟩⟩
            · exact ⟨(lq highq).up (s12.trans s13), .inr ⟨rfl, hmin (ps, S) (by simp)⟩⟩
          exact fin (js ++ [i + 1 + m]) H11 H13 x.1 y.1 x.2 y.2 _ _ _ _ _ _ (s011.trans (s12.trans s13)) ((s12.trans s13) _ _ e11) (by rw [List.length_append]; show js.length + 1 ≤ m + 1; walk_at "om") (more g) qx.1 qy.1 qx.2 qy.2
        · have c2' : ¬ slo es i (i + 1 + m) ≤ S := fun z => by
            have h1 : ¬ 0 < o2 := fun q => by
              have := ho3.mp q
              grind
            have h2 := of_decide_eq_false (Bool.eq_false_iff.mpr c2)
            walk_at "om"
          have ng : ¬ Good es β i (i + 1 + m) := fun g => c2' ((hgood rfl).mp g).2
          walk_at "vc"
          refine r_new (mk := .lst) (by simp) fun l12 H12 s12 n12 e12 => ?_
          walk_at "vc"
          refine ⟨l12, [(pg, G), (pg7, lowS es β i (i + 1 + m))], 3 * n + nb + 3, rfl, e12, fun x hx => ?_, by walk_at "om", Nat.succ_pos _, fun x hx hmax => ?_⟩
          · rcases (show x = (pg, G) ∨ x = (pg7, lowS es β i (i + 1 + m)) by simpa using hx) with rfl | rfl
            · exact (hG.up s310).up s12
            · exact lowq.up s12
          walk_at "vc"
          refine r_new (mk := .lst) (by simp) fun l13 H13 s13 n13 e13 => ?_
          walk_at "vc"
          refine ⟨l13, [(ps, S), (ps10, highS es β i (i + 1 + m))], 3 * n + nb + 3, rfl, e13, fun y hy => ?_, by walk_at "om", Nat.succ_pos _, fun y hy hmin => ?_⟩
          · rcases (show y = (ps, S) ∨ y = (ps10, highS es β i (i + 1 + m)) by simpa using hy) with rfl | rfl
            · exact (hS2.up s310).up (s12.trans s13)
            · exact highq.up (s12.trans s13)
          walk_at "vc"
          have qx : QtAt H13 x.1 x.2 (3 * n + nb + 3) ∧ (x.2 = G ∧ lowS es β i (i + 1 + m) ≤ G ∨ x.2 = lowS es β i (i + 1 + m) ∧ G ≤ lowS es β i (i + 1 + m)) := by
            rcases (show x = (pg, G) ∨ x = (pg7, lowS es β i (i + 1 + m)) by simpa using hx) with rfl | rfl
            · exact ⟨(hG.up s310).up (s12.trans s13), .inl ⟨rfl, hmax (pg7, lowS es β i (i + 1 + m)) (by simp)⟩⟩
            · exact ⟨lowq.up (s12.trans s13), .inr ⟨rfl, hmax (pg, G) (by simp)⟩⟩
          have qy : QtAt H13 y.1 y.2 (3 * n + nb + 3) ∧ (y.2 = S ∧ S ≤ highS es β i (i + 1 + m) ∨ y.2 = highS es β i (i + 1 + m) ∧ highS es β i (i + 1 + m) ≤ S) := by
            rcases (show y = (ps, S) ∨ y = (ps10, highS es β i (i + 1 + m)) by simpa using hy) with rfl | rfl
            · exact ⟨(hS2.up s310).up (s12.trans s13), .inl ⟨rfl, hmin (ps10, highS es β i (i + 1 + m)) (by simp)⟩⟩
            · exact ⟨highq.up (s12.trans s13), .inr ⟨rfl, hmin (ps, S) (by simp)⟩⟩
          exact fin js H10 H13 x.1 y.1 x.2 y.2 _ _ _ _ _ _ ((s3.trans s310).trans (s12.trans s13)) ((s12.trans s13) _ _ e10) (by walk_at "om") (keep ng) qx.1 qy.1 qx.2 qy.2
      · have c1' : ¬ G ≤ slo es i (i + 1 + m) := fun z => by
          have h1 : ¬ 0 < o := fun q => by
            have := ho1.mp q
            grind
          have h2 := of_decide_eq_false (Bool.eq_false_iff.mpr c1)
          walk_at "om"
        have ng : ¬ Good es β i (i + 1 + m) := fun g => c1' ((hgood rfl).mp g).1
        refine iteF ?_
        walk_at "vc"
        refine r_new (mk := .lst) (by simp) fun l12 H12 s12 n12 e12 => ?_
        walk_at "vc"
        refine ⟨l12, [(pg, G), (pg7, lowS es β i (i + 1 + m))], 3 * n + nb + 3, rfl, e12, fun x hx => ?_, by walk_at "om", Nat.succ_pos _, fun x hx hmax => ?_⟩
        · rcases (show x = (pg, G) ∨ x = (pg7, lowS es β i (i + 1 + m)) by simpa using hx) with rfl | rfl
          · exact (hG.up s310).up s12
          · exact lowq.up s12
        walk_at "vc"
        refine r_new (mk := .lst) (by simp) fun l13 H13 s13 n13 e13 => ?_
        walk_at "vc"
        refine ⟨l13, [(ps, S), (ps10, highS es β i (i + 1 + m))], 3 * n + nb + 3, rfl, e13, fun y hy => ?_, by walk_at "om", Nat.succ_pos _, fun y hy hmin => ?_⟩
        · rcases (show y = (ps, S) ∨ y = (ps10, highS es β i (i + 1 + m)) by simpa using hy) with rfl | rfl
          · exact (hS2.up s310).up (s12.trans s13)
          · exact highq.up (s12.trans s13)
        walk_at "vc"
        have qx : QtAt H13 x.1 x.2 (3 * n + nb + 3) ∧ (x.2 = G ∧ lowS es β i (i + 1 + m) ≤ G ∨ x.2 = lowS es β i (i + 1 + m) ∧ G ≤ lowS es β i (i + 1 + m)) := by
          rcases (show x = (pg, G) ∨ x = (pg7, lowS es β i (i + 1 + m)) by simpa using hx) with rfl | rfl
          · exact ⟨(hG.up s310).up (s12.trans s13), .inl ⟨rfl, hmax (pg7, lowS es β i (i + 1 + m)) (by simp)⟩⟩
          · exact ⟨lowq.up (s12.trans s13), .inr ⟨rfl, hmax (pg, G) (by simp)⟩⟩
        have qy : QtAt H13 y.1 y.2 (3 * n + nb + 3) ∧ (y.2 = S ∧ S ≤ highS es β i (i + 1 + m) ∨ y.2 = highS es β i (i + 1 + m) ∧ highS es β i (i + 1 + m) ≤ S) := by
          rcases (show y = (ps, S) ∨ y = (ps10, highS es β i (i + 1 + m)) by simpa using hy) with rfl | rfl
          · exact ⟨(hS2.up s310).up (s12.trans s13), .inl ⟨rfl, hmin (ps10, highS es β i (i + 1 + m)) (by simp)⟩⟩
          · exact ⟨highq.up (s12.trans s13), .inr ⟨rfl, hmin (ps, S) (by simp)⟩⟩
        exact fin js H10 H13 x.1 y.1 x.2 y.2 _ _ _ _ _ _ ((s3.trans s310).trans (s12.trans s13)) ((s12.trans s13) _ _ e10) (by walk_at "om") (keep ng) qx.1 qy.1 qx.2 qy.2
  · rintro σ H3 ⟨js, gv, sv, v7, v8, v9, v10, v11, v12, rfl, s3, e3, hlen, hjs, hI⟩
    walk_at "vc"
    have hjl : js.length ≤ es.length := by
      clear hI hjs
      walk_at "om"
    refine k R js H3 s3 n1 e3 hjl fun j => ?_
    rw [hjs j]
    have e : i + 1 + ((es.length : Int) - ((i : Int) + 1)).toNat = es.length := by
      clear hI hjs
      walk_at "om"
    rw [e]
theorem sc_leaps : FnScope ["samples", "bound", "tied", "found", "first", "good"] ["samples", "bound", "tied"] (defScope s_leaps) := ⟨rfl, rfl, rfl, by decide +kernel, rfl, by decide +kernel, by decide +kernel⟩
theorem ok_leaps (F : Fun K "leaps" "leaps" s_leaps f fd) (T : Txt mg) (D_good_behind : Dn P w K mg base 4 "good_behind" ["samples", "first", "bound"] spGoodB) : FnOk P w K mg base CX0 5 f fd ["samples", "bound", "tied"] spLeaps := by
  refine F.ok sc_leaps (fun vs H Q E h => ?_) (fun cdv A outer s H vs Q E hr h => ?_)
  · obtain ⟨l, pb, es, n, nb, β, tied, rfl, _⟩ := h
    rfl
  obtain ⟨l, pb, es, n, nb, β, tied, rfl, hl, hR, hS, hri, h900, hb, hn, hnb, k⟩ := h
  refine Jd.go ⟨_, (Jd.pss_cons (Jd.ps_set (i := 3) sc_leaps.nd rfl (Or.inl rfl) (Jd.pe_lst Jd.pa_nil) (hs := sw_L))
      (Jd.pss_cons (Jd.ps_for PassesOwn.never rfl (Jd.pi_range1 rfl T.range (Jd.pa_cons (Jd.pe_callB (lenC K) rfl T.len_ PySem.boot_len (Jd.pa_cons (Jd.pv 0) Jd.pa_nil st_N) (he := st_N) (hpl := any0)) Jd.pa_nil st_K)) (Jd.pg_name (i := 4) sc_leaps.nd rfl (Or.inl rfl))
      (Jd.pss_cons (Jd.ps_set (i := 5) sc_leaps.nd rfl (Or.inl rfl) (Jd.pe_dn D_good_behind (hr.mono (by decide)) rfl (Jd.pa_cons (Jd.pv 0) (Jd.pa_cons (Jd.pv 4) (Jd.pa_cons (Jd.pv 1) Jd.pa_nil st_N) st_N) st_N) (he := st_N) (hpl := (anyc st_N (anyc st_N any0)))) (hs := sw_K))
      (Jd.pss_one (Jd.ps_expr (Jd.appC K (Jd.pv 3) (Jd.pe_ifExp (Jd.pt_val (Jd.pv 2)) (Jd.pv 5) (Jd.pe_op op_cat (Jd.pe_lst (Jd.pa_cons (Jd.pe_op op_add (Jd.pv 4) Jd.pe_int) Jd.pa_nil st_B)) (Jd.pe_comp (O := ["last"]) (N' := []) (cap := []) rfl (Jd.piL K (Jd.pv 5)) (fun _ _ _ _ _ => (Jd.pg_name (i := 0) (show List.Nodup [("last" : Str)] by decide +kernel) rfl (Or.inl rfl))) (fun _ _ _ _ _ => Jd.pts_nil) (fun _ _ _ _ _ => (Jd.pe_op op_add (Jd.pv 0) Jd.pe_int)) rfl trivial rfl (by decide +kernel) rfl (by decide +kernel))))) (hs := sw_K)))))
      (Jd.pss_one (Jd.ps_ret (Jd.pv 3))))), ?_⟩
  walk_at "vc"
  refine r_new (mk := .lst) (by simp) fun FF H1 s1 n1 e1 => ?_
  walk_at "vc"
  refine r_for (r_rng1 ?_)
  walk_at "vc"
  refine r_len (.inl (SqL.of (s1 _ _ hl))) ?_
  rw [vals_len]
  walk_at "vc"
  refine ⟨_, rfl, by lia, by lia, for_range (fun m σ H3 => ∃ (rs : List (Addr × List Nat)) (v4 v5 : Option V), σ = [some (.ref l), some (.ref pb), some (.bl tied), some (.ref FF), v4, v5] ∧ Same H H3 ∧ Ls2 H3 FF rs ∧ rs.length = m ∧ LeadsAre es β tied rs) ?_ ?_ ?_⟩
  · exact ⟨[], none, none, rfl, s1, ⟨e1, fun x hx => absurd hx (by simp)⟩, rfl, fun i x hx => by simp at hx⟩
  · rintro m σ H3 hm ⟨rs, v4, v5, rfl, s3, hL, hlen, hle⟩
    have hm' : m < es.length := by walk_at "om"
    rw [show (0 : Int) + (m : Int) = (m : Int) by walk_at "om"]
    walk_at "vc"
    refine ⟨l, pb, es, m, n, nb, β, rfl, s3 _ _ hl, hR.up s3, hS, hri, hm', h900, hb.up s3, hn, hnb, fun R js H4 s4 nR eR hjl hjs => ?_⟩
    have hL4 := hL.up s4
    have nRF : R ≠ FF := fun z => by
      rw [z, hL.at_] at nR
      cases nR
    have small : (rs.map fun x => V.ref x.1).length < sizeLine := by rw [List.length_map]; exact small1000 (by walk_at "om")
    -- one list more
    have fin : ∀ (R' : Addr) (js' : List Nat) (H5 : Hp) (v4 v5 : Option V), Same H4 H5 → H5 R' = some (.lst (natsV js')) → R' ≠ FF → js'.length ≤ es.length + 1 → (∀ j, j ∈ js' ↔ Lead es β tied m j) →
        ∃ (rs' : List (Addr × List Nat)) (w4 w5 : Option V), [some (.ref l), some (.ref pb), some (.bl tied), some (.ref FF), v4, v5] = [some (.ref l), some (.ref pb), some (.bl tied), some (.ref FF), w4, w5] ∧ Same H (upd H5 FF (.lst (rs.map (fun x => V.ref x.1) ++ [.ref R']))) ∧ Ls2 (upd H5 FF (.lst (rs.map (fun x => V.ref x.1) ++ [.ref R']))) FF rs' ∧ rs'.length = m + 1 ∧ LeadsAre es β tied rs' := by
      intro R' js' H5 v4 v5 s5 eR' nR' hl' hj'
      refine ⟨rs ++ [(R', js')], v4, v5, rfl, same_at ((s3.trans s4).trans s5) n1, (hL4.up s5).push eR' nR', by rw [List.length_append, hlen]; rfl, fun i x hx => ?_⟩
      by_cases hi : i < rs.length
      · rw [List.getElem?_append_left hi] at hx
        exact hle i x hx
      · rw [List.getElem?_append_right (by walk_at "om")] at hx
        have hi2 : i - rs.length = 0 := by
          have := (List.getElem?_eq_some_iff.mp hx).1
          simp at this
          walk_at "om"
        rw [hi2] at hx
        obtain rfl : (R', js') = x := by simpa using hx
        have : i = m := by walk_at "om"
        subst this
        exact ⟨hl', hj'⟩
    walk_at "vc"
    refine ⟨.inl ⟨rfl, _, SqL.of hL4.at_⟩, ?_⟩
    walk_at "vc"
    cases tied with
    | true =>
      refine iteT ?_
      walk_at "vc"
      refine r_app hL4.at_ small ?_
      exact fin R js H4 _ _ (Same.refl _) eR nRF (by walk_at "om") fun j => by
        unfold Lead
        rw [if_pos rfl]
        exact hjs j
    | false =>
      refine iteF ?_
      walk_at "vc"
      refine r_new (mk := .lst) (by simp) fun l5 H5 s5 n5 e5 => ?_
      walk_at "vc"
      refine r_iL ?_
      walk_at "vc"
      refine ⟨R, rfl, ⟨_, SqL.of (s5 _ _ eR)⟩, ?_⟩
      refine compB_of (xs := natsV js) tells_list (fun H6 s6 => SqL.of (s6 _ _ (s5 _ _ eR))) (by rw [natsV_len]; walk_at "om") (fun i ys G => ys = natsV ((js.take i).map (· + 1))) rfl ?_ ?_
      · rintro D i x ys H6 σ0 N N0 h0 hD eD s6 hx hy rfl kY kN
        obtain ⟨j, gj, rfl⟩ := natsV_at hx
        have tk : js.take (i + 1) = js.take i ++ [j] := by rw [List.take_add_one, gj]; rfl
        refine r_own1 h0 ?_
        walk_at "vc"
        refine iteT ?_
        walk_at "vc"
        refine kY _ H6 (Same.refl _) ?_
        rw [tk, List.map_append]
        exact natsV_snoc _ (j + 1)
      · rintro D ys H6 hD eD s6 hy rfl
        rw [natsV_len, List.take_length] at eD
        refine r_cat (s6 _ _ e5) eD ?_
        refine r_new (mk := .lst) (by rw [List.length_append, natsV_len, List.length_map]; simp; walk_at "om") fun R7 H7 s7 n7 e7 => ?_
        have s47 := s5.trans (s6.trans s7)
        have e7' : H7 R7 = some (.lst (natsV ((m + 1) :: js.map (· + 1)))) := e7
        walk_at "vc"
        refine r_app (hL4.up s47).at_ small ?_
        refine fin R7 ((m + 1) :: js.map (· + 1)) H7 _ _ s47 e7' (fun z => ?_) (by simp; walk_at "om") fun j => ?_
        · rw [z, ((hL4.up s5).up s6).at_] at n7
          cases n7
        · unfold Lead
          rw [if_neg Bool.false_ne_true, List.mem_cons, List.mem_map]
          constructor
          · rintro (rfl | ⟨j', hj', rfl⟩)
            · exact ⟨hm', .inl rfl⟩
            · obtain ⟨a, b, c⟩ := (hjs j').mp hj'
              exact ⟨hm', .inr ⟨by walk_at "om", by walk_at "om", c⟩⟩
          · rintro ⟨_, rfl | ⟨a, b, c⟩⟩
            · exact .inl rfl
            · exact .inr ⟨j - 1, (hjs (j - 1)).mpr ⟨by walk_at "om", by walk_at "om", c⟩, by walk_at "om"⟩
  · rintro σ H3 ⟨rs, v4, v5, rfl, s3, hL, hlen, hle⟩
    walk_at "vc"
    exact k FF rs H3 s3 n1 hL (by walk_at "om") hle
theorem told0 (N : Nat) (h : 1 ≤ N) : [V.int 0] ++ (List.replicate ((N : Int) - 1).toNat [V.int (N : Int)]).flatten = intsV N (fun j => if j = 0 then 0 else (N : Int)) := by
  obtain ⟨m, rfl⟩ : ∃ m, N = m + 1 := ⟨N - 1, by walk_at "om"⟩
  have e : (((m + 1 : Nat) : Int) - 1).toNat = m := by walk_at "om"
  rw [e]
  unfold intsV
  apply List.ext_getElem?
  intro i
  by_cases hi : i < m + 1
  · rw [map_range_at hi]
    cases i with
    | zero => rfl
    | succ i =>
      show ((List.replicate m [V.int ((m + 1 : Nat) : Int)]).flatten)[i]? = _
      rw [show (List.replicate m [V.int ((m + 1 : Nat) : Int)]).flatten = List.replicate m (V.int ((m + 1 : Nat) : Int)) from List.flatten_replicate_singleton]
      rw [List.getElem?_replicate, if_pos (by walk_at "om")]
      rfl
  · rw [List.getElem?_eq_none (by rw [List.length_append, len_rep]; simp; walk_at "om"), List.getElem?_eq_none (by simp; walk_at "om")]
theorem sc_labels_by : FnScope ["found", "many", "told", "first", "behind", "last"] ["found", "many"] (defScope s_labels_by) := ⟨rfl, rfl, rfl, by decide +kernel, rfl, by decide +kernel, by decide +kernel⟩
theorem ok_labels_by (F : Fun K "labels_by" "labels_by" s_labels_by f fd) (T : Txt mg) : FnOk P w K mg base CX0 1 f fd ["found", "many"] spLabBy := by
  refine F.ok sc_labels_by (fun vs H Q E h => ?_) (fun cdv A outer s H vs Q E hr h => ?_)
  · obtain ⟨FF, rs, N, L, rfl, _⟩ := h
    rfl
  obtain ⟨FF, rs, N, L, rfl, hF, h1, h900, hNr, hrN, hrs, hLlt, hs, k⟩ := h
  refine Jd.go ⟨_, (Jd.pss_cons (Jd.ps_set (i := 2) sc_labels_by.nd rfl (Or.inl rfl) (Jd.pe_op op_cat (Jd.pe_lst (Jd.pa_cons Jd.pe_int Jd.pa_nil st_C)) (Jd.pe_op op_rep (Jd.pe_lst (Jd.pa_cons (Jd.pv 1) Jd.pa_nil st_N)) (Jd.pe_op op_sub (Jd.pv 1) Jd.pe_int))) (hs := sw_B))
      (Jd.pss_cons (Jd.ps_for PassesOwn.never rfl (Jd.pi_enum K rfl T.enumerate_ (Jd.pa_cons (Jd.pv 0) Jd.pa_nil st_N)) (Jd.pgT K (n := 2) rfl (Jd.pgs_cons (Jd.pg_name (i := 3) sc_labels_by.nd rfl (Or.inl rfl)) (Jd.pgs_cons (Jd.pg_name (i := 4) sc_labels_by.nd rfl (Or.inl rfl)) Jd.pgs_nil)))
      (Jd.pss_one (Jd.ps_for PassesOwn.never rfl (Jd.piL K (Jd.pv 4)) (Jd.pg_name (i := 5) sc_labels_by.nd rfl (Or.inl rfl))
      (Jd.pss_one (Jd.ps_asg (Jd.pe_callB (minC rfl) rfl T.min_ PyProof.Rows.boot_min (Jd.pa_cons (Jd.pe_ix (ixL K) (Jd.pv 2) (Jd.pv 5) (fun _ _ => rfl)) (Jd.pa_cons (Jd.pe_op op_add (Jd.pe_ix (ixL K) (Jd.pv 2) (Jd.pv 3) (fun _ _ => rfl)) Jd.pe_int) Jd.pa_nil st_B) st_S) (he := st_S) (hpl := (anyc st_B any0))) (Jd.pg_sub (Jd.pv 2) (Jd.pv 5) set_list))))))
      (Jd.pss_one (Jd.ps_ret (Jd.pv 2))))), ?_⟩
  walk_at "vc"
  refine r_new (mk := .lst) (by simp) fun l1 H1 s1 n1 e1 => ?_
  walk_at "vc"
  refine r_new (mk := .lst) (by simp) fun l2 H2 s2 n2 e2 => ?_
  walk_at "vc"
  refine r_rep e2 (by omega) (by omega) ?_
  refine r_new (mk := .lst) (by rw [len_rep]; simp; walk_at "om") fun l3 H3 s3 n3 e3 => ?_
  walk_at "vc"
  refine r_cat (s3 _ _ (s2 _ _ e1)) e3 ?_
  refine r_new (mk := .lst) (by rw [List.length_append, len_rep]; simp; walk_at "om") fun R H4 s4 n4 e4 => ?_
  rw [told0 N h1] at e4
  have s03 := s1.trans (s2.trans s3)
  have nR : H R = none := s03.free n4
  have s04 := s03.trans s4
  walk_at "vc"
  refine r_for (r_enum ?_)
  walk_at "vc"
  refine ⟨FF, _, rfl, SqL.of (hF.up s04).at_, for_enum (xs := rs.map fun x => V.ref x.1) (fun g σ H5 => ∃ (t : Nat → Int) (v3 v4 v5 : Option V), σ = [some (.ref FF), some (.int (N : Int)), some (.ref R), v3, v4, v5] ∧ Same H H5 ∧ H5 R = some (.lst (intsV N t)) ∧ FairTo L N g t) ?_ ?_ ?_ ?_⟩
  · exact ⟨_, none, none, none, rfl, s04, e4, FairTo.start⟩
  · rintro g σ H5 _ ⟨t, v3, v4, v5, rfl, s5, _⟩
    exact SqL.of (hF.up s5).at_
  · rintro g v σ H5 p H6 hx ⟨t, v3, v4, v5, rfl, s5, e5, hT⟩ s6 np ep
    rw [List.getElem?_map] at hx
    obtain ⟨x, gx, rfl⟩ := Option.map_eq_some_iff.mp hx
    have hg : g < rs.length := (List.getElem?_eq_some_iff.mp gx).1
    have hgN : g < N := by walk_at "om"
    have hx2 := hrs g x gx
    have ex := (hF.each x (List.mem_of_getElem? gx)).1
    have s06 := s5.trans s6
    have tf0 := hT.lo g hgN
    have tf1 := hT.hi g hgN
    refine r_unpack2 ep ?_
    walk_at "vc"
    refine r_for (r_iL ?_)
    walk_at "vc"
    refine ⟨x.1, rfl, ⟨_, SqL.of (s06 _ _ ex)⟩, for_list (xs := natsV x.2) (fun m σ H7 => ∃ (u : Nat → Int) (w5 : Option V), σ = [some (.ref FF), some (.int (N : Int)), some (.ref R), some (.int (g : Int)), some (.ref x.1), w5] ∧ Same H H7 ∧ H7 R = some (.lst (intsV N u)) ∧
      ∀ j, j < N → (j ∈ x.2.take m → u j = if t g + 1 < t j then t g + 1 else t j) ∧ (j ∉ x.2.take m → u j = t j)) ?_ ?_ ?_ ?_⟩
    · exact ⟨t, _, rfl, s06, s6 _ _ e5, fun j _ => ⟨fun z => by simp at z, fun _ => rfl⟩⟩
    · rintro m σ H7 _ ⟨u, w5, rfl, s7, _⟩
      exact SqL.of (s7 _ _ ex)
    · rintro m v σ H7 hv ⟨u, w5, rfl, s7, e7, hu⟩
      obtain ⟨j, gj, rfl⟩ := natsV_at hv
      have hj := (hx2 j).mp (List.mem_of_getElem? gj)
      obtain ⟨hgj, hjN⟩ := hLlt g j hj
      have tk : x.2.take (m + 1) = x.2.take m ++ [j] := by rw [List.take_add_one, gj]; rfl
      have ng : g ∉ x.2.take m := fun z => by
        have := hLlt g g ((hx2 g).mp (List.mem_of_mem_take z))
        walk_at "om"
      have ug := (hu g hgN).2 ng
      walk_at "vc"
      refine r_asg ?_
      walk_at "vc"
      refine r_l e7 (at_intsV hjN rfl) ?_
      walk_at "vc"
      refine r_l e7 (at_intsV hgN rfl) ?_
      walk_at "vc"
      refine r_setL e7 (j := j) (by rw [intsV_len]; exact ix_nat (by walk_at "om") (by walk_at "om")) ?_
      refine ⟨fun i => if i = j then (if u g + 1 < u j then u g + 1 else u j) else u i, _, rfl, same_at s7 nR, ?_, fun i hi => ?_⟩
      · rw [upd_same]
        unfold intsV
        rw [map_range_set]
        refine congrArg (fun z => some (HO.lst z)) (List.map_congr_left fun i _ => ?_)
        by_cases e : i = j
        · simp [e]
        · simp [e]
      · rw [tk, ug]
        obtain ⟨hu1, hu2⟩ := hu i hi
        refine ⟨fun z => ?_, fun z => ?_⟩
        · by_cases e : i = j
          · subst e
            show (if i = i then _ else _) = _
            rw [if_pos rfl]
            by_cases hm : i ∈ x.2.take m
            · rw [hu1 hm]
              by_cases q : t g + 1 < t i
              · rw [if_pos q, if_neg (by walk_at "om")]
              · rw [if_neg q, if_neg q]
            · rw [hu2 hm]
          · show (if i = j then _ else _) = _
            rw [if_neg e]
            rcases List.mem_append.mp z with q | q
            · exact hu1 q
            · exact absurd (by simpa using q) e
        · have e : i ≠ j := fun q => z (by rw [q]; simp)
          show (if i = j then _ else _) = _
          rw [if_neg e]
          exact hu2 fun q => z (List.mem_append_left _ q)
    · rintro σ H7 ⟨u, w5, rfl, s7, e7, hu⟩
      rw [natsV_len, List.take_length] at hu
      refine ⟨u, _, _, _, rfl, s7, e7, hT.step (fun j hj => (hLlt g j hj).1) (fun j hj => ⟨fun z => (hu j hj).1 ((hx2 j).mpr z), fun z => (hu j hj).2 fun q => z ((hx2 j).mp q)⟩) hgN⟩
  · rintro σ H5 ⟨t, v3, v4, v5, rfl, s5, e5, hT⟩
    rw [List.length_map] at hT
    walk_at "vc"
    exact k R t H5 s5 nR e5 (hT.done hs (by walk_at "om"))
end

theorem link_good {es : List En} {hs : List Nn} {b c : Int} (h : es.map (·.2) = hs.map (fun x => nworth b x.2)) {i j : Nat} (hb : 1 ≤ b) (hri : nrising hs) (hij : i ≤ j) (hj : j < hs.length) :
    (∀ k, i < k → k < j → ((nsd hs i k j).natAbs : Int) ≤ c * (nmo hs j - nmo hs i)) ↔ Good es ((c : Rat) / (b : Rat)) i j := by
  unfold Good
  by_cases e : i = j
  · subst e
    exact ⟨fun _ k h1 h2 => by walk_at "om", fun _ k h1 h2 => by walk_at "om"⟩
  · have ht := nmo_lt hri (show i < j by walk_at "om") hj
    have hp := cast_pos (b := (nmo hs j - nmo hs i) * b) (Int.mul_pos (by walk_at "om") (by walk_at "om"))
    have hb' := cast_ne (b := b) (by walk_at "om")
    have one : ∀ k, ((nsd hs i k j).natAbs : Int) ≤ c * (nmo hs j - nmo hs i) ↔ rabs (sd es i k j) ≤ (c : Rat) / (b : Rat) := fun k => by
      have e1 : ((c : Rat) / (b : Rat)) * (((nmo hs j - nmo hs i) * b : Int) : Rat) = ((c * (nmo hs j - nmo hs i) : Int) : Rat) := by
        simp only [Rat.intCast_mul, Rat.intCast_sub]
        grind
      rw [← Rat.intCast_le_intCast, link_abs h hb ht, ← e1]
      constructor
      · intro z
        exact Rat.le_of_mul_le_mul_right z hp
      · intro z
        exact Rat.mul_le_mul_of_nonneg_right z (by grind)
    exact ⟨fun z k h1 h2 => (one k).mp (z k h1 h2), fun z k h1 h2 => (one k).mpr (z k h1 h2)⟩
noncomputable def shft (tied : Bool) : Nat := if tied = true then 0 else 1
theorem lead_good {es : List En} {β : Rat} {tied : Bool} {k a : Nat} (hk : k < a) (ha : a < es.length + shft tied) : Lead es β tied k a ↔ Good es β k (a - shft tied) := by
  unfold Lead shft at *
  cases tied with
  | true =>
    rw [if_pos rfl] at ha ⊢
    rw [if_pos rfl]
    exact ⟨fun z => z.2.2, fun z => ⟨hk, by walk_at "om", z⟩⟩
  | false =>
    rw [if_neg Bool.false_ne_true] at ha ⊢
    rw [if_neg Bool.false_ne_true]
    constructor
    · rintro ⟨_, rfl | ⟨_, _, g⟩⟩
      · exact fun k' h1 h2 => by walk_at "om"
      · exact g
    · intro g
      refine ⟨by walk_at "om", ?_⟩
      by_cases e : a = k + 1
      · exact .inl e
      · exact .inr ⟨by walk_at "om", by walk_at "om", g⟩
section
variable {P : Program} {w : World} {K : PySem.W.Frag} {mg : Str → Option Value} {base : Heap} {f : Addr} {fd : FuncData}
end

noncomputable def jin {α : Type} (c : Nat → Nat → Bool) (v : Nat → Nat → α) (i m : Nat) : List α := ((List.range m).filter fun q => c i (i + 1 + q)).map fun q => v i (i + 1 + q)
noncomputable def jout {α : Type} (c : Nat → Nat → Bool) (v : Nat → Nat → α) (N n : Nat) : List α := (List.range n).flatMap fun i => jin c v i (N - (i + 1))
theorem jin_succ {α : Type} (c : Nat → Nat → Bool) (v : Nat → Nat → α) (i m : Nat) : jin c v i (m + 1) = jin c v i m ++ (if c i (i + 1 + m) = true then [v i (i + 1 + m)] else []) := by
  unfold jin
  rw [List.range_succ, List.filter_append, List.map_append]
  congr 1
  by_cases h : c i (i + 1 + m) = true
  · simp [h]
  · simp [h]
theorem jout_succ {α : Type} (c : Nat → Nat → Bool) (v : Nat → Nat → α) (N n : Nat) : jout c v N (n + 1) = jout c v N n ++ jin c v n (N - (n + 1)) := by
  unfold jout
  rw [List.range_succ, List.flatMap_append]
  simp
theorem jin_len {α : Type} (c : Nat → Nat → Bool) (v : Nat → Nat → α) (i m : Nat) : (jin c v i m).length ≤ m := by
  unfold jin
  rw [List.length_map]
  exact Nat.le_trans (List.length_filter_le ..) (by simp)
theorem jout_len {α : Type} (c : Nat → Nat → Bool) (v : Nat → Nat → α) (N : Nat) : ∀ n, (jout c v N n).length ≤ n * N
  | 0 => by simp [jout]
  | n + 1 => by
    rw [jout_succ, List.length_append]
    have h1 := jout_len c v N n
    have h2 := jin_len c v n (N - (n + 1))
    have e : (n + 1) * N = n * N + N := by rw [Nat.add_mul, Nat.one_mul]
    walk_at "om"
open Classical in
noncomputable def farOf (s : Nat → Rat) (i j : Nat) : Nat := if h : ∃ k, FarTo s i j k then Classical.choose h else 0
theorem farOf_eq {s : Nat → Rat} {i j k : Nat} (h : FarTo s i j k) : farOf s i j = k := by
  unfold farOf
  rw [dif_pos ⟨k, h⟩]
  exact (Classical.choose_spec (⟨k, h⟩ : ∃ k, FarTo s i j k)).unique h
noncomputable def jmp (t : Nat → Int) (i j : Nat) : Bool := decide (t j > t i + 1)
noncomputable def three (es : List En) (sh i j : Nat) : Int × Int × Int := (mo es i, mo es (farOf (fun k => rabs (sd es i k (j - sh))) i (j - sh)), mo es (j - sh))
noncomputable abbrev Th := Addr × Int × Int × Int
noncomputable def ThAt (H : Hp) (x : Th) : Prop := H x.1 = some (.tup [.int x.2.1, .int x.2.2.1, .int x.2.2.2])
noncomputable def threfs (ts : List Th) : List V := ts.map fun x => V.ref x.1
theorem threfs_snoc (ts : List Th) (x : Th) : threfs ts ++ [.ref x.1] = threfs (ts ++ [x]) := by simp [threfs]
theorem threfs_len (ts : List Th) : (threfs ts).length = ts.length := List.length_map ..
noncomputable def AllT (H : Hp) (ts : List Th) : Prop := ∀ x ∈ ts, ThAt H x
theorem AllT.up {H H' : Hp} {ts : List Th} (h : AllT H ts) (s : Same H H') : AllT H' ts := fun x hx => s _ _ (h x hx)
theorem AllT.app {H : Hp} {R : Addr} {ts : List Th} {ys : List V} {o : HO} (f : AllT H ts) (h : H R = some (.lst ys)) : AllT (upd H R o) ts := fun x hx => (rm_up R H o) _ _ (rm_tup h (f x hx))
theorem AllT.snoc {H : Hp} {ts : List Th} {x : Th} (h : AllT H ts) (hx : ThAt H x) : AllT H (ts ++ [x]) := fun y hy => by
  rcases List.mem_append.mp hy with z | z
  · exact h y z
  · obtain rfl : y = x := by simpa using z
    exact hx
noncomputable def tdat (v : Int × Int × Int) : PyData := .tuple [.int v.1, .int v.2.1, .int v.2.2]
theorem AllT.dens {H : Hp} : ∀ {ts : List Th}, AllT H ts → Dens H (threfs ts) (ts.map fun x => tdat x.2)
  | [], _ => .nil
  | x :: ts, h => .cons (.tup (h x List.mem_cons_self) (.cons (.int _) (.cons (.int _) (.cons (.int _) .nil)))) (AllT.dens fun y hy => h y (List.mem_cons_of_mem _ hy))
noncomputable def spBarsBy : Sp := fun vs H Q _ => ∃ (l T : Addr) (es : List En) (n : Nat) (β : Rat) (tied : Bool) (t : Nat → Int), vs = [.ref l, .ref T, .bl tied] ∧ H l = some (.lst (vals es)) ∧ Row H es n ∧ AllS es ∧ rising es ∧ 1 ≤ es.length ∧ es.length ≤ 30 ∧ n ≤ 900 ∧ H T = some (.lst (intsV (es.length + shft tied) t)) ∧ Fair (Lead es β tied) (es.length + shft tied) t ∧
  ∀ (R : Addr) (ts : List Th) (H' : Hp), Same H H' → H R = none → H' R = some (.lst (threfs ts)) → AllT H' ts → ts.map (·.2) = jout (jmp t) (three es (shft tied)) (es.length + shft tied) (es.length + shft tied) → Q (.ref R) H'
theorem jump_far {es : List En} {β : Rat} {tied : Bool} {t : Nat → Int} {i j : Nat} (hF : Fair (Lead es β tied) (es.length + shft tied) t) (hij : i < j) (hj : j < es.length + shft tied) (hjmp : t j > t i + 1) : i + 1 < j - shft tied ∧ j - shft tied < es.length ∧ ∃ k, i < k ∧ k < j - shft tied ∧ β < rabs (sd es i k (j - shft tied)) := by
  have hsh : shft tied ≤ 1 := by unfold shft; split <;> walk_at "om"
  have nL : ¬ Lead es β tied i j := fun z => by
    have := hF.le i j hij hj z
    walk_at "om"
  rw [lead_good hij hj] at nL
  have : ∃ k, i < k ∧ k < j - shft tied ∧ β < rabs (sd es i k (j - shft tied)) := by
    apply Classical.byContradiction
    intro z
    apply nL
    intro k h1 h2
    apply Rat.not_lt.mp
    intro q
    exact z ⟨k, h1, h2, q⟩
  obtain ⟨k, h1, h2, h3⟩ := this
  exact ⟨by walk_at "om", by walk_at "om", k, h1, h2, h3⟩
section
variable {P : Program} {w : World} {K : PySem.W.Frag} {mg : Str → Option Value} {base : Heap} {f : Addr} {fd : FuncData}
theorem sc_bars_by : FnScope ["samples", "told", "tied", "found", "first", "last", "end", "mid"] ["samples", "told", "tied"] (defScope s_bars_by) := ⟨rfl, rfl, rfl, by decide +kernel, rfl, by decide +kernel, by decide +kernel⟩
theorem ok_bars_by (F : Fun K "bars_by" "bars_by" s_bars_by f fd) (T : Txt mg) (D_loose_farthest : Dn P w K mg base 4 "loose_farthest" ["samples", "first", "last"] spLfar) : FnOk P w K mg base CX0 5 f fd ["samples", "told", "tied"] spBarsBy := by
  refine F.ok sc_bars_by (fun vs H Q E h => ?_) (fun cdv A outer s H vs Q E hr h => ?_)
  · obtain ⟨l, TT, es, n, β, tied, t, rfl, _⟩ := h
    rfl
  obtain ⟨l, TT, es, n, β, tied, t, rfl, hl, hR, hS, hri, h1, h30, hn, eT, hF, k⟩ := h
  have hsh : shft tied ≤ 1 := by unfold shft; split <;> walk_at "om"
  generalize hN : es.length + shft tied = N at *
  refine Jd.go ⟨_, (Jd.pss_cons (Jd.ps_set (i := 3) sc_bars_by.nd rfl (Or.inl rfl) (Jd.pe_lst Jd.pa_nil) (hs := sw_L))
      (Jd.pss_cons (Jd.ps_for PassesOwn.never rfl (Jd.pi_range1 rfl T.range (Jd.pa_cons (Jd.pe_callB (lenC K) rfl T.len_ PySem.boot_len (Jd.pa_cons (Jd.pv 1) Jd.pa_nil st_N) (he := st_N) (hpl := any0)) Jd.pa_nil st_K)) (Jd.pg_name (i := 4) sc_bars_by.nd rfl (Or.inl rfl))
      (Jd.pss_one (Jd.ps_for PassesOwn.never rfl (Jd.pi_range2 rfl T.range (Jd.pa_cons (Jd.pe_op op_add (Jd.pv 4) Jd.pe_int) (Jd.pa_cons (Jd.pe_callB (lenC K) rfl T.len_ PySem.boot_len (Jd.pa_cons (Jd.pv 1) Jd.pa_nil st_N) (he := st_N) (hpl := any0)) Jd.pa_nil st_K) st_B)) (Jd.pg_name (i := 5) sc_bars_by.nd rfl (Or.inl rfl))
      (Jd.pss_one (Jd.ps_if (Jd.pt_cmpR op_gt (Jd.pe_ix (ixL K) (Jd.pv 1) (Jd.pv 5) (fun _ _ => rfl)) (Jd.pe_op op_add (Jd.pe_ix (ixL K) (Jd.pv 1) (Jd.pv 4) (fun _ _ => rfl)) Jd.pe_int) (nomark _))
      (Jd.pss_cons (Jd.ps_set (i := 6) sc_bars_by.nd rfl (Or.inl rfl) (Jd.pe_ifExp (Jd.pt_val (Jd.pv 2)) (Jd.pv 5) (Jd.pe_op op_sub (Jd.pv 5) Jd.pe_int)) (hs := sw_I))
      (Jd.pss_cons (Jd.ps_set (i := 7) sc_bars_by.nd rfl (Or.inl rfl) (Jd.pe_ix (ixT K) (Jd.pe_dn D_loose_farthest (hr.mono (by decide)) rfl (Jd.pa_cons (Jd.pv 0) (Jd.pa_cons (Jd.pv 4) (Jd.pa_cons (Jd.pv 6) Jd.pa_nil st_N) st_N) st_N) (he := st_N) (hpl := (anyc st_N (anyc st_N any0)))) Jd.pe_int (fun _ _ => rfl)) (hs := sw_S))
      (Jd.pss_one (Jd.ps_expr (Jd.appC K (Jd.pv 3) (Jd.pe_tup (Jd.pa_cons (Jd.pe_ix (ixT K) (Jd.pe_ix (ixL K) (Jd.pv 0) (Jd.pv 4) (fun _ _ => rfl)) Jd.pe_int (fun _ _ => rfl)) (Jd.pa_cons (Jd.pe_ix (ixT K) (Jd.pe_ix (ixL K) (Jd.pv 0) (Jd.pv 7) (fun _ _ => rfl)) Jd.pe_int (fun _ _ => rfl)) (Jd.pa_cons (Jd.pe_ix (ixT K) (Jd.pe_ix (ixL K) (Jd.pv 0) (Jd.pv 6) (fun _ _ => rfl)) Jd.pe_int (fun _ _ => rfl)) Jd.pa_nil st_S) st_S) st_S))) (hs := sw_K)))))
      Jd.pss_nil)))))
      (Jd.pss_one (Jd.ps_ret (Jd.pv 3))))), ?_⟩
  walk_at "vc"
  refine r_new (mk := .lst) (by simp) fun R H1 s1 n1 e1 => ?_
  walk_at "vc"
  refine r_for (r_rng1 ?_)
  walk_at "vc"
  refine r_len (.inl (SqL.of (s1 _ _ eT))) ?_
  rw [intsV_len]
  walk_at "vc"
  refine ⟨_, rfl, by lia, by lia, for_range (fun i σ H3 => ∃ (ts : List Th) (v4 v5 v6 v7 : Option V), σ = [some (.ref l), some (.ref TT), some (.bl tied), some (.ref R), v4, v5, v6, v7] ∧ Same H H3 ∧ H3 R = some (.lst (threfs ts)) ∧ AllT H3 ts ∧ ts.map (·.2) = jout (jmp t) (three es (shft tied)) N i) ?_ ?_ ?_⟩
  · exact ⟨[], none, none, none, none, rfl, s1, e1, fun x hx => absurd hx (by simp), rfl⟩
  · rintro i σ H3 hi ⟨ts, v4, v5, v6, v7, rfl, s3, e3, hts, hmap⟩
    have hi' : i < N := by walk_at "om"
    rw [show (0 : Int) + (i : Int) = (i : Int) by walk_at "om"]
    walk_at "vc"
    refine r_for (r_rng2 ?_)
    walk_at "vc"
    refine r_len (.inl (SqL.of (s3 _ _ eT))) ?_
    rw [intsV_len]
    walk_at "vc"
    refine ⟨_, _, rfl, ⟨by lia, by lia, by lia, by lia⟩, for_range (fun m σ H4 => ∃ (us : List Th) (w5 w6 w7 : Option V), σ = [some (.ref l), some (.ref TT), some (.bl tied), some (.ref R), some (.int (i : Int)), w5, w6, w7] ∧ Same H H4 ∧ H4 R = some (.lst (threfs us)) ∧ AllT H4 us ∧ us.map (·.2) = jout (jmp t) (three es (shft tied)) N i ++ jin (jmp t) (three es (shft tied)) i m) ?_ ?_ ?_⟩
    · exact ⟨ts, _, _, _, rfl, s3, e3, hts, by rw [hmap]; simp [jin]⟩
    · rintro m σ H4 hm ⟨us, w5, w6, w7, rfl, s4, e4, hus, humap⟩
      have hp : i + 1 + m < N := by walk_at "om"
      rw [show (i : Int) + 1 + (m : Int) = ((i + 1 + m : Nat) : Int) by walk_at "om"]
      have eT4 := s4 _ _ eT
      have hl4 := s4 _ _ hl
      walk_at "vc"
      refine r_l eT4 (at_intsV hp rfl) ?_
      walk_at "vc"
      refine r_l eT4 (at_intsV hi' rfl) ?_
      walk_at "vc"
      refine ite2 (fun c1 => ?_) (fun c1 => ?_)
      · have c1' : t (i + 1 + m) > t i + 1 := of_decide_eq_true c1
        obtain ⟨q1, q2, _⟩ := jump_far (by rw [hN]; exact hF) (show i < i + 1 + m by walk_at "om") (by rw [hN]; exact hp) c1'
        have hlen2 : us.length ≤ 950 := by
          have e := congrArg List.length humap
          rw [List.length_map, List.length_append] at e
          have j1 := jout_len (jmp t) (three es (shft tied)) N i
          have j2 := jin_len (jmp t) (three es (shft tied)) i m
          have : i * N ≤ 29 * 31 := Nat.mul_le_mul (by walk_at "om") (by walk_at "om")
          walk_at "om"
        have done : ∀ (a b cc : Int) (y : Addr) (H6 : Hp) (w5 w6 w7 : Option V), Same H4 H6 → H6 y = some (.tup [.int a, .int b, .int cc]) → (a, b, cc) = three es (shft tied) i (i + 1 + m) →
            ∃ (us' : List Th) (x5 x6 x7 : Option V), [some (.ref l), some (.ref TT), some (.bl tied), some (.ref R), some (.int (i : Int)), w5, w6, w7] = [some (.ref l), some (.ref TT), some (.bl tied), some (.ref R), some (.int (i : Int)), x5, x6, x7] ∧ Same H (upd H6 R (.lst (threfs us ++ [.ref y]))) ∧ upd H6 R (.lst (threfs us ++ [.ref y])) R = some (.lst (threfs us')) ∧ AllT (upd H6 R (.lst (threfs us ++ [.ref y]))) us' ∧ us'.map (·.2) = jout (jmp t) (three es (shft tied)) N i ++ jin (jmp t) (three es (shft tied)) i (m + 1) := by
          intro a b cc y H6 w5 w6 w7 s6 ey e3'
          refine ⟨us ++ [(y, a, b, cc)], w5, w6, w7, rfl, same_at (s4.trans s6) n1, by rw [upd_same]; exact congrArg (fun z => some (HO.lst z)) (threfs_snoc us (y, a, b, cc)), (AllT.snoc (x := (y, a, b, cc)) (hus.up s6) ey).app (s6 _ _ e4), ?_⟩
          rw [List.map_append, humap, jin_succ, if_pos (show jmp t i (i + 1 + m) = true from decide_eq_true c1'), List.append_assoc]
          congr 2
          show [(a, b, cc)] = _
          rw [e3']
        obtain ⟨xi, gi, vi, ei, _⟩ := sa_at (hR.up s4) hS (show i < es.length by walk_at "om")
        obtain ⟨xj, gj, vj, ej, _⟩ := sa_at (hR.up s4) hS q2
        walk_at "vc"
        cases tied with
        | true =>
          refine iteT ?_
          walk_at "vc"
          rw [show ((i + 1 + m : Nat) : Int) = ((i + 1 + m - shft true : Nat) : Int) from rfl]
          refine ⟨l, es, i, i + 1 + m - shft true, n, rfl, hl4, hR.up s4, hS, hri, by walk_at "om", q2, by walk_at "om", hn, fun z => absurd z (by walk_at "om"), fun _ z p kk H5 s5 e5 f5 hfar => ?_⟩
          obtain ⟨xk, gk, vk, ek, _⟩ := sa_at (hR.up (s4.trans s5)) hS (show kk < es.length by have := hfar.hi; walk_at "om")
          have ei5 := s5 _ _ ei
          have ej5 := s5 _ _ ej
          walk_at "vc"
          refine ⟨.inl ⟨rfl, _, SqL.of (s5 _ _ e4)⟩, ?_⟩
          walk_at "vc"
          refine r_l (s5 _ _ hl4) (at_val gi rfl) ?_
          walk_at "vc"
          refine r_l (s5 _ _ hl4) (at_val gk rfl) ?_
          walk_at "vc"
          refine r_l (s5 _ _ hl4) (at_val gj rfl) ?_
          walk_at "vc"
          refine r_new (mk := .tup) (by simp) fun y H6 s6 n6 e6 => ?_
          walk_at "vc"
          refine r_app ((s5.trans s6) _ _ e4) (by rw [threfs_len]; exact small1000 (by walk_at "om")) ?_
          refine done _ _ _ y H6 _ _ _ (s5.trans s6) e6 ?_
          unfold three
          rw [farOf_eq hfar]
        | false =>
          refine iteF ?_
          walk_at "vc"
          rw [show ((i + 1 + m : Nat) : Int) - 1 = ((i + 1 + m - shft false : Nat) : Int) by (have : shft false = 1 := rfl); walk_at "om"]
          refine ⟨l, es, i, i + 1 + m - shft false, n, rfl, hl4, hR.up s4, hS, hri, by walk_at "om", q2, by walk_at "om", hn, fun z => absurd z (by walk_at "om"), fun _ z p kk H5 s5 e5 f5 hfar => ?_⟩
          obtain ⟨xk, gk, vk, ek, _⟩ := sa_at (hR.up (s4.trans s5)) hS (show kk < es.length by have := hfar.hi; walk_at "om")
          have ei5 := s5 _ _ ei
          have ej5 := s5 _ _ ej
          walk_at "vc"
          refine ⟨.inl ⟨rfl, _, SqL.of (s5 _ _ e4)⟩, ?_⟩
          walk_at "vc"
          refine r_l (s5 _ _ hl4) (at_val gi rfl) ?_
          walk_at "vc"
          refine r_l (s5 _ _ hl4) (at_val gk rfl) ?_
          walk_at "vc"
          refine r_l (s5 _ _ hl4) (at_val gj rfl) ?_
          walk_at "vc"
          refine r_new (mk := .tup) (by simp) fun y H6 s6 n6 e6 => ?_
          walk_at "vc"
          refine r_app ((s5.trans s6) _ _ e4) (by rw [threfs_len]; exact small1000 (by walk_at "om")) ?_
          refine done _ _ _ y H6 _ _ _ (s5.trans s6) e6 ?_
          unfold three
          rw [farOf_eq hfar]
      · walk_at "vc"
        refine ⟨us, _, _, _, rfl, s4, e4, hus, ?_⟩
        have c1' : ¬ (jmp t i (i + 1 + m) = true) := fun z => c1 z
        rw [humap, jin_succ, if_neg c1', List.append_nil]
    · rintro σ H4 ⟨us, w5, w6, w7, rfl, s4, e4, hus, humap⟩
      refine ⟨us, _, _, _, _, rfl, s4, e4, hus, ?_⟩
      rw [humap, jout_succ]
      congr 2
      walk_at "om"
  · rintro σ H3 ⟨ts, v4, v5, v6, v7, rfl, s3, e3, hts, hmap⟩
    walk_at "vc"
    refine k R ts H3 s3 n1 e3 hts ?_
    rw [hmap]
    congr 1
end

noncomputable def First (L : Nat → Nat → Prop) (t : Nat → Int) (a p : Nat) : Prop := a < p ∧ L a p ∧ t a + 1 = t p ∧ ∀ k, k < a → ¬ (L k p ∧ t k + 1 = t p)
inductive Way (L : Nat → Nat → Prop) (t : Nat → Int) : Nat → List (Nat × Nat) → Prop
  | nil : Way L t 0 []
  | cons {a p : Nat} {ps : List (Nat × Nat)} : First L t a p → Way L t a ps → Way L t p (ps ++ [(a, p)])
section
variable {L : Nat → Nat → Prop} {t t' : Nat → Int} {a b p N : Nat} {ps : List (Nat × Nat)}
theorem First.eq (h : First L t a p) (h' : First L t b p) : a = b := by
  obtain ⟨_, l1, e1, n1⟩ := h
  obtain ⟨_, l2, e2, n2⟩ := h'
  rcases Nat.lt_trichotomy a b with z | z | z
  · exact absurd ⟨l1, e1⟩ (n2 a z)
  · exact z
  · exact absurd ⟨l2, e2⟩ (n1 b z)
theorem Way.eq (h : Way L t p ps) : ∀ {qs : List (Nat × Nat)}, Way L t p qs → ps = qs := by
  induction h with
  | nil =>
    intro qs h'
    cases h' with
    | nil => rfl
    | cons f _ => exact absurd f.1 (Nat.not_lt_zero _)
  | cons f w ih =>
    intro qs h'
    cases h' with
    | nil => exact absurd f.1 (Nat.not_lt_zero _)
    | cons f' w' =>
      obtain rfl := f.eq f'
      rw [ih w']
theorem Way.lt (h : Way L t p ps) : ∀ x ∈ ps, x.1 < x.2 ∧ x.2 ≤ p := by
  induction h with
  | nil => intro x hx; exact absurd hx (by simp)
  | @cons a p ps f w ih =>
    intro x hx
    rcases List.mem_append.mp hx with z | z
    · have := ih x z
      have := f.1
      walk_at "om"
    · obtain rfl : x = (a, p) := by simpa using z
      exact ⟨f.1, Nat.le_refl _⟩
theorem Way.len (h : Way L t p ps) : ps.length ≤ p := by
  induction h with
  | nil => exact Nat.le_refl _
  | cons f w ih =>
    rw [List.length_append, List.length_singleton]
    have := f.1
    walk_at "om"
theorem Way.congr (e : ∀ j, j < N → t j = t' j) (h : Way L t p ps) : p < N → Way L t' p ps := by
  induction h with
  | nil => intro _; exact .nil
  | @cons a p ps f w ih =>
    intro hp
    obtain ⟨f1, f2, f3, f4⟩ := f
    refine .cons ⟨f1, f2, by rw [← e a (by walk_at "om"), ← e p hp]; exact f3, fun k hk q => f4 k hk ⟨q.1, ?_⟩⟩ (ih (by walk_at "om"))
    rw [e k (by walk_at "om"), e p hp]
    exact q.2
theorem fair_eq (h : Fair L N t) (h' : Fair L N t') : ∀ j, j < N → t j = t' j := by
  intro j
  induction j using Nat.strongRecOn with
  | ind j ih =>
    intro hj
    by_cases h0 : j = 0
    · subst h0
      rw [h.first, h'.first]
    · obtain ⟨i, i1, i2, i3⟩ := h.ex j (by walk_at "om") hj
      obtain ⟨k, k1, k2, k3⟩ := h'.ex j (by walk_at "om") hj
      have a1 := h'.le i j i1 hj i2
      have a2 := h.le k j k1 hj k2
      have b1 := ih i i1 (by walk_at "om")
      have b2 := ih k k1 (by walk_at "om")
      walk_at "om"
end
noncomputable def quad (es : List En) (i j : Nat) : Rat × Rat × Rat × Rat := ((mo es i : Rat), wo es i, (mo es j : Rat), wo es j)
noncomputable def Told (es : List En) (β : Rat) (tied : Bool) (l : List (Rat × Rat × Rat × Rat)) : Prop := ∃ (t : Nat → Int) (ps : List (Nat × Nat)), Fair (Lead es β tied) (es.length + shft tied) t ∧ Way (Lead es β tied) t (es.length + shft tied - 1) ps ∧ l = (if es.length + shft tied = 1 then [(0, 0)] else ps).map (fun x => quad es x.1 (x.2 - shft tied))
theorem lead_congr {es es' : List En} {β : Rat} {tied : Bool} (h : es.map (·.2) = es'.map (·.2)) : Lead es β tied = Lead es' β tied := by
  have hl : es.length = es'.length := by simpa using congrArg List.length h
  have hs : ∀ i k j, sd es i k j = sd es' i k j := fun i k j => by
    unfold sd
    rw [(mo_congr h i).1, (mo_congr h i).2, (mo_congr h j).1, (mo_congr h j).2, (mo_congr h k).1, (mo_congr h k).2]
  funext i j
  unfold Lead Good
  simp only [hl, hs]
theorem told_eq {es es' : List En} {β : Rat} {tied : Bool} {l l' : List (Rat × Rat × Rat × Rat)} (e : es.map (·.2) = es'.map (·.2)) (h : Told es β tied l) (h' : Told es' β tied l') (h1 : 1 ≤ es.length) : l = l' := by
  obtain ⟨t, ps, f, w, rfl⟩ := h
  obtain ⟨t', ps', f', w', rfl⟩ := h'
  have hl : es.length = es'.length := by simpa using congrArg List.length e
  rw [← lead_congr e, ← hl] at f' w'
  have et := fair_eq f' f
  obtain rfl := w.eq (w'.congr et (by walk_at "om"))
  rw [hl]
  refine congrArg (fun g => List.map g _) (funext fun x => ?_)
  unfold quad
  rw [(mo_congr e _).1, (mo_congr e _).2, (mo_congr e _).1, (mo_congr e _).2]
noncomputable def Each2 {α β : Type} (R : α → β → Prop) : List α → List β → Prop
  | [], [] => True
  | a :: as, b :: bs => R a b ∧ Each2 R as bs
  | _, _ => False
theorem each2_snoc {α β : Type} {R : α → β → Prop} {a : α} {b : β} : ∀ {as : List α} {bs : List β}, Each2 R as bs → R a b → Each2 R (as ++ [a]) (bs ++ [b])
  | [], [], _, r => ⟨r, trivial⟩
  | _ :: _, _ :: _, h, r => ⟨h.1, each2_snoc h.2 r⟩
  | [], _ :: _, h, _ => h.elim
  | _ :: _, [], h, _ => h.elim
theorem each2_join {α β γ : Type} {R : α → γ → Prop} {S : β → γ → Prop} {J : α → β → Prop} (u : ∀ a b c d, J a b → R a c → S b d → c = d) : ∀ {as : List α} {bs : List β} {cs ds : List γ}, Each2 J as bs → Each2 R as cs → Each2 S bs ds → cs = ds
  | [], [], [], [], _, _, _ => rfl
  | _ :: _, _ :: _, _ :: _, _ :: _, j, r, s => by rw [u _ _ _ _ j.1 r.1 s.1, each2_join u j.2 r.2 s.2]
  | [], _ :: _, _, _, j, _, _ => j.elim
  | _ :: _, [], _, _, j, _, _ => j.elim
  | [], [], _ :: _, _, _, r, _ => r.elim
  | [], [], [], _ :: _, _, _, s => s.elim
  | _ :: _, _ :: _, [], _, _, r, _ => r.elim
  | _ :: _, _ :: _, _ :: _, [], _, _, s => s.elim
theorem each2_imp {α β : Type} {R S : α → β → Prop} : ∀ {as : List α} {bs : List β}, (∀ a b, a ∈ as → R a b → S a b) → Each2 R as bs → Each2 S as bs
  | [], [], _, _ => trivial
  | _ :: _, _ :: _, u, r => ⟨u _ _ (by simp) r.1, each2_imp (fun a b ha => u a b (by simp [ha])) r.2⟩
  | [], _ :: _, _, r => r.elim
  | _ :: _, [], _, r => r.elim
theorem parts_own {α : Type} {s : α → Bool} {es : List α} : ∀ (i : Nat) (r : List α), r ∈ parts s es i → r ≠ [] ∧ (∀ x ∈ r, s x = true) ∧ r.Sublist (es.take i)
  | 0, r, h => absurd h (by simp [parts])
  | i + 1, r, h => by
    have ih := parts_own (s := s) (es := es) i
    have up : ∀ r : List α, r.Sublist (es.take i) → r.Sublist (es.take (i + 1)) := fun r q => q.trans (List.take_sublist_take_left (Nat.le_succ _))
    unfold parts at h
    cases e : es[i]? with
    | none => rw [e] at h; exact ⟨(ih r h).1, (ih r h).2.1, up r (ih r h).2.2⟩
    | some y =>
      rw [e] at h
      have tk : es.take (i + 1) = es.take i ++ [y] := by rw [List.take_add_one, e]; rfl
      dsimp only at h
      split at h
      · rename_i hs
        split at h
        · rename_i hr
          obtain ⟨t, r', hp⟩ := parts_ne hr
          have hm : r' ∈ parts s es i := by rw [hp]; simp
          have hgl : (parts s es i).getLast?.getD [] = r' := by rw [hp]; simp
          rcases List.mem_append.mp h with z | z
          · have q := ih r (List.dropLast_sublist _ |>.subset z)
            exact ⟨q.1, q.2.1, up r q.2.2⟩
          · obtain rfl : r = ((parts s es i).getLast?.getD []) ++ [y] := by simpa using z
            rw [hgl]
            refine ⟨by simp, fun x hx => ?_, by rw [tk]; exact List.Sublist.append (ih r' hm).2.2 (List.Sublist.refl _)⟩
            rcases List.mem_append.mp hx with q | q
            · exact (ih r' hm).2.1 x q
            · obtain rfl : x = y := by simpa using q
              exact hs
        · rcases List.mem_append.mp h with z | z
          · exact ⟨(ih r z).1, (ih r z).2.1, up r (ih r z).2.2⟩
          · obtain rfl : r = [y] := by simpa using z
            refine ⟨by simp, fun x hx => ?_, by rw [tk]; exact List.sublist_append_right _ _⟩
            obtain rfl : x = y := by simpa using hx
            exact hs
      · exact ⟨(ih r h).1, (ih r h).2.1, up r (ih r h).2.2⟩
noncomputable abbrev Pc := Addr × (Rat × Rat × Rat × Rat)
noncomputable def PcAt (H : Hp) (x : Pc) (n : Nat) : Prop := ∃ a b c d : Addr, H x.1 = some (.tup [.ref a, .ref b, .ref c, .ref d]) ∧ FrAt H a x.2.1 n ∧ FrAt H b x.2.2.1 n ∧ FrAt H c x.2.2.2.1 n ∧ FrAt H d x.2.2.2.2 n
theorem PcAt.mv {H H' : Hp} {x : Pc} {n : Nat} (t : ∀ {b : Addr} {xs : List V}, H b = some (.tup xs) → H' b = some (.tup xs)) (f : PcAt H x n) : PcAt H' x n := by
  obtain ⟨a, b, c, d, e, f1, f2, f3, f4⟩ := f
  have m : ∀ {b : Addr} {q : Rat}, FrAt H b q n → FrAt H' b q n := fun f => let ⟨x, d, e, f⟩ := f; ⟨x, d, t e, f⟩
  exact ⟨a, b, c, d, t e, m f1, m f2, m f3, m f4⟩
theorem PcAt.up {H H' : Hp} {x : Pc} {n : Nat} (f : PcAt H x n) (s : Same H H') : PcAt H' x n := f.mv fun e => s _ _ e
noncomputable def prefs (ps : List Pc) : List V := ps.map fun x => V.ref x.1
theorem prefs_len (ps : List Pc) : (prefs ps).length = ps.length := List.length_map ..
noncomputable def AllP (H : Hp) (ps : List Pc) (n : Nat) : Prop := ∀ x ∈ ps, PcAt H x n
theorem AllP.up {H H' : Hp} {ps : List Pc} {n : Nat} (h : AllP H ps n) (s : Same H H') : AllP H' ps n := fun x hx => (h x hx).up s
theorem AllP.app {H : Hp} {R : Addr} {ps : List Pc} {n : Nat} {ys : List V} {o : HO} (h : AllP H ps n) (e : H R = some (.lst ys)) : AllP (upd H R o) ps n := fun x hx => (h x hx).mv fun {b xs} z => by
  rw [upd_ne (fun q => by rw [q, e] at z; cases z)]
  exact z
theorem AllP.rm {H : Hp} {R : Addr} {ps : List Pc} {n : Nat} {ys : List V} (h : AllP H ps n) (e : H R = some (.lst ys)) : AllP (rm R H) ps n := fun x hx => (h x hx).mv fun {b xs} z => rm_tup e z
theorem AllP.append {H : Hp} {ps qs : List Pc} {n : Nat} (h : AllP H ps n) (h' : AllP H qs n) : AllP H (ps ++ qs) n := fun x hx => by
  rcases List.mem_append.mp hx with z | z
  · exact h x z
  · exact h' x z
noncomputable abbrev Pr := Addr × Nat × Nat
noncomputable def prsV (ps : List Pr) : List V := ps.map fun x => V.ref x.1
theorem prsV_len (ps : List Pr) : (prsV ps).length = ps.length := List.length_map ..
noncomputable def AllPr (H : Hp) (ps : List Pr) : Prop := ∀ x ∈ ps, H x.1 = some (.tup [.int (x.2.1 : Int), .int (x.2.2 : Int)])
theorem while_of {c : TT} {tb : TS} {D : Ends} {σ : St} {H : Hp} (Pv : St → Hp → Prop) (μ : St → Hp → Nat) (h0 : Pv σ H)
    (hs : ∀ σ H, Pv σ H → ∀ R : Bool → Hp → Prop, (∀ H1, (∀ M : St → Hp → Prop, (∀ σ' H', Pv σ' H' → μ σ' H' < μ σ H → M σ' H') → tb { D with nx := M, ct := M, bk := D.nx } σ H1) → R true H1) → (∀ H1, D.nx σ H1 → R false H1) → c σ H R) : tWhile c tb D σ H := by
  refine ⟨fun m σ H => m = μ σ H ∧ Pv σ H, ⟨_, rfl, h0⟩, ?_⟩
  rintro m σ H ⟨rfl, p⟩
  refine hs σ H p _ (fun H1 q => ?_) (fun H1 q => ?_)
  · rw [if_pos rfl]
    exact ⟨fun σ' H' => Pv σ' H' ∧ μ σ' H' < μ σ H, fun σ' H' ⟨p', l⟩ => ⟨_, l, rfl, p'⟩, q _ fun _ _ a b => ⟨a, b⟩⟩
  · rw [if_neg Bool.false_ne_true]
    exact q
theorem filter_first {p a : Nat} {f : Nat → Bool} {r : List Nat} (h : (List.range p).filter f = a :: r) : f a = true ∧ a < p ∧ ∀ k, k < a → f k = false := by
  have hm : a ∈ (List.range p).filter f := by rw [h]; simp
  have hm' := List.mem_filter.mp hm
  have ha := List.mem_range.mp hm'.1
  refine ⟨hm'.2, ha, fun k hk => ?_⟩
  cases e : f k with
  | false => rfl
  | true =>
    have hk' : k ∈ (List.range p).filter f := List.mem_filter.mpr ⟨List.mem_range.mpr (by walk_at "om"), e⟩
    have hp : ((List.range p).filter f).Pairwise (· < ·) := List.Pairwise.filter _ List.pairwise_lt_range
    rw [h] at hk' hp
    rcases List.mem_cons.mp hk' with z | z
    · walk_at "om"
    · have := (List.pairwise_cons.mp hp).1 k z
      walk_at "om"
open Classical in
noncomputable def goes (L : Nat → Nat → Prop) (t : Nat → Int) (p k : Nat) : Bool := decide (L k p ∧ t k + 1 = t p)
theorem inV_nats {j : Nat} {js : List Nat} : inV (.int (j : Int)) (natsV js) = true ↔ j ∈ js := by
  unfold inV natsV
  rw [List.any_eq_true]
  constructor
  · rintro ⟨v, hv, e⟩
    obtain ⟨k, hk, rfl⟩ := List.mem_map.mp hv
    have : (k : Int) = (j : Int) := by simpa [eqV] using e
    rw [show j = k by walk_at "om"]
    exact hk
  · intro h
    exact ⟨_, List.mem_map.mpr ⟨j, h, rfl⟩, by simp [eqV]⟩
noncomputable def spPlaces : Sp := fun vs H Q _ => ∃ (F T : Addr) (rs : List (Addr × List Nat)) (N : Nat) (L : Nat → Nat → Prop) (t : Nat → Int), vs = [.ref F, .ref T] ∧ Ls2 H F rs ∧ H T = some (.lst (intsV N t)) ∧ 1 ≤ N ∧ N ≤ 900 ∧ N ≤ rs.length + 1 ∧ (∀ i x, rs[i]? = some x → ∀ j, j ∈ x.2 ↔ L i j) ∧ Fair L N t ∧
  ∀ (R : Addr) (ps : List Pr) (H' : Hp), Same H H' → H R = none → H' R = some (.lst (prsV ps)) → AllPr H' ps → Way L t (N - 1) (ps.map (·.2)) → Q (.ref R) H'
noncomputable def spBetween : Sp := fun vs H Q _ => ∃ (x y : Addr) (m m' : Int) (q q' : Rat) (n : Nat), vs = [.ref x, .ref y] ∧ SaAt H x m q n ∧ SaAt H y m' q' n ∧ 1 ≤ n ∧ ∀ (p : Addr) (H' : Hp), Same H H' → PcAt H' (p, (m : Rat), q, (m' : Rat), q') n → Q (.ref p) H'
noncomputable def PapAt (H : Hp) (z : Addr) (es : List En) (β : Rat) (tied : Bool) : Prop := ∃ (T R : Addr) (t : Nat → Int) (ts : List Th), H z = some (.tup [.ref T, .ref R]) ∧ H T = some (.lst (intsV (es.length + shft tied) t)) ∧ Fair (Lead es β tied) (es.length + shft tied) t ∧ H R = some (.lst (threfs ts)) ∧ AllT H ts ∧ ts.map (·.2) = jout (jmp t) (three es (shft tied)) (es.length + shft tied) (es.length + shft tied)
theorem PapAt.up {H H' : Hp} {z : Addr} {es : List En} {β : Rat} {tied : Bool} (f : PapAt H z es β tied) (s : Same H H') : PapAt H' z es β tied := by
  obtain ⟨T, R, t, ts, e1, e2, f, e3, e4, e5⟩ := f
  exact ⟨T, R, t, ts, s _ _ e1, s _ _ e2, f, s _ _ e3, fun x hx => s _ _ (e4 x hx), e5⟩
noncomputable def spTiedRun : Sp := fun vs H Q _ => ∃ (l pb : Addr) (es : List En) (n nb : Nat) (β : Rat) (tied : Bool), vs = [.ref l, .ref pb, .bl tied] ∧ H l = some (.lst (vals es)) ∧ Row H es n ∧ AllS es ∧ rising es ∧ 1 ≤ es.length ∧ es.length ≤ 30 ∧ QtAt H pb β nb ∧ 1 ≤ n ∧ n ≤ 900 ∧ nb ≤ 1000 ∧
  ∀ (y X Z : Addr) (ps : List Pc) (H' : Hp), Same H H' → H' y = some (.tup [.ref X, .ref Z]) → H X = none → H' X = some (.lst (prefs ps)) → AllP H' ps n → Told es β tied (ps.map (·.2)) → PapAt H' Z es β tied → Q (.ref y) H'
section
variable {P : Program} {w : World} {K : PySem.W.Frag} {mg : Str → Option Value} {base : Heap} {f : Addr} {fd : FuncData}
open Classical in
theorem goes_iff {L : Nat → Nat → Prop} {t : Nat → Int} {p k : Nat} : goes L t p k = true ↔ L k p ∧ t k + 1 = t p := by unfold goes; exact decide_eq_true_iff
theorem at_nat {xs : List V} {i : Nat} {v : V} (h : xs[i]? = some v) : atI xs (i : Int) = some v := by
  unfold atI
  rw [ix_nat (by omega) (by have := (List.getElem?_eq_some_iff.mp h).1; omega)]
  exact h
noncomputable def intAt (σ : St) (i : Nat) : Nat := match σ.getD i none with | some (.int i) => i.toNat | _ => 0
theorem range_take_filter {p i : Nat} {f : Nat → Bool} (h : i < p) : ((List.range p).take (i + 1)).filter f = ((List.range p).take i).filter f ++ (if f i = true then [i] else []) := PySem.take_succ_filter f (List.range p) i i (by rw [List.getElem?_range h])
theorem natsV_snoc' (js : List Nat) (j : Nat) : natsV js ++ [.int (j : Int)] = natsV (js ++ [j]) := by simp [natsV]
theorem sc_places_of_pieces : FnScope ["found", "told", "pairs", "place", "ahead"] ["found", "told"] (defScope s_places_of_pieces) := ⟨rfl, rfl, rfl, by decide +kernel, rfl, by decide +kernel, by decide +kernel⟩
theorem ok_places_of_pieces (F : Fun K "places_of_pieces" "places_of_pieces" s_places_of_pieces f fd) (T : Txt mg) : FnOk P w K mg base CX0 1 f fd ["found", "told"] spPlaces := by
  refine F.ok sc_places_of_pieces (fun vs H Q E h => ?_) (fun cdv A outer s H vs Q E hr h => ?_)
  · obtain ⟨FF, TT, rs, N, L, t, rfl, _⟩ := h
    rfl
  obtain ⟨FF, TT, rs, N, L, t, rfl, hF, eT, h1, h900, hNr, hrs, hfair, k⟩ := h
  refine Jd.go ⟨_, (Jd.pss_cons (Jd.ps_set (i := 2) sc_places_of_pieces.nd rfl (Or.inl rfl) (Jd.pe_lst Jd.pa_nil) (hs := sw_L))
      (Jd.pss_cons (Jd.ps_set (i := 3) sc_places_of_pieces.nd rfl (Or.inr rfl) (Jd.pe_op op_sub (Jd.pe_callB (lenC K) rfl T.len_ PySem.boot_len (Jd.pa_cons (Jd.pv 1) Jd.pa_nil st_N) (he := st_N) (hpl := any0)) Jd.pe_int) (hs := sw_B))
      (Jd.pss_cons (Jd.ps_while PassesOwn.never (Jd.pt_cmpR op_gt (Jd.pv 3) Jd.pe_int (nomark _))
      (Jd.pss_cons (Jd.ps_comp (O := ["first"]) (N' := ["place", "told", "found"]) (cap := [3, 1, 0]) (i := 4) sc_places_of_pieces.nd rfl (Or.inl rfl) rfl (Jd.pi_range1 rfl T.range (Jd.pa_cons (Jd.pv 3) Jd.pa_nil st_N)) (fun _ _ _ _ _ => (Jd.pg_name (i := 0) (show List.Nodup [("first" : Str), ("place" : Str), ("told" : Str), ("found" : Str)] by decide +kernel) rfl (Or.inl rfl))) (fun _ _ _ _ _ => (Jd.pts_one (Jd.PWpt (Jd.pw_and (Jd.pt_cmpR op_eq (Jd.pe_op op_add (Jd.pe_ix (ixL K) (Jd.pv 2) (Jd.pv 0) (fun _ _ => rfl)) Jd.pe_int) (Jd.pe_ix (ixL K) (Jd.pv 2) (Jd.pv 1) (fun _ _ => rfl)) (nomark _)) (Jd.pw_and1 (Jd.pt_cmpR (inSeq K) (Jd.pv 1) (Jd.pe_ix (ixL K) (Jd.pv 3) (Jd.pv 0) (fun _ _ => rfl)) rfl)))))) (fun _ _ _ _ _ => (Jd.pv 0)) rfl ⟨⟨rfl, rfl, rfl, rfl⟩, ⟨⟨rfl, rfl, rfl, rfl⟩, ⟨⟨rfl, rfl, rfl, rfl⟩, trivial⟩⟩⟩ rfl (by decide +kernel) rfl (by decide +kernel) (by rfl))
      (Jd.pss_cons (Jd.ps_expr (Jd.appC K (Jd.pv 2) (Jd.pe_tup (Jd.pa_cons (Jd.pe_ix (ixL K) (Jd.pv 4) Jd.pe_int (fun _ _ => rfl)) (Jd.pa_cons (Jd.pv 3) Jd.pa_nil st_N) st_S))) (hs := sw_K))
      (Jd.pss_one (Jd.ps_set (i := 3) sc_places_of_pieces.nd rfl (Or.inr rfl) (Jd.pe_ix (ixL K) (Jd.pv 4) Jd.pe_int (fun _ _ => rfl)) (hs := sw_S))))))
      (Jd.pss_cons (Jd.ps_expr (Jd.rvsC K (Jd.pv 2)) (hs := sw_K))
      (Jd.pss_one (Jd.ps_ret (Jd.pv 2))))))), ?_⟩
  walk_at "vc"
  refine r_new (mk := .lst) (by simp) fun R H1 s1 n1 e1 => ?_
  walk_at "vc"
  refine r_len (.inl (SqL.of (s1 _ _ eT))) ?_
  rw [intsV_len]
  walk_at "vc"
  refine while_of (fun σ H3 => ∃ (p : Nat) (ps : List Pr) (v4 : Option V), σ = [some (.ref FF), some (.ref TT), some (.ref R), some (.int (p : Int)), v4] ∧ Same H H3 ∧ H3 R = some (.lst (prsV ps)) ∧ AllPr H3 ps ∧ p < N ∧ ps.length + p ≤ N ∧ ∀ qs, Way L t p qs → Way L t (N - 1) (qs ++ (ps.map (·.2)).reverse)) (fun σ _ => intAt σ 3) ?_ ?_
  · exact ⟨N - 1, [], none, by rw [show (N : Int) - 1 = ((N - 1 : Nat) : Int) by omega]; rfl, s1, e1, fun x hx => absurd hx (by simp), by omega, by simp, fun qs h => by simpa using h⟩
  rintro σ H3 ⟨p, ps, v4, rfl, s3, e3, hps, hp, hlen, hway⟩ RR hy hn
  walk_at "vc"
  by_cases h0 : 0 < (p : Int)
  · rw [decide_eq_true h0]
    refine hy _ fun M hM => ?_
    have eT3 := s3 _ _ eT
    walk_at "vc"
    refine r_rng1 ?_
    walk_at "vc"
    refine ⟨_, rfl, by lia, by lia, ?_⟩
    refine compB_of tells_rng (fun _ _ => trivial) (by simp; lia) (fun i zs G => zs = natsV (((List.range p).take i).filter (goes L t p))) rfl ?_ ?_
    · rintro D i x zs H4 σ0 NN N0 hσ hD eD s4 hx hz rfl kY kN
      have hi : i < p := by
        have := (List.getElem?_eq_some_iff.mp hx).1
        simpa using this
      obtain rfl : x = .int (0 + (i : Int)) := by
        rw [List.getElem?_map, List.getElem?_range (by simpa using hi)] at hx
        exact (Option.some.inj hx).symm
      rw [show (0 : Int) + (i : Int) = (i : Int) by omega]
      have tk := range_take_filter (f := goes L t p) hi
      refine r_own1 hσ ?_
      have eT4 := s4 _ _ eT3
      walk_at "vc"
      refine r_l eT4 (at_intsV (show i < N by omega) rfl) ?_
      walk_at "vc"
      refine r_l eT4 (at_intsV hp rfl) ?_
      walk_at "vc"
      have no : ¬ (L i p ∧ t i + 1 = t p) → N0 H4 := fun z => by
        refine kN H4 (Same.refl _) ?_
        rw [tk, if_neg (fun q => z (goes_iff.mp q)), List.append_nil]
      refine ite2 (fun c1 => ?_) (fun c1 => ?_)
      · have hir : i < rs.length := by omega
        have gx : rs[i]? = some rs[i] := List.getElem?_eq_getElem hir
        have ex := ((hF.up (s3.trans s4)).each _ (List.mem_of_getElem? gx)).1
        walk_at "vc"
        refine r_l (hF.up (s3.trans s4)).at_ (at_nat (by rw [List.getElem?_map, gx]; rfl)) ?_
        walk_at "vc"
        refine ⟨_, _, rfl, .inl (SqL.of ex), rfl, ?_, ?_⟩
        · exact List.all_eq_true.mpr fun v hv => by
            obtain ⟨j, _, rfl⟩ := List.mem_map.mp hv
            rfl
        · walk_at "vc"
          show if inV (.int (p : Int)) (natsV rs[i].2) = true then _ else _
          refine ite2 (fun c2 => ?_) (fun c2 => ?_)
          · walk_at "vc"
            refine kY _ H4 (Same.refl _) ?_
            rw [tk, if_pos (goes_iff.mpr ⟨(hrs i _ gx p).mp (inV_nats.mp c2), of_decide_eq_true c1⟩)]
            exact natsV_snoc' _ _
          · exact no fun z => c2 (inV_nats.mpr ((hrs i _ gx p).mpr z.1))
      · refine iteF ?_
        exact no fun z => c1 (decide_eq_true z.2)
    · rintro D zs H4 hD eD s4 hz rfl
      rw [List.length_map, List.length_range, show (p : Int).toNat = p by omega, List.take_of_length_le (by simp)] at eD
      obtain ⟨i0, hi0, hL0, ht0⟩ := hfair.ex p (by omega) hp
      have hm : i0 ∈ (List.range p).filter (goes L t p) := List.mem_filter.mpr ⟨List.mem_range.mpr hi0, goes_iff.mpr ⟨hL0, by omega⟩⟩
      obtain ⟨a, r, har⟩ : ∃ a r, (List.range p).filter (goes L t p) = a :: r := by
        cases e : (List.range p).filter (goes L t p) with
        | nil => rw [e] at hm; exact absurd hm (by simp)
        | cons a r => exact ⟨a, r, rfl⟩
      obtain ⟨ha, hap, hno⟩ := filter_first har
      obtain ⟨hLa, hta⟩ := goes_iff.mp ha
      rw [har] at eD
      have e4 := s4 _ _ e3
      walk_at "vc"
      refine ⟨.inl ⟨rfl, _, SqL.of e4⟩, ?_⟩
      walk_at "vc"
      refine r_l eD (at_nat (i := 0) rfl) ?_
      walk_at "vc"
      refine r_new (mk := .tup) (by simp) fun y H5 s5 n5 e5 => ?_
      walk_at "vc"
      refine r_app (s5 _ _ e4) (by rw [prsV_len]; exact small1000 (by omega)) ?_
      walk_at "vc"
      have nD : D ≠ R := fun z => by rw [z, e3] at hD; cases hD
      refine r_l (by rw [upd_ne nD]; exact s5 _ _ eD) (at_nat (i := 0) rfl) ?_
      walk_at "vc"
      refine hM _ _ ⟨a, ps ++ [(y, a, p)], _, rfl, same_at ((s3.trans s4).trans s5) n1, by rw [upd_same]; simp [prsV], fun x hx => ?_, by omega, by simp; omega, fun qs hq => ?_⟩ ?_
      · refine rm_up R H5 _ _ _ (rm_tup (s5 _ _ e4) ?_)
        rcases List.mem_append.mp hx with z | z
        · exact (s4.trans s5) _ _ (hps x z)
        · obtain rfl : x = (y, a, p) := by simpa using z
          exact e5
      · rw [List.map_append, List.reverse_append]
        have := hway (qs ++ [(a, p)]) (.cons ⟨hap, hLa, hta, fun k hk z => absurd ((hno k hk).symm.trans (goes_iff.mpr z)) (by decide)⟩ hq)
        simpa using this
      · show (a : Int).toNat < (p : Int).toNat
        omega
  · rw [decide_eq_false h0]
    refine hn _ ?_
    have hp0 : p = 0 := by omega
    subst hp0
    walk_at "vc"
    refine ⟨.inl ⟨rfl, _, SqL.of e3⟩, ?_⟩
    refine r_rvs e3 ?_
    walk_at "vc"
    refine k R ps.reverse _ (same_at s3 n1) n1 (by rw [upd_same, prsV, prsV, List.map_reverse]) (fun x hx => rm_up R H3 _ _ _ (rm_tup e3 (hps x (List.mem_reverse.mp hx)))) ?_
    rw [List.map_reverse]
    exact hway [] .nil
theorem sc_piece_between : FnScope ["one", "other"] ["one", "other"] (defScope s_piece_between) := ⟨rfl, rfl, rfl, by decide +kernel, rfl, by decide +kernel, by decide +kernel⟩
theorem ok_piece_between (F : Fun K "piece_between" "piece_between" s_piece_between f fd) (T : Txt mg) : FnOk P w K mg base CX0 1 f fd ["one", "other"] spBetween := by
  refine F.ok sc_piece_between (fun vs H Q E h => ?_) (fun cdv A outer s H vs Q E hr h => ?_)
  · obtain ⟨x, y, m, m', q, q', n, rfl, _⟩ := h
    rfl
  obtain ⟨x, y, m, m', q, q', n, rfl, ⟨v, ex, fv, zm⟩, ⟨v', ey, fv', zm'⟩, hn, k⟩ := h
  refine Jd.go ⟨_, (Jd.pss_one (Jd.ps_ret (Jd.pe_tup (Jd.pa_cons (Jd.pe_tup (Jd.pa_cons (Jd.pe_ix (ixT K) (Jd.pv 0) Jd.pe_int (fun _ _ => rfl)) (Jd.pa_cons Jd.pe_int Jd.pa_nil st_C) st_S)) (Jd.pa_cons (Jd.pe_ix (ixT K) (Jd.pv 0) Jd.pe_int (fun _ _ => rfl)) (Jd.pa_cons (Jd.pe_tup (Jd.pa_cons (Jd.pe_ix (ixT K) (Jd.pv 1) Jd.pe_int (fun _ _ => rfl)) (Jd.pa_cons Jd.pe_int Jd.pa_nil st_C) st_S)) (Jd.pa_cons (Jd.pe_ix (ixT K) (Jd.pv 1) Jd.pe_int (fun _ _ => rfl)) Jd.pa_nil st_S) st_T) st_S) st_T)))), ?_⟩
  walk_at "vc"
  refine r_new (mk := .tup) (by simp) fun a H1 s1 n1 e1 => ?_
  have ex1 := s1 _ _ ex
  have ey1 := s1 _ _ ey
  walk_at "vc"
  refine r_new (mk := .tup) (by simp) fun b H2 s2 n2 e2 => ?_
  have ey2 := s2 _ _ ey1
  walk_at "vc"
  refine r_new (mk := .tup) (by simp) fun c H3 s3 n3 e3 => ?_
  have s13 := s2.trans s3
  have s03 := s1.trans s13
  exact k c H3 s03 ⟨a, v, b, v', e3, ⟨m, 1, s13 _ _ e1, Fr.whole m, zm, one_sz hn⟩, fv.up s03, ⟨m', 1, s3 _ _ e2, Fr.whole m', zm', one_sz hn⟩, fv'.up s03⟩
theorem lead_lt {es : List En} {β : Rat} {tied : Bool} {i j : Nat} (hL : Lead es β tied i j) : i < j ∧ j < es.length + shft tied := by
  unfold Lead at hL
  unfold shft
  cases tied with
  | true =>
    rw [if_pos rfl] at *
    exact ⟨hL.1, hL.2.1⟩
  | false =>
    rw [if_neg Bool.false_ne_true] at *
    rcases hL with ⟨a, rfl | ⟨b, c, _⟩⟩
    · exact ⟨by walk_at "om", by walk_at "om"⟩
    · exact ⟨by walk_at "om", by walk_at "om"⟩
theorem lead_step {es : List En} {β : Rat} {tied : Bool} {j : Nat} (h0 : 0 < j) (hj : j < es.length + shft tied) : Lead es β tied (j - 1) j := by
  unfold Lead
  unfold shft at hj
  cases tied with
  | true =>
    rw [if_pos rfl] at *
    exact ⟨by walk_at "om", hj, fun k h1 h2 => by walk_at "om"⟩
  | false =>
    rw [if_neg Bool.false_ne_true] at *
    exact ⟨by walk_at "om", .inl (by walk_at "om")⟩
theorem sc_tied_run : FnScope ["run", "bound", "tied", "found", "told", "pairs", "back", "pieces"] ["run", "bound", "tied"] (defScope s_tied_run) := ⟨rfl, rfl, rfl, by decide +kernel, rfl, by decide +kernel, by decide +kernel⟩
theorem ok_tied_run (F : Fun K "tied_run" "tied_run" s_tied_run f fd) (T : Txt mg) (D_leaps : Dn P w K mg base 5 "leaps" ["samples", "bound", "tied"] spLeaps) (D_labels_by : Dn P w K mg base 1 "labels_by" ["found", "many"] spLabBy) (D_places_of_pieces : Dn P w K mg base 1 "places_of_pieces" ["found", "told"] spPlaces) (D_piece_between : Dn P w K mg base 1 "piece_between" ["one", "other"] spBetween) (D_bars_by : Dn P w K mg base 5 "bars_by" ["samples", "told", "tied"] spBarsBy) : FnOk P w K mg base CX0 6 f fd ["run", "bound", "tied"] spTiedRun := by
  refine F.ok sc_tied_run (fun vs H Q E h => ?_) (fun cdv A outer s H vs Q E hr h => ?_)
  · obtain ⟨l, pb, es, n, nb, β, tied, rfl, _⟩ := h
    rfl
  obtain ⟨l, pb, es, n, nb, β, tied, rfl, hl, hR, hS, hri, h1, h30, hb, hn1, hn, hnb, k⟩ := h
  have hsh : shft tied ≤ 1 := by unfold shft; split <;> walk_at "om"
  refine Jd.go ⟨_, (Jd.pss_cons (Jd.ps_set (i := 3) sc_tied_run.nd rfl (Or.inl rfl) (Jd.pe_dn D_leaps (hr.mono (by decide)) rfl (Jd.pa_cons (Jd.pv 0) (Jd.pa_cons (Jd.pv 1) (Jd.pa_cons (Jd.pv 2) Jd.pa_nil st_N) st_N) st_N) (he := st_N) (hpl := (anyc st_N (anyc st_N any0)))) (hs := sw_K))
      (Jd.pss_cons (Jd.ps_set (i := 4) sc_tied_run.nd rfl (Or.inl rfl) (Jd.pe_dn D_labels_by (hr.mono (by decide)) rfl (Jd.pa_cons (Jd.pv 3) (Jd.pa_cons (Jd.pe_ifExp (Jd.pt_val (Jd.pv 2)) (Jd.pe_callB (lenC K) rfl T.len_ PySem.boot_len (Jd.pa_cons (Jd.pv 0) Jd.pa_nil st_N) (he := st_N) (hpl := any0)) (Jd.pe_op op_add (Jd.pe_callB (lenC K) rfl T.len_ PySem.boot_len (Jd.pa_cons (Jd.pv 0) Jd.pa_nil st_N) (he := st_N) (hpl := any0)) Jd.pe_int)) Jd.pa_nil) st_N) (he := st_N) (hpl := (anyc (by rfl) any0))) (hs := sw_K))
      (Jd.pss_cons (Jd.ps_set (i := 5) sc_tied_run.nd rfl (Or.inl rfl) (Jd.pe_dn D_places_of_pieces (hr.mono (by decide)) rfl (Jd.pa_cons (Jd.pv 3) (Jd.pa_cons (Jd.pv 4) Jd.pa_nil st_N) st_N) (he := st_N) (hpl := (anyc st_N any0))) (hs := sw_K))
      (Jd.pss_cons (Jd.ps_if (Jd.PWpt (Jd.pw_and (Jd.pt_val (Jd.pv 2)) (Jd.pw_and1 (Jd.pt_cmpR op_eq (Jd.pe_callB (lenC K) rfl T.len_ PySem.boot_len (Jd.pa_cons (Jd.pv 0) Jd.pa_nil st_N) (he := st_N) (hpl := any0)) Jd.pe_int (nomark _)))))
      (Jd.pss_one (Jd.ps_set (i := 5) sc_tied_run.nd rfl (Or.inl rfl) (Jd.pe_lst (Jd.pa_cons (Jd.pe_tup (Jd.pa_cons Jd.pe_int (Jd.pa_cons Jd.pe_int Jd.pa_nil st_C) st_C)) Jd.pa_nil st_T)) (hs := sw_L)))
      Jd.pss_nil)
      (Jd.pss_cons (Jd.ps_set (i := 6) sc_tied_run.nd rfl (Or.inr rfl) (Jd.pe_ifExp (Jd.pt_val (Jd.pv 2)) Jd.pe_int Jd.pe_int) (hs := sw_I))
      (Jd.pss_cons (Jd.ps_comp (O := ["first", "last"]) (N' := ["run", "back"]) (cap := [0, 6]) (i := 7) sc_tied_run.nd rfl (Or.inl rfl) rfl (Jd.piL K (Jd.pv 5)) (fun _ _ _ _ _ => (Jd.pgT K (n := 2) rfl (Jd.pgs_cons (Jd.pg_name (i := 0) (show List.Nodup [("first" : Str), ("last" : Str), ("run" : Str), ("back" : Str)] by decide +kernel) rfl (Or.inl rfl)) (Jd.pgs_cons (Jd.pg_name (i := 1) (show List.Nodup [("first" : Str), ("last" : Str), ("run" : Str), ("back" : Str)] by decide +kernel) rfl (Or.inl rfl)) Jd.pgs_nil)))) (fun _ _ _ _ _ => Jd.pts_nil) (fun _ _ _ _ _ => (Jd.pe_dn D_piece_between (hr.mono (by decide)) rfl (Jd.pa_cons (Jd.pe_ix (ixL K) (Jd.pv 2) (Jd.pv 0) (fun _ _ => rfl)) (Jd.pa_cons (Jd.pe_ix (ixL K) (Jd.pv 2) (Jd.pe_op op_sub (Jd.pv 1) (Jd.pv 3)) (fun _ _ => rfl)) Jd.pa_nil st_S) st_S) (he := st_S) (hpl := (anyc st_S any0)))) rfl ⟨⟨rfl, rfl, rfl, rfl⟩, ⟨⟨rfl, rfl, rfl, rfl⟩, trivial⟩⟩ rfl (by decide +kernel) rfl (by decide +kernel) (by rfl))
      (Jd.pss_one (Jd.ps_ret (Jd.pe_tup (Jd.pa_cons (Jd.pv 7) (Jd.pa_cons (Jd.pe_tup (Jd.pa_cons (Jd.pv 4) (Jd.pa_cons (Jd.pe_dn D_bars_by (hr.mono (by decide)) rfl (Jd.pa_cons (Jd.pv 0) (Jd.pa_cons (Jd.pv 4) (Jd.pa_cons (Jd.pv 2) Jd.pa_nil st_N) st_N) st_N) (he := st_N) (hpl := (anyc st_N (anyc st_N any0)))) Jd.pa_nil st_K) st_N)) Jd.pa_nil st_T) st_N)))))))))), ?_⟩
  walk_at "vc"
  refine ⟨l, pb, es, n, nb, β, tied, rfl, hl, hR, hS, hri, by walk_at "om", hb, by walk_at "om", hnb, fun FF rs H1 s1 nF hF hlen hle => ?_⟩
  refine nx_of ?_
  refine seq_cut (fun σ' H2 => ∃ (TT : Addr) (t : Nat → Int), σ' = [some (.ref l), some (.ref pb), some (.bl tied), some (.ref FF), some (.ref TT), none, none, none] ∧ Same H1 H2 ∧ H2 TT = some (.lst (intsV (es.length + shft tied) t)) ∧ Fair (Lead es β tied) (es.length + shft tied) t) (fun σ' H2 hP => ?_) (fun N rest => ?_)
  rotate_left
  · have go : ∀ (Q' : VK) (E' : XK), (∀ (TT : Addr) (t : Nat → Int) (H2 : Hp), Same H1 H2 → H2 TT = some (.lst (intsV (es.length + shft tied) t)) → Fair (Lead es β tied) (es.length + shft tied) t → Q' (.ref TT) H2) → spLabBy [.ref FF, .int ((es.length + shft tied : Nat) : Int)] H1 Q' E' := fun Q' E' kk => ⟨FF, rs, _, Lead es β tied, rfl, hF, by walk_at "om", by walk_at "om", by walk_at "om", by walk_at "om", fun i x hx => (hle i x hx).2, fun i j hL => lead_lt hL, fun j h0 hj => lead_step h0 hj, fun R t H2 s2 nR eR hf => kk R t H2 s2 eR hf⟩
    walk_at "vc"
    have s1l := s1 _ _ hl
    cases tied with
    | true =>
      refine iteT ?_
      walk_at "vc"
      refine r_len (.inl (SqL.of s1l)) ?_
      rw [vals_len]
      walk_at "vc"
      exact go _ _ fun TT t H2 s2 e2 hf => rest _ _ ⟨TT, t, rfl, s2, e2, hf⟩
    | false =>
      refine iteF ?_
      walk_at "vc"
      refine r_len (.inl (SqL.of s1l)) ?_
      rw [vals_len]
      walk_at "vc"
      exact go _ _ fun TT t H2 s2 e2 hf => rest _ _ ⟨TT, t, rfl, s2, e2, hf⟩
  obtain ⟨TT, t, rfl, s2, eT, hf⟩ := hP
  refine seq_cut (fun σ' H3 => ∃ (PP : Addr) (ps : List Pr), σ' = [some (.ref l), some (.ref pb), some (.bl tied), some (.ref FF), some (.ref TT), some (.ref PP), none, none] ∧ Same H2 H3 ∧ H3 PP = some (.lst (prsV ps)) ∧ AllPr H3 ps ∧ Way (Lead es β tied) t (es.length + shft tied - 1) (ps.map (·.2))) (fun σ' H3 hP => ?_) (fun N rest => ?_)
  rotate_left
  · walk_at "vc"
    exact ⟨FF, TT, rs, _, _, t, rfl, hF.up s2, eT, by walk_at "om", by walk_at "om", by walk_at "om", fun i x hx => (hle i x hx).2, hf, fun PP ps H3 s3 nP eP hps hw => rest _ _ ⟨PP, ps, rfl, s3, eP, hps, hw⟩⟩
  obtain ⟨PP, ps, rfl, s3, eP, hps, hw⟩ := hP
  refine seq_cut (fun σ' H4 => ∃ (PP : Addr) (ps' : List Pr), σ' = [some (.ref l), some (.ref pb), some (.bl tied), some (.ref FF), some (.ref TT), some (.ref PP), none, none] ∧ Same H3 H4 ∧ H4 PP = some (.lst (prsV ps')) ∧ AllPr H4 ps' ∧ ps'.length ≤ 31 ∧ ps'.map (·.2) = if es.length + shft tied = 1 then [(0, 0)] else ps.map (·.2)) (fun σ' H4 hP => ?_) (fun N rest => ?_)
  rotate_left
  · have hwl := hw.len
    rw [List.length_map] at hwl
    have s13 := (s1.trans s2).trans s3
    have keep : es.length + shft tied ≠ 1 → N [some (.ref l), some (.ref pb), some (.bl tied), some (.ref FF), some (.ref TT), some (.ref PP), none, none] H3 := fun z => rest _ _ ⟨PP, ps, rfl, Same.refl _, eP, hps, by walk_at "om", by rw [if_neg z]⟩
    walk_at "vc"
    cases tied with
    | true =>
      refine iteT ?_
      walk_at "vc"
      refine r_len (.inl (SqL.of (s13 _ _ hl))) ?_
      rw [vals_len]
      walk_at "vc"
      refine ite2 (fun c1 => ?_) (fun c1 => ?_)
      · have c1' : (es.length : Int) = 1 := of_decide_eq_true c1
        walk_at "vc"
        refine r_new (mk := .tup) (by simp) fun y H4 s4 n4 e4 => ?_
        walk_at "vc"
        refine r_new (mk := .lst) (by simp) fun y' H5 s5 n5 e5 => ?_
        walk_at "vc"
        refine rest _ _ ⟨y', [(y, 0, 0)], rfl, s4.trans s5, e5, fun x hx => ?_, by simp, ?_⟩
        · obtain rfl : x = (y, 0, 0) := by simpa using hx
          exact s5 _ _ e4
        · rw [if_pos (show es.length + shft true = 1 by show es.length + 0 = 1; walk_at "om")]
          rfl
      · walk_at "vc"
        exact keep fun z => c1 (decide_eq_true (by have : es.length + 0 = 1 := z; walk_at "om"))
    | false =>
      refine iteF ?_
      refine iteF ?_
      walk_at "vc"
      exact keep fun z => by have : es.length + 1 = 1 := z; walk_at "om"
  obtain ⟨PP, ps', rfl, s4, eP, hps', hl', hm'⟩ := hP
  refine seq_cut (fun σ' H5 => H5 = H4 ∧ σ' = [some (.ref l), some (.ref pb), some (.bl tied), some (.ref FF), some (.ref TT), some (.ref PP), some (.int (shft tied : Int)), none]) (fun σ' H5 hP => ?_) (fun N rest => ?_)
  rotate_left
  · walk_at "vc"
    cases tied with
    | true =>
      refine iteT ?_
      walk_at "vc"
      exact rest _ _ ⟨rfl, rfl⟩
    | false =>
      refine iteF ?_
      walk_at "vc"
      exact rest _ _ ⟨rfl, rfl⟩
  obtain ⟨rfl, rfl⟩ := hP
  have s05 := ((s1.trans s2).trans s3).trans s4
  have inb : ∀ x ∈ ps', x.2.1 < es.length ∧ x.2.2 - shft tied < es.length ∧ ((x.2.2 : Int) - (shft tied : Int) = ((x.2.2 - shft tied : Nat) : Int)) := fun x hx => by
    have hx' : x.2 ∈ ps'.map (·.2) := List.mem_map.mpr ⟨x, hx, rfl⟩
    rw [hm'] at hx'
    by_cases hN : es.length + shft tied = 1
    · rw [if_pos hN] at hx'
      have : x.2 = (0, 0) := by simpa using hx'
      rw [this]
      exact ⟨by walk_at "om", by walk_at "om", by walk_at "om"⟩
    · rw [if_neg hN] at hx'
      have := hw.lt _ hx'
      exact ⟨by walk_at "om", by walk_at "om", by walk_at "om"⟩
  walk_at "vc"
  refine r_iL ?_
  walk_at "vc"
  refine ⟨PP, rfl, ⟨_, SqL.of eP⟩, ?_⟩
  refine compB_of (xs := prsV ps') tells_list (fun H6 s6 => SqL.of (s6 _ _ eP)) (by rw [prsV_len]; walk_at "om") (fun i ys G => ∃ pcs : List Pc, ys = prefs pcs ∧ AllP G pcs n ∧ pcs.map (·.2) = (ps'.take i).map fun x => quad es x.2.1 (x.2.2 - shft tied)) ⟨[], rfl, fun x hx => absurd hx (by simp), rfl⟩ ?_ ?_
  · rintro D i x ys H6 σ0 NN N0 h0 hD eD s6 hx hy ⟨pcs, rfl, hpcs, hmap⟩ kY kN
    unfold prsV at hx
    rw [List.getElem?_map] at hx
    obtain ⟨x, gx, rfl⟩ := Option.map_eq_some_iff.mp hx
    have hmx := List.mem_of_getElem? gx
    obtain ⟨b1, b2, b3⟩ := inb x hmx
    have tk : ps'.take (i + 1) = ps'.take i ++ [x] := by rw [List.take_add_one, gx]; rfl
    refine r_own2 h0 (s6 _ _ (hps' x hmx)) ?_
    have s06 := s05.trans s6
    obtain ⟨xi, gi, si⟩ := sa_at (hR.up s06) hS b1
    obtain ⟨xj, gj, sj⟩ := sa_at (hR.up s06) hS b2
    walk_at "vc"
    refine iteT ?_
    walk_at "vc"
    refine r_l (s06 _ _ hl) (at_val gi rfl) ?_
    walk_at "vc"
    refine r_l (s06 _ _ hl) (at_val gj b3) ?_
    walk_at "vc"
    refine ⟨xi.1, xj.1, _, _, _, _, n, rfl, si, sj, hn1, fun p H7 s7 f7 => ?_⟩
    refine kY _ H7 s7 ⟨pcs ++ [(p, quad es x.2.1 (x.2.2 - shft tied))], by simp [prefs], ?_, by rw [tk, List.map_append, List.map_append, hmap]; rfl⟩
    refine (hpcs.up (rm_rm s7)).append fun z hz => ?_
    obtain rfl : z = (p, quad es x.2.1 (x.2.2 - shft tied)) := by simpa using hz
    exact f7.mv fun {b xs} z => rm_tup (s7 _ _ eD) z
  · rintro D ys H6 hD eD s6 hy ⟨pcs, rfl, hpcs, hmap⟩
    rw [prsV_len, List.take_length] at hmap
    have s06 := s05.trans s6
    walk_at "vc"
    refine ⟨l, TT, es, n, β, tied, t, rfl, s06 _ _ hl, hR.up s06, hS, hri, h1, h30, hn, (s3.trans (s4.trans s6)) _ _ eT, hf, fun R ts H7 s7 nR eR hts hmts => ?_⟩
    walk_at "vc"
    refine r_new (mk := .tup) (by simp) fun z H8 s8 n8 e8 => ?_
    walk_at "vc"
    refine r_new (mk := .tup) (by simp) fun y H9 s9 n9 e9 => ?_
    have s79 := s8.trans s9
    have s69 := s7.trans s79
    refine k y D z pcs H9 (s06.trans s69) e9 (s05.free hD) (s69 _ _ eD) (fun x hx => (hpcs x hx).mv fun {b xs} q => s69 _ _ (rm_same _ _ q)) ⟨t, ps.map (·.2), hf, hw, ?_⟩ ⟨TT, R, t, ts, s9 _ _ e8, (s3.trans (s4.trans (s6.trans s69))) _ _ eT, hf, s79 _ _ eR, hts.up s79, hmts⟩
    rw [hmap, ← hm', List.map_map]
    rfl
end
noncomputable def TiedAt (es : List En) (β : Rat) (tied : Bool) (m : Nat) (q : List (Rat × Rat × Rat × Rat)) : Prop := ∃ qss : List (List (Rat × Rat × Rat × Rat)), Each2 (fun r l => Told r β tied l) ((parts smp es es.length).take m) qss ∧ q = qss.flatten
theorem TiedAt.snoc {es : List En} {β : Rat} {tied : Bool} {m : Nat} {q l : List (Rat × Rat × Rat × Rat)} {r : List En} (h : TiedAt es β tied m q) (hr : (parts smp es es.length)[m]? = some r) (hl : Told r β tied l) : TiedAt es β tied (m + 1) (q ++ l) := by
  obtain ⟨qss, h1, rfl⟩ := h
  refine ⟨qss ++ [l], ?_, by simp⟩
  rw [List.take_add_one, hr]
  exact each2_snoc h1 hl
theorem Told.len {es : List En} {β : Rat} {tied : Bool} {l : List (Rat × Rat × Rat × Rat)} (h : Told es β tied l) (h1 : 1 ≤ es.length) : l.length ≤ es.length := by
  obtain ⟨t, ps, _, w, rfl⟩ := h
  have hsh : shft tied ≤ 1 := by unfold shft; split <;> walk_at "om"
  have := w.len
  rw [List.length_map]
  split
  · exact h1
  · walk_at "om"
noncomputable def spTiedRow : Sp := fun vs H Q _ => ∃ (l pb : Addr) (es : List En) (n nb : Nat) (β : Rat) (tied : Bool), vs = [.ref l, .ref pb, .bl tied] ∧ H l = some (.lst (vals es)) ∧ Row H es n ∧ rising es ∧ es.length ≤ 40 ∧ (parts smp es es.length).length ≤ 33 ∧ (∀ r ∈ parts smp es es.length, r.length ≤ 30) ∧ QtAt H pb β nb ∧ 1 ≤ n ∧ n ≤ 900 ∧ nb ≤ 1000 ∧
  ∀ (y X Z : Addr) (ps : List Pc) (H' : Hp), Same H H' → H' y = some (.tup [.ref X, .ref Z]) → H X = none → H' X = some (.lst (prefs ps)) → AllP H' ps n → ps.length ≤ 990 → TiedAt es β tied (parts smp es es.length).length (ps.map (·.2)) → Q (.ref y) H'
noncomputable def spTold (tied : Bool) : Sp := fun vs H Q E => ∃ (l pb : Addr), vs = [.ref l, .ref pb] ∧ spTiedRow [.ref l, .ref pb, .bl tied] H Q E
section
variable {P : Program} {w : World} {K : PySem.W.Frag} {mg : Str → Option Value} {base : Heap} {f : Addr} {fd : FuncData}
theorem sc_tied_row : FnScope ["row", "bound", "tied", "telling", "paper", "run", "told"] ["row", "bound", "tied"] (defScope s_tied_row) := ⟨rfl, rfl, rfl, by decide +kernel, rfl, by decide +kernel, by decide +kernel⟩
theorem ok_tied_row (F : Fun K "tied_row" "tied_row" s_tied_row f fd) (T : Txt mg) (D_runs : Dn P w K mg base 1 "runs" ["row"] spRuns) (D_tied_run : Dn P w K mg base 6 "tied_run" ["run", "bound", "tied"] spTiedRun) : FnOk P w K mg base CX0 7 f fd ["row", "bound", "tied"] spTiedRow := by
  refine F.ok sc_tied_row (fun vs H Q E h => ?_) (fun cdv A outer s H vs Q E hr h => ?_)
  · obtain ⟨l, pb, es, n, nb, β, tied, rfl, _⟩ := h
    rfl
  obtain ⟨l, pb, es, n, nb, β, tied, rfl, hl, hR, hri, h30, h33, hrun, hb, hn1, hn, hnb, k⟩ := h
  refine Jd.go ⟨_, (Jd.pss_cons (Jd.ps_set (i := 3) sc_tied_row.nd rfl (Or.inl rfl) (Jd.pe_lst Jd.pa_nil) (hs := sw_L))
      (Jd.pss_cons (Jd.ps_set (i := 4) sc_tied_row.nd rfl (Or.inl rfl) (Jd.pe_lst Jd.pa_nil) (hs := sw_L))
      (Jd.pss_cons (Jd.ps_for PassesOwn.never rfl (Jd.piL K (Jd.pe_dn D_runs (hr.mono (by decide)) rfl (Jd.pa_cons (Jd.pv 0) Jd.pa_nil st_N) (he := st_N) (hpl := any0))) (Jd.pg_name (i := 5) sc_tied_row.nd rfl (Or.inl rfl))
      (Jd.pss_cons (Jd.ps_set (i := 6) sc_tied_row.nd rfl (Or.inl rfl) (Jd.pe_dn D_tied_run (hr.mono (by decide)) rfl (Jd.pa_cons (Jd.pv 5) (Jd.pa_cons (Jd.pv 1) (Jd.pa_cons (Jd.pv 2) Jd.pa_nil st_N) st_N) st_N) (he := st_N) (hpl := (anyc st_N (anyc st_N any0)))) (hs := sw_K))
      (Jd.pss_cons (Jd.ps_expr (Jd.extC K (Jd.pv 3) (Jd.pe_ix (ixT K) (Jd.pv 6) Jd.pe_int (fun _ _ => rfl))) (hs := sw_K))
      (Jd.pss_one (Jd.ps_expr (Jd.appC K (Jd.pv 4) (Jd.pe_ix (ixT K) (Jd.pv 6) Jd.pe_int (fun _ _ => rfl))) (hs := sw_K))))))
      (Jd.pss_one (Jd.ps_ret (Jd.pe_tup (Jd.pa_cons (Jd.pv 3) (Jd.pa_cons (Jd.pv 4) Jd.pa_nil st_N) st_N))))))), ?_⟩
  walk_at "vc"
  refine r_new (mk := .lst) (by simp) fun X H1 s1 n1 e1 => ?_
  walk_at "vc"
  refine r_new (mk := .lst) (by simp) fun Z H2 s2 n2 e2 => ?_
  have s02 := s1.trans s2
  have nXZ : X ≠ Z := fun z => by rw [← z, e1] at n2; cases n2
  walk_at "vc"
  refine r_for (r_iL ?_)
  walk_at "vc"
  refine ⟨l, es, n, rfl, s02 _ _ hl, hR.up s02, by walk_at "om", fun TT ls H3 s3 hLL hls _ _ => ?_⟩
  have hpl := parts_len (s := smp) (es := es) es.length
  have hll : ls.length = (parts smp es es.length).length := by rw [← hls, List.length_map]
  have own : ∀ {G : Hp} {R : Addr} {v : List V}, LL H2 G TT ls → H2 R = some (.lst v) → R ≠ TT ∧ ∀ x ∈ ls, x.1 ≠ R := fun hG e => ⟨(fun z => by rw [z, hG.new] at e; cases e), (fun x hx z => by rw [← z, (hG.each x hx).1] at e; cases e)⟩
  refine ⟨TT, rfl, ⟨_, SqL.of hLL.at_⟩, for_list (xs := lrefs ls) (fun i σ H4 => ∃ (ps : List Pc) (zs : List V) (v5 v6 : Option V), σ = [some (.ref l), some (.ref pb), some (.bl tied), some (.ref X), some (.ref Z), v5, v6] ∧ Same H H4 ∧ LL H2 H4 TT ls ∧ H4 X = some (.lst (prefs ps)) ∧ H4 Z = some (.lst zs) ∧ zs.length ≤ i ∧ AllP H4 ps n ∧ ps.length ≤ 30 * i ∧ TiedAt es β tied i (ps.map (·.2))) ?_ ?_ ?_ ?_⟩
  · exact ⟨[], [], none, none, rfl, s02.trans s3, hLL, (s2.trans s3) _ _ e1, s3 _ _ e2, Nat.le_refl _, fun x hx => absurd hx (by simp), Nat.le_refl _, [], trivial, rfl⟩
  · rintro i σ H4 _ ⟨ps, zs, v5, v6, rfl, s4, hL4, _⟩
    exact SqL.of hL4.at_
  · rintro i x σ H4 hx ⟨ps, zs, v5, v6, rfl, s4, hL4, eX, eZ, hz, hps, hpl4, hti⟩
    refine body_cut fun M B R hM _ _ => ?_
    obtain ⟨x, gx, rfl⟩ := lrefs_at hx
    have hi : i < ls.length := (List.getElem?_eq_some_iff.mp gx).1
    have hmx := List.mem_of_getElem? gx
    have hp : (parts smp es es.length)[i]? = some x.2 := by rw [← hls, List.getElem?_map, gx]; rfl
    obtain ⟨o1, o2, o3⟩ := parts_own es.length x.2 (List.mem_of_getElem? hp)
    rw [List.take_length] at o3
    obtain ⟨_, ex, _⟩ := hL4.each x hmx
    have hx1 : 1 ≤ x.2.length := List.length_pos_iff.mpr o1
    have hx30 := hrun _ (List.mem_of_getElem? hp)
    walk_at "vc"
    refine ⟨x.1, pb, x.2, n, nb, β, tied, rfl, ex, fun z hz => hR.up s4 z (o3.subset hz), o2, hri.sublist o3, hx1, by walk_at "om", hb.up s4, hn1, hn, hnb, fun y X' Z' pcs H5 s5 ey nX' eX' hpc htold _ => ?_⟩
    have hpc30 := htold.len hx1
    rw [List.length_map] at hpc30
    have eX5 := s5 _ _ eX
    have eZ5 := s5 _ _ eZ
    have hL5 := hL4.up s5
    obtain ⟨a1, a2⟩ := own hLL (s2 _ _ e1)
    obtain ⟨b1, b2⟩ := own hLL e2
    walk_at "vc"
    refine ⟨.inl ⟨rfl, _, SqL.of eX5⟩, ?_⟩
    walk_at "vc"
    refine r_ext eX5 eX' (by rw [prefs_len, prefs_len]; exact Nat.le_of_lt (small1000 (by walk_at "om"))) ?_
    have eZ6 : upd H5 X (.lst (prefs ps ++ prefs pcs)) Z = some (.lst zs) := by rw [upd_ne (Ne.symm nXZ)]; exact eZ5
    have ey6 : upd H5 X (.lst (prefs ps ++ prefs pcs)) y = some (.tup [.ref X', .ref Z']) := rm_up X H5 _ _ _ (rm_tup eX5 ey)
    walk_at "vc"
    refine ⟨.inl ⟨rfl, _, SqL.of eZ6⟩, ?_⟩
    walk_at "vc"
    refine r_app eZ6 (small1000 (by walk_at "om")) ?_
    refine hM _ _ ⟨ps ++ pcs, zs ++ [.ref Z'], _, _, rfl, same_at (same_at (s4.trans s5) (n1)) (s1.free n2), (hL5.other a1 a2).other b1 b2, ?_, upd_same, by simp; walk_at "om", ((hps.up s5).append hpc).app eX5 |>.app eZ6, by simp; walk_at "om", ?_⟩
    · rw [upd_ne nXZ, upd_same, prefs, prefs, prefs, List.map_append]
    · rw [List.map_append]
      exact hti.snoc hp htold
  · rintro σ H4 ⟨ps, zs, v5, v6, rfl, s4, hL4, eX, eZ, hz, hps, hpl4, hti⟩
    rw [lrefs_len] at hpl4 hti
    walk_at "vc"
    refine r_new (mk := .tup) (by simp) fun y H5 s5 n5 e5 => ?_
    rw [hll] at hti
    exact k y X Z ps H5 (s4.trans s5) e5 n1 (s5 _ _ eX) (hps.up s5) (by walk_at "om") hti
theorem sc_spans : FnScope ["row", "bound"] ["row", "bound"] (defScope s_spans) := ⟨rfl, rfl, rfl, by decide +kernel, rfl, by decide +kernel, by decide +kernel⟩
theorem ok_spans (F : Fun K "spans" "spans" s_spans f fd) (T : Txt mg) (D_tied_row : Dn P w K mg base 7 "tied_row" ["row", "bound", "tied"] spTiedRow) : FnOk P w K mg base CX0 8 f fd ["row", "bound"] (spTold false) := by
  refine F.ok sc_spans (fun vs H Q E h => ?_) (fun cdv A outer s H vs Q E hr h => ?_)
  · obtain ⟨l, pb, rfl, _⟩ := h
    rfl
  obtain ⟨l, pb, rfl, h⟩ := h
  refine Jd.go ⟨_, (Jd.pss_one (Jd.ps_ret (Jd.pe_dn D_tied_row (hr.mono (by decide)) rfl (Jd.pa_cons (Jd.pv 0) (Jd.pa_cons (Jd.pv 1) (Jd.pa_cons Jd.pe_bl Jd.pa_nil st_C) st_N) st_N) (he := st_N) (hpl := (anyc st_N (anyc st_C any0)))))), ?_⟩
  walk_at "vc"
  exact h
theorem sc_chain : FnScope ["row", "bound"] ["row", "bound"] (defScope s_chain) := ⟨rfl, rfl, rfl, by decide +kernel, rfl, by decide +kernel, by decide +kernel⟩
theorem ok_chain (F : Fun K "chain" "chain" s_chain f fd) (T : Txt mg) (D_tied_row : Dn P w K mg base 7 "tied_row" ["row", "bound", "tied"] spTiedRow) : FnOk P w K mg base CX0 8 f fd ["row", "bound"] (spTold true) := by
  refine F.ok sc_chain (fun vs H Q E h => ?_) (fun cdv A outer s H vs Q E hr h => ?_)
  · obtain ⟨l, pb, rfl, _⟩ := h
    rfl
  obtain ⟨l, pb, rfl, h⟩ := h
  refine Jd.go ⟨_, (Jd.pss_one (Jd.ps_ret (Jd.pe_dn D_tied_row (hr.mono (by decide)) rfl (Jd.pa_cons (Jd.pv 0) (Jd.pa_cons (Jd.pv 1) (Jd.pa_cons Jd.pe_bl Jd.pa_nil st_C) st_N) st_N) (he := st_N) (hpl := (anyc st_N (anyc st_C any0)))))), ?_⟩
  walk_at "vc"
  exact h
end

structure VL (H H2 : Hp) (T : Addr) (ls : List (Addr × List V)) : Prop where
  new : H T = none
  at_ : H2 T = some (.lst (ls.map fun x => V.ref x.1))
  each : ∀ x ∈ ls, H x.1 = none ∧ H2 x.1 = some (.lst x.2) ∧ x.1 ≠ T
  nd : (ls.map (·.1)).Nodup
section
variable {H H2 H3 : Hp} {T R : Addr} {ls : List (Addr × List V)} {rn : List V}
theorem VL.up (h : VL H H2 T ls) (s : Same H2 H3) : VL H H3 T ls := ⟨h.new, s _ _ h.at_, fun x hx => let ⟨a, b, c⟩ := h.each x hx; ⟨a, s _ _ b, c⟩, h.nd⟩
theorem VL.push (h : VL H H2 T ls) (hR : H R = none) (eR : H2 R = some (.lst rn)) (hT : R ≠ T) (hl : ∀ x ∈ ls, x.1 ≠ R) : VL H (upd H2 T (.lst (ls.map (fun x => V.ref x.1) ++ [.ref R]))) T (ls ++ [(R, rn)]) := by
  refine ⟨h.new, by rw [upd_same]; simp, fun x hx => ?_, ?_⟩
  · rcases List.mem_append.mp hx with z | z
    · obtain ⟨a, b, c⟩ := h.each x z
      exact ⟨a, by rw [upd_ne c]; exact b, c⟩
    · obtain rfl : x = (R, rn) := by simpa using z
      exact ⟨hR, by rw [upd_ne hT]; exact eR, hT⟩
  · rw [List.map_append]
    refine List.nodup_append.mpr ⟨h.nd, by simp, fun a ha b hb => ?_⟩
    obtain ⟨x, hx, rfl⟩ := List.mem_map.mp ha
    obtain rfl : b = R := by simpa using hb
    exact hl x hx
theorem VL.last {L : Addr} {c : List V} {x : V} (h : VL H H2 T (ls ++ [(L, c)])) : VL H (upd H2 L (.lst (c ++ [x]))) T (ls ++ [(L, c ++ [x])]) := by
  obtain ⟨hL, eL, nL⟩ := h.each (L, c) (by simp)
  have hnd := h.nd
  rw [List.map_append] at hnd
  have hne : ∀ y ∈ ls, y.1 ≠ L := fun y hy z => (List.nodup_append.mp hnd).2.2 y.1 (List.mem_map.mpr ⟨y, hy, rfl⟩) L (by simp) z
  refine ⟨h.new, ?_, fun y hy => ?_, by rw [List.map_append]; exact hnd⟩
  · rw [upd_ne (Ne.symm nL)]
    have := h.at_
    simpa using this
  · rcases List.mem_append.mp hy with z | z
    · obtain ⟨a, b, c'⟩ := h.each y (List.mem_append_left _ z)
      exact ⟨a, by rw [upd_ne (hne y z)]; exact b, c'⟩
    · obtain rfl : y = (L, c ++ [x]) := by simpa using z
      exact ⟨hL, upd_same, nL⟩
end
section
variable {P : Program} {w : World} {K : PySem.W.Frag} {mg : Str → Option Value} {base : Heap} {f : Addr} {fd : FuncData}
end
noncomputable def gh (hs : List Nn) (b : Int) : List En := hs.map fun x => (x.1, nworth b x.2)
theorem gh_map (hs : List Nn) (b : Int) : (gh hs b).map (·.2) = hs.map (fun x => nworth b x.2) := by unfold gh; rw [List.map_map]; rfl
theorem gh_len (hs : List Nn) (b : Int) : (gh hs b).length = hs.length := List.length_map ..
section
variable {P : Program} {w : World} {K : PySem.W.Frag} {mg : Str → Option Value} {base : Heap} {f : Addr} {fd : FuncData}
end
section
variable {P : Program} {w : World} {K : PySem.W.Frag} {mg : Str → Option Value} {base : Heap} {f : Addr} {fd : FuncData}
end
noncomputable def fdat (q : Rat) : PyData := .tuple [.int q.num, .int (q.den : Int)]
noncomputable def pdat (v : Rat × Rat × Rat × Rat) : PyData := .tuple [fdat v.1, fdat v.2.1, fdat v.2.2.1, fdat v.2.2.2]
theorem FrAt.fden {H : Hp} {p : Addr} {q : Rat} {n : Nat} (f : FrAt H p q n) : Den H (.ref p) (fdat q) := by
  obtain ⟨t, b, e, g, _⟩ := f
  obtain ⟨rfl, rfl⟩ := g.num_den
  exact .tup e (.cons (.int _) (.cons (.int _) .nil))
theorem AllP.dens {H : Hp} {n : Nat} : ∀ {ps : List Pc}, AllP H ps n → Dens H (prefs ps) (ps.map fun x => pdat x.2)
  | [], _ => .nil
  | x :: ps, h => by
    obtain ⟨a, b, c, d, e, f1, f2, f3, f4⟩ := h x List.mem_cons_self
    exact .cons (.tup e (.cons (FrAt.fden f1) (.cons (FrAt.fden f2) (.cons (FrAt.fden f3) (.cons (FrAt.fden f4) .nil))))) (AllP.dens fun y hy => h y (List.mem_cons_of_mem _ hy))
theorem PcAt.mono {H : Hp} {x : Pc} {n m : Nat} (f : PcAt H x n) (h : n ≤ m) : PcAt H x m := by
  obtain ⟨a, b, c, d, e, f1, f2, f3, f4⟩ := f
  exact ⟨a, b, c, d, e, f1.mono h, f2.mono h, f3.mono h, f4.mono h⟩
section
variable {P : Program} {w : World} {K : PySem.W.Frag} {mg : Str → Option Value} {base : Heap} {f : Addr} {fd : FuncData}
end
theorem parts_map {α β : Type} (f : α → β) (s : β → Bool) (es : List α) : ∀ i, (parts (fun x => s (f x)) es i).map (List.map f) = parts s (es.map f) i
  | 0 => rfl
  | i + 1 => by
    have ih := parts_map f s es i
    have hr : inRun s (es.map f) i = inRun (fun x => s (f x)) es i := by
      unfold inRun
      rw [List.getElem?_map]
      cases es[i - 1]? <;> rfl
    cases e : es[i]? with
    | none =>
      have e' : (es.map f)[i]? = none := by rw [List.getElem?_map, e]; rfl
      unfold parts
      rw [e, e']
      exact ih
    | some x =>
      have e' : (es.map f)[i]? = some (f x) := by rw [List.getElem?_map, e]; rfl
      cases hs : s (f x) with
      | false => rw [parts_gap (s := fun x => s (f x)) e hs, parts_gap e' hs, ih]
      | true =>
        cases hi : inRun (fun x => s (f x)) es i with
        | false => rw [parts_new (s := fun x => s (f x)) e hs hi, parts_new e' hs (hr.trans hi), List.map_append, ih]; rfl
        | true =>
          obtain ⟨t, r, hp⟩ := parts_ne hi
          rw [parts_on (s := fun x => s (f x)) e hs hi hp, parts_on e' hs (hr.trans hi) (t := t.map (List.map f)) (r := r.map f) (by rw [← ih, hp, List.map_append]; rfl)]
          simp
theorem each2_of {α β γ : Type} {f : α → γ} {g : β → γ} : ∀ {as : List α} {bs : List β}, as.map f = bs.map g → Each2 (fun a b => f a = g b) as bs
  | [], [], _ => trivial
  | _ :: _, _ :: _, h => ⟨(List.cons.inj h).1, each2_of (List.cons.inj h).2⟩
  | [], _ :: _, h => nomatch h
  | _ :: _, [], h => nomatch h
theorem runs_same {es : List En} {hs : List Nn} {b : Int} (h : es.map (·.2) = hs.map (fun x => nworth b x.2)) : Each2 (fun r r' => r.map (·.2) = (gh r' b).map (·.2)) (parts smp es es.length) (parts nsm hs hs.length) := by
  have hl : es.length = hs.length := link_len h
  refine each2_imp (R := fun r r' => r.map (·.2) = r'.map fun x => nworth b x.2) (fun r r' _ e => by rw [gh_map]; exact e) (each2_of ?_)
  have a := parts_map (fun x : En => x.2) (fun v : Int × Option Rat => v.2.isSome) es es.length
  have c := parts_map (fun x : Nn => nworth b x.2) (fun v : Int × Option Rat => v.2.isSome) hs hs.length
  have e2 : (fun x : Nn => (nworth b x.2).2.isSome) = nsm := funext fun x => by unfold nworth nsm; simp
  rw [show (fun x : Nn => (fun v : Int × Option Rat => v.2.isSome) (nworth b x.2)) = nsm from e2] at c
  have a' : (parts smp es es.length).map (List.map fun x : En => x.2) = parts (fun v : Int × Option Rat => v.2.isSome) (es.map fun x => x.2) es.length := a
  rw [a', c, h, hl]

section
variable {L : Nat → Nat → Prop} {t : Nat → Int} {N p c : Nat} {ps : List (Nat × Nat)}
theorem Way.label (h0 : t 0 = 0) (h : Way L t p ps) : (ps.length : Int) = t p := by
  induction h with
  | nil => rw [h0]; rfl
  | @cons a p ps f w ih =>
    rw [List.length_append, List.length_singleton]
    have := f.2.2.1
    lia
inductive Led (L : Nat → Nat → Prop) : Nat → Nat → Prop
  | zero : Led L 0 0
  | step {c p q : Nat} : Led L c p → p < q → L p q → Led L (c + 1) q
theorem Led.le (hf : Fair L N t) (h : Led L c p) : p < N → t p ≤ (c : Int) := by
  induction h with
  | zero => intro _; rw [hf.first]; exact Int.le_refl _
  | @step c p q h hpq hL ih =>
    intro hq
    have h1 := ih (by lia)
    have h2 := hf.le p q hpq hq hL
    lia
theorem Led.imp {L' : Nat → Nat → Prop} (h : Led L c p) (hi : ∀ i j, i < j → j ≤ p → L i j → L' i j) : Led L' c p := by
  induction h with
  | zero => exact .zero
  | @step c p q h hpq hL ih => exact .step (ih fun i j a b => hi i j a (by lia)) hpq (hi p q hpq (Nat.le_refl _) hL)
theorem bends_le {b : Nat → Int} (hf : Fair L N t) (h0 : b 0 = 0) (hb : ∀ i j, i < j → j < N → L i j → b j ≤ b i + 1) : ∀ j, j < N → b j ≤ t j := by
  intro j
  induction j using Nat.strongRecOn with
  | ind j ih =>
    intro hj
    by_cases e : j = 0
    · rw [e, h0, hf.first]; exact Int.le_refl _
    · obtain ⟨i, hi, hL, ht⟩ := hf.ex j (by lia) hj
      have h1 := ih i hi (by lia)
      have h2 := hb i j hi hj hL
      lia
theorem fair_pos (hf : Fair L N t) : ∀ j, j < N → 0 ≤ t j ∧ (0 < j → 1 ≤ t j) := by
  intro j
  induction j using Nat.strongRecOn with
  | ind j ih =>
    intro hj
    by_cases e : j = 0
    · rw [e, hf.first]; exact ⟨Int.le_refl _, fun h => absurd h (by decide)⟩
    · obtain ⟨i, hi, hL, ht⟩ := hf.ex j (by lia) hj
      have := (ih i hi (by lia)).1
      exact ⟨by lia, fun _ => by lia⟩
end
theorem Told.count {es : List En} {β : Rat} {tied : Bool} {l : List (Rat × Rat × Rat × Rat)} (h : Told es β tied l) (h1 : 1 ≤ es.length) : ∃ t, Fair (Lead es β tied) (es.length + shft tied) t ∧ 1 ≤ l.length ∧ (if es.length + shft tied = 1 then l.length = 1 else (l.length : Int) = t (es.length + shft tied - 1)) := by
  obtain ⟨t, ps, hf, hw, rfl⟩ := h
  refine ⟨t, hf, ?_, ?_⟩
  · rw [List.length_map]
    split
    · exact Nat.le_refl _
    · have e := hw.label hf.first
      have := (fair_pos hf (es.length + shft tied - 1) (by walk_at "om")).2 (by walk_at "om")
      walk_at "om"
  · split
    · rename_i e
      rw [List.length_map]
      rfl
    · rename_i e
      rw [List.length_map]
      exact hw.label hf.first
theorem Told.most {es : List En} {β : Rat} {tied : Bool} {l : List (Rat × Rat × Rat × Rat)} {c : Nat} (h : Told es β tied l) (h1 : 1 ≤ es.length) (hc : 1 ≤ c) (hL : Led (Lead es β tied) c (es.length + shft tied - 1) ∨ es.length + shft tied = 1) : l.length ≤ c := by
  obtain ⟨t, hf, _, e⟩ := h.count h1
  split at e
  · walk_at "om"
  · rename_i ne
    rcases hL with z | z
    · have := z.le hf (by walk_at "om")
      walk_at "om"
    · exact absurd z ne
theorem Told.least {es : List En} {β : Rat} {tied : Bool} {l : List (Rat × Rat × Rat × Rat)} {b : Nat → Int} (h : Told es β tied l) (h1 : 1 ≤ es.length) (ne : es.length + shft tied ≠ 1) (h0 : b 0 = 0) (hb : ∀ i j, i < j → j < es.length + shft tied → Lead es β tied i j → b j ≤ b i + 1) : b (es.length + shft tied - 1) ≤ (l.length : Int) := by
  obtain ⟨t, hf, _, e⟩ := h.count h1
  rw [if_neg ne] at e
  rw [e]
  exact bends_le hf h0 hb _ (by walk_at "om")
noncomputable def OnL (r : List Nn) (c s : Int) (i j : Nat) : Prop := ∀ k, i ≤ k → k ≤ j → ∃ p : Int, (p.natAbs : Int) ≤ c ∧ nno r k = nno r i + s * (nmo r k - nmo r i) + p ∧ (k = j → p = 0)
theorem nmo_app {r : List Nn} {x : Nn} {k : Nat} (h : k < r.length) : nmo (r ++ [x]) k = nmo r k ∧ nno (r ++ [x]) k = nno r k := by
  unfold nmo nno
  rw [List.getElem?_append_left h]
  exact ⟨rfl, rfl⟩
theorem nmo_end {r : List Nn} {x : Nn} : nmo (r ++ [x]) r.length = x.2.1 ∧ nno (r ++ [x]) r.length = (x.2.2).getD 0 := by
  unfold nmo nno
  rw [List.getElem?_append_right (Nat.le_refl _), Nat.sub_self]
  refine ⟨rfl, ?_⟩
  show (([x][0]?).bind (·.2.2)).getD 0 = _
  rfl
theorem straight_lead {es : List En} {r : List Nn} {b : Int} {sl : Nat → Int} {bf : Nat → Int} (hm : es.map (·.2) = r.map (fun x => nworth b x.2)) (hb : 1 ≤ b) (hri : nrising r)
    (hsl : ∀ k, 0 < k → k < r.length → nno r k = nno r (k - 1) + sl k * (nmo r k - nmo r (k - 1))) (h1 : ∀ k, k + 1 < r.length → bf (k + 1) ≤ bf k + 1) (hbf : ∀ k, 0 < k → k + 1 < r.length → sl k = sl (k + 1) → bf (k + 1) = bf k) :
    ∀ i j, i < j → j < r.length → Lead es ((0 : Rat)) true i j → bf j ≤ bf i + 1 := by
  intro i j hij hj hL
  have hlen := link_len hm
  have hg : Good es (((0 : Int) : Rat) / (b : Rat)) i j := by
    have := (lead_good (tied := true) hij (by show j < es.length + 0; walk_at "om")).mp hL
    have e : ((0 : Int) : Rat) / (b : Rat) = 0 := by
      rw [show ((0 : Int) : Rat) = 0 from rfl]
      have := cast_ne (b := b) (by walk_at "om")
      grind
    rw [e]
    exact this
  rw [← link_good hm hb hri (by walk_at "om") hj] at hg
  -- all steps have one slope
  have flat : ∀ k, i < k → k < j → nsd r i k j = 0 := fun k h1 h2 => by
    have := hg k h1 h2
    rw [Int.zero_mul] at this
    walk_at "om"
  have same : ∀ k, i < k → k < j → sl k = sl (k + 1) := fun k hk1 hk2 => by
    have tj := nmo_lt hri hij hj
    have t1 := nmo_lt hri (show k - 1 < k by walk_at "om") (by walk_at "om")
    have t2 := nmo_lt hri (show k < k + 1 by walk_at "om") (by walk_at "om")
    have fl : ∀ q, i ≤ q → q ≤ j → nno r q * (nmo r j - nmo r i) = nno r i * (nmo r j - nmo r q) + nno r j * (nmo r q - nmo r i) := fun q q1 q2 => by
      by_cases e1 : q = i
      · subst e1; grind
      · by_cases e2 : q = j
        · subst e2; grind
        · have := flat q (by walk_at "om") (by walk_at "om")
          unfold nsd nst at this
          walk_at "om"
    have a0 := fl (k - 1) (by walk_at "om") (by walk_at "om")
    have a1 := fl k (by walk_at "om") (by walk_at "om")
    have a2 := fl (k + 1) (by walk_at "om") (by walk_at "om")
    have s1 := hsl k (by walk_at "om") (by walk_at "om")
    have s2 := hsl (k + 1) (by walk_at "om") (by walk_at "om")
    rw [Nat.add_sub_cancel] at s2
    have m1 : sl k * ((nmo r k - nmo r (k - 1)) * (nmo r j - nmo r i)) = (nno r j - nno r i) * (nmo r k - nmo r (k - 1)) := by grind
    have m2 : sl (k + 1) * ((nmo r (k + 1) - nmo r k) * (nmo r j - nmo r i)) = (nno r j - nno r i) * (nmo r (k + 1) - nmo r k) := by grind
    have c1 : sl k * (nmo r j - nmo r i) = nno r j - nno r i := by
      have : (nmo r k - nmo r (k - 1)) * (sl k * (nmo r j - nmo r i)) = (nmo r k - nmo r (k - 1)) * (nno r j - nno r i) := by grind
      exact Int.eq_of_mul_eq_mul_left (by walk_at "om") this
    have c2 : sl (k + 1) * (nmo r j - nmo r i) = nno r j - nno r i := by
      have : (nmo r (k + 1) - nmo r k) * (sl (k + 1) * (nmo r j - nmo r i)) = (nmo r (k + 1) - nmo r k) * (nno r j - nno r i) := by grind
      exact Int.eq_of_mul_eq_mul_left (by walk_at "om") this
    exact Int.eq_of_mul_eq_mul_right (by walk_at "om") (c1.trans c2.symm)
  have go : ∀ m, i + 1 + m ≤ j → bf (i + 1 + m) ≤ bf i + 1 := by
    intro m
    induction m with
    | zero => intro _; exact h1 i (by walk_at "om")
    | succ m ih =>
      intro hm'
      have e := hbf (i + 1 + m) (by walk_at "om") (by walk_at "om") (same (i + 1 + m) (by walk_at "om") (by walk_at "om"))
      have h2 := ih (by walk_at "om")
      have e3 : i + 1 + (m + 1) = i + 1 + m + 1 := by walk_at "om"
      rw [e3, e]
      exact h2
  have := go (j - (i + 1)) (by walk_at "om")
  rw [show i + 1 + (j - (i + 1)) = j by walk_at "om"] at this
  exact this
inductive Bld : List Nn → Nat → Option Int → Prop
  | one (x : Nn) : Bld [x] 0 none
  | snoc {r : List Nn} {d : Nat} {so : Option Int} {x : Nn} {s : Int} : Bld r d so → (x.2.2).getD 0 = nno r (r.length - 1) + s * (x.2.1 - nmo r (r.length - 1)) → Bld (r ++ [x]) (if so = some s then d else d + 1) (some s)
theorem Bld.ne {r : List Nn} {d : Nat} {so : Option Int} (h : Bld r d so) : 1 ≤ r.length := by
  cases h with
  | one x => exact Nat.le_refl _
  | snoc h e => simp
noncomputable def LeadN (r : List Nn) (c : Int) (sh i j : Nat) : Prop := i < j ∧ j < r.length + sh ∧ ∀ k, i < k → k < j - sh → ((nsd r i k (j - sh)).natAbs : Int) ≤ c * (nmo r (j - sh) - nmo r i)
theorem leadN_lead {es : List En} {r : List Nn} {b c : Int} {tied : Bool} {i j : Nat} (hm : es.map (·.2) = r.map (fun x => nworth b x.2)) (hb : 1 ≤ b) (hri : nrising r) (h : LeadN r c (shft tied) i j) : Lead es ((c : Rat) / (b : Rat)) tied i j := by
  obtain ⟨h1, h2, h3⟩ := h
  have hlen := link_len hm
  have hsh : shft tied ≤ 1 := by unfold shft; split <;> walk_at "om"
  rw [lead_good h1 (by walk_at "om"), ← link_good hm hb hri (by walk_at "om") (by walk_at "om")]
  exact h3
theorem nsd_app {r : List Nn} {x : Nn} {i k j : Nat} (hi : i < r.length) (hk : k < r.length) (hj : j < r.length) : nsd (r ++ [x]) i k j = nsd r i k j := by
  unfold nsd
  rw [(nmo_app hi).1, (nmo_app hi).2, (nmo_app hk).1, (nmo_app hk).2, (nmo_app hj).1, (nmo_app hj).2]
theorem LeadN.app {r : List Nn} {x : Nn} {c : Int} {sh i j : Nat} (hs : sh ≤ 1) (h : LeadN r c sh i j) : LeadN (r ++ [x]) c sh i j := by
  obtain ⟨h1, h2, h3⟩ := h
  have hj : j - sh < r.length := by walk_at "om"
  refine ⟨h1, by rw [List.length_append]; walk_at "om", fun k k1 k2 => ?_⟩
  rw [nsd_app (by walk_at "om") (by walk_at "om") hj, (nmo_app hj).1, (nmo_app (show i < r.length by walk_at "om")).1]
  exact h3 k k1 k2
theorem onl_leadN {r : List Nn} {c s : Int} {sh i j : Nat} (hri : nrising r) (hij : i < j + sh) (hle : i ≤ j) (hj : j < r.length) (h : OnL r c s i j) : LeadN r c sh i (j + sh) := by
  refine ⟨hij, by walk_at "om", ?_⟩
  rw [Nat.add_sub_cancel]
  intro k h1 h2
  obtain ⟨p, hp, ek, _⟩ := h k (by walk_at "om") (by walk_at "om")
  obtain ⟨q, _, ej, q0⟩ := h j hle (Nat.le_refl _)
  rw [q0 rfl] at ej
  have hT := nmo_lt hri (show i < j by walk_at "om") hj
  have e : nsd r i k j = p * (nmo r j - nmo r i) := by
    unfold nsd nst
    rw [ek, ej]
    grind
  rw [e, Int.natAbs_mul]
  have : (((p.natAbs * (nmo r j - nmo r i).natAbs : Nat)) : Int) = (p.natAbs : Int) * (nmo r j - nmo r i) := by
    rw [Int.natCast_mul]
    congr 1
    walk_at "om"
  rw [this]
  exact Int.mul_le_mul_of_nonneg_right hp (by walk_at "om")
theorem OnL.app {r : List Nn} {x : Nn} {c s : Int} {i j : Nat} (h : OnL r c s i j) (hj : j < r.length) : OnL (r ++ [x]) c s i j := fun k k1 k2 => by
  obtain ⟨p, h1, h2, h3⟩ := h k k1 k2
  refine ⟨p, h1, ?_, h3⟩
  rw [(nmo_app (show k < r.length by walk_at "om")).1, (nmo_app (show k < r.length by walk_at "om")).2, (nmo_app (show i < r.length by walk_at "om")).1, (nmo_app (show i < r.length by walk_at "om")).2]
  exact h2
structure Bends (r : List Nn) (d : Nat) (s : Int) : Prop where
  led : ∃ st, st + 1 < r.length ∧ OnL r 0 s st (r.length - 1) ∧ Led (LeadN r 0 0) (d - 1) st
  pos : 1 ≤ d
  bf : ∃ (sl : Nat → Int) (bf : Nat → Int), (∀ k, 0 < k → k < r.length → nno r k = nno r (k - 1) + sl k * (nmo r k - nmo r (k - 1))) ∧ bf 0 = 0 ∧ (∀ k, k + 1 < r.length → bf (k + 1) ≤ bf k + 1) ∧ (∀ k, 0 < k → k + 1 < r.length → sl k = sl (k + 1) → bf (k + 1) = bf k) ∧ bf (r.length - 1) = (d : Int) ∧ sl (r.length - 1) = s
theorem Bends.two {x y : Nn} {s : Int} (e : (y.2.2).getD 0 = nno [x] 0 + s * (y.2.1 - nmo [x] 0)) : Bends ([x] ++ [y]) 1 s := by
  have e0 := nmo_app (r := [x]) (x := y) (k := 0) (by simp)
  have e1 := nmo_end (r := [x]) (x := y)
  have e1' : nmo ([x] ++ [y]) 1 = y.2.1 ∧ nno ([x] ++ [y]) 1 = (y.2.2).getD 0 := e1
  refine ⟨⟨0, by simp, fun k k1 k2 => ?_, .zero⟩, Nat.le_refl _, fun _ => s, fun k => (k : Int), fun k k1 k2 => ?_, rfl, fun k hk => by show ((k + 1 : Nat) : Int) ≤ (k : Int) + 1; omega, fun k k1 k2 => ?_, rfl, rfl⟩
  · refine ⟨0, by decide, ?_, fun _ => rfl⟩
    rcases (show k = 0 ∨ k = 1 by simp at k2; omega) with rfl | rfl
    · grind
    · rw [e1'.1, e1'.2, e0.1, e0.2, e]; grind
  · have hk : k = 1 := by simp at k2; omega
    subst hk
    rw [e1'.1, e1'.2, show 1 - 1 = 0 from rfl, e0.1, e0.2, e]
  · simp at k2
    omega
theorem Bends.more {r : List Nn} {d : Nat} {s s' : Int} {y : Nn} (h : Bends r d s) (hri : nrising r) (e : (y.2.2).getD 0 = nno r (r.length - 1) + s' * (y.2.1 - nmo r (r.length - 1))) : Bends (r ++ [y]) (if s = s' then d else d + 1) s' := by
  obtain ⟨⟨st, hst, hon, hled⟩, hd, sl, bf, hsl, b0, b1, b2, b3, b4⟩ := h
  have hl : (r ++ [y]).length = r.length + 1 := by simp
  have en := nmo_end (r := r) (x := y)
  have hla : r.length - 1 < r.length := by walk_at "om"
  have ea := nmo_app (x := y) hla
  have hled' : Led (LeadN (r ++ [y]) 0 0) (d - 1) st := hled.imp fun i j _ _ z => z.app (by decide)
  -- the steps
  have steps : ∀ k, 0 < k → k < (r ++ [y]).length → nno (r ++ [y]) k = nno (r ++ [y]) (k - 1) + (if k = r.length then s' else sl k) * (nmo (r ++ [y]) k - nmo (r ++ [y]) (k - 1)) := fun k k1 k2 => by
    by_cases ek : k = r.length
    · subst ek
      rw [if_pos rfl, en.1, en.2, ea.1, ea.2, e]
    · have hk : k < r.length := by walk_at "om"
      have hk' : k - 1 < r.length := by walk_at "om"
      rw [if_neg ek, (nmo_app hk).1, (nmo_app hk).2, (nmo_app hk').1, (nmo_app hk').2]
      exact hsl k k1 hk
  by_cases es : s = s'
  · subst es
    rw [if_pos rfl]
    refine ⟨⟨st, by walk_at "om", fun k k1 k2 => ?_, hled'⟩, hd, fun k => if k = r.length then s else sl k, fun k => if k = r.length then (d : Int) else bf k, steps, ?_, fun k hk => ?_, fun k k1 hk z => ?_, ?_, ?_⟩
    · rw [hl, Nat.add_sub_cancel] at k2
      refine ⟨0, by decide, ?_, fun _ => rfl⟩
      have est := nmo_app (x := y) (show st < r.length by walk_at "om")
      by_cases ek : k = r.length
      · subst ek
        obtain ⟨p, p1, p2, _⟩ := hon (r.length - 1) (by walk_at "om") (Nat.le_refl _)
        have p0 : p = 0 := by omega
        rw [en.1, en.2, est.1, est.2, e, p2, p0]
        grind
      · obtain ⟨p, p1, p2, _⟩ := hon k k1 (by walk_at "om")
        have p0 : p = 0 := by omega
        have ekk := nmo_app (x := y) (show k < r.length by walk_at "om")
        rw [ekk.1, ekk.2, est.1, est.2, p2, p0]
    · show (if 0 = r.length then _ else bf 0) = 0
      rw [if_neg (by walk_at "om")]; exact b0
    · show (if k + 1 = r.length then (d : Int) else bf (k + 1)) ≤ (if k = r.length then (d : Int) else bf k) + 1
      by_cases ek : k + 1 = r.length
      · rw [if_pos ek, if_neg (by walk_at "om"), ← b3, show r.length - 1 = k by walk_at "om"]
        omega
      · by_cases ek2 : k = r.length
        · walk_at "om"
        · rw [if_neg ek, if_neg ek2]
          exact b1 k (by walk_at "om")
    · show (if k + 1 = r.length then (d : Int) else bf (k + 1)) = (if k = r.length then (d : Int) else bf k)
      by_cases ek : k + 1 = r.length
      · rw [if_pos ek, if_neg (by walk_at "om"), ← b3, show r.length - 1 = k by walk_at "om"]
      · have ek2 : k ≠ r.length := by walk_at "om"
        rw [if_neg ek, if_neg ek2]
        refine b2 k k1 (by walk_at "om") ?_
        have z' : (if k = r.length then s else sl k) = (if k + 1 = r.length then s else sl (k + 1)) := z
        rw [if_neg ek, if_neg ek2] at z'
        exact z'
    · show (if (r ++ [y]).length - 1 = r.length then (d : Int) else _) = d
      rw [if_pos (by walk_at "om")]
    · show (if (r ++ [y]).length - 1 = r.length then s else _) = s
      rw [if_pos (by walk_at "om")]
  · rw [if_neg es]
    have ld := onl_leadN (sh := 0) hri (show st < r.length - 1 + 0 by walk_at "om") (by walk_at "om") hla hon
    have hl2 : Led (LeadN (r ++ [y]) 0 0) (d + 1 - 1) (r.length - 1) := by
      have := Led.step hled' (show st < r.length - 1 by walk_at "om") (ld.app (x := y) (by decide))
      rw [show d - 1 + 1 = d + 1 - 1 by walk_at "om"] at this
      exact this
    refine ⟨⟨r.length - 1, by walk_at "om", fun k k1 k2 => ?_, hl2⟩, by walk_at "om", fun k => if k = r.length then s' else sl k, fun k => if k = r.length then ((d + 1 : Nat) : Int) else bf k, steps, ?_, fun k hk => ?_, fun k k1 hk z => ?_, ?_, ?_⟩
    · refine ⟨0, by decide, ?_, fun _ => rfl⟩
      rcases (show k = r.length - 1 ∨ k = r.length by walk_at "om") with rfl | rfl
      · grind
      · rw [en.1, en.2, ea.1, ea.2, e]; grind
    · show (if 0 = r.length then _ else bf 0) = 0
      rw [if_neg (by walk_at "om")]; exact b0
    · show (if k + 1 = r.length then ((d + 1 : Nat) : Int) else bf (k + 1)) ≤ (if k = r.length then ((d + 1 : Nat) : Int) else bf k) + 1
      by_cases ek : k + 1 = r.length
      · rw [if_pos ek, if_neg (by walk_at "om"), show k = r.length - 1 by walk_at "om", b3]
        omega
      · have ek2 : k ≠ r.length := by walk_at "om"
        rw [if_neg ek, if_neg ek2]
        exact b1 k (by walk_at "om")
    · show (if k + 1 = r.length then ((d + 1 : Nat) : Int) else bf (k + 1)) = (if k = r.length then ((d + 1 : Nat) : Int) else bf k)
      have z' : (if k = r.length then s' else sl k) = (if k + 1 = r.length then s' else sl (k + 1)) := z
      have ek2 : k ≠ r.length := by walk_at "om"
      by_cases ek : k + 1 = r.length
      · rw [if_pos ek, if_neg ek2, show k = r.length - 1 by walk_at "om", b4] at z'
        exact absurd z' es
      · rw [if_neg ek, if_neg ek2] at z' ⊢
        exact b2 k k1 (by walk_at "om") z'
    · show (if (r ++ [y]).length - 1 = r.length then ((d + 1 : Nat) : Int) else _) = _
      rw [if_pos (by walk_at "om")]
    · show (if (r ++ [y]).length - 1 = r.length then s' else _) = s'
      rw [if_pos (by walk_at "om")]
theorem Bends.told {es : List En} {r : List Nn} {d : Nat} {s b : Int} {l : List (Rat × Rat × Rat × Rat)} (h : Bends r d s) (hri : nrising r) (hm : es.map (·.2) = r.map (fun x => nworth b x.2)) (hb : 1 ≤ b) (ht : Told es 0 true l) : l.length = d := by
  obtain ⟨⟨st, hst, hon, hled⟩, hd, sl, bf, hsl, b0, b1, b2, b3, b4⟩ := h
  have hlen := link_len hm
  have z0 : ((0 : Int) : Rat) / (b : Rat) = 0 := by
    rw [show ((0 : Int) : Rat) = 0 from rfl]
    have := cast_ne (b := b) (by walk_at "om")
    grind
  have hsh : es.length + shft true = r.length := by show es.length + 0 = r.length; walk_at "om"
  have ld := onl_leadN (sh := 0) hri (show st < r.length - 1 + 0 by walk_at "om") (by walk_at "om") (by walk_at "om") hon
  have hl2 : Led (LeadN r 0 (shft true)) d (r.length - 1) := by
    have := Led.step hled (show st < r.length - 1 by walk_at "om") ld
    rw [show d - 1 + 1 = d by walk_at "om"] at this
    exact this
  have hl3 : Led (Lead es 0 true) d (es.length + shft true - 1) := by
    rw [hsh]
    refine hl2.imp fun i j _ _ z => ?_
    have := leadN_lead hm hb hri z
    rw [z0] at this
    exact this
  have up := ht.most (by walk_at "om") hd (.inl hl3)
  have lo := ht.least (by walk_at "om") (by walk_at "om") b0 fun i j hij hj hL => straight_lead hm hb hri hsl b1 b2 i j hij (by walk_at "om") hL
  rw [hsh, b3] at lo
  walk_at "om"

noncomputable def ExS (cur : List Nn) (d : Nat) (so : Option Int) : Prop := (so = none ∧ cur.length = 1 ∧ d = 0) ∨ ∃ s, so = some s ∧ Bends cur d s
structure Cur (cur : List Nn) (c : Int) (tied : Bool) (n d : Nat) (so : Option Int) : Prop where
  led : Led (LeadN cur c (shft tied)) n (cur.length + shft tied - 1)
  pos : 1 ≤ n
  two : 2 ≤ cur.length + shft tied
  few : cur.length ≤ 30
  ex : tied = true → c = 0 → ∃ s, so = some s ∧ Bends cur d s
noncomputable def LaidAt (es : List Nn) (c : Int) (tied : Bool) (m n d : Nat) : Prop := ∃ cs : List (Nat × Nat), Each2 (fun r x => ∃ so, Cur r c tied x.1 x.2 so) ((parts nsm es es.length).take m) cs ∧ (cs.map (·.1)).sum = n ∧ (cs.map (·.2)).sum = d
theorem laid_told {b c : Int} {tied : Bool} (hb : 1 ≤ b) : ∀ {rs : List (List En)} {rn : List (List Nn)} {cs : List (Nat × Nat)} {qss : List (List (Rat × Rat × Rat × Rat))}, (∀ r ∈ rn, nrising r ∧ 1 ≤ r.length) → Each2 (fun r r' => r.map (·.2) = (gh r' b).map (·.2)) rs rn → Each2 (fun r x => ∃ so, Cur r c tied x.1 x.2 so) rn cs → Each2 (fun r l => Told r ((c : Rat) / (b : Rat)) tied l) rs qss →
    qss.flatten.length ≤ (cs.map (·.1)).sum ∧ rn.length ≤ qss.flatten.length ∧ (tied = true → c = 0 → qss.flatten.length = (cs.map (·.2)).sum)
  | [], [], [], [], _, _, _, _ => ⟨Nat.le_refl _, Nat.le_refl _, fun _ _ => rfl⟩
  | r :: rs, r' :: rn, x :: cs, l :: qss, hri, hj, hc, ht => by
    obtain ⟨so, hC⟩ := hc.1
    obtain ⟨h1, h2⟩ := hri r' (by simp)
    have hm : r.map (·.2) = r'.map (fun x => nworth b x.2) := by rw [hj.1, gh_map]
    have hlen := link_len hm
    have ih := laid_told hb (fun q hq => hri q (by simp [hq])) hj.2 hc.2 ht.2
    have hmost := ht.1.most (by walk_at "om") hC.pos (.inl (by rw [hlen]; exact hC.led.imp fun i j _ _ z => leadN_lead hm hb h1 z))
    obtain ⟨_, _, hone, _⟩ := ht.1.count (by walk_at "om")
    simp only [List.flatten_cons, List.length_append, List.map_cons, List.sum_cons, List.length_cons]
    refine ⟨by walk_at "om", by walk_at "om", fun t0 c0 => ?_⟩
    obtain ⟨s, _, hB⟩ := hC.ex t0 c0
    subst t0
    subst c0
    have z0 : ((0 : Int) : Rat) / (b : Rat) = 0 := by
      rw [show ((0 : Int) : Rat) = 0 from rfl]
      have := cast_ne (b := b) (by walk_at "om")
      grind
    have ht1 := ht.1
    rw [z0] at ht1
    rw [hB.told h1 hm hb ht1, ih.2.2 rfl rfl]
  | [], _ :: _, _, _, _, h, _, _ => h.elim
  | _ :: _, [], _, _, _, h, _, _ => h.elim
  | [], [], _ :: _, _, _, _, h, _ => h.elim
  | [], [], [], _ :: _, _, _, _, h => h.elim
  | _ :: _, _ :: _, [], _, _, _, h, _ => h.elim
  | _ :: _, _ :: _, _ :: _, [], _, _, _, h => h.elim
theorem parts_pre {α : Type} {s : α → Bool} {es ys : List α} : ∀ i, i ≤ es.length → parts s (es ++ ys) i = parts s es i ∧ inRun s (es ++ ys) i = inRun s es i
  | 0, _ => ⟨rfl, rfl⟩
  | i + 1, h => by
    have ih := (parts_pre (s := s) (es := es) (ys := ys) i (by omega))
    have g : (es ++ ys)[i]? = es[i]? := List.getElem?_append_left (by omega)
    refine ⟨?_, ?_⟩
    · unfold parts
      rw [g, ih.1, ih.2]
    · unfold inRun
      rw [Nat.add_sub_cancel, g]
structure Row0 (es : List Nn) (rs : List (List Nn)) (cur : List Nn) : Prop where
  parts_ : parts nsm es es.length = rs ++ [cur]
  on : inRun nsm es es.length = true
  gaps : (es.filter fun x => !nsm x).length = rs.length
theorem row_on {es : List Nn} {rs : List (List Nn)} {cur : List Nn} {x : Nn} (h : Row0 es rs cur) (hx : nsm x = true) : Row0 (es ++ [x]) rs (cur ++ [x]) := by
  have p := parts_pre (s := nsm) (es := es) (ys := [x]) es.length (Nat.le_refl _)
  have g : (es ++ [x])[es.length]? = some x := by rw [List.getElem?_append_right (Nat.le_refl _), Nat.sub_self]; rfl
  have hl : (es ++ [x]).length = es.length + 1 := by simp
  refine ⟨?_, ?_, ?_⟩
  · rw [hl]
    exact parts_on g hx (by rw [p.2]; exact h.on) (by rw [p.1]; exact h.parts_)
  · rw [hl, inRun_succ g]; exact hx
  · rw [List.filter_append, List.length_append, h.gaps]
    simp [hx]
theorem row_first {x : Nn} (hx : nsm x = true) : Row0 [x] [] [x] := by
  have g : [x][0]? = some x := rfl
  refine ⟨?_, ?_, by simp [hx]⟩
  · show parts nsm [x] (0 + 1) = _
    rw [parts_new g hx rfl]
    rfl
  · show inRun nsm [x] (0 + 1) = true
    rw [inRun_succ g]; exact hx
theorem row_next {es : List Nn} {rs : List (List Nn)} {cur : List Nn} {z x : Nn} (h : Row0 es rs cur) (hz : nsm z = false) (hx : nsm x = true) : Row0 (es ++ [z] ++ [x]) (rs ++ [cur]) [x] := by
  have p := parts_pre (s := nsm) (es := es) (ys := [z]) es.length (Nat.le_refl _)
  have g : (es ++ [z])[es.length]? = some z := by rw [List.getElem?_append_right (Nat.le_refl _), Nat.sub_self]; rfl
  have hl : (es ++ [z]).length = es.length + 1 := by simp
  have p1 : parts nsm (es ++ [z]) (es ++ [z]).length = rs ++ [cur] := by rw [hl, parts_gap g hz, p.1]; exact h.parts_
  have q1 : inRun nsm (es ++ [z]) (es ++ [z]).length = false := by rw [hl, inRun_succ g]; exact hz
  have p' := parts_pre (s := nsm) (es := es ++ [z]) (ys := [x]) (es ++ [z]).length (Nat.le_refl _)
  have g' : (es ++ [z] ++ [x])[(es ++ [z]).length]? = some x := by rw [List.getElem?_append_right (Nat.le_refl _), Nat.sub_self]; rfl
  have hl' : (es ++ [z] ++ [x]).length = (es ++ [z]).length + 1 := by simp
  refine ⟨?_, ?_, ?_⟩
  · rw [hl', parts_new g' hx (by rw [p'.2]; exact q1), p'.1, p1]
  · rw [hl', inRun_succ g']; exact hx
  · rw [List.filter_append, List.filter_append, List.length_append, List.length_append, h.gaps]
    simp [hx, hz]
theorem curs_snoc {c : Int} {tied : Bool} {rs : List (List Nn)} {cs : List (Nat × Nat)} {r : List Nn} {n d : Nat} {so : Option Int} (h : Each2 (fun r x => ∃ so, Cur r c tied x.1 x.2 so) rs cs) (hC : Cur r c tied n d so) : Each2 (fun r x => ∃ so, Cur r c tied x.1 x.2 so) (rs ++ [r]) (cs ++ [(n, d)]) := each2_snoc h ⟨so, hC⟩
structure Mid (cur : List Nn) (c s : Int) (tied : Bool) (bi n d : Nat) (so : Option Int) (whole : Prop) : Prop where
  lt : bi < cur.length
  led : Led (LeadN cur c (shft tied)) n bi
  on : ∀ k, bi ≤ k → k < cur.length → ∃ p : Int, (p.natAbs : Int) ≤ c ∧ nno cur k = nno cur bi + s * (nmo cur k - nmo cur bi) + p ∧ (k = bi → p = 0) ∧ (whole → k + 1 = cur.length → p = 0)
  ex : tied = true → c = 0 → ExS cur d so
theorem Mid.more {cur : List Nn} {c s : Int} {tied : Bool} {bi n d : Nat} {so : Option Int} {w w' : Prop} {x : Nn} {p : Int} (h : Mid cur c s tied bi n d so w) (hri : nrising cur) (hp : (p.natAbs : Int) ≤ c) (hx : (x.2.2).getD 0 = nno cur bi + s * (x.2.1 - nmo cur bi) + p) (hw : w' → p = 0) : Mid (cur ++ [x]) c s tied bi n (if so = some s then d else d + 1) (some s) w' := by
  have hsh : shft tied ≤ 1 := by unfold shft; split <;> walk_at "om"
  have eb := nmo_app (x := x) h.lt
  have en := nmo_end (r := cur) (x := x)
  refine ⟨by rw [List.length_append]; have := h.lt; walk_at "om", h.led.imp fun i j _ _ z => z.app hsh, fun k k1 k2 => ?_, fun t0 c0 => ?_⟩
  · by_cases e : k = cur.length
    · subst e
      refine ⟨p, hp, ?_, fun z => absurd z (by have := h.lt; walk_at "om"), fun z _ => hw z⟩
      rw [en.1, en.2, eb.1, eb.2]
      exact hx
    · have hk : k < cur.length := by rw [List.length_append] at k2; simp at k2; omega
      obtain ⟨q, q1, q2, q3, _⟩ := h.on k k1 hk
      have ek := nmo_app (x := x) hk
      refine ⟨q, q1, by rw [ek.1, ek.2, eb.1, eb.2]; exact q2, q3, fun _ z => ?_⟩
      rw [List.length_append] at z
      simp at z
      omega
  · have hlast : (x.2.2).getD 0 = nno cur (cur.length - 1) + s * (x.2.1 - nmo cur (cur.length - 1)) := by
      obtain ⟨q, q1, q2, _⟩ := h.on (cur.length - 1) (by have := h.lt; walk_at "om") (by have := h.lt; walk_at "om")
      have hq : q = 0 := by omega
      have hp0 : p = 0 := by omega
      rw [hx, q2, hq, hp0]
      grind
    rcases h.ex t0 c0 with ⟨rfl, h1, rfl⟩ | ⟨s0, rfl, hB⟩
    · obtain ⟨y, rfl⟩ : ∃ y, cur = [y] := by
        match cur, h1 with
        | [y], _ => exact ⟨y, rfl⟩
      refine .inr ⟨s, rfl, ?_⟩
      rw [if_neg (by simp)]
      exact Bends.two hlast
    · refine .inr ⟨s, rfl, ?_⟩
      have := hB.more hri hlast
      by_cases es : s0 = s
      · rw [if_pos es] at this
        rw [if_pos (by rw [es])]
        exact this
      · rw [if_neg es] at this
        rw [if_neg (fun q => es (Option.some.inj q))]
        exact this
theorem Mid.done {cur : List Nn} {c s : Int} {tied : Bool} {bi n d : Nat} {so : Option Int} {w : Prop} (h : Mid cur c s tied bi n d so w) (hri : nrising cur) (hw : bi + 1 = cur.length ∨ w) (h2 : tied = true → bi + 1 < cur.length ∧ so = some s) (few : cur.length ≤ 30) : Cur cur c tied (n + 1) d so := by
  have hlt := h.lt
  have hon : OnL cur c s bi (cur.length - 1) := fun k k1 k2 => by
    obtain ⟨p, p1, p2, p3, p4⟩ := h.on k k1 (by walk_at "om")
    refine ⟨p, p1, p2, fun e => ?_⟩
    rcases hw with z | z
    · exact p3 (by walk_at "om")
    · exact p4 z (by walk_at "om")
  have hbe : bi < cur.length - 1 + shft tied := by
    cases tied with
    | true => have := (h2 rfl).1; show bi < cur.length - 1 + 0; walk_at "om"
    | false => show bi < cur.length - 1 + 1; walk_at "om"
  have ld := onl_leadN (sh := shft tied) hri hbe (by walk_at "om") (by walk_at "om") hon
  refine ⟨?_, by walk_at "om", by walk_at "om", few, fun t0 c0 => ?_⟩
  · have := Led.step h.led hbe ld
    rw [show cur.length - 1 + shft tied = cur.length + shft tied - 1 by walk_at "om"] at this
    exact this
  · rcases h.ex t0 c0 with ⟨e, _⟩ | z
    · rw [(h2 t0).2] at e; cases e
    · exact z
structure Drw (xs : List Int) (K : Nat) : Prop where
  x0 : xs[0]? = some (K : Int)
  le : K < 8
  x1 : ∃ x, xs[1]? = some x ∧ 0 ≤ x ∧ x < 4
  x4 : ∃ x, xs[4]? = some x ∧ 0 ≤ x ∧ x < 3
  at_ : ∀ k, k < 8 → ∃ g0 g1 g2 g3 g4 : Int, xs[6 + 11 * k]? = some g0 ∧ 0 ≤ g0 ∧ xs[6 + 11 * k + 1]? = some g1 ∧ 0 ≤ g1 ∧ g1 < 3 ∧ xs[6 + 11 * k + 2]? = some g2 ∧ 0 ≤ g2 ∧ g2 < 13 ∧ xs[6 + 11 * k + 3]? = some g3 ∧ 0 ≤ g3 ∧ g3 < 3 ∧ xs[6 + 11 * k + 4]? = some g4 ∧ 0 ≤ g4 ∧ g4 < 13
  in_ : ∀ k j, k < 8 → j < 3 → ∃ u v : Int, xs[6 + 11 * k + 5 + 2 * j]? = some u ∧ 0 ≤ u ∧ u < 3 ∧ xs[6 + 11 * k + 6 + 2 * j]? = some v ∧ 0 ≤ v ∧ v < 7
noncomputable def exN (xs : List Int) : Nat → Nat
  | 0 => 0
  | k + 1 => exN xs k + (if 0 < k ∧ 0 < (xs[6 + 11 * k]?).getD 0 ∧ (xs[6 + 11 * k + 4]?).getD 0 = (xs[6 + 11 * (k - 1) + 4]?).getD 0 then 0 else 1)
noncomputable def spLaid : Sp := fun vs H Q _ => ∃ (lw : Addr) (xs : List Int) (K : Nat) (tied : Bool) (c sc : Int), vs = [.ref lw, .bl tied, .int c, .int sc] ∧ H lw = some (.lst (xs.map V.int)) ∧ Drw xs K ∧ 0 ≤ c ∧ c < 2 ^ 44 ∧ 1 ≤ sc ∧ sc < 2 ^ 41 ∧
  ∀ (R : Addr) (es : List Nn) (d : Nat) (H' : Hp), Same H H' → H R = none → H' R = some (.lst (nvals es)) → NRow H' es 45 100 → nrising es → es.length ≤ 40 → LaidAt es c tied (parts nsm es es.length).length (K + 1) d → (parts nsm es es.length).length = 1 + (es.filter fun x => !nsm x).length → (tied = true → c = 0 → d = exN xs (K + 1)) → Q (.ref R) H'
structure Stage (es : List Nn) (xs : List Int) (c sc : Int) (tied : Bool) (k : Nat) (m up : Int) : Prop where
  ris : nrising es
  last : ∀ x ∈ es, x.2.1 ≤ m
  len : es.length ≤ 5 * k
  mb : m.natAbs ≤ 2 ^ 41 + k * 2 ^ 15
  ub : up.natAbs ≤ k * 2 ^ 60
  st : (k = 0 ∧ es = []) ∨ ∃ (rs : List (List Nn)) (cur : List Nn) (cs : List (Nat × Nat)) (n d : Nat) (so : Option Int), Row0 es rs cur ∧ Each2 (fun r x => ∃ so, Cur r c tied x.1 x.2 so) rs cs ∧ Cur cur c tied n d so ∧ (cs.map (·.1)).sum + n = k ∧ (tied = true → c = 0 → (cs.map (·.2)).sum + d = exN xs k ∧ so = some (((xs[6 + 11 * (k - 1) + 4]?).getD 0 - 6) * sc)) ∧ nno cur (cur.length - 1) = up ∧ nmo cur (cur.length - 1) = m ∧ cur.length + shft tied ≤ 3 * k + 1 ∧ ∃ (fr : List Nn) (a : Addr), es = fr ++ [(a, m, some up)]
structure Begun (es : List Nn) (xs : List Int) (c sc : Int) (tied : Bool) (k : Nat) (m up : Int) : Prop where
  ris : nrising es
  last : ∀ x ∈ es, x.2.1 ≤ m
  len : es.length ≤ 5 * k + 2
  mb : m.natAbs ≤ 2 ^ 41 + k * 2 ^ 15 + 8
  ub : up.natAbs ≤ k * 2 ^ 60 + 2 ^ 45
  st : ∃ (rs : List (List Nn)) (cur : List Nn) (cs : List (Nat × Nat)) (n d : Nat) (so : Option Int), Row0 es rs cur ∧ Each2 (fun r x => ∃ so, Cur r c tied x.1 x.2 so) rs cs ∧ 1 ≤ cur.length ∧ Led (LeadN cur c (shft tied)) n (cur.length - 1) ∧ (tied = true → c = 0 → ExS cur d so) ∧ (cs.map (·.1)).sum + n = k ∧ (tied = true → c = 0 → (cs.map (·.2)).sum + d + (if so = some (((xs[6 + 11 * k + 4]?).getD 0 - 6) * sc) then 0 else 1) = exN xs (k + 1)) ∧ nno cur (cur.length - 1) = up ∧ nmo cur (cur.length - 1) = m ∧ cur.length ≤ 3 * k + 1 ∧ ∃ (fr : List Nn) (a : Addr), es = fr ++ [(a, m, some up)]
theorem stage_new {es : List Nn} {xs : List Int} {c sc : Int} {tied : Bool} {k : Nat} {m up m' up' : Int} {x z : Nn} (h : Stage es xs c sc tied k m up) (hx : x.2 = (m', some up')) (hmb : m'.natAbs ≤ 2 ^ 41 + k * 2 ^ 15 + 8) (hub : up'.natAbs ≤ k * 2 ^ 60 + 2 ^ 45)
    (hc : (k = 0 ∧ m < m') ∨ (0 < k ∧ z.2.2 = none ∧ m < z.2.1 ∧ z.2.1 < m' ∧ (xs[6 + 11 * k]?).getD 0 = 0)) : Begun (if k = 0 then es ++ [x] else es ++ [z] ++ [x]) xs c sc tied k m' up' := by
  have hxs : nsm x = true := by unfold nsm; rw [hx]; rfl
  have hx1 : x.2.1 = m' := by rw [hx]
  have e1 : nmo [x] 0 = m' := by show x.2.1 = m'; exact hx1
  have e2 : nno [x] 0 = up' := by show (x.2.2).getD 0 = up'; rw [hx]; rfl
  rcases hc with ⟨rfl, hm⟩ | ⟨hk, hz, hz1, hz2, h0⟩
  · rw [if_pos rfl]
    rcases h.st with ⟨_, rfl⟩ | ⟨rs, cur, cs, n, d, so, h0, _, hcur, hn, _⟩
    · refine ⟨List.pairwise_singleton .., fun y hy => ?_, by simp, hmb, hub, [], [x], [], 0, 0, none, row_first hxs, trivial, by simp, .zero, fun _ _ => .inl ⟨rfl, rfl, rfl⟩, rfl, fun _ _ => ?_, e2, e1, by simp, [], x.1, by show [] ++ [x] = [] ++ [(x.1, m', some up')]; rw [← hx]⟩
      · obtain rfl : y = x := by simpa using hy
        rw [hx1]; exact Int.le_refl _
      · rw [if_neg (by simp)]
        show 0 + 0 + 1 = exN xs 0 + (if 0 < 0 ∧ _ then 0 else 1)
        rw [if_neg (by omega)]
        rfl
    · have := hcur.pos
      omega
  · rw [if_neg (by omega)]
    have hzs : nsm z = false := by unfold nsm; rw [hz]; rfl
    rcases h.st with ⟨rfl, _⟩ | ⟨rs, cur, cs, n, d, so, h0', hcs, hcur, hn, hex, _⟩
    · omega
    · have hlen := h.len
      refine ⟨?_, fun y hy => ?_, by simp; omega, hmb, hub, rs ++ [cur], [x], cs ++ [(n, d)], 0, 0, none, row_next h0' hzs hxs, curs_snoc hcs hcur, by simp, .zero, fun _ _ => .inl ⟨rfl, rfl, rfl⟩, by simp; exact hn, fun t0 c0 => ?_, e2, e1, by simp, es ++ [z], x.1, by rw [← hx]⟩
      · refine List.pairwise_append.mpr ⟨List.pairwise_append.mpr ⟨h.ris, List.pairwise_singleton .., fun a ha b hb => ?_⟩, List.pairwise_singleton .., fun a ha b hb => ?_⟩
        · obtain rfl : b = z := by simpa using hb
          have := h.last a ha
          omega
        · obtain rfl : b = x := by simpa using hb
          rcases List.mem_append.mp ha with q | q
          · have := h.last a q
            omega
          · obtain rfl : a = z := by simpa using q
            omega
      · rcases List.mem_append.mp hy with q | q
        · rcases List.mem_append.mp q with q | q
          · have := h.last y q
            omega
          · obtain rfl : y = z := by simpa using q
            omega
        · obtain rfl : y = x := by simpa using q
          omega
      · rw [if_neg (by simp)]
        have := (hex t0 c0).1
        show ((cs ++ [(n, d)]).map (·.2)).sum + 0 + 1 = exN xs k + (if _ then 0 else 1)
        rw [if_neg (by rw [h0]; omega)]
        simp
        omega
theorem stage_span {es : List Nn} {xs : List Int} {c sc : Int} {k : Nat} {m up m' up' : Int} {x : Nn} (h : Stage es xs c sc false k m up) (hx : x.2 = (m', some up')) (hm : m < m') (hmb : m'.natAbs ≤ 2 ^ 41 + k * 2 ^ 15 + 8) (hub : up'.natAbs ≤ k * 2 ^ 60 + 2 ^ 45) (hk : 0 < k) : Begun (es ++ [x]) xs c sc false k m' up' := by
  have hxs : nsm x = true := by unfold nsm; rw [hx]; rfl
  have hx1 : x.2.1 = m' := by rw [hx]
  rcases h.st with ⟨rfl, _⟩ | ⟨rs, cur, cs, n, d, so, h0, hcs, hcur, hn, _, _, _, hl, _⟩
  · omega
  · have hlen := h.len
    have en := nmo_end (r := cur) (x := x)
    have hsub : (cur ++ [x]).length - 1 = cur.length := by simp
    refine ⟨?_, fun y hy => ?_, by simp; omega, hmb, hub, rs, cur ++ [x], cs, n, d, so, row_on h0 hxs, hcs, by simp, ?_, fun t0 => absurd t0 (by decide), hn, fun t0 => absurd t0 (by decide), ?_, ?_, by have : cur.length + 1 ≤ 3 * k + 1 := hl; simp; omega, es, x.1, by rw [← hx]⟩
    · refine List.pairwise_append.mpr ⟨h.ris, List.pairwise_singleton .., fun a ha b hb => ?_⟩
      obtain rfl : b = x := by simpa using hb
      have := h.last a ha
      omega
    · rcases List.mem_append.mp hy with q | q
      · have := h.last y q
        omega
      · obtain rfl : y = x := by simpa using q
        omega
    · rw [hsub]
      have := hcur.led
      exact this.imp fun i j _ _ z => z.app (by decide)
    · rw [hsub, en.2, hx]; rfl
    · rw [hsub, en.1, hx1]
theorem stage_on {es : List Nn} {xs : List Int} {c sc : Int} {k : Nat} {m up : Int} (h : Stage es xs c sc true k m up) (hk : 0 < k) (hs : 1 ≤ sc) (h0' : 0 < (xs[6 + 11 * k]?).getD 0) : Begun es xs c sc true k m up := by
  rcases h.st with ⟨rfl, _⟩ | ⟨rs, cur, cs, n, d, so, h0, hcs, hcur, hn, hex, hu, hm, hl, htl⟩
  · omega
  · have hlen := h.len
    have hub := h.ub
    have hmb := h.mb
    have htwo := hcur.two
    refine ⟨h.ris, h.last, by omega, Nat.le_trans hmb (Nat.le_add_right _ _), Nat.le_trans hub (Nat.le_add_right _ _), rs, cur, cs, n, d, so, h0, hcs, by show 1 ≤ cur.length; have : 2 ≤ cur.length + 0 := htwo; omega, hcur.led, fun t0 c0 => .inr (hcur.ex t0 c0), hn, fun t0 c0 => ?_, hu, hm, hl, htl⟩
    obtain ⟨e1, e2⟩ := hex t0 c0
    show (cs.map (·.2)).sum + d + _ = exN xs k + (if _ then 0 else 1)
    rw [e1, e2]
    congr 1
    by_cases e : (xs[6 + 11 * k + 4]?).getD 0 = (xs[6 + 11 * (k - 1) + 4]?).getD 0
    · rw [if_pos (by rw [e]), if_pos ⟨hk, h0', e⟩]
    · rw [if_neg (fun z => e ?_), if_neg (fun z => e z.2.2)]
      have := Int.eq_of_mul_eq_mul_right (show sc ≠ 0 by omega) (Option.some.inj z)
      omega
section
variable {P : Program} {w : World} {K : PySem.W.Frag} {mg : Str → Option Value} {base : Heap} {f : Addr} {fd : FuncData}
theorem sc_law_planted : FnScope ["_law_some", "_law_tied", "_law_bound", "_law_scale", "_law_moment", "_law_up", "_law_row_here", "_law_k", "_law_at", "_law_begin", "_law_steep", "_law_count_here", "_law_j", "_law_push"] ["_law_some", "_law_tied", "_law_bound", "_law_scale"] (defScope s_law_planted) := ⟨rfl, rfl, rfl, by decide +kernel, rfl, by decide +kernel, by decide +kernel⟩
theorem ok_law_planted (F : Fun K "_law_planted" "_law_planted" s_law_planted f fd) (T : Txt mg) : FnOk P w K mg base CX0 1 f fd ["_law_some", "_law_tied", "_law_bound", "_law_scale"] spLaid := by
  refine F.ok sc_law_planted (fun vs H Q E h => ?_) (fun cdv A outer s H vs Q E hr h => ?_)
  · obtain ⟨lw, xs, K', tied, c, sc, rfl, _⟩ := h
    rfl
  obtain ⟨lw, xs, K', tied, c, sc, rfl, ew, hD, hc0, hc1, hs0, hs1, k⟩ := h
  obtain ⟨x1, g1, a1, b1⟩ := hD.x1
  obtain ⟨x4, g4, a4, b4⟩ := hD.x4
  refine Jd.go ⟨_, (Jd.pss_cons (Jd.ps_set (i := 4) sc_law_planted.nd rfl (Or.inl rfl) (Jd.pe_ix (ixL K) (Jd.pe_lst (Jd.pa_cons Jd.pe_int (Jd.pa_cons (Jd.pe_un un_neg Jd.pe_int) (Jd.pa_cons Jd.pe_int (Jd.pa_cons (Jd.pe_un un_neg (Jd.pe_op op_pow Jd.pe_int Jd.pe_int)) Jd.pa_nil st_U) st_C) st_U) st_C)) (Jd.pe_ix (ixL K) (Jd.pv 0) Jd.pe_int (fun _ _ => rfl)) (fun _ _ => rfl)) (hs := sw_S))
      (Jd.pss_cons (Jd.ps_set (i := 5) sc_law_planted.nd rfl (Or.inl rfl) Jd.pe_int (hs := sw_C))
      (Jd.pss_cons (Jd.ps_set (i := 6) sc_law_planted.nd rfl (Or.inl rfl) (Jd.pe_lst Jd.pa_nil) (hs := sw_L))
      (Jd.pss_cons (Jd.ps_for PassesOwn.never rfl (Jd.pi_range1 rfl T.range (Jd.pa_cons (Jd.pe_op op_add Jd.pe_int (Jd.pe_ix (ixL K) (Jd.pv 0) Jd.pe_int (fun _ _ => rfl))) Jd.pa_nil st_B)) (Jd.pg_name (i := 7) sc_law_planted.nd rfl (Or.inl rfl))
      (Jd.pss_cons (Jd.ps_set (i := 8) sc_law_planted.nd rfl (Or.inl rfl) (Jd.pe_op op_add Jd.pe_int (Jd.pe_op op_mulB Jd.pe_int (Jd.pv 7))) (hs := sw_B))
      (Jd.pss_cons (Jd.ps_if (Jd.PWpt (Jd.pw_and (Jd.pt_cmpR op_eq (Jd.pe_ix (ixL K) (Jd.pv 0) (Jd.pv 8) (fun _ _ => rfl)) Jd.pe_int (nomark _)) (Jd.pw_and1 (Jd.pt_cmpR op_gt (Jd.pv 7) Jd.pe_int (nomark _)))))
      (Jd.pss_cons (Jd.ps_set (i := 4) sc_law_planted.nd rfl (Or.inl rfl) (Jd.pe_op op_add (Jd.pv 4) Jd.pe_int) (hs := sw_B))
      (Jd.pss_one (Jd.ps_expr (Jd.appC K (Jd.pv 6) (Jd.pe_tup (Jd.pa_cons (Jd.pv 4) (Jd.pa_cons Jd.pe_non Jd.pa_nil st_C) st_N))) (hs := sw_K))))
      Jd.pss_nil)
      (Jd.pss_cons (Jd.ps_if (Jd.PWpt (Jd.pw_or (Jd.pt_cmpR op_eq (Jd.pe_ix (ixL K) (Jd.pv 0) (Jd.pv 8) (fun _ _ => rfl)) Jd.pe_int (nomark _)) (Jd.pw_or (Jd.pt_cmpR op_eq (Jd.pv 7) Jd.pe_int (nomark _)) (Jd.pw_or1 (Jd.pt_not (Jd.pt_val (Jd.pv 1)))))))
      (Jd.pss_cons (Jd.ps_set (i := 4) sc_law_planted.nd rfl (Or.inl rfl) (Jd.pe_op op_add (Jd.pe_op op_add (Jd.pv 4) Jd.pe_int) (Jd.pe_ix (ixL K) (Jd.pv 0) (Jd.pe_op op_add (Jd.pv 8) Jd.pe_int) (fun _ _ => rfl))) (hs := sw_B))
      (Jd.pss_cons (Jd.ps_set (i := 5) sc_law_planted.nd rfl (Or.inl rfl) (Jd.pe_op op_add (Jd.pv 5) (Jd.pe_op op_mulB (Jd.pe_op op_sub (Jd.pe_ix (ixL K) (Jd.pv 0) (Jd.pe_op op_add (Jd.pv 8) Jd.pe_int) (fun _ _ => rfl)) Jd.pe_int) (Jd.pv 3))) (hs := sw_B))
      (Jd.pss_one (Jd.ps_expr (Jd.appC K (Jd.pv 6) (Jd.pe_tup (Jd.pa_cons (Jd.pv 4) (Jd.pa_cons (Jd.pv 5) Jd.pa_nil st_N) st_N))) (hs := sw_K)))))
      Jd.pss_nil)
      (Jd.pss_cons (Jd.ps_set (i := 9) sc_law_planted.nd rfl (Or.inl rfl) (Jd.pe_ix (ixL K) (Jd.pv 6) (Jd.pe_un un_neg Jd.pe_int) (fun _ _ => rfl)) (hs := sw_S))
      (Jd.pss_cons (Jd.ps_set (i := 10) sc_law_planted.nd rfl (Or.inl rfl) (Jd.pe_op op_mulB (Jd.pe_op op_sub (Jd.pe_ix (ixL K) (Jd.pv 0) (Jd.pe_op op_add (Jd.pv 8) Jd.pe_int) (fun _ _ => rfl)) Jd.pe_int) (Jd.pv 3)) (hs := sw_B))
      (Jd.pss_cons (Jd.ps_set (i := 11) sc_law_planted.nd rfl (Or.inl rfl) (Jd.pe_op op_add (Jd.pe_ix (ixL K) (Jd.pv 0) (Jd.pe_op op_add (Jd.pv 8) Jd.pe_int) (fun _ _ => rfl)) (Jd.pe_callTy call_int1 rfl T.int_ PyProof.Rows.boot_int (Jd.pa_cons (Jd.pv 1) Jd.pa_nil st_N))) (hs := sw_B))
      (Jd.pss_one (Jd.ps_for PassesOwn.never rfl (Jd.pi_range1 rfl T.range (Jd.pa_cons (Jd.pv 11) Jd.pa_nil st_N)) (Jd.pg_name (i := 12) sc_law_planted.nd rfl (Or.inl rfl))
      (Jd.pss_cons (Jd.ps_set (i := 4) sc_law_planted.nd rfl (Or.inl rfl) (Jd.pe_op op_add (Jd.pv 4) (Jd.pe_op op_mulB (Jd.pe_op op_add Jd.pe_int (Jd.pe_ix (ixL K) (Jd.pv 0) (Jd.pe_op op_add (Jd.pe_op op_add (Jd.pv 8) Jd.pe_int) (Jd.pe_op op_mulB Jd.pe_int (Jd.pv 12))) (fun _ _ => rfl))) (Jd.pe_ix (ixL K) (Jd.pe_lst (Jd.pa_cons Jd.pe_int (Jd.pa_cons Jd.pe_int (Jd.pa_cons Jd.pe_int Jd.pa_nil st_C) st_C) st_C)) (Jd.pe_ix (ixL K) (Jd.pv 0) Jd.pe_int (fun _ _ => rfl)) (fun _ _ => rfl)))) (hs := sw_B))
      (Jd.pss_cons (Jd.ps_set (i := 5) sc_law_planted.nd rfl (Or.inl rfl) (Jd.pe_op op_add (Jd.pe_ix (ixT K) (Jd.pv 9) Jd.pe_int (fun _ _ => rfl)) (Jd.pe_op op_mulB (Jd.pv 10) (Jd.pe_op op_sub (Jd.pv 4) (Jd.pe_ix (ixT K) (Jd.pv 9) Jd.pe_int (fun _ _ => rfl))))) (hs := sw_B))
      (Jd.pss_cons (Jd.ps_set (i := 13) sc_law_planted.nd rfl (Or.inl rfl) Jd.pe_int (hs := sw_C))
      (Jd.pss_cons (Jd.ps_if (Jd.pt_cmpR op_lt (Jd.pv 12) (Jd.pe_op op_sub (Jd.pv 11) Jd.pe_int) (nomark _))
      (Jd.pss_one (Jd.ps_set (i := 13) sc_law_planted.nd rfl (Or.inl rfl) (Jd.pe_op op_fdivB (Jd.pe_op op_mulB (Jd.pe_op op_sub (Jd.pe_ix (ixL K) (Jd.pv 0) (Jd.pe_op op_add (Jd.pe_op op_add (Jd.pv 8) Jd.pe_int) (Jd.pe_op op_mulB Jd.pe_int (Jd.pv 12))) (fun _ _ => rfl)) Jd.pe_int) (Jd.pv 2)) Jd.pe_int) (hs := sw_B)))
      Jd.pss_nil)
      (Jd.pss_one (Jd.ps_expr (Jd.appC K (Jd.pv 6) (Jd.pe_tup (Jd.pa_cons (Jd.pv 4) (Jd.pa_cons (Jd.pe_op op_add (Jd.pv 5) (Jd.pv 13)) Jd.pa_nil st_B) st_N))) (hs := sw_K))))))))))))))))
      (Jd.pss_one (Jd.ps_ret (Jd.pv 6))))))), ?_⟩
  walk_at "vc"
  refine r_new (mk := .lst) (by simp) fun l1 H1 s1 n1 e1 => ?_
  walk_at "vc"
  refine r_l (s1 _ _ ew) (at_ints g1 rfl) ?_
  obtain ⟨m0, em0, hm0⟩ := pickP (zs := [0, -5, 1000003, -(10 ^ (12 : Int).toNat)]) (fun z => z.natAbs ≤ 2 ^ 41) (by decide +kernel) a1 b1
  refine r_l e1 em0 ?_
  walk_at "vc"
  refine r_new (mk := .lst) (by simp) fun R H2 s2 n2 e2 => ?_
  have s02 := s1.trans s2
  have nR := s1.free n2
  walk_at "vc"
  refine r_for (r_rng1 ?_)
  walk_at "vc"
  refine r_l (s02 _ _ ew) (at_ints hD.x0 rfl) ?_
  walk_at "vc"
  have hK := hD.le
  refine ⟨_, rfl, by omega, by omega, for_range (fun i σ H3 => ∃ (m up : Int) (es : List Nn) (v7 v8 v9 v10 v11 v12 v13 : Option V), σ = [some (.ref lw), some (.bl tied), some (.int c), some (.int sc), some (.int m), some (.int up), some (.ref R), v7, v8, v9, v10, v11, v12, v13] ∧ Same H H3 ∧ H3 R = some (.lst (nvals es)) ∧ NRow H3 es 45 100 ∧ Stage es xs c sc tied i m up) ?_ ?_ ?_⟩
  · exact ⟨m0, 0, [], none, none, none, none, none, none, none, rfl, s02, e2, fun x hx => absurd hx (by simp), List.Pairwise.nil, fun x hx => absurd hx (by simp), Nat.le_refl _, by omega, by decide, .inl ⟨rfl, rfl⟩⟩
  · rintro i σ H3 hi ⟨m, up, es, v7, v8, v9, v10, v11, v12, v13, rfl, s3, e3, hR, hSt⟩
    refine body_cut fun M Bk RR hM _ _ => ?_
    rw [show (0 : Int) + (i : Int) = (i : Int) by omega]
    have hi8 : i < 8 := by omega
    obtain ⟨y0, y1, y2, y3, y4, p0, p0', p1, p1', p1'', p2, p2', p2'', p3, p3', p3'', p4, p4', p4''⟩ := hD.at_ i hi8
    have ew3 := s3 _ _ ew
    have gd : ∀ {j : Nat} {v : Int}, xs[j]? = some v → (xs[j]?).getD 0 = v := fun h => by rw [h]; rfl
    -- a gap mark, where a run begins anew
    refine r_g ?_
    refine seq_cut (fun σ' H' => H' = H3 ∧ σ' = [some (.ref lw), some (.bl tied), some (.int c), some (.int sc), some (.int m), some (.int up), some (.ref R), some (.int (i : Int)), some (.int (6 + 11 * (i : Int))), v9, v10, v11, v12, v13]) (fun σ' H' hP => ?_) (fun N rest => ?_)
    rotate_left
    · walk_at "vc"
      exact rest _ _ ⟨rfl, rfl⟩
    obtain ⟨rfl, rfl⟩ := hP
    have hmb := hSt.mb
    have hub := hSt.ub
    have hlen4 := hSt.len
    have hib : i * 2 ^ 15 ≤ 8 * 2 ^ 15 := Nat.mul_le_mul_right _ (by omega)
    have hiu : i * 2 ^ 60 ≤ 8 * 2 ^ 60 := Nat.mul_le_mul_right _ (by omega)
    have z45 : ∀ {v : Int}, v.natAbs ≤ 2 ^ 41 + i * 2 ^ 15 + 8 → Sz 45 v := fun h => by show _ < 2 ^ 45; omega
    have z100 : ∀ {v : Int}, v.natAbs ≤ i * 2 ^ 60 + 2 ^ 45 → Sz 100 v := fun h => by show _ < 2 ^ 100; omega
    refine seq_cut (fun σ' H4 => ∃ (m1 : Int) (es1 : List Nn), σ' = [some (.ref lw), some (.bl tied), some (.int c), some (.int sc), some (.int m1), some (.int up), some (.ref R), some (.int (i : Int)), some (.int (6 + 11 * (i : Int))), v9, v10, v11, v12, v13] ∧ Same H H4 ∧ H4 R = some (.lst (nvals es1)) ∧ NRow H4 es1 45 100 ∧ ((0 < i ∧ y0 = 0 ∧ ∃ z : Nn, es1 = es ++ [z] ∧ z.2 = (m + 1, none) ∧ m1 = m + 1) ∨ (¬ (0 < i ∧ y0 = 0) ∧ es1 = es ∧ m1 = m))) (fun σ' H4 hP => ?_) (fun N rest => ?_)
    rotate_left
    · have keep : ¬ (0 < i ∧ y0 = 0) → N [some (.ref lw), some (.bl tied), some (.int c), some (.int sc), some (.int m), some (.int up), some (.ref R), some (.int (i : Int)), some (.int (6 + 11 * (i : Int))), v9, v10, v11, v12, v13] H' := fun z => rest _ _ ⟨m, es, rfl, s3, e3, hR, .inr ⟨z, rfl, rfl⟩⟩
      walk_at "vc"
      refine r_l ew3 (at_ints p0 (by omega)) ?_
      walk_at "vc"
      refine ite2 (fun c1 => ?_) (fun c1 => ?_)
      · have c1' := of_decide_eq_true c1
        walk_at "vc"
        refine ite2 (fun c2 => ?_) (fun c2 => ?_)
        · have c2' := of_decide_eq_true c2
          walk_at "vc"
          refine ⟨.inl ⟨rfl, _, SqL.of e3⟩, ?_⟩
          walk_at "vc"
          refine r_new (mk := .tup) (by simp) fun y H4 s4 n4 e4 => ?_
          walk_at "vc"
          refine r_app (s4 _ _ e3) (by rw [nvals_len]; exact small1000 (by omega)) ?_
          refine rest _ _ ⟨m + 1, es ++ [(y, m + 1, none)], rfl, same_at (s3.trans s4) nR, by rw [upd_same]; exact congrArg (fun z => some (HO.lst z)) (nvals_snoc es (y, m + 1, none)), (NRow.snoc (x := (y, m + 1, none)) (hR.up s4) ⟨e4, z45 (show (m + 1).natAbs ≤ _ by omega), fun z hz => nomatch hz⟩).app (s4 _ _ e3), .inl ⟨by omega, c1', (y, m + 1, none), rfl, rfl, rfl⟩⟩
        · walk_at "vc"
          exact keep fun z => c2 (decide_eq_true (by omega))
      · refine iteF ?_
        walk_at "vc"
        exact keep fun z => c1 (decide_eq_true z.2)
    obtain ⟨m1, es1, rfl, s4, e4, hR4, hg⟩ := hP
    have ew4 := s4 _ _ ew
    refine seq_cut (fun σ' H5 => ∃ (m2 up2 : Int) (es2 : List Nn), σ' = [some (.ref lw), some (.bl tied), some (.int c), some (.int sc), some (.int m2), some (.int up2), some (.ref R), some (.int (i : Int)), some (.int (6 + 11 * (i : Int))), v9, v10, v11, v12, v13] ∧ Same H H5 ∧ H5 R = some (.lst (nvals es2)) ∧ NRow H5 es2 45 100 ∧ Begun es2 xs c sc tied i m2 up2) (fun σ' H5 hP => ?_) (fun N rest => ?_)
    rotate_left
    · have hl1 : es1.length ≤ 5 * i + 1 := by
        rcases hg with ⟨_, _, z, rfl, _⟩ | ⟨_, rfl, _⟩
        · simp; omega
        · omega
      have hm1 : m1 = m ∨ m1 = m + 1 := by
        rcases hg with ⟨_, _, z, _, _, h⟩ | ⟨_, _, h⟩
        · exact .inr h
        · exact .inl h
      -- a first sample
      have go : (y0 = 0 ∨ i = 0 ∨ tied = false) → tSeq (tAsg (tOp (rI0 fun i j => V.int (i + j)) (tOp (rI0 fun i j => V.int (i + j)) (tVar 4) (tC (V.int 1))) (tOp (rIxL K) (tVar 0) (tOp (rI0 fun i j => V.int (i + j)) (tVar 8) (tC (V.int 1))))) (gName 4)) (tSeq (tAsg (tOp (rI0 fun i j => V.int (i + j)) (tVar 5) (tOp (rI IntMulOk fun i j => V.int (i * j)) (tOp (rI0 fun i j => V.int (i - j)) (tOp (rIxL K) (tVar 0) (tOp (rI0 fun i j => V.int (i + j)) (tVar 8) (tC (V.int 2)))) (tC (V.int 6))) (tVar 3))) (gName 5)) (tDrop (tBM K "list" rAppend (tVar 6) (tCons (tTup (tCons (tVar 4) (tCons (tVar 5) tNil))) tNil)))) (Ends.mk N RR Bk M) [some (.ref lw), some (.bl tied), some (.int c), some (.int sc), some (.int m1), some (.int up), some (.ref R), some (.int (i : Int)), some (.int (6 + 11 * (i : Int))), v9, v10, v11, v12, v13] H4 := fun hcase => by
        walk_at "vc"
        refine r_l ew4 (at_ints p1 (by omega)) ?_
        walk_at "vc"
        refine r_l ew4 (at_ints p2 (by omega)) ?_
        walk_at "vc"
        refine r_I (mulL (by omega) (by omega)) ?_
        walk_at "vc"
        refine ⟨.inl ⟨rfl, _, SqL.of e4⟩, ?_⟩
        walk_at "vc"
        refine r_new (mk := .tup) (by simp) fun y H5 s5 n5 e5 => ?_
        walk_at "vc"
        refine r_app (s5 _ _ e4) (by rw [nvals_len]; exact small1000 (by omega)) ?_
        have hst : ((y2 - 6) * sc).natAbs ≤ 6 * 2 ^ 41 := by
          rw [Int.natAbs_mul]
          exact Nat.mul_le_mul (by omega) (by omega)
        generalize (y2 - 6) * sc = q at *
        have hm' : (m1 + 1 + y1).natAbs ≤ 2 ^ 41 + i * 2 ^ 15 + 8 := by omega
        have hu' : (up + q).natAbs ≤ i * 2 ^ 60 + 2 ^ 45 := by omega
        have hlt : m < m1 + 1 + y1 := by omega
        generalize hM' : m1 + 1 + y1 = m' at *
        generalize hU' : up + q = u' at *
        refine rest _ _ ⟨m', u', es1 ++ [(y, m', some u')], rfl, same_at (s4.trans s5) nR, by rw [upd_same]; exact congrArg (fun z => some (HO.lst z)) (nvals_snoc es1 (y, m', some u')), (NRow.snoc (x := (y, m', some u')) (hR4.up s5) ⟨e5, z45 hm', fun z hz => by cases hz; exact z100 hu'⟩).app (s5 _ _ e4), ?_⟩
        rcases hg with ⟨hi0, hy0, z, rfl, hz, hz1⟩ | ⟨hng, rfl, rfl⟩
        · have := stage_new (x := (y, m', some u')) (z := z) hSt rfl hm' hu' (.inr ⟨hi0, by rw [hz], by rw [hz]; show m < m + 1; omega, by rw [hz]; show m + 1 < m'; omega, by rw [gd p0]; exact hy0⟩)
          rw [if_neg (by omega)] at this
          exact this
        · by_cases hi0 : i = 0
          · have := stage_new (x := (y, m', some u')) (z := (y, m', some u')) hSt rfl hm' hu' (.inl ⟨hi0, by omega⟩)
            rw [if_pos hi0] at this
            exact this
          · obtain rfl : tied = false := by
              rcases hcase with z | z | z
              · exact absurd ⟨by omega, z⟩ hng
              · exact absurd z hi0
              · exact z
            exact stage_span (x := (y, m', some u')) hSt rfl (by omega) hm' hu' (by omega)
      walk_at "vc"
      refine r_l ew4 (at_ints p0 (by omega)) ?_
      walk_at "vc"
      refine ite2 (fun c1 => ?_) (fun c1 => ?_)
      · refine iteT ?_
        exact go (.inl (of_decide_eq_true c1))
      · have c1' : ¬ y0 = 0 := fun z => c1 (decide_eq_true z)
        walk_at "vc"
        refine ite2 (fun c2 => ?_) (fun c2 => ?_)
        · refine iteT ?_
          exact go (.inr (.inl (by have : (i : Int) = 0 := of_decide_eq_true c2; omega)))
        · have c2' : ¬ (i : Int) = 0 := fun z => c2 (decide_eq_true z)
          walk_at "vc"
          cases tied with
          | false =>
            refine iteT ?_
            exact go (.inr (.inr rfl))
          | true =>
            refine iteF ?_
            walk_at "vc"
            obtain ⟨_, rfl, rfl⟩ : ¬ (0 < i ∧ y0 = 0) ∧ es1 = es ∧ m1 = m := by
              rcases hg with ⟨_, h, _⟩ | h
              · exact absurd h c1'
              · exact h
            exact rest _ _ ⟨m1, up, es1, rfl, s4, e4, hR4, stage_on hSt (by omega) hs0 (by rw [gd p0]; omega)⟩
    obtain ⟨m2, up2, es2, rfl, s5, e5, hR5, hBg⟩ := hP
    clear hg hR4 hR hSt
    obtain ⟨bris, blast, blen, bmb, bub, rs, cur, cs, n, d, so, h0, hcs, hc1', hled, hexs, hsum, hex, hnno, hnmo, hcl, fr, ba, rfl⟩ := hBg
    have ew5 := s5 _ _ ew
    have ebx : H5 ba = some (.tup [.int m2, .int up2]) := (hR5 (ba, m2, some up2) (by simp)).1
    have hst : ((y4 - 6) * sc).natAbs ≤ 6 * 2 ^ 41 := by
      rw [Int.natAbs_mul]
      exact Nat.mul_le_mul (by omega) (by omega)
    walk_at "vc"
    refine r_l e5 (v := .ref ba) (by rw [← nvals_snoc]; exact at_last) ?_
    walk_at "vc"
    refine r_l ew5 (at_ints p4 (by omega)) ?_
    walk_at "vc"
    refine r_I (mulL (by omega) (by omega)) ?_
    walk_at "vc"
    refine r_l ew5 (at_ints p3 (by omega)) ?_
    walk_at "vc"
    refine .inr ⟨_, rfl, ?_⟩
    walk_at "vc"
    obtain ⟨cn, hcn, hcn3, hcnt⟩ : ∃ cn : Nat, y3 + (if tied = true then 1 else 0) = (cn : Int) ∧ cn ≤ 3 - shft tied ∧ (tied = true → 1 ≤ cn) := by
      cases tied with
      | true => exact ⟨(y3 + 1).toNat, by show y3 + 1 = _; omega, by show _ ≤ 3 - 0; omega, fun _ => by omega⟩
      | false => exact ⟨y3.toNat, by show y3 + 0 = _; omega, by show _ ≤ 3 - 1; omega, fun z => absurd z (by decide)⟩
    rw [hcn]
    have hsg : (((xs[6 + 11 * i + 4]?).getD 0 - 6) * sc) = (y4 - 6) * sc := by rw [gd p4]
    rw [hsg] at hex
    generalize (y4 - 6) * sc = st at *
    refine nx_of ?_
    refine r_for (r_rng1 ?_)
    walk_at "vc"
    have hc45 : c.natAbs ≤ 2 ^ 44 := by omega
    have s5r : Same H (rm R H5) := fun b' o e' => by rw [rm_at (ne_of_none e' nR)]; exact s5 _ _ e'
    have ebxr : rm R H5 ba = some (.tup [.int m2, .int up2]) := rm_tup e5 ebx
    refine ⟨_, rfl, by omega, by omega, for_range (fun j σ H6 => ∃ (mm uu vv : Int) (fr3 : List Nn) (a3 : Addr) (cur3 : List Nn) (d3 : Nat) (so3 v12 v13 : Option V) (so' : Option Int), σ = [some (.ref lw), some (.bl tied), some (.int c), some (.int sc), some (.int mm), some (.int uu), some (.ref R), some (.int (i : Int)), some (.int (6 + 11 * (i : Int))), some (.ref ba), some (.int st), some (.int (cn : Int)), v12, v13] ∧ Same (rm R H5) H6 ∧ H6 R = some (.lst (nvals (fr3 ++ [(a3, mm, some vv)]))) ∧ NRow H6 (fr3 ++ [(a3, mm, some vv)]) 45 100 ∧ nrising (fr3 ++ [(a3, mm, some vv)]) ∧ (∀ x ∈ fr3 ++ [(a3, mm, some vv)], x.2.1 ≤ mm) ∧ (fr3 ++ [(a3, mm, some vv)]).length = (fr ++ [(ba, m2, some up2)]).length + j ∧ mm.natAbs ≤ 2 ^ 41 + i * 2 ^ 15 + 8 + j * 3027 ∧ m2 ≤ mm ∧ mm - m2 ≤ j * 3027 ∧ Row0 (fr3 ++ [(a3, mm, some vv)]) rs cur3 ∧ Mid cur3 c st tied (cur.length - 1) n d3 so' (j = cn) ∧ cur3.length = cur.length + j ∧ nno cur3 (cur.length - 1) = up2 ∧ nmo cur3 (cur.length - 1) = m2 ∧ (j = 0 → so' = so ∧ d3 = d) ∧ (0 < j → so' = some st ∧ d3 = d + (if so = some st then 0 else 1)) ∧ (j = cn → vv = uu) ∧ uu = up2 + st * (mm - m2) ∧ nmo cur3 (cur3.length - 1) = mm ∧ nno cur3 (cur3.length - 1) = vv) ?_ ?_ ?_⟩
    · refine ⟨m2, up2, up2, fr, ba, cur, d, none, _, _, so, rfl, rm_same, e5, hR5, bris, blast, by omega, by omega, Int.le_refl _, by omega, h0, ⟨by omega, hled, fun k k1 k2 => ⟨0, by omega, ?_, fun _ => rfl, fun _ _ => rfl⟩, hexs⟩, by omega, hnno, hnmo, fun _ => ⟨rfl, rfl⟩, fun h => absurd h (by omega), fun _ => rfl, by grind, hnmo, hnno⟩
      obtain rfl : k = cur.length - 1 := by omega
      grind
    · rintro j σ H6 hj ⟨mm, uu, vv, fr3, a3, cur3, d3, so3, v12, v13, so', rfl, s6, e6, hR6, hri6, hla6, hlen6, hmb6, hm26, hm27, h06, hMid, hc3, hup3, hmo3, hz0, hzp, hvv, huu, hml, hnl⟩
      refine body_cut fun M2 Bk2 RR2 hM2 _ _ => ?_
      rw [show (0 : Int) + (j : Int) = (j : Int) by omega]
      have hjc : j < cn := by omega
      have hj3 : j < 3 := by omega
      obtain ⟨gu, gv, pu, pu1, pu2, pv, pv1, pv2⟩ := hD.in_ i j hi8 hj3
      have ew6 := (s5r.trans s6) _ _ ew
      have ebx6 := s6 _ _ ebxr
      have hrc : nrising cur3 := by
        have := parts_own (s := nsm) (es := fr3 ++ [(a3, mm, some vv)]) (fr3 ++ [(a3, mm, some vv)]).length cur3 (by rw [h06.parts_]; simp)
        rw [List.take_length] at this
        exact hri6.sublist this.2.2
      walk_at "vc"
      refine r_l ew6 (at_ints pu (by omega)) ?_
      walk_at "vc"
      refine r_new (mk := .lst) (by simp) fun l7 H7 s7 n7 e7 => ?_
      walk_at "vc"
      refine r_l (s7 _ _ ew6) (at_ints g4 rfl) ?_
      obtain ⟨stp, estp, stp1, stp2⟩ := pickP (zs := [1, 1, 1009]) (fun z => 1 ≤ z ∧ z ≤ 1009) (by decide +kernel) a4 b4
      refine r_l e7 estp ?_
      walk_at "vc"
      refine r_I (mulL (by omega) (by omega)) ?_
      have ebx7 := s7 _ _ ebx6
      have hq1 : 1 ≤ (1 + gu) * stp := by have := Int.mul_le_mul (show (1 : Int) ≤ 1 + gu by omega) stp1 (by omega) (by omega); omega
      have hq2 : (1 + gu) * stp ≤ 3027 := by have := Int.mul_le_mul (show 1 + gu ≤ 3 by omega) stp2 (by omega) (by omega); omega
      walk_at "vc"
      generalize (1 + gu) * stp = q at *
      generalize hmm' : mm + q = mm' at *
      refine r_I (mulL (by omega) (by omega)) ?_
      refine r_I0 ?_
      refine nx_of ?_
      refine r_seq ?_
      refine r_set ?_
      refine r_c ?_
      have hum : ∀ {t : Int}, 0 ≤ t → t ≤ 9081 → (st * t).natAbs ≤ 6 * 2 ^ 41 * 9081 := fun h1 h2 => by
        rw [Int.natAbs_mul]
        exact Nat.mul_le_mul (by omega) (by omega)
      have hu9 := hum (t := mm' - m2) (by omega) (by omega)
      generalize hU : up2 + st * (mm' - m2) = uu' at *
      refine nx_of ?_
      refine seq_cut (fun σ' H8 => H8 = H7 ∧ ∃ p : Int, (p.natAbs : Int) ≤ c ∧ (j + 1 = cn → p = 0) ∧ σ' = [some (.ref lw), some (.bl tied), some (.int c), some (.int sc), some (.int mm'), some (.int uu'), some (.ref R), some (.int (i : Int)), some (.int (6 + 11 * (i : Int))), some (.ref ba), some (.int st), some (.int (cn : Int)), some (.int (j : Int)), some (.int p)]) (fun σ' H8 hP => ?_) (fun N rest => ?_)
      rotate_left
      · walk_at "vc"
        refine ite2 (fun c1 => ?_) (fun c1 => ?_)
        · have c1' := of_decide_eq_true c1
          walk_at "vc"
          refine r_l (s7 _ _ ew6) (at_ints pv (by omega)) ?_
          walk_at "vc"
          refine r_I (mulL (by omega) (by omega)) ?_
          walk_at "vc"
          refine r_I ⟨by decide, by decide⟩ ?_
          walk_at "vc"
          refine rest _ _ ⟨rfl, _, ?_, fun z => by omega, rfl⟩
          have b1 : (gv - 3) * c ≤ 3 * c := Int.mul_le_mul_of_nonneg_right (by omega) hc0
          have b2 : -3 * c ≤ (gv - 3) * c := Int.mul_le_mul_of_nonneg_right (by omega) hc0
          rw [Int.fdiv_eq_ediv_of_nonneg _ (by decide)]
          omega
        · have c1' : ¬ (j : Int) < (cn : Int) - 1 := fun z => c1 (decide_eq_true z)
          walk_at "vc"
          exact rest _ _ ⟨rfl, 0, by omega, fun _ => rfl, rfl⟩
      obtain ⟨rfl, p, hp1, hp2, rfl⟩ := hP
      walk_at "vc"
      refine ⟨.inl ⟨rfl, _, SqL.of (s7 _ _ e6)⟩, ?_⟩
      walk_at "vc"
      refine r_new (mk := .tup) (by simp) fun y H9 s9 n9 e9 => ?_
      have s79 := s7.trans s9
      walk_at "vc"
      refine r_app (s79 _ _ e6) (by rw [nvals_len]; exact small1000 (by omega)) ?_
      have hxs : nsm (y, mm', some (uu' + p)) = true := rfl
      have hvs : (uu' + p).natAbs ≤ 9 * 2 ^ 60 := by omega
      have hmz : Sz 45 mm' := by show _ < 2 ^ 45; omega
      have hvz : Sz 100 (uu' + p) := by show _ < 2 ^ 100; omega
      have hnew := hMid.more (w' := (j + 1 = cn)) (x := (y, mm', some (uu' + p))) (p := p) hrc hp1 (by rw [hup3, hmo3]; show uu' + p = _; rw [← hU]) (fun z => hp2 z)
      have hlast3 : (cur3 ++ [(y, mm', some (uu' + p))]).length - 1 = cur3.length := by simp
      have hlt3 : cur.length - 1 < cur3.length := by omega
      refine hM2 _ _ ⟨mm', uu', uu' + p, fr3 ++ [(a3, mm, some vv)], y, cur3 ++ [(y, mm', some (uu' + p))], _, none, _, _, some st, rfl, (fun b' o e' => by rw [upd_ne (fun z => by rw [z] at e'; unfold rm at e'; rw [if_pos rfl] at e'; cases e')]; exact (s6.trans s79) _ _ e'), by rw [upd_same]; exact congrArg (fun z => some (HO.lst z)) (nvals_snoc _ (y, mm', some (uu' + p))), (NRow.snoc (x := (y, mm', some (uu' + p))) (hR6.up s79) ⟨e9, hmz, fun z hz => by cases hz; exact hvz⟩).app (s79 _ _ e6), ?_, ?_, ?_, by omega, by omega, by omega, row_on h06 hxs, hnew, ?_, ?_, ?_, fun z => absurd z (by omega), fun _ => ⟨rfl, ?_⟩, fun z => ?_, hU.symm, ?_, ?_⟩
      · refine List.pairwise_append.mpr ⟨hri6, List.pairwise_singleton .., fun x hx b' hb' => ?_⟩
        obtain rfl : b' = (y, mm', some (uu' + p)) := by simpa using hb'
        have := hla6 x hx
        show x.2.1 < mm'
        omega
      · intro x hx
        rcases List.mem_append.mp hx with z | z
        · have := hla6 x z
          omega
        · obtain rfl : x = (y, mm', some (uu' + p)) := by simpa using z
          exact Int.le_refl _
      · rw [List.length_append, hlen6]
        simp
        omega
      · rw [List.length_append, hc3]
        simp
        omega
      · rw [(nmo_app hlt3).2]; exact hup3
      · rw [(nmo_app hlt3).1]; exact hmo3
      · by_cases hj0 : j = 0
        · obtain ⟨q1, q2⟩ := hz0 hj0
          rw [q1, q2]
          by_cases e : so = some st
          · rw [if_pos e, if_pos e]; rfl
          · rw [if_neg e, if_neg e]
        · obtain ⟨q1, q2⟩ := hzp (by omega)
          rw [q1, if_pos rfl, q2]
      · rw [hp2 z, Int.add_zero]
      · rw [hlast3]; exact (nmo_end (r := cur3) (x := (y, mm', some (uu' + p)))).1
      · rw [hlast3]; exact (nmo_end (r := cur3) (x := (y, mm', some (uu' + p)))).2
    · rintro σ H6 ⟨mm, uu, vv, fr3, a3, cur3, d3, so3, v12, v13, so', rfl, s6, e6, hR6, hri6, hla6, hlen6, hmb6, hm26, hm27, h06, hMid, hc3, hup3, hmo3, hz0, hzp, hvv, huu, hml, hnl⟩
      have ecn : ((cn : Int)).toNat = cn := by omega
      rw [ecn] at hlen6 hmb6 hm27 hMid hc3 hz0 hzp hvv
      obtain rfl := hvv rfl
      have hrc : nrising cur3 := by
        have := parts_own (s := nsm) (es := fr3 ++ [(a3, mm, some vv)]) (fr3 ++ [(a3, mm, some vv)]).length cur3 (by rw [h06.parts_]; simp)
        rw [List.take_length] at this
        exact hri6.sublist this.2.2
      have hsh : shft tied ≤ 1 := by unfold shft; split <;> omega
      have hCur := hMid.done hrc (.inr rfl) (fun t0 => ⟨by have := hcnt t0; omega, (hzp (hcnt t0)).1⟩) (by omega)
      refine hM _ _ ⟨mm, vv, fr3 ++ [(a3, mm, some vv)], _, _, _, _, _, _, _, rfl, s5r.trans s6, e6, hR6, hri6, hla6, by omega, by omega, ?_, .inr ⟨rs, cur3, cs, n + 1, d3, so', h06, hcs, hCur, by omega, fun t0 c0 => ?_, hnl, hml, by omega, fr3, a3, rfl⟩⟩
      · have hb9 : (st * (mm - m2)).natAbs ≤ 6 * 2 ^ 41 * 9081 := by
          rw [Int.natAbs_mul]
          exact Nat.mul_le_mul (by omega) (by omega)
        rw [huu]
        generalize st * (mm - m2) = q at *
        clear hcs hex hexs
        omega
      · obtain ⟨z1, z2⟩ := hzp (hcnt t0)
        have := hex t0 c0
        refine ⟨by rw [z2]; omega, ?_⟩
        rw [z1, Nat.add_sub_cancel, hsg]
  · rintro σ H3 ⟨m, up, es, v7, v8, v9, v10, v11, v12, v13, rfl, s3, e3, hR, hSt⟩
    walk_at "vc"
    have eN : (1 + (K' : Int)).toNat = K' + 1 := by omega
    rw [eN] at hSt
    rcases hSt.st with ⟨z, _⟩ | ⟨rs, cur, cs, n, d, so, h0, hcs, hcur, hn, hex, _⟩
    · omega
    · have hl : (parts nsm es es.length).length = 1 + (es.filter fun x => !nsm x).length := by rw [h0.parts_, h0.gaps, List.length_append]; simp; omega
      refine k R es ((cs.map (·.2)).sum + d) H3 s3 nR e3 hR hSt.ris (by have := hSt.len; omega) ⟨cs ++ [(n, d)], ?_, ?_, ?_⟩ hl fun t0 c0 => (hex t0 c0).1
      · rw [List.take_length, h0.parts_]
        exact curs_snoc hcs hcur
      · simp; exact hn
      · simp
end
noncomputable def spCount : Sp := fun vs H Q _ => ∃ (l pb : Addr) (es : List En) (n nb : Nat) (β : Rat) (tied : Bool), vs = [.ref l, .ref pb, .bl tied] ∧ H l = some (.lst (vals es)) ∧ Row H es n ∧ rising es ∧ es.length ≤ 40 ∧ (parts smp es es.length).length ≤ 33 ∧ (∀ r ∈ parts smp es es.length, r.length ≤ 30) ∧ QtAt H pb β nb ∧ 1 ≤ n ∧ n ≤ 900 ∧ nb ≤ 1000 ∧
  ∀ (q : List (Rat × Rat × Rat × Rat)) (H' : Hp), Same H H' → TiedAt es β tied (parts smp es es.length).length q → Q (.int (q.length : Int)) H'
noncomputable def spExact : Sp := fun vs H Q _ => ∃ (lw : Addr) (xs : List Int) (K : Nat), vs = [.ref lw] ∧ H lw = some (.lst (xs.map V.int)) ∧ Drw xs K ∧ Q (.int (exN xs (K + 1) : Int)) H
noncomputable def spLaw (K : PySem.W.Frag) : Sp := fun vs H Q _ => ∃ (a : Addr) (ns : List Int), vs = [.ref a] ∧ SqL K H a (ns.map V.int) ∧ ns.length ≤ 63 ∧ ∀ H', Q (.bl true) H'
section
variable {P : Program} {w : World} {K : PySem.W.Frag} {mg : Str → Option Value} {base : Heap} {f : Addr} {fd : FuncData}
theorem sc_law_count : FnScope ["_law_row_here", "_law_bound", "_law_tied"] ["_law_row_here", "_law_bound", "_law_tied"] (defScope s_law_count) := ⟨rfl, rfl, rfl, by decide +kernel, rfl, by decide +kernel, by decide +kernel⟩
theorem ok_law_count (F : Fun K "_law_count" "_law_count" s_law_count f fd) (T : Txt mg) (D_chain : Dn P w K mg base 8 "chain" ["row", "bound"] (spTold true)) (D_spans : Dn P w K mg base 8 "spans" ["row", "bound"] (spTold false)) : FnOk P w K mg base CX0 9 f fd ["_law_row_here", "_law_bound", "_law_tied"] spCount := by
  refine F.ok sc_law_count (fun vs H Q E h => ?_) (fun cdv A outer s H vs Q E hr h => ?_)
  · obtain ⟨l, pb, es, n, nb, β, tied, rfl, _⟩ := h
    rfl
  obtain ⟨l, pb, es, n, nb, β, tied, rfl, hl, hR, hri, h40, h33, hrun, hb, hn1, hn, hnb, k⟩ := h
  refine Jd.go ⟨_, (Jd.pss_cons (Jd.ps_if (Jd.pt_val (Jd.pv 2))
      (Jd.pss_one (Jd.ps_ret (Jd.pe_callB (lenC K) rfl T.len_ PySem.boot_len (Jd.pa_cons (Jd.pe_ix (ixT K) (Jd.pe_dn D_chain (hr.mono (by decide)) rfl (Jd.pa_cons (Jd.pv 0) (Jd.pa_cons (Jd.pv 1) Jd.pa_nil st_N) st_N) (he := st_N) (hpl := (anyc st_N any0))) Jd.pe_int (fun _ _ => rfl)) Jd.pa_nil st_S) (he := st_S) (hpl := any0))))
      Jd.pss_nil)
      (Jd.pss_one (Jd.ps_ret (Jd.pe_callB (lenC K) rfl T.len_ PySem.boot_len (Jd.pa_cons (Jd.pe_ix (ixT K) (Jd.pe_dn D_spans (hr.mono (by decide)) rfl (Jd.pa_cons (Jd.pv 0) (Jd.pa_cons (Jd.pv 1) Jd.pa_nil st_N) st_N) (he := st_N) (hpl := (anyc st_N any0))) Jd.pe_int (fun _ _ => rfl)) Jd.pa_nil st_S) (he := st_S) (hpl := any0))))), ?_⟩
  walk_at "vc"
  cases tied with
  | true =>
    refine iteT ?_
    walk_at "vc"
    refine ⟨l, pb, rfl, l, pb, es, n, nb, β, true, rfl, hl, hR, hri, h40, h33, hrun, hb, hn1, hn, hnb, fun y X Z ps H' s' ey nX eX hps hpl ht => ?_⟩
    walk_at "vc"
    refine r_len (.inl (SqL.of eX)) ?_
    have := k _ H' s' ht
    rw [List.length_map] at this
    rw [prefs_len]
    exact this
  | false =>
    refine iteF ?_
    walk_at "vc"
    refine ⟨l, pb, rfl, l, pb, es, n, nb, β, false, rfl, hl, hR, hri, h40, h33, hrun, hb, hn1, hn, hnb, fun y X Z ps H' s' ey nX eX hps hpl ht => ?_⟩
    walk_at "vc"
    refine r_len (.inl (SqL.of eX)) ?_
    have := k _ H' s' ht
    rw [List.length_map] at this
    rw [prefs_len]
    exact this
theorem sc_law_exact : FnScope ["_law_some", "_law_count_here", "_law_k", "_law_at"] ["_law_some"] (defScope s_law_exact) := ⟨rfl, rfl, rfl, by decide +kernel, rfl, by decide +kernel, by decide +kernel⟩
theorem ok_law_exact (F : Fun K "_law_exact" "_law_exact" s_law_exact f fd) (T : Txt mg) : FnOk P w K mg base CX0 1 f fd ["_law_some"] spExact := by
  refine F.ok sc_law_exact (fun vs H Q E h => ?_) (fun cdv A outer s H vs Q E hr h => ?_)
  · obtain ⟨lw, xs, K', rfl, _⟩ := h
    rfl
  obtain ⟨lw, xs, K', rfl, ew, hD, k⟩ := h
  have hK := hD.le
  have gd : ∀ {j : Nat} {v : Int}, xs[j]? = some v → (xs[j]?).getD 0 = v := fun h => by rw [h]; rfl
  refine Jd.go ⟨_, (Jd.pss_cons (Jd.ps_set (i := 1) sc_law_exact.nd rfl (Or.inl rfl) (Jd.pe_op op_add Jd.pe_int (Jd.pe_ix (ixL K) (Jd.pv 0) Jd.pe_int (fun _ _ => rfl))) (hs := sw_B))
      (Jd.pss_cons (Jd.ps_for PassesOwn.never rfl (Jd.pi_range2 rfl T.range (Jd.pa_cons Jd.pe_int (Jd.pa_cons (Jd.pe_op op_add Jd.pe_int (Jd.pe_ix (ixL K) (Jd.pv 0) Jd.pe_int (fun _ _ => rfl))) Jd.pa_nil st_B) st_C)) (Jd.pg_name (i := 2) sc_law_exact.nd rfl (Or.inl rfl))
      (Jd.pss_cons (Jd.ps_set (i := 3) sc_law_exact.nd rfl (Or.inl rfl) (Jd.pe_op op_add Jd.pe_int (Jd.pe_op op_mulB Jd.pe_int (Jd.pv 2))) (hs := sw_B))
      (Jd.pss_one (Jd.ps_if (Jd.PWpt (Jd.pw_and (Jd.pt_cmpR op_gt (Jd.pe_ix (ixL K) (Jd.pv 0) (Jd.pv 3) (fun _ _ => rfl)) Jd.pe_int (nomark _)) (Jd.pw_and1 (Jd.pt_cmpR op_eq (Jd.pe_ix (ixL K) (Jd.pv 0) (Jd.pe_op op_add (Jd.pv 3) Jd.pe_int) (fun _ _ => rfl)) (Jd.pe_ix (ixL K) (Jd.pv 0) (Jd.pe_op op_sub (Jd.pv 3) Jd.pe_int) (fun _ _ => rfl)) (nomark _)))))
      (Jd.pss_one (Jd.ps_set (i := 1) sc_law_exact.nd rfl (Or.inl rfl) (Jd.pe_op op_sub (Jd.pv 1) Jd.pe_int) (hs := sw_B)))
      Jd.pss_nil))))
      (Jd.pss_one (Jd.ps_ret (Jd.pv 1))))), ?_⟩
  walk_at "vc"
  refine r_l ew (at_ints hD.x0 rfl) ?_
  walk_at "vc"
  refine r_for (r_rng2 ?_)
  walk_at "vc"
  refine r_l ew (at_ints hD.x0 rfl) ?_
  walk_at "vc"
  refine ⟨_, _, rfl, ⟨by omega, by omega, by omega, by omega⟩, for_range (fun j σ H3 => H3 = H ∧ ∃ (e : Int) (v2 v3 : Option V), σ = [some (.ref lw), some (.int e), v2, v3] ∧ e = 1 + (K' : Int) - ((1 + j : Nat) : Int) + (exN xs (1 + j) : Int)) ?_ ?_ ?_⟩
  · refine ⟨rfl, _, none, none, rfl, ?_⟩
    have : exN xs (1 + 0) = 1 := by
      show exN xs 0 + (if 0 < 0 ∧ _ then 0 else 1) = 1
      rw [if_neg (by omega)]
      rfl
    rw [this]
    omega
  · rintro j σ H3 hj ⟨rfl, e, v2, v3, rfl, he⟩
    refine body_cut fun M Bk RR hM _ _ => ?_
    rw [show (1 : Int) + (j : Int) = ((1 + j : Nat) : Int) by omega]
    obtain ⟨y0, y1, y2, y3, y4, p0, p0', _, _, _, _, _, _, _, _, _, p4, _⟩ := hD.at_ (1 + j) (by omega)
    obtain ⟨z0, z1, z2, z3, z4, _, _, _, _, _, _, _, _, _, _, _, o4, _⟩ := hD.at_ j (by omega)
    have ex : exN xs (1 + (j + 1)) = exN xs (1 + j) + (if 0 < y0 ∧ y4 = z4 then 0 else 1) := by
      rw [show 1 + (j + 1) = (1 + j) + 1 by omega]
      show exN xs (1 + j) + (if 0 < 1 + j ∧ _ ∧ _ then 0 else 1) = _
      rw [gd p0, gd p4, show 1 + j - 1 = j by omega, gd o4]
      by_cases c1 : 0 < y0 ∧ y4 = z4
      · rw [if_pos ⟨by omega, c1⟩, if_pos c1]
      · rw [if_neg (fun z => c1 z.2), if_neg c1]
    walk_at "vc"
    refine r_l ew (at_ints p0 (by omega)) ?_
    walk_at "vc"
    refine ite2 (fun c1 => ?_) (fun c1 => ?_)
    · have c1' := of_decide_eq_true c1
      walk_at "vc"
      refine r_l ew (at_ints p4 (by omega)) ?_
      walk_at "vc"
      refine r_l ew (at_ints (j := 6 + 11 * j + 4) o4 (by omega)) ?_
      walk_at "vc"
      refine ite2 (fun c2 => ?_) (fun c2 => ?_)
      · have c2' : y4 = z4 := of_decide_eq_true c2
        walk_at "vc"
        refine hM _ _ ⟨rfl, _, _, _, rfl, ?_⟩
        rw [ex, if_pos ⟨c1', c2'⟩, he]
        omega
      · have c2' : ¬ y4 = z4 := fun z => c2 (decide_eq_true z)
        walk_at "vc"
        refine hM _ _ ⟨rfl, _, _, _, rfl, ?_⟩
        rw [ex, if_neg (fun z => c2' z.2), he]
        omega
    · have c1' : ¬ 0 < y0 := fun z => c1 (decide_eq_true z)
      refine iteF ?_
      walk_at "vc"
      refine hM _ _ ⟨rfl, _, _, _, rfl, ?_⟩
      rw [ex, if_neg (fun z => c1' z.1), he]
      omega
  · rintro σ H3 ⟨rfl, e, v2, v3, rfl, he⟩
    walk_at "vc"
    have eN : 1 + (1 + (K' : Int) - 1).toNat = K' + 1 := by omega
    rw [eN] at he
    rw [show e = (exN xs (K' + 1) : Int) by omega]
    exact k
end
theorem each2_len {α β : Type} {R : α → β → Prop} : ∀ {as : List α} {bs : List β}, Each2 R as bs → as.length = bs.length
  | [], [], _ => rfl
  | _ :: _, _ :: _, h => congrArg (· + 1) (each2_len h.2)
  | [], _ :: _, h => h.elim
  | _ :: _, [], h => h.elim
theorem each2_mem {α β : Type} {R : α → β → Prop} : ∀ {as : List α} {bs : List β}, Each2 R as bs → ∀ a ∈ as, ∃ b, b ∈ bs ∧ R a b
  | [], [], _, a, h => absurd h (by simp)
  | x :: _, y :: _, h, a, ha => by
    rcases List.mem_cons.mp ha with rfl | z
    · exact ⟨y, by simp, h.1⟩
    · obtain ⟨b, hb, r⟩ := each2_mem h.2 a z
      exact ⟨b, by simp [hb], r⟩
  | [], _ :: _, h, _, _ => h.elim
  | _ :: _, [], h, _, _ => h.elim
theorem tied_uniq {es : List En} {β : Rat} {tied : Bool} {q q' : List (Rat × Rat × Rat × Rat)} (h : TiedAt es β tied (parts smp es es.length).length q) (h' : TiedAt es β tied (parts smp es es.length).length q') : q = q' := by
  obtain ⟨x, a1, rfl⟩ := h
  obtain ⟨y, a2, rfl⟩ := h'
  rw [List.take_length] at a1 a2
  have a1' := each2_imp (S := fun r l => 1 ≤ r.length ∧ Told r β tied l) (fun r l hr z => ⟨List.length_pos_iff.mpr (parts_own es.length r hr).1, z⟩) a1
  have self : Each2 (fun r r' : List En => r.map (·.2) = r'.map (·.2)) (parts smp es es.length) (parts smp es es.length) := each2_of rfl
  rw [each2_join (R := fun r l => 1 ≤ r.length ∧ Told r β tied l) (S := fun r l => Told r β tied l) (J := fun r r' => r.map (·.2) = r'.map (·.2)) (fun r r' l l' j z z' => told_eq j z.2 z' z.1) self a1' a2]
noncomputable def pz8 : List Int := [8, 4, 4, 7, 3, 12] ++ (List.replicate 8 [5, 3, 13, 3, 13, 3, 7, 3, 7, 3, 7]).flatten
theorem pz8_at : ∀ k, k < 8 → pz8[6 + 11 * k]? = some 5 ∧ pz8[6 + 11 * k + 1]? = some 3 ∧ pz8[6 + 11 * k + 2]? = some 13 ∧ pz8[6 + 11 * k + 3]? = some 3 ∧ pz8[6 + 11 * k + 4]? = some 13 ∧ ∀ j, j < 3 → pz8[6 + 11 * k + 5 + 2 * j]? = some 3 ∧ pz8[6 + 11 * k + 6 + 2 * j]? = some 7 := by decide
theorem drw_of {xs : List Int} (hlen : xs.length = pz8.length) (hxs : ∀ (j : Nat) (x z : Int), xs[j]? = some x → pz8[j]? = some z → 0 ≤ x ∧ x < z) : ∃ K, Drw xs K := by
  obtain ⟨x0, g0, a0, b0⟩ := row_get hlen hxs 0 (z := 8) rfl
  refine ⟨x0.toNat, by rw [show ((x0.toNat : Nat) : Int) = x0 by omega]; exact g0, by omega, row_get hlen hxs 1 (z := 4) rfl, row_get hlen hxs 4 (z := 3) rfl, fun k hk => ?_, fun k j hk hj => ?_⟩
  · obtain ⟨e0, e1, e2, e3, e4, _⟩ := pz8_at k hk
    obtain ⟨y0, p0, q0, r0⟩ := row_get hlen hxs _ e0
    obtain ⟨y1, p1, q1, r1⟩ := row_get hlen hxs _ e1
    obtain ⟨y2, p2, q2, r2⟩ := row_get hlen hxs _ e2
    obtain ⟨y3, p3, q3, r3⟩ := row_get hlen hxs _ e3
    obtain ⟨y4, p4, q4, r4⟩ := row_get hlen hxs _ e4
    exact ⟨y0, y1, y2, y3, y4, p0, q0, p1, q1, r1, p2, q2, r2, p3, q3, r3, p4, q4, r4⟩
  · obtain ⟨_, _, _, _, _, h⟩ := pz8_at k hk
    obtain ⟨h1, h2⟩ := h j hj
    obtain ⟨u, p0, q0, r0⟩ := row_get hlen hxs _ h1
    obtain ⟨v, p1, q1, r1⟩ := row_get hlen hxs _ h2
    exact ⟨u, v, p0, q0, r0, p1, q1, r1⟩
section
variable {P : Program} {w : World} {K : PySem.W.Frag} {mg : Str → Option Value} {base : Heap} {f : Addr} {fd : FuncData}
theorem sc_law : FnScope ["_law_script", "_law_tied", "_law_some", "_law_scale", "_law_bound", "_law_row_here", "_law_handed_here", "_law_within", "_law_count_here"] ["_law_script"] (defScope s_law) := ⟨rfl, rfl, rfl, by decide +kernel, rfl, by decide +kernel, by decide +kernel⟩
theorem ok_law (F : Fun K "law" "law" s_law f fd) (T : Txt mg) (D_law_row : Dn P w K mg base 3 "_law_row" ["_law_script", "_law_place", "_law_sizes"] (spRow K)) (D_law_planted : Dn P w K mg base 1 "_law_planted" ["_law_some", "_law_tied", "_law_bound", "_law_scale"] spLaid) (D_law_handed : Dn P w K mg base 2 "_law_handed" ["_law_row_here", "_law_bottom"] spHanded) (D_law_ratio : Dn P w K mg base 1 "_law_ratio" ["_law_top", "_law_bottom"] spRatio) (D_law_count : Dn P w K mg base 9 "_law_count" ["_law_row_here", "_law_bound", "_law_tied"] spCount) (D_law_exact : Dn P w K mg base 1 "_law_exact" ["_law_some"] spExact) : FnOk P w K mg base CX0 10 f fd ["_law_script"] (spLaw K) := by
  refine F.ok sc_law (fun vs H Q E h => ?_) (fun cdv A outer s H vs Q E hr h => ?_)
  · obtain ⟨a, ns, rfl, _⟩ := h
    rfl
  obtain ⟨a, ns, rfl, hS, hn, k⟩ := h
  have hu64 := hr.units
  refine Jd.go ⟨_, (Jd.pss_cons (Jd.ps_set (i := 1) sc_law.nd rfl (Or.inl rfl) (Jd.pe_cmpR op_eq (Jd.pe_ix (ixL K) (Jd.pe_dn D_law_row (hr.mono (by decide)) rfl (Jd.pa_cons (Jd.pv 0) (Jd.pa_cons Jd.pe_int (Jd.pa_cons (Jd.pe_lst (Jd.pa_cons Jd.pe_int Jd.pa_nil st_C)) Jd.pa_nil st_L) st_C) st_N) (he := st_N) (hpl := (anyc st_C (anyc st_L any0)))) Jd.pe_int (fun _ _ => rfl)) Jd.pe_int (nomark _)) (hs := sw_Q))
      (Jd.pss_cons (Jd.ps_set (i := 2) sc_law.nd rfl (Or.inl rfl) (Jd.pe_dn D_law_row (hr.mono (by decide)) rfl (Jd.pa_cons (Jd.pv 0) (Jd.pa_cons Jd.pe_int (Jd.pa_cons (Jd.pe_op op_cat (Jd.pe_lst (Jd.pa_cons Jd.pe_int (Jd.pa_cons Jd.pe_int (Jd.pa_cons Jd.pe_int (Jd.pa_cons Jd.pe_int (Jd.pa_cons Jd.pe_int (Jd.pa_cons Jd.pe_int Jd.pa_nil st_C) st_C) st_C) st_C) st_C) st_C)) (Jd.pe_op op_rep (Jd.pe_lst (Jd.pa_cons Jd.pe_int (Jd.pa_cons Jd.pe_int (Jd.pa_cons Jd.pe_int (Jd.pa_cons Jd.pe_int (Jd.pa_cons Jd.pe_int (Jd.pa_cons Jd.pe_int (Jd.pa_cons Jd.pe_int (Jd.pa_cons Jd.pe_int (Jd.pa_cons Jd.pe_int (Jd.pa_cons Jd.pe_int (Jd.pa_cons Jd.pe_int Jd.pa_nil st_C) st_C) st_C) st_C) st_C) st_C) st_C) st_C) st_C) st_C) st_C)) Jd.pe_int)) Jd.pa_nil st_B) st_C) st_N) (he := st_N) (hpl := (anyc st_C (anyc st_B any0)))) (hs := sw_K))
      (Jd.pss_cons (Jd.ps_set (i := 3) sc_law.nd rfl (Or.inl rfl) (Jd.pe_ix (ixL K) (Jd.pe_lst (Jd.pa_cons Jd.pe_int (Jd.pa_cons Jd.pe_int (Jd.pa_cons (Jd.pe_op op_pow Jd.pe_int Jd.pe_int) (Jd.pa_cons (Jd.pe_op op_add (Jd.pe_op op_pow Jd.pe_int Jd.pe_int) Jd.pe_int) Jd.pa_nil st_B) st_B) st_C) st_C)) (Jd.pe_ix (ixL K) (Jd.pv 2) Jd.pe_int (fun _ _ => rfl)) (fun _ _ => rfl)) (hs := sw_S))
      (Jd.pss_cons (Jd.ps_set (i := 4) sc_law.nd rfl (Or.inl rfl) (Jd.pe_op op_mulB (Jd.pe_ix (ixL K) (Jd.pv 2) Jd.pe_int (fun _ _ => rfl)) (Jd.pv 3)) (hs := sw_B))
      (Jd.pss_cons (Jd.ps_set (i := 5) sc_law.nd rfl (Or.inl rfl) (Jd.pe_dn D_law_planted (hr.mono (by decide)) rfl (Jd.pa_cons (Jd.pv 2) (Jd.pa_cons (Jd.pv 1) (Jd.pa_cons (Jd.pv 4) (Jd.pa_cons (Jd.pv 3) Jd.pa_nil st_N) st_N) st_N) st_N) (he := st_N) (hpl := (anyc st_N (anyc st_N (anyc st_N any0))))) (hs := sw_K))
      (Jd.pss_cons (Jd.ps_set (i := 6) sc_law.nd rfl (Or.inl rfl) (Jd.pe_dn D_law_handed (hr.mono (by decide)) rfl (Jd.pa_cons (Jd.pv 5) (Jd.pa_cons (Jd.pe_op op_add Jd.pe_int (Jd.pe_ix (ixL K) (Jd.pv 2) Jd.pe_int (fun _ _ => rfl))) Jd.pa_nil st_B) st_N) (he := st_N) (hpl := (anyc st_B any0))) (hs := sw_K))
      (Jd.pss_cons (Jd.ps_set (i := 7) sc_law.nd rfl (Or.inl rfl) (Jd.pe_dn D_law_ratio (hr.mono (by decide)) rfl (Jd.pa_cons (Jd.pv 4) (Jd.pa_cons (Jd.pe_op op_add Jd.pe_int (Jd.pe_ix (ixL K) (Jd.pv 2) Jd.pe_int (fun _ _ => rfl))) Jd.pa_nil st_B) st_N) (he := st_N) (hpl := (anyc st_B any0))) (hs := sw_K))
      (Jd.pss_cons (Jd.ps_set (i := 8) sc_law.nd rfl (Or.inl rfl) (Jd.pe_dn D_law_count (hr.mono (by decide)) rfl (Jd.pa_cons (Jd.pv 6) (Jd.pa_cons (Jd.pv 7) (Jd.pa_cons (Jd.pv 1) Jd.pa_nil st_N) st_N) st_N) (he := st_N) (hpl := (anyc st_N (anyc st_N any0)))) (hs := sw_K))
      (Jd.pss_cons (Jd.ps_if (Jd.PWpt (Jd.pw_or (Jd.pt_cmpR op_gt (Jd.pv 8) (Jd.pe_op op_add Jd.pe_int (Jd.pe_ix (ixL K) (Jd.pv 2) Jd.pe_int (fun _ _ => rfl))) (nomark _)) (Jd.pw_or1 (Jd.pt_cmpR op_lt (Jd.pv 8) (Jd.pe_op op_add Jd.pe_int (Jd.pe_callB (lenC K) rfl T.len_ PySem.boot_len (Jd.pa_cons (Jd.pe_comp (O := ["_law_one"]) (N' := []) (cap := []) rfl (Jd.piL K (Jd.pv 5)) (fun _ _ _ _ _ => (Jd.pg_name (i := 0) (show List.Nodup [("_law_one" : Str)] by decide +kernel) rfl (Or.inl rfl))) (fun _ _ _ _ _ => (Jd.pts_one (Jd.pt_cmpR op_isN (Jd.pe_ix (ixT K) (Jd.pv 0) Jd.pe_int (fun _ _ => rfl)) Jd.pe_non (nomark _)))) (fun _ _ _ _ _ => (Jd.pv 0)) rfl trivial rfl (by decide +kernel) rfl (by decide +kernel)) Jd.pa_nil st_G) (he := st_G) (hpl := any0))) (nomark _)))))
      (Jd.pss_one (Jd.ps_ret Jd.pe_bl))
      Jd.pss_nil)
      (Jd.pss_cons (Jd.ps_if (Jd.PWpt (Jd.pw_and (Jd.pt_val (Jd.pv 1)) (Jd.pw_and (Jd.pt_cmpR op_eq (Jd.pv 4) Jd.pe_int (nomark _)) (Jd.pw_and1 (Jd.pt_cmpR op_ne (Jd.pv 8) (Jd.pe_dn D_law_exact (hr.mono (by decide)) rfl (Jd.pa_cons (Jd.pv 2) Jd.pa_nil st_N) (he := st_N) (hpl := any0)) (nomark _))))))
      (Jd.pss_one (Jd.ps_ret Jd.pe_bl))
      Jd.pss_nil)
      (Jd.pss_cons (Jd.ps_if (Jd.PWpt (Jd.pw_and (Jd.pt_cmpR op_lt (Jd.pe_ix (ixL K) (Jd.pv 2) Jd.pe_int (fun _ _ => rfl)) Jd.pe_int (nomark _)) (Jd.pw_and1 (Jd.pt_cmpR op_ne (Jd.pe_dn D_law_count (hr.mono (by decide)) rfl (Jd.pa_cons (Jd.pv 6) (Jd.pa_cons (Jd.pv 7) (Jd.pa_cons (Jd.pv 1) Jd.pa_nil st_N) st_N) st_N) (he := st_N) (hpl := (anyc st_N (anyc st_N any0)))) (Jd.pv 8) (nomark _)))))
      (Jd.pss_one (Jd.ps_ret Jd.pe_bl))
      Jd.pss_nil)
      (Jd.pss_one (Jd.ps_ret (Jd.pe_cmpR (op_eqD hu64) (Jd.pv 6) (Jd.pe_dn D_law_handed (hr.mono (by decide)) rfl (Jd.pa_cons (Jd.pv 5) (Jd.pa_cons (Jd.pe_op op_add Jd.pe_int (Jd.pe_ix (ixL K) (Jd.pv 2) Jd.pe_int (fun _ _ => rfl))) Jd.pa_nil st_B) st_N) (he := st_N) (hpl := (anyc st_B any0))) (nomark _))))))))))))))), ?_⟩
  walk_at "vc"
  refine r_new (mk := .lst) (by simp) fun l1 H1 s1 n1 e1 => ?_
  walk_at "vc"
  refine ⟨a, ns, 1, l1, [2], rfl, s1.seq hS, by decide, by decide, e1, by decide, by decide, fun lt ts H2 s2 n2 e2 hlt hts => ?_⟩
  obtain ⟨x, gx, ax, bx⟩ := row_get hlt hts 0 (z := 2) rfl
  walk_at "vc"
  refine r_l e2 (at_ints gx rfl) ?_
  walk_at "vc"
  generalize decide (x = 0) = tied
  refine r_new (mk := .lst) (by simp) fun l3 H3 s3 n3 e3 => ?_
  walk_at "vc"
  refine r_new (mk := .lst) (by simp) fun l4 H4 s4 n4 e4 => ?_
  walk_at "vc"
  refine r_rep e4 (by decide) (by decide) ?_
  refine r_new (mk := .lst) (by rw [len_rep]; decide) fun l5 H5 s5 n5 e5 => ?_
  walk_at "vc"
  refine r_cat (s5 _ _ (s4 _ _ e3)) e5 ?_
  refine r_new (mk := .lst) (by rw [List.length_append, len_rep]; decide) fun l6 H6 s6 n6 e6 => ?_
  have s06 := s1.trans (s2.trans (s3.trans (s4.trans (s5.trans s6))))
  walk_at "vc"
  refine ⟨a, ns, 0, l6, pz8, rfl, s06.seq hS, by decide, by decide, e6, by decide, by decide, fun lw xs H7 s7 n7 e7 hlen hxs => ?_⟩
  obtain ⟨K', hD⟩ := drw_of hlen hxs
  obtain ⟨x2, g2, a2, b2⟩ := row_get hlen hxs 2 (z := 4) rfl
  obtain ⟨x3, g3, a3, b3⟩ := row_get hlen hxs 3 (z := 7) rfl
  obtain ⟨x5, g5, a5, b5⟩ := row_get hlen hxs 5 (z := 12) rfl
  walk_at "vc"
  refine r_new (mk := .lst) (by simp) fun l8 H8 s8 n8 e8 => ?_
  walk_at "vc"
  refine r_l (s8 _ _ e7) (at_ints g2 rfl) ?_
  obtain ⟨sc, esc, sc1, sc2⟩ := pickP (zs := [1, 7, 10 ^ (6 : Int).toNat, 10 ^ (12 : Int).toNat + 39]) (fun z => 1 ≤ z ∧ z < 2 ^ 41) (by decide +kernel) a2 b2
  refine r_l e8 esc ?_
  walk_at "vc"
  refine r_l (s8 _ _ e7) (at_ints g3 rfl) ?_
  walk_at "vc"
  refine r_I (mulL (by omega) (by omega)) ?_
  have hc0 : 0 ≤ x3 * sc := Int.mul_nonneg a3 (by omega)
  have hc1 : x3 * sc ≤ 6 * 2 ^ 41 := Int.mul_le_mul (by omega) (by omega) (by omega) (by omega)
  walk_at "vc"
  generalize x3 * sc = c at *
  refine ⟨lw, xs, K', tied, c, sc, rfl, s8 _ _ e7, hD, hc0, by omega, sc1, sc2, fun R es d H9 s9 nR eR hR hri h40 hLaid hgaps hexact => ?_⟩
  have e79 := (s8.trans s9) _ _ e7
  walk_at "vc"
  refine r_l e79 (at_ints g5 rfl) ?_
  walk_at "vc"
  refine ⟨R, es, 1 + x5, 45, 100, 10, 100, rfl, eR, hR, by omega, by omega, by show _ < 2 ^ 10; omega, by decide, by decide, by decide, by decide, fun Rh eh H10 s10 nRh eRh heh hmap => ?_⟩
  have e710 := s10 _ _ e79
  walk_at "vc"
  refine r_l e710 (at_ints g5 rfl) ?_
  walk_at "vc"
  refine frac_gen (n := 100) (by omega) (by show _ < 2 ^ 100; omega) (by show _ < 2 ^ 100; omega) (by decide) fun pw H11 s11 fw => ?_
  have hris := link_rising hmap hri
  have hll := link_len hmap
  have hrs := runs_same hmap
  have hpl : (parts smp eh eh.length).length = (parts nsm es es.length).length := each2_len hrs
  obtain ⟨cs, hcs, hcs1, hcs2⟩ := hLaid
  rw [List.take_length] at hcs
  have hrn : ∀ r ∈ parts nsm es es.length, nrising r ∧ 1 ≤ r.length := fun r hr => by
    obtain ⟨o1, _, o3⟩ := parts_own es.length r hr
    rw [List.take_length] at o3
    exact ⟨hri.sublist o3, List.length_pos_iff.mpr o1⟩
  have hrun : ∀ r ∈ parts smp eh eh.length, r.length ≤ 30 := fun r hr => by
    obtain ⟨r', hr', e⟩ := each2_mem hrs r hr
    obtain ⟨x, _, so, hC⟩ := each2_mem hcs r' hr'
    have := congrArg List.length e
    rw [List.length_map, List.length_map, gh_len] at this
    have := hC.few
    omega
  have hK := hD.le
  have hcl : (parts nsm es es.length).length ≤ 8 := by
    have e1 := each2_len hcs
    have : ∀ {rn : List (List Nn)} {cs : List (Nat × Nat)}, Each2 (fun r x => ∃ so, Cur r c tied x.1 x.2 so) rn cs → cs.length ≤ (cs.map (·.1)).sum := by
      intro rn cs
      induction cs generalizing rn with
      | nil => intro _; exact Nat.le_refl _
      | cons x cs ih =>
        intro h
        cases rn with
        | nil => exact h.elim
        | cons r rn =>
          obtain ⟨so, hC⟩ := h.1
          have h1 := hC.pos
          have h2 := ih h.2
          simp only [List.length_cons, List.map_cons, List.sum_cons]
          omega
    have := this hcs
    omega
  have cnt : ∀ {G : Hp} {Q : VK}, Same H11 G → (∀ (q : List (Rat × Rat × Rat × Rat)) (H' : Hp), Same G H' → TiedAt eh ((c : Rat) / ((1 + x5 : Int) : Rat)) tied (parts smp eh eh.length).length q → Q (.int (q.length : Int)) H') → spCount ([.ref Rh, .ref pw, .bl tied] ++ []) G Q E0 := fun {G Q} sG kk =>
    ⟨Rh, pw, eh, 100, 100, _, tied, rfl, sG _ _ (s11 _ _ eRh), heh.up (s11.trans sG), hris, by omega, by omega, hrun, (fw.up sG).qt, by decide, by decide, by decide, kk⟩
  walk_at "vc"
  refine cnt (Same.refl _) fun q H12 s12 hT => ?_
  obtain ⟨u1, u2, u3⟩ : q.length ≤ K' + 1 ∧ (parts nsm es es.length).length ≤ q.length ∧ (tied = true → c = 0 → q.length = exN xs (K' + 1)) := by
    obtain ⟨qss, hq, rfl⟩ := id hT
    rw [List.take_length] at hq
    obtain ⟨z1, z2, z3⟩ := laid_told (by omega) hrn hrs hcs hq
    exact ⟨by omega, z2, fun t0 c0 => by rw [z3 t0 c0, hcs2, hexact t0 c0]⟩
  have s912 := s10.trans (s11.trans s12)
  have e712 := s912 _ _ e79
  have eR12 := s912 _ _ eR
  walk_at "vc"
  refine r_l e712 (at_ints hD.x0 rfl) ?_
  walk_at "vc"
  rw [decide_eq_false (show ¬ (1 + (K' : Int)) < (q.length : Int) by omega)]
  refine iteF ?_
  walk_at "vc"
  refine r_iL ?_
  walk_at "vc"
  refine ⟨R, rfl, ⟨_, SqL.of eR12⟩, ?_⟩
  refine compB_of (xs := nvals es) tells_list (fun H13 s13 => SqL.of (s13 _ _ eR12)) (by rw [nvals_len]; omega) (fun i ys G => ys = nvals ((es.take i).filter fun x => !nsm x)) rfl ?_ ?_
  · rintro D i x ys H13 σ0 N N0 h0 hD' eD s13 hx hy rfl kY kN
    obtain ⟨e, he, rfl⟩ := nvals_at hx
    obtain ⟨ee, _⟩ := (hR e (List.mem_of_getElem? he)).up (s912.trans s13)
    have tsf := PySem.take_succ_filter (fun x => !nsm x) es i e he
    obtain ⟨ae, me, ve⟩ := e
    refine r_own1 h0 ?_
    cases ve with
    | none =>
      walk_at "vc"
      refine ⟨rfl, ?_⟩
      walk_at "vc"
      refine iteT ?_
      walk_at "vc"
      rw [show (!nsm (ae, me, none)) = true from rfl, if_pos rfl] at tsf
      exact kY _ H13 (Same.refl _) (by rw [tsf, ← nvals_snoc])
    | some z =>
      walk_at "vc"
      refine ⟨rfl, ?_⟩
      walk_at "vc"
      refine iteF ?_
      rw [show (!nsm (ae, me, some z)) = false from rfl, if_neg Bool.false_ne_true, List.append_nil] at tsf
      exact kN H13 (Same.refl _) (by rw [tsf])
  · rintro D ys H13 hD' eD s13 hy rfl
    rw [nvals_len, List.take_length] at eD
    have s913 := s912.trans s13
    have e713 := s913 _ _ e79
    walk_at "vc"
    refine r_len (.inl (SqL.of eD)) ?_
    rw [nvals_len]
    walk_at "vc"
    rw [decide_eq_false (show ¬ (q.length : Int) < 1 + ((es.filter fun x => !nsm x).length : Int) by omega)]
    refine iteF ?_
    refine nx_of ?_
    refine seq_cut (fun σ' H' => H' = H13 ∧ σ' = [some (.ref a), some (.bl tied), some (.ref lw), some (.int sc), some (.int c), some (.ref R), some (.ref Rh), some (.ref pw), some (.int (q.length : Int))]) (fun σ' H' hP => ?_) (fun N rest => ?_)
    rotate_left
    · walk_at "vc"
      cases tied with
      | true =>
        refine iteT ?_
        walk_at "vc"
        refine ite2 (fun c1 => ?_) (fun c1 => ?_)
        · have c1' : c = 0 := of_decide_eq_true c1
          walk_at "vc"
          refine ⟨lw, xs, K', rfl, e713, hD, ?_⟩
          walk_at "vc"
          rw [u3 rfl c1', decide_eq_true rfl]
          refine iteF ?_
          walk_at "vc"
          exact rest _ _ ⟨rfl, by rw [u3 rfl c1']; rfl⟩
        · refine iteF ?_
          walk_at "vc"
          exact rest _ _ ⟨rfl, rfl⟩
      | false =>
        refine iteF ?_
        refine iteF ?_
        walk_at "vc"
        exact rest _ _ ⟨rfl, rfl⟩
    obtain ⟨rfl, rfl⟩ := hP
    refine seq_cut (fun σ' H'' => Same H' H'' ∧ σ' = [some (.ref a), some (.bl tied), some (.ref lw), some (.int sc), some (.int c), some (.ref R), some (.ref Rh), some (.ref pw), some (.int (q.length : Int))]) (fun σ' H'' hP => ?_) (fun N rest => ?_)
    rotate_left
    · walk_at "vc"
      refine r_l e713 (at_ints hD.x0 rfl) ?_
      walk_at "vc"
      refine ite2 (fun c1 => ?_) (fun c1 => ?_)
      · walk_at "vc"
        refine cnt (s12.trans s13) fun q2 H14 s14 hT2 => ?_
        obtain rfl := tied_uniq hT hT2
        walk_at "vc"
        rw [decide_eq_true rfl]
        refine iteF ?_
        walk_at "vc"
        exact rest _ _ ⟨s14, rfl⟩
      · refine iteF ?_
        walk_at "vc"
        exact rest _ _ ⟨Same.refl _, rfl⟩
    obtain ⟨s14, rfl⟩ := hP
    have s914 := s913.trans s14
    walk_at "vc"
    refine r_l (s914 _ _ e79) (at_ints g5 rfl) ?_
    walk_at "vc"
    refine ⟨R, es, 1 + x5, 45, 100, 10, 100, rfl, s914 _ _ eR, hR.up s914, by omega, by omega, by show _ < 2 ^ 10; omega, by decide, by decide, by decide, by decide, fun R5 e5h H15 s15 nR5 eR5 he5 hmap2 => ?_⟩
    have s1015 := s11.trans (s12.trans (s13.trans (s14.trans s15)))
    refine rows_eq (heh.up s1015) he5 (s1015 _ _ eRh) eR5 (hmap.trans hmap2.symm) ?_
    exact k H15
end

theorem all_mk {l : PySem.W.OpenLaw} {w : World} {K : PySem.W.Frag} {h : Heap} {mg : Str → Option Value} {fa : Addr} (X : K.In h) (G : h.Ns mainGlobals mg) (hfa : mg "law" = some (.ref fa))
    {f_law_cell : Addr} {od_law_cell an_law_cell : Option Addr} {sl_law_cell : Array (Option Value)} {oc_law_cell kV_law_cell dc_law_cell pm_law_cell cd_law_cell ct_law_cell : Value}
    {f_law_mix : Addr} {od_law_mix an_law_mix : Option Addr} {sl_law_mix : Array (Option Value)} {oc_law_mix kV_law_mix dc_law_mix pm_law_mix cd_law_mix ct_law_mix : Value}
    {f_law_row : Addr} {od_law_row an_law_row : Option Addr} {sl_law_row : Array (Option Value)} {oc_law_row kV_law_row dc_law_row pm_law_row cd_law_row ct_law_row : Value}
    {f_law_ratio : Addr} {od_law_ratio an_law_ratio : Option Addr} {sl_law_ratio : Array (Option Value)} {oc_law_ratio kV_law_ratio dc_law_ratio pm_law_ratio cd_law_ratio ct_law_ratio : Value}
    {f_loose_plus : Addr} {od_loose_plus an_loose_plus : Option Addr} {sl_loose_plus : Array (Option Value)} {oc_loose_plus kV_loose_plus dc_loose_plus pm_loose_plus cd_loose_plus ct_loose_plus : Value}
    {f_loose_minus : Addr} {od_loose_minus an_loose_minus : Option Addr} {sl_loose_minus : Array (Option Value)} {oc_loose_minus kV_loose_minus dc_loose_minus pm_loose_minus cd_loose_minus ct_loose_minus : Value}
    {f_loose_slope : Addr} {od_loose_slope an_loose_slope : Option Addr} {sl_loose_slope : Array (Option Value)} {oc_loose_slope kV_loose_slope dc_loose_slope pm_loose_slope cd_loose_slope ct_loose_slope : Value}
    {f_order : Addr} {od_order an_order : Option Addr} {sl_order : Array (Option Value)} {oc_order kV_order dc_order pm_order cd_order ct_order : Value}
    {f_runs : Addr} {od_runs an_runs : Option Addr} {sl_runs : Array (Option Value)} {oc_runs kV_runs dc_runs pm_runs cd_runs ct_runs : Value}
    {f_loose_farthest : Addr} {od_loose_farthest an_loose_farthest : Option Addr} {sl_loose_farthest : Array (Option Value)} {oc_loose_farthest kV_loose_farthest dc_loose_farthest pm_loose_farthest cd_loose_farthest ct_loose_farthest : Value}
    {f_law_handed : Addr} {od_law_handed an_law_handed : Option Addr} {sl_law_handed : Array (Option Value)} {oc_law_handed kV_law_handed dc_law_handed pm_law_handed cd_law_handed ct_law_handed : Value}
    {f_greatest : Addr} {od_greatest an_greatest : Option Addr} {sl_greatest : Array (Option Value)} {oc_greatest kV_greatest dc_greatest pm_greatest cd_greatest ct_greatest : Value}
    {f_smallest : Addr} {od_smallest an_smallest : Option Addr} {sl_smallest : Array (Option Value)} {oc_smallest kV_smallest dc_smallest pm_smallest cd_smallest ct_smallest : Value}
    {f_good_behind : Addr} {od_good_behind an_good_behind : Option Addr} {sl_good_behind : Array (Option Value)} {oc_good_behind kV_good_behind dc_good_behind pm_good_behind cd_good_behind ct_good_behind : Value}
    {f_leaps : Addr} {od_leaps an_leaps : Option Addr} {sl_leaps : Array (Option Value)} {oc_leaps kV_leaps dc_leaps pm_leaps cd_leaps ct_leaps : Value}
    {f_labels_by : Addr} {od_labels_by an_labels_by : Option Addr} {sl_labels_by : Array (Option Value)} {oc_labels_by kV_labels_by dc_labels_by pm_labels_by cd_labels_by ct_labels_by : Value}
    {f_bars_by : Addr} {od_bars_by an_bars_by : Option Addr} {sl_bars_by : Array (Option Value)} {oc_bars_by kV_bars_by dc_bars_by pm_bars_by cd_bars_by ct_bars_by : Value}
    {f_places_of_pieces : Addr} {od_places_of_pieces an_places_of_pieces : Option Addr} {sl_places_of_pieces : Array (Option Value)} {oc_places_of_pieces kV_places_of_pieces dc_places_of_pieces pm_places_of_pieces cd_places_of_pieces ct_places_of_pieces : Value}
    {f_piece_between : Addr} {od_piece_between an_piece_between : Option Addr} {sl_piece_between : Array (Option Value)} {oc_piece_between kV_piece_between dc_piece_between pm_piece_between cd_piece_between ct_piece_between : Value}
    {f_tied_run : Addr} {od_tied_run an_tied_run : Option Addr} {sl_tied_run : Array (Option Value)} {oc_tied_run kV_tied_run dc_tied_run pm_tied_run cd_tied_run ct_tied_run : Value}
    {f_tied_row : Addr} {od_tied_row an_tied_row : Option Addr} {sl_tied_row : Array (Option Value)} {oc_tied_row kV_tied_row dc_tied_row pm_tied_row cd_tied_row ct_tied_row : Value}
    {f_spans : Addr} {od_spans an_spans : Option Addr} {sl_spans : Array (Option Value)} {oc_spans kV_spans dc_spans pm_spans cd_spans ct_spans : Value}
    {f_chain : Addr} {od_chain an_chain : Option Addr} {sl_chain : Array (Option Value)} {oc_chain kV_chain dc_chain pm_chain cd_chain ct_chain : Value}
    {f_law_planted : Addr} {od_law_planted an_law_planted : Option Addr} {sl_law_planted : Array (Option Value)} {oc_law_planted kV_law_planted dc_law_planted pm_law_planted cd_law_planted ct_law_planted : Value}
    {f_law_count : Addr} {od_law_count an_law_count : Option Addr} {sl_law_count : Array (Option Value)} {oc_law_count kV_law_count dc_law_count pm_law_count cd_law_count ct_law_count : Value}
    {f_law_exact : Addr} {od_law_exact an_law_exact : Option Addr} {sl_law_exact : Array (Option Value)} {oc_law_exact kV_law_exact dc_law_exact pm_law_exact cd_law_exact ct_law_exact : Value}
    {f_law : Addr} {od_law an_law : Option Addr} {sl_law : Array (Option Value)} {oc_law kV_law dc_law pm_law cd_law ct_law : Value}
    (a_law_cell : PySem.W.nsIn K mainGlobals "_law_cell" = some (some (.ref f_law_cell))) (l_law_cell : K.lookup f_law_cell = some ⟨oc_law_cell, od_law_cell, .func (PySem.W.fnOf "_law_cell" "_law_cell" (defArgs s_law_cell) (defBody s_law_cell) (defScope s_law_cell) .none kV_law_cell dc_law_cell pm_law_cell an_law_cell cd_law_cell ct_law_cell), sl_law_cell⟩) (c_law_cell : PySem.W.codeIn K cd_law_cell "_law_cell" = true) (k_law_cell : PySem.W.keepIn K (.ref f_law_cell) = true)
    (a_law_mix : PySem.W.nsIn K mainGlobals "_law_mix" = some (some (.ref f_law_mix))) (l_law_mix : K.lookup f_law_mix = some ⟨oc_law_mix, od_law_mix, .func (PySem.W.fnOf "_law_mix" "_law_mix" (defArgs s_law_mix) (defBody s_law_mix) (defScope s_law_mix) .none kV_law_mix dc_law_mix pm_law_mix an_law_mix cd_law_mix ct_law_mix), sl_law_mix⟩) (c_law_mix : PySem.W.codeIn K cd_law_mix "_law_mix" = true) (k_law_mix : PySem.W.keepIn K (.ref f_law_mix) = true)
    (a_law_row : PySem.W.nsIn K mainGlobals "_law_row" = some (some (.ref f_law_row))) (l_law_row : K.lookup f_law_row = some ⟨oc_law_row, od_law_row, .func (PySem.W.fnOf "_law_row" "_law_row" (defArgs s_law_row) (defBody s_law_row) (defScope s_law_row) .none kV_law_row dc_law_row pm_law_row an_law_row cd_law_row ct_law_row), sl_law_row⟩) (c_law_row : PySem.W.codeIn K cd_law_row "_law_row" = true) (k_law_row : PySem.W.keepIn K (.ref f_law_row) = true)
    (a_law_ratio : PySem.W.nsIn K mainGlobals "_law_ratio" = some (some (.ref f_law_ratio))) (l_law_ratio : K.lookup f_law_ratio = some ⟨oc_law_ratio, od_law_ratio, .func (PySem.W.fnOf "_law_ratio" "_law_ratio" (defArgs s_law_ratio) (defBody s_law_ratio) (defScope s_law_ratio) .none kV_law_ratio dc_law_ratio pm_law_ratio an_law_ratio cd_law_ratio ct_law_ratio), sl_law_ratio⟩) (c_law_ratio : PySem.W.codeIn K cd_law_ratio "_law_ratio" = true) (k_law_ratio : PySem.W.keepIn K (.ref f_law_ratio) = true)
    (a_loose_plus : PySem.W.nsIn K mainGlobals "loose_plus" = some (some (.ref f_loose_plus))) (l_loose_plus : K.lookup f_loose_plus = some ⟨oc_loose_plus, od_loose_plus, .func (PySem.W.fnOf "loose_plus" "loose_plus" (defArgs s_loose_plus) (defBody s_loose_plus) (defScope s_loose_plus) .none kV_loose_plus dc_loose_plus pm_loose_plus an_loose_plus cd_loose_plus ct_loose_plus), sl_loose_plus⟩) (c_loose_plus : PySem.W.codeIn K cd_loose_plus "loose_plus" = true) (k_loose_plus : PySem.W.keepIn K (.ref f_loose_plus) = true)
    (a_loose_minus : PySem.W.nsIn K mainGlobals "loose_minus" = some (some (.ref f_loose_minus))) (l_loose_minus : K.lookup f_loose_minus = some ⟨oc_loose_minus, od_loose_minus, .func (PySem.W.fnOf "loose_minus" "loose_minus" (defArgs s_loose_minus) (defBody s_loose_minus) (defScope s_loose_minus) .none kV_loose_minus dc_loose_minus pm_loose_minus an_loose_minus cd_loose_minus ct_loose_minus), sl_loose_minus⟩) (c_loose_minus : PySem.W.codeIn K cd_loose_minus "loose_minus" = true) (k_loose_minus : PySem.W.keepIn K (.ref f_loose_minus) = true)
    (a_loose_slope : PySem.W.nsIn K mainGlobals "loose_slope" = some (some (.ref f_loose_slope))) (l_loose_slope : K.lookup f_loose_slope = some ⟨oc_loose_slope, od_loose_slope, .func (PySem.W.fnOf "loose_slope" "loose_slope" (defArgs s_loose_slope) (defBody s_loose_slope) (defScope s_loose_slope) .none kV_loose_slope dc_loose_slope pm_loose_slope an_loose_slope cd_loose_slope ct_loose_slope), sl_loose_slope⟩) (c_loose_slope : PySem.W.codeIn K cd_loose_slope "loose_slope" = true) (k_loose_slope : PySem.W.keepIn K (.ref f_loose_slope) = true)
    (a_order : PySem.W.nsIn K mainGlobals "order" = some (some (.ref f_order))) (l_order : K.lookup f_order = some ⟨oc_order, od_order, .func (PySem.W.fnOf "order" "order" (defArgs s_order) (defBody s_order) (defScope s_order) .none kV_order dc_order pm_order an_order cd_order ct_order), sl_order⟩) (c_order : PySem.W.codeIn K cd_order "order" = true) (k_order : PySem.W.keepIn K (.ref f_order) = true)
    (a_runs : PySem.W.nsIn K mainGlobals "runs" = some (some (.ref f_runs))) (l_runs : K.lookup f_runs = some ⟨oc_runs, od_runs, .func (PySem.W.fnOf "runs" "runs" (defArgs s_runs) (defBody s_runs) (defScope s_runs) .none kV_runs dc_runs pm_runs an_runs cd_runs ct_runs), sl_runs⟩) (c_runs : PySem.W.codeIn K cd_runs "runs" = true) (k_runs : PySem.W.keepIn K (.ref f_runs) = true)
    (a_loose_farthest : PySem.W.nsIn K mainGlobals "loose_farthest" = some (some (.ref f_loose_farthest))) (l_loose_farthest : K.lookup f_loose_farthest = some ⟨oc_loose_farthest, od_loose_farthest, .func (PySem.W.fnOf "loose_farthest" "loose_farthest" (defArgs s_loose_farthest) (defBody s_loose_farthest) (defScope s_loose_farthest) .none kV_loose_farthest dc_loose_farthest pm_loose_farthest an_loose_farthest cd_loose_farthest ct_loose_farthest), sl_loose_farthest⟩) (c_loose_farthest : PySem.W.codeIn K cd_loose_farthest "loose_farthest" = true) (k_loose_farthest : PySem.W.keepIn K (.ref f_loose_farthest) = true)
    (a_law_handed : PySem.W.nsIn K mainGlobals "_law_handed" = some (some (.ref f_law_handed))) (l_law_handed : K.lookup f_law_handed = some ⟨oc_law_handed, od_law_handed, .func (PySem.W.fnOf "_law_handed" "_law_handed" (defArgs s_law_handed) (defBody s_law_handed) (defScope s_law_handed) .none kV_law_handed dc_law_handed pm_law_handed an_law_handed cd_law_handed ct_law_handed), sl_law_handed⟩) (c_law_handed : PySem.W.codeIn K cd_law_handed "_law_handed" = true) (k_law_handed : PySem.W.keepIn K (.ref f_law_handed) = true)
    (a_greatest : PySem.W.nsIn K mainGlobals "greatest" = some (some (.ref f_greatest))) (l_greatest : K.lookup f_greatest = some ⟨oc_greatest, od_greatest, .func (PySem.W.fnOf "greatest" "greatest" (defArgs s_greatest) (defBody s_greatest) (defScope s_greatest) .none kV_greatest dc_greatest pm_greatest an_greatest cd_greatest ct_greatest), sl_greatest⟩) (c_greatest : PySem.W.codeIn K cd_greatest "greatest" = true) (k_greatest : PySem.W.keepIn K (.ref f_greatest) = true)
    (a_smallest : PySem.W.nsIn K mainGlobals "smallest" = some (some (.ref f_smallest))) (l_smallest : K.lookup f_smallest = some ⟨oc_smallest, od_smallest, .func (PySem.W.fnOf "smallest" "smallest" (defArgs s_smallest) (defBody s_smallest) (defScope s_smallest) .none kV_smallest dc_smallest pm_smallest an_smallest cd_smallest ct_smallest), sl_smallest⟩) (c_smallest : PySem.W.codeIn K cd_smallest "smallest" = true) (k_smallest : PySem.W.keepIn K (.ref f_smallest) = true)
    (a_good_behind : PySem.W.nsIn K mainGlobals "good_behind" = some (some (.ref f_good_behind))) (l_good_behind : K.lookup f_good_behind = some ⟨oc_good_behind, od_good_behind, .func (PySem.W.fnOf "good_behind" "good_behind" (defArgs s_good_behind) (defBody s_good_behind) (defScope s_good_behind) .none kV_good_behind dc_good_behind pm_good_behind an_good_behind cd_good_behind ct_good_behind), sl_good_behind⟩) (c_good_behind : PySem.W.codeIn K cd_good_behind "good_behind" = true) (k_good_behind : PySem.W.keepIn K (.ref f_good_behind) = true)
    (a_leaps : PySem.W.nsIn K mainGlobals "leaps" = some (some (.ref f_leaps))) (l_leaps : K.lookup f_leaps = some ⟨oc_leaps, od_leaps, .func (PySem.W.fnOf "leaps" "leaps" (defArgs s_leaps) (defBody s_leaps) (defScope s_leaps) .none kV_leaps dc_leaps pm_leaps an_leaps cd_leaps ct_leaps), sl_leaps⟩) (c_leaps : PySem.W.codeIn K cd_leaps "leaps" = true) (k_leaps : PySem.W.keepIn K (.ref f_leaps) = true)
    (a_labels_by : PySem.W.nsIn K mainGlobals "labels_by" = some (some (.ref f_labels_by))) (l_labels_by : K.lookup f_labels_by = some ⟨oc_labels_by, od_labels_by, .func (PySem.W.fnOf "labels_by" "labels_by" (defArgs s_labels_by) (defBody s_labels_by) (defScope s_labels_by) .none kV_labels_by dc_labels_by pm_labels_by an_labels_by cd_labels_by ct_labels_by), sl_labels_by⟩) (c_labels_by : PySem.W.codeIn K cd_labels_by "labels_by" = true) (k_labels_by : PySem.W.keepIn K (.ref f_labels_by) = true)
    (a_bars_by : PySem.W.nsIn K mainGlobals "bars_by" = some (some (.ref f_bars_by))) (l_bars_by : K.lookup f_bars_by = some ⟨oc_bars_by, od_bars_by, .func (PySem.W.fnOf "bars_by" "bars_by" (defArgs s_bars_by) (defBody s_bars_by) (defScope s_bars_by) .none kV_bars_by dc_bars_by pm_bars_by an_bars_by cd_bars_by ct_bars_by), sl_bars_by⟩) (c_bars_by : PySem.W.codeIn K cd_bars_by "bars_by" = true) (k_bars_by : PySem.W.keepIn K (.ref f_bars_by) = true)
    (a_places_of_pieces : PySem.W.nsIn K mainGlobals "places_of_pieces" = some (some (.ref f_places_of_pieces))) (l_places_of_pieces : K.lookup f_places_of_pieces = some ⟨oc_places_of_pieces, od_places_of_pieces, .func (PySem.W.fnOf "places_of_pieces" "places_of_pieces" (defArgs s_places_of_pieces) (defBody s_places_of_pieces) (defScope s_places_of_pieces) .none kV_places_of_pieces dc_places_of_pieces pm_places_of_pieces an_places_of_pieces cd_places_of_pieces ct_places_of_pieces), sl_places_of_pieces⟩) (c_places_of_pieces : PySem.W.codeIn K cd_places_of_pieces "places_of_pieces" = true) (k_places_of_pieces : PySem.W.keepIn K (.ref f_places_of_pieces) = true)
    (a_piece_between : PySem.W.nsIn K mainGlobals "piece_between" = some (some (.ref f_piece_between))) (l_piece_between : K.lookup f_piece_between = some ⟨oc_piece_between, od_piece_between, .func (PySem.W.fnOf "piece_between" "piece_between" (defArgs s_piece_between) (defBody s_piece_between) (defScope s_piece_between) .none kV_piece_between dc_piece_between pm_piece_between an_piece_between cd_piece_between ct_piece_between), sl_piece_between⟩) (c_piece_between : PySem.W.codeIn K cd_piece_between "piece_between" = true) (k_piece_between : PySem.W.keepIn K (.ref f_piece_between) = true)
    (a_tied_run : PySem.W.nsIn K mainGlobals "tied_run" = some (some (.ref f_tied_run))) (l_tied_run : K.lookup f_tied_run = some ⟨oc_tied_run, od_tied_run, .func (PySem.W.fnOf "tied_run" "tied_run" (defArgs s_tied_run) (defBody s_tied_run) (defScope s_tied_run) .none kV_tied_run dc_tied_run pm_tied_run an_tied_run cd_tied_run ct_tied_run), sl_tied_run⟩) (c_tied_run : PySem.W.codeIn K cd_tied_run "tied_run" = true) (k_tied_run : PySem.W.keepIn K (.ref f_tied_run) = true)
    (a_tied_row : PySem.W.nsIn K mainGlobals "tied_row" = some (some (.ref f_tied_row))) (l_tied_row : K.lookup f_tied_row = some ⟨oc_tied_row, od_tied_row, .func (PySem.W.fnOf "tied_row" "tied_row" (defArgs s_tied_row) (defBody s_tied_row) (defScope s_tied_row) .none kV_tied_row dc_tied_row pm_tied_row an_tied_row cd_tied_row ct_tied_row), sl_tied_row⟩) (c_tied_row : PySem.W.codeIn K cd_tied_row "tied_row" = true) (k_tied_row : PySem.W.keepIn K (.ref f_tied_row) = true)
    (a_spans : PySem.W.nsIn K mainGlobals "spans" = some (some (.ref f_spans))) (l_spans : K.lookup f_spans = some ⟨oc_spans, od_spans, .func (PySem.W.fnOf "spans" "spans" (defArgs s_spans) (defBody s_spans) (defScope s_spans) .none kV_spans dc_spans pm_spans an_spans cd_spans ct_spans), sl_spans⟩) (c_spans : PySem.W.codeIn K cd_spans "spans" = true) (k_spans : PySem.W.keepIn K (.ref f_spans) = true)
    (a_chain : PySem.W.nsIn K mainGlobals "chain" = some (some (.ref f_chain))) (l_chain : K.lookup f_chain = some ⟨oc_chain, od_chain, .func (PySem.W.fnOf "chain" "chain" (defArgs s_chain) (defBody s_chain) (defScope s_chain) .none kV_chain dc_chain pm_chain an_chain cd_chain ct_chain), sl_chain⟩) (c_chain : PySem.W.codeIn K cd_chain "chain" = true) (k_chain : PySem.W.keepIn K (.ref f_chain) = true)
    (a_law_planted : PySem.W.nsIn K mainGlobals "_law_planted" = some (some (.ref f_law_planted))) (l_law_planted : K.lookup f_law_planted = some ⟨oc_law_planted, od_law_planted, .func (PySem.W.fnOf "_law_planted" "_law_planted" (defArgs s_law_planted) (defBody s_law_planted) (defScope s_law_planted) .none kV_law_planted dc_law_planted pm_law_planted an_law_planted cd_law_planted ct_law_planted), sl_law_planted⟩) (c_law_planted : PySem.W.codeIn K cd_law_planted "_law_planted" = true) (k_law_planted : PySem.W.keepIn K (.ref f_law_planted) = true)
    (a_law_count : PySem.W.nsIn K mainGlobals "_law_count" = some (some (.ref f_law_count))) (l_law_count : K.lookup f_law_count = some ⟨oc_law_count, od_law_count, .func (PySem.W.fnOf "_law_count" "_law_count" (defArgs s_law_count) (defBody s_law_count) (defScope s_law_count) .none kV_law_count dc_law_count pm_law_count an_law_count cd_law_count ct_law_count), sl_law_count⟩) (c_law_count : PySem.W.codeIn K cd_law_count "_law_count" = true) (k_law_count : PySem.W.keepIn K (.ref f_law_count) = true)
    (a_law_exact : PySem.W.nsIn K mainGlobals "_law_exact" = some (some (.ref f_law_exact))) (l_law_exact : K.lookup f_law_exact = some ⟨oc_law_exact, od_law_exact, .func (PySem.W.fnOf "_law_exact" "_law_exact" (defArgs s_law_exact) (defBody s_law_exact) (defScope s_law_exact) .none kV_law_exact dc_law_exact pm_law_exact an_law_exact cd_law_exact ct_law_exact), sl_law_exact⟩) (c_law_exact : PySem.W.codeIn K cd_law_exact "_law_exact" = true) (k_law_exact : PySem.W.keepIn K (.ref f_law_exact) = true)
    (a_law : PySem.W.nsIn K mainGlobals "law" = some (some (.ref f_law))) (l_law : K.lookup f_law = some ⟨oc_law, od_law, .func (PySem.W.fnOf "law" "law" (defArgs s_law) (defBody s_law) (defScope s_law) .none kV_law dc_law pm_law an_law cd_law ct_law), sl_law⟩) (c_law : PySem.W.codeIn K cd_law "law" = true) (k_law : PySem.W.keepIn K (.ref f_law) = true)
    (z_len : PySem.W.nsIn K mainGlobals "len" = some none) (z_abs : PySem.W.nsIn K mainGlobals "abs" = some none) (z_range : PySem.W.nsIn K mainGlobals "range" = some none) (z_isinstance : PySem.W.nsIn K mainGlobals "isinstance" = some none) (z_int : PySem.W.nsIn K mainGlobals "int" = some none) (z_bool : PySem.W.nsIn K mainGlobals "bool" = some none) (z_tuple : PySem.W.nsIn K mainGlobals "tuple" = some none) (z_list : PySem.W.nsIn K mainGlobals "list" = some none) (z_max : PySem.W.nsIn K mainGlobals "max" = some none) (z_min : PySem.W.nsIn K mainGlobals "min" = some none) (z_enumerate : PySem.W.nsIn K mainGlobals "enumerate" = some none) (z_zip : PySem.W.nsIn K mainGlobals "zip" = some none) (z_all : PySem.W.nsIn K mainGlobals "all" = some none) (z_any : PySem.W.nsIn K mainGlobals "any" = some none) (z_sum : PySem.W.nsIn K mainGlobals "sum" = some none) (z_sorted : PySem.W.nsIn K mainGlobals "sorted" = some none) (z_reversed : PySem.W.nsIn K mainGlobals "reversed" = some none) (z_str : PySem.W.nsIn K mainGlobals "str" = some none) :
    ∃ fd : FuncData, (∀ (s : Shared) (v : Value), BindsTo s fd ⟨[v], []⟩ [("_law_script", v)]) ∧ ∀ base : Heap, K.In base → base.Ns mainGlobals mg → FnOk l.prog w K mg base CX0 10 fa fd ["_law_script"] (spLaw K) := by
  have e := hfa.symm.trans (PySem.W.mg_of X G a_law)
  cases e
  have T : Txt mg := ⟨PySem.W.mg_none_of X G z_len, PySem.W.mg_none_of X G z_abs, PySem.W.mg_none_of X G z_range, PySem.W.mg_none_of X G z_isinstance, PySem.W.mg_none_of X G z_int, PySem.W.mg_none_of X G z_bool, PySem.W.mg_none_of X G z_tuple, PySem.W.mg_none_of X G z_list, PySem.W.mg_none_of X G z_max, PySem.W.mg_none_of X G z_min, PySem.W.mg_none_of X G z_enumerate, PySem.W.mg_none_of X G z_zip, PySem.W.mg_none_of X G z_all, PySem.W.mg_none_of X G z_any, PySem.W.mg_none_of X G z_sum, PySem.W.mg_none_of X G z_sorted, PySem.W.mg_none_of X G z_reversed, PySem.W.mg_none_of X G z_str⟩
  have F_law_cell := fun_mk (st := s_law_cell) l_law_cell c_law_cell k_law_cell
  have M_law_cell := PySem.W.mg_of X G a_law_cell
  have B_law_cell := F_law_cell.binds2 (pa := "_law_script") (pb := "_law_place") fun _ _ _ _ _ _ _ _ => rfl
  have F_law_mix := fun_mk (st := s_law_mix) l_law_mix c_law_mix k_law_mix
  have M_law_mix := PySem.W.mg_of X G a_law_mix
  have B_law_mix := F_law_mix.binds2 (pa := "_law_cell_here") (pb := "_law_k") fun _ _ _ _ _ _ _ _ => rfl
  have F_law_row := fun_mk (st := s_law_row) l_law_row c_law_row k_law_row
  have M_law_row := PySem.W.mg_of X G a_law_row
  have B_law_row := F_law_row.binds3 (pa := "_law_script") (pb := "_law_place") (pc := "_law_sizes") fun _ _ _ _ _ _ _ _ _ => rfl
  have F_law_ratio := fun_mk (st := s_law_ratio) l_law_ratio c_law_ratio k_law_ratio
  have M_law_ratio := PySem.W.mg_of X G a_law_ratio
  have B_law_ratio := F_law_ratio.binds2 (pa := "_law_top") (pb := "_law_bottom") fun _ _ _ _ _ _ _ _ => rfl
  have F_loose_plus := fun_mk (st := s_loose_plus) l_loose_plus c_loose_plus k_loose_plus
  have M_loose_plus := PySem.W.mg_of X G a_loose_plus
  have B_loose_plus := F_loose_plus.binds2 (pa := "one") (pb := "other") fun _ _ _ _ _ _ _ _ => rfl
  have F_loose_minus := fun_mk (st := s_loose_minus) l_loose_minus c_loose_minus k_loose_minus
  have M_loose_minus := PySem.W.mg_of X G a_loose_minus
  have B_loose_minus := F_loose_minus.binds2 (pa := "one") (pb := "other") fun _ _ _ _ _ _ _ _ => rfl
  have F_loose_slope := fun_mk (st := s_loose_slope) l_loose_slope c_loose_slope k_loose_slope
  have M_loose_slope := PySem.W.mg_of X G a_loose_slope
  have B_loose_slope := F_loose_slope.binds2 (pa := "one") (pb := "other") fun _ _ _ _ _ _ _ _ => rfl
  have F_order := fun_mk (st := s_order) l_order c_order k_order
  have M_order := PySem.W.mg_of X G a_order
  have B_order := F_order.binds2 (pa := "one") (pb := "other") fun _ _ _ _ _ _ _ _ => rfl
  have F_runs := fun_mk (st := s_runs) l_runs c_runs k_runs
  have M_runs := PySem.W.mg_of X G a_runs
  have B_runs := F_runs.binds1 (pa := "row") fun _ _ _ _ _ _ _ => rfl
  have F_loose_farthest := fun_mk (st := s_loose_farthest) l_loose_farthest c_loose_farthest k_loose_farthest
  have M_loose_farthest := PySem.W.mg_of X G a_loose_farthest
  have B_loose_farthest := F_loose_farthest.binds3 (pa := "samples") (pb := "first") (pc := "last") fun _ _ _ _ _ _ _ _ _ => rfl
  have F_law_handed := fun_mk (st := s_law_handed) l_law_handed c_law_handed k_law_handed
  have M_law_handed := PySem.W.mg_of X G a_law_handed
  have B_law_handed := F_law_handed.binds2 (pa := "_law_row_here") (pb := "_law_bottom") fun _ _ _ _ _ _ _ _ => rfl
  have F_greatest := fun_mk (st := s_greatest) l_greatest c_greatest k_greatest
  have M_greatest := PySem.W.mg_of X G a_greatest
  have B_greatest := F_greatest.binds1 (pa := "quotients") fun _ _ _ _ _ _ _ => rfl
  have F_smallest := fun_mk (st := s_smallest) l_smallest c_smallest k_smallest
  have M_smallest := PySem.W.mg_of X G a_smallest
  have B_smallest := F_smallest.binds1 (pa := "quotients") fun _ _ _ _ _ _ _ => rfl
  have F_good_behind := fun_mk (st := s_good_behind) l_good_behind c_good_behind k_good_behind
  have M_good_behind := PySem.W.mg_of X G a_good_behind
  have B_good_behind := F_good_behind.binds3 (pa := "samples") (pb := "first") (pc := "bound") fun _ _ _ _ _ _ _ _ _ => rfl
  have F_leaps := fun_mk (st := s_leaps) l_leaps c_leaps k_leaps
  have M_leaps := PySem.W.mg_of X G a_leaps
  have B_leaps := F_leaps.binds3 (pa := "samples") (pb := "bound") (pc := "tied") fun _ _ _ _ _ _ _ _ _ => rfl
  have F_labels_by := fun_mk (st := s_labels_by) l_labels_by c_labels_by k_labels_by
  have M_labels_by := PySem.W.mg_of X G a_labels_by
  have B_labels_by := F_labels_by.binds2 (pa := "found") (pb := "many") fun _ _ _ _ _ _ _ _ => rfl
  have F_bars_by := fun_mk (st := s_bars_by) l_bars_by c_bars_by k_bars_by
  have M_bars_by := PySem.W.mg_of X G a_bars_by
  have B_bars_by := F_bars_by.binds3 (pa := "samples") (pb := "told") (pc := "tied") fun _ _ _ _ _ _ _ _ _ => rfl
  have F_places_of_pieces := fun_mk (st := s_places_of_pieces) l_places_of_pieces c_places_of_pieces k_places_of_pieces
  have M_places_of_pieces := PySem.W.mg_of X G a_places_of_pieces
  have B_places_of_pieces := F_places_of_pieces.binds2 (pa := "found") (pb := "told") fun _ _ _ _ _ _ _ _ => rfl
  have F_piece_between := fun_mk (st := s_piece_between) l_piece_between c_piece_between k_piece_between
  have M_piece_between := PySem.W.mg_of X G a_piece_between
  have B_piece_between := F_piece_between.binds2 (pa := "one") (pb := "other") fun _ _ _ _ _ _ _ _ => rfl
  have F_tied_run := fun_mk (st := s_tied_run) l_tied_run c_tied_run k_tied_run
  have M_tied_run := PySem.W.mg_of X G a_tied_run
  have B_tied_run := F_tied_run.binds3 (pa := "run") (pb := "bound") (pc := "tied") fun _ _ _ _ _ _ _ _ _ => rfl
  have F_tied_row := fun_mk (st := s_tied_row) l_tied_row c_tied_row k_tied_row
  have M_tied_row := PySem.W.mg_of X G a_tied_row
  have B_tied_row := F_tied_row.binds3 (pa := "row") (pb := "bound") (pc := "tied") fun _ _ _ _ _ _ _ _ _ => rfl
  have F_spans := fun_mk (st := s_spans) l_spans c_spans k_spans
  have M_spans := PySem.W.mg_of X G a_spans
  have B_spans := F_spans.binds2 (pa := "row") (pb := "bound") fun _ _ _ _ _ _ _ _ => rfl
  have F_chain := fun_mk (st := s_chain) l_chain c_chain k_chain
  have M_chain := PySem.W.mg_of X G a_chain
  have B_chain := F_chain.binds2 (pa := "row") (pb := "bound") fun _ _ _ _ _ _ _ _ => rfl
  have F_law_planted := fun_mk (st := s_law_planted) l_law_planted c_law_planted k_law_planted
  have M_law_planted := PySem.W.mg_of X G a_law_planted
  have B_law_planted := F_law_planted.binds4 (pa := "_law_some") (pb := "_law_tied") (pc := "_law_bound") (pd := "_law_scale") fun _ _ _ _ _ _ _ _ _ _ => rfl
  have F_law_count := fun_mk (st := s_law_count) l_law_count c_law_count k_law_count
  have M_law_count := PySem.W.mg_of X G a_law_count
  have B_law_count := F_law_count.binds3 (pa := "_law_row_here") (pb := "_law_bound") (pc := "_law_tied") fun _ _ _ _ _ _ _ _ _ => rfl
  have F_law_exact := fun_mk (st := s_law_exact) l_law_exact c_law_exact k_law_exact
  have M_law_exact := PySem.W.mg_of X G a_law_exact
  have B_law_exact := F_law_exact.binds1 (pa := "_law_some") fun _ _ _ _ _ _ _ => rfl
  have F_law := fun_mk (st := s_law) l_law c_law k_law
  have M_law := PySem.W.mg_of X G a_law
  have B_law := F_law.binds1 (pa := "_law_script") fun _ _ _ _ _ _ _ => rfl
  refine ⟨PySem.W.fnOf "law" "law" (defArgs s_law) (defBody s_law) (defScope s_law) .none kV_law dc_law pm_law an_law cd_law ct_law, fun s v => .of_eq rfl, fun base _ _ => ?_⟩
  have D_law_cell : Dn l.prog w K mg base 1 "_law_cell" ["_law_script", "_law_place"] (spCell K) := dn_mk F_law_cell (ok_law_cell F_law_cell T) M_law_cell B_law_cell
  have D_law_mix : Dn l.prog w K mg base 1 "_law_mix" ["_law_cell_here", "_law_k"] spMix := dn_mk F_law_mix (ok_law_mix F_law_mix ) M_law_mix B_law_mix
  have D_law_row : Dn l.prog w K mg base 3 "_law_row" ["_law_script", "_law_place", "_law_sizes"] (spRow K) := dn_mk F_law_row (ok_law_row F_law_row T D_law_cell D_law_mix) M_law_row B_law_row
  have D_law_ratio : Dn l.prog w K mg base 1 "_law_ratio" ["_law_top", "_law_bottom"] spRatio := dn_mk F_law_ratio (ok_law_ratio F_law_ratio T) M_law_ratio B_law_ratio
  have D_loose_plus : Dn l.prog w K mg base 1 "loose_plus" ["one", "other"] (spTwo (· + ·) 1) := dn_mk F_loose_plus (ok_loose_plus F_loose_plus ) M_loose_plus B_loose_plus
  have D_loose_minus : Dn l.prog w K mg base 1 "loose_minus" ["one", "other"] (spTwo (· - ·) 1) := dn_mk F_loose_minus (ok_loose_minus F_loose_minus ) M_loose_minus B_loose_minus
  have D_loose_slope : Dn l.prog w K mg base 3 "loose_slope" ["one", "other"] spLslope := dn_mk F_loose_slope (ok_loose_slope F_loose_slope D_loose_minus) M_loose_slope B_loose_slope
  have D_order : Dn l.prog w K mg base 1 "order" ["one", "other"] spOrderQ := dn_mk F_order (ok_order F_order ) M_order B_order
  have D_runs : Dn l.prog w K mg base 1 "runs" ["row"] spRuns := dn_mk F_runs (ok_runs F_runs T) M_runs B_runs
  have D_loose_minusE : Dn l.prog w K mg base 1 "loose_minus" ["one", "other"] spLminusE := dn_mk F_loose_minus (ok_loose_minusE F_loose_minus ) M_loose_minus B_loose_minus
  have D_loose_slopeE : Dn l.prog w K mg base 3 "loose_slope" ["one", "other"] spLslopeE := dn_mk F_loose_slope (ok_loose_slopeE F_loose_slope D_loose_minusE) M_loose_slope B_loose_slope
  have D_loose_farthest : Dn l.prog w K mg base 4 "loose_farthest" ["samples", "first", "last"] spLfar := dn_mk F_loose_farthest (ok_loose_farthest F_loose_farthest T D_order D_loose_slopeE) M_loose_farthest B_loose_farthest
  have D_law_handed : Dn l.prog w K mg base 2 "_law_handed" ["_law_row_here", "_law_bottom"] spHanded := dn_mk F_law_handed (ok_law_handed F_law_handed D_law_ratio) M_law_handed B_law_handed
  have D_greatest : Dn l.prog w K mg base 2 "greatest" ["quotients"] spGreat := dn_mk F_greatest (ok_greatest F_greatest D_order) M_greatest B_greatest
  have D_smallest : Dn l.prog w K mg base 2 "smallest" ["quotients"] spSmall := dn_mk F_smallest (ok_smallest F_smallest D_order) M_smallest B_smallest
  have D_loose_slopeQ : Dn l.prog w K mg base 3 "loose_slope" ["one", "other"] spLslopeQ := dn_mk F_loose_slope (ok_loose_slopeQ F_loose_slope D_loose_minus) M_loose_slope B_loose_slope
  have D_good_behind : Dn l.prog w K mg base 4 "good_behind" ["samples", "first", "bound"] spGoodB := dn_mk F_good_behind (ok_good_behind F_good_behind T D_order D_loose_plus D_loose_minus D_loose_slopeQ D_greatest D_smallest) M_good_behind B_good_behind
  have D_leaps : Dn l.prog w K mg base 5 "leaps" ["samples", "bound", "tied"] spLeaps := dn_mk F_leaps (ok_leaps F_leaps T D_good_behind) M_leaps B_leaps
  have D_labels_by : Dn l.prog w K mg base 1 "labels_by" ["found", "many"] spLabBy := dn_mk F_labels_by (ok_labels_by F_labels_by T) M_labels_by B_labels_by
  have D_bars_by : Dn l.prog w K mg base 5 "bars_by" ["samples", "told", "tied"] spBarsBy := dn_mk F_bars_by (ok_bars_by F_bars_by T D_loose_farthest) M_bars_by B_bars_by
  have D_places_of_pieces : Dn l.prog w K mg base 1 "places_of_pieces" ["found", "told"] spPlaces := dn_mk F_places_of_pieces (ok_places_of_pieces F_places_of_pieces T) M_places_of_pieces B_places_of_pieces
  have D_piece_between : Dn l.prog w K mg base 1 "piece_between" ["one", "other"] spBetween := dn_mk F_piece_between (ok_piece_between F_piece_between T) M_piece_between B_piece_between
  have D_tied_run : Dn l.prog w K mg base 6 "tied_run" ["run", "bound", "tied"] spTiedRun := dn_mk F_tied_run (ok_tied_run F_tied_run T D_leaps D_labels_by D_places_of_pieces D_piece_between D_bars_by) M_tied_run B_tied_run
  have D_tied_row : Dn l.prog w K mg base 7 "tied_row" ["row", "bound", "tied"] spTiedRow := dn_mk F_tied_row (ok_tied_row F_tied_row T D_runs D_tied_run) M_tied_row B_tied_row
  have D_spans : Dn l.prog w K mg base 8 "spans" ["row", "bound"] (spTold false) := dn_mk F_spans (ok_spans F_spans T D_tied_row) M_spans B_spans
  have D_chain : Dn l.prog w K mg base 8 "chain" ["row", "bound"] (spTold true) := dn_mk F_chain (ok_chain F_chain T D_tied_row) M_chain B_chain
  have D_law_planted : Dn l.prog w K mg base 1 "_law_planted" ["_law_some", "_law_tied", "_law_bound", "_law_scale"] spLaid := dn_mk F_law_planted (ok_law_planted F_law_planted T) M_law_planted B_law_planted
  have D_law_count : Dn l.prog w K mg base 9 "_law_count" ["_law_row_here", "_law_bound", "_law_tied"] spCount := dn_mk F_law_count (ok_law_count F_law_count T D_chain D_spans) M_law_count B_law_count
  have D_law_exact : Dn l.prog w K mg base 1 "_law_exact" ["_law_some"] spExact := dn_mk F_law_exact (ok_law_exact F_law_exact T) M_law_exact B_law_exact
  exact ok_law F_law T D_law_row D_law_planted D_law_handed D_law_ratio D_law_count D_law_exact
theorem walk {l : PySem.W.OpenLaw} {q : Program} {loose : List Str} {XP : (Str → Option Value) → Heap → Prop} {YP : World → Heap → Prop} {d : DefRec} {K : Params → PySem.W.Frag} (hn : l.most = some 63) (hdf : d.params.defaults = [])
    (hY : ∀ (w : World) (h : Heap), YP w h → (K w.params).In h)
    (F : ∀ (w : World) (mg : Str → Option Value) (fa : Addr) (h : Heap), (K w.params).In h → h.Ns mainGlobals mg → mg d.name = some (.ref fa) →
      ∃ fd : FuncData, (∀ (s : Shared) (u : Value), BindsTo s fd ⟨[u], []⟩ [("_law_script", u)]) ∧ ∀ base : Heap, (K w.params).In base → base.Ns mainGlobals mg → FnOk l.prog w (K w.params) mg base CX0 10 fa fd ["_law_script"] (spLaw (K w.params))) :
    PySem.W.WalkO q loose XP YP l.row.toRowW d [] (fun f vs => PySem.call f vs) :=
  L2.walk_of (n := 63) (k := 10) (x := "_law_script") (CX := fun _ => CX0) (sp := fun w => spLaw (K w.params)) hn (by decide) hdf ⟨rfl, by decide, by decide⟩ hY F (fun _ _ a ns hl _ hS => ⟨a, ns, rfl, hS, hl, fun _ => rfl⟩) fun _ _ _ _ _ z => z
end Lw
open PySem PySem.W PyProof.Rows
set_option maxRecDepth 100000 in
set_option maxHeartbeats 0 in
theorem PySem.Challenge.cw_lath_k58_planted_ways_holds : PySem.Challenge.rw_lath_k58_planted_ways.Holds := by
  w_on; o_law; k_head; (case hw => w_witness2)
  k_fill
  refine Lw.walk (l := PySem.Challenge.rw_lath_k58_planted_ways) rfl rfl (fun w h Y => PySem.W.kIn_of Y) ?F
  case F =>
    intro w mg fa h KX G hmg
    refine' Lw.all_mk KX G hmg  ?a_law_cell ?l_law_cell ?c_law_cell ?k_law_cell ?a_law_mix ?l_law_mix ?c_law_mix ?k_law_mix ?a_law_row ?l_law_row ?c_law_row ?k_law_row ?a_law_ratio ?l_law_ratio ?c_law_ratio ?k_law_ratio ?a_loose_plus ?l_loose_plus ?c_loose_plus ?k_loose_plus ?a_loose_minus ?l_loose_minus ?c_loose_minus ?k_loose_minus ?a_loose_slope ?l_loose_slope ?c_loose_slope ?k_loose_slope ?a_order ?l_order ?c_order ?k_order ?a_runs ?l_runs ?c_runs ?k_runs ?a_loose_farthest ?l_loose_farthest ?c_loose_farthest ?k_loose_farthest ?a_law_handed ?l_law_handed ?c_law_handed ?k_law_handed ?a_greatest ?l_greatest ?c_greatest ?k_greatest ?a_smallest ?l_smallest ?c_smallest ?k_smallest ?a_good_behind ?l_good_behind ?c_good_behind ?k_good_behind ?a_leaps ?l_leaps ?c_leaps ?k_leaps ?a_labels_by ?l_labels_by ?c_labels_by ?k_labels_by ?a_bars_by ?l_bars_by ?c_bars_by ?k_bars_by ?a_places_of_pieces ?l_places_of_pieces ?c_places_of_pieces ?k_places_of_pieces ?a_piece_between ?l_piece_between ?c_piece_between ?k_piece_between ?a_tied_run ?l_tied_run ?c_tied_run ?k_tied_run ?a_tied_row ?l_tied_row ?c_tied_row ?k_tied_row ?a_spans ?l_spans ?c_spans ?k_spans ?a_chain ?l_chain ?c_chain ?k_chain ?a_law_planted ?l_law_planted ?c_law_planted ?k_law_planted ?a_law_count ?l_law_count ?c_law_count ?k_law_count ?a_law_exact ?l_law_exact ?c_law_exact ?k_law_exact ?a_law ?l_law ?c_law ?k_law   ?z_len ?z_abs ?z_range ?z_isinstance ?z_int ?z_bool ?z_tuple ?z_list ?z_max ?z_min ?z_enumerate ?z_zip ?z_all ?z_any ?z_sum ?z_sorted ?z_reversed ?z_str
    (case a_law_cell => k_is); (case l_law_cell => k_is); (case c_law_cell => k_is); (case k_law_cell => k_is)
    (case a_law_mix => k_is); (case l_law_mix => k_is); (case c_law_mix => k_is); (case k_law_mix => k_is)
    (case a_law_row => k_is); (case l_law_row => k_is); (case c_law_row => k_is); (case k_law_row => k_is)
    (case a_law_ratio => k_is); (case l_law_ratio => k_is); (case c_law_ratio => k_is); (case k_law_ratio => k_is)
    (case a_loose_plus => k_is); (case l_loose_plus => k_is); (case c_loose_plus => k_is); (case k_loose_plus => k_is)
    (case a_loose_minus => k_is); (case l_loose_minus => k_is); (case c_loose_minus => k_is); (case k_loose_minus => k_is)
    (case a_loose_slope => k_is); (case l_loose_slope => k_is); (case c_loose_slope => k_is); (case k_loose_slope => k_is)
    (case a_order => k_is); (case l_order => k_is); (case c_order => k_is); (case k_order => k_is)
    (case a_runs => k_is); (case l_runs => k_is); (case c_runs => k_is); (case k_runs => k_is)
    (case a_loose_farthest => k_is); (case l_loose_farthest => k_is); (case c_loose_farthest => k_is); (case k_loose_farthest => k_is)
    (case a_law_handed => k_is); (case l_law_handed => k_is); (case c_law_handed => k_is); (case k_law_handed => k_is)
    (case a_greatest => k_is); (case l_greatest => k_is); (case c_greatest => k_is); (case k_greatest => k_is)
    (case a_smallest => k_is); (case l_smallest => k_is); (case c_smallest => k_is); (case k_smallest => k_is)
    (case a_good_behind => k_is); (case l_good_behind => k_is); (case c_good_behind => k_is); (case k_good_behind => k_is)
    (case a_leaps => k_is); (case l_leaps => k_is); (case c_leaps => k_is); (case k_leaps => k_is)
    (case a_labels_by => k_is); (case l_labels_by => k_is); (case c_labels_by => k_is); (case k_labels_by => k_is)
    (case a_bars_by => k_is); (case l_bars_by => k_is); (case c_bars_by => k_is); (case k_bars_by => k_is)
    (case a_places_of_pieces => k_is); (case l_places_of_pieces => k_is); (case c_places_of_pieces => k_is); (case k_places_of_pieces => k_is)
    (case a_piece_between => k_is); (case l_piece_between => k_is); (case c_piece_between => k_is); (case k_piece_between => k_is)
    (case a_tied_run => k_is); (case l_tied_run => k_is); (case c_tied_run => k_is); (case k_tied_run => k_is)
    (case a_tied_row => k_is); (case l_tied_row => k_is); (case c_tied_row => k_is); (case k_tied_row => k_is)
    (case a_spans => k_is); (case l_spans => k_is); (case c_spans => k_is); (case k_spans => k_is)
    (case a_chain => k_is); (case l_chain => k_is); (case c_chain => k_is); (case k_chain => k_is)
    (case a_law_planted => k_is); (case l_law_planted => k_is); (case c_law_planted => k_is); (case k_law_planted => k_is)
    (case a_law_count => k_is); (case l_law_count => k_is); (case c_law_count => k_is); (case k_law_count => k_is)
    (case a_law_exact => k_is); (case l_law_exact => k_is); (case c_law_exact => k_is); (case k_law_exact => k_is)
    (case a_law => k_is); (case l_law => k_is); (case c_law => k_is); (case k_law => k_is)
    (case z_len => k_is); (case z_abs => k_is); (case z_range => k_is); (case z_isinstance => k_is); (case z_int => k_is); (case z_bool => k_is); (case z_tuple => k_is); (case z_list => k_is); (case z_max => k_is); (case z_min => k_is); (case z_enumerate => k_is); (case z_zip => k_is); (case z_all => k_is); (case z_any => k_is); (case z_sum => k_is); (case z_sorted => k_is); (case z_reversed => k_is); (case z_str => k_is)

